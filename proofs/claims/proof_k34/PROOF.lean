import PyProof.Rows.All
import Wide.All
import OpenK.AllK
import Wide.FinOn
import Lean
import PyProof.EqAt
import PyProof.EqKinds
import PyProof.TupleCall
import PyProof.NeKinds
import PyProof.SumWalkG
import PyProof.ConsumeWalk
import KE.IntBitsLaws
import PyProof.ZipIter
import KE.KTryMore
import PyProof.ExcArgsOwn
import KE.KDictLaws
import KE.KEqDict
import PyProof.Rows.EqDataRows
import PyProof.SetScanFacts
import PyProof.SetKind
import PyProof.Rows.SetFrom
import KE.KDictSum
import PyProof.ListMulRoad
import PyProof.Rows.CallKwBuiltin
import PyProof.Rows.SeqMore
import PyProof.WalkInts
import KE.KMinBuiltin
import KE.KRevSl
import PyProof.Rows.SortShell
import PyProof.DictWalks
import PyProof.ListRange
import KE.KItemsList
import PySem.Challenge.RW_knowcards_k34_cards_shown
set_option compiler.extract_closed false
section
-- KcLayer
-- CHANGE: your row's module here, as the last of these rows
set_option Elab.async false
set_option linter.all false
set_option maxRecDepth 100000
/-! THE HAND LAYER, for ints, bools, texts, own classes, LISTS and tuples (index, slices, in, append, pop ..), calls, loops. Paste it whole ahead of your own text; what your proof does not reach may be deleted. -/
namespace L2
open PySem PySem.Spec PyProof.Rows

noncomputable abbrev Key := Sum Int Str
noncomputable def keyIs : Key → Value → Bool
  | .inl k, v => Value.isInt k v
  | .inr x, v => Value.isStrOf x v
noncomputable def keyH (w : World) : Key → Int
  | .inl k => hashInt k
  | .inr x => hashStr w x
theorem keyIs_shape : ∀ {k : Key} {v : Value}, keyIs k v = true → (∃ i t, k = Sum.inl i ∧ v = Value.int i t) ∨ (∃ x t, k = Sum.inr x ∧ v = Value.str x t)
  | .inl i, v, h => by
    obtain ⟨t, e⟩ := Value.isInt_shape (k := i) (v := v) h
    exact .inl ⟨i, t, rfl, e⟩
  | .inr x, v, h => by
    obtain ⟨t, e⟩ := Value.isStrOf_shape (x := x) (v := v) h
    exact .inr ⟨x, t, rfl, e⟩
theorem key_ll (a b : Int) : decide ((Sum.inl a : Key) = Sum.inl b) = (a == b) := by
  by_cases e : a = b
  · subst e; simp
  · have h : ¬ (Sum.inl a : Key) = Sum.inl b := fun q => e (Sum.inl.inj q)
    rw [decide_eq_false h]
    exact (beq_eq_false_iff_ne.mpr e).symm
theorem key_rr (a b : Str) : decide ((Sum.inr a : Key) = Sum.inr b) = decide (a = b) := by
  by_cases e : a = b
  · subst e; simp
  · have h : ¬ (Sum.inr a : Key) = Sum.inr b := fun q => e (Sum.inr.inj q)
    rw [decide_eq_false h, decide_eq_false e]
theorem key_lr (a : Int) (b : Str) : decide ((Sum.inl a : Key) = Sum.inr b) = false := decide_eq_false (fun q => nomatch q)
theorem key_rl (a : Str) (b : Int) : decide ((Sum.inr a : Key) = Sum.inl b) = false := decide_eq_false (fun q => nomatch q)

noncomputable def mixKind (prog : Program) (w : World) : PySem.KeyKind prog w Key where
  is := keyIs
  hash := keyH w
  inj := fun v a b ha hb => by
    rcases keyIs_shape ha with ⟨i, t, rfl, rfl⟩ | ⟨x, t, rfl, rfl⟩
    · rcases keyIs_shape hb with ⟨j, u, rfl, e⟩ | ⟨y, u, rfl, e⟩
      · injection e with e1 _; rw [e1]
      · exact nomatch e
    · rcases keyIs_shape hb with ⟨j, u, rfl, e⟩ | ⟨y, u, rfl, e⟩
      · exact nomatch e
      · injection e with e1 _; rw [e1]
  byValue := fun k v h => by
    rcases keyIs_shape h with ⟨i, t, rfl, rfl⟩ | ⟨x, t, rfl, rfl⟩ <;> rfl
  pyHash := fun hv h => by
    rcases keyIs_shape hv with ⟨i, t, rfl, rfl⟩ | ⟨x, t, rfl, rfl⟩
    · exact wpAny_pyHash_int h
    · exact wpAny_pyHash_str h
  eqBool := fun hu hv h => by
    rcases keyIs_shape hu with ⟨i, t, rfl, rfl⟩ | ⟨x, t, rfl, rfl⟩
    · rcases keyIs_shape hv with ⟨j, u, rfl, rfl⟩ | ⟨y, u, rfl, rfl⟩
      · rw [key_ll] at h; exact wpAny_eqBool_int h
      · rw [key_lr] at h; exact SeqAt.EqAt.int_str i t y u _ _ _ _ h
    · rcases keyIs_shape hv with ⟨j, u, rfl, rfl⟩ | ⟨y, u, rfl, rfl⟩
      · rw [key_rl] at h; exact SeqAt.EqAt.str_int x t j u _ _ _ _ h
      · rw [key_rr] at h; exact wpAny_eqBool_str h
  «strs» := fun k x t v h => by
    rcases keyIs_shape h with ⟨i, u, rfl, e⟩ | ⟨y, u, rfl, e⟩
    · exact nomatch e
    · injection e with e1 _
      subst e1
      cases v <;> rfl

end L2

namespace L2
open PySem PySem.Spec PyProof.Rows

inductive V where
  | non | bl (b : Bool) | int (i : Int) | str (x : Str) | byt (b : Array UInt8) | flt (b : UInt64) | ref (a : Addr) | ty (n : String)
  deriving DecidableEq

noncomputable def RelV : V → Value → Prop
  | .non, u => u = Value.none
  | .bl b, u => u = Value.bool b
  | .int i, u => ∃ t, u = Value.int i t
  | .str x, u => ∃ t, u = Value.str x t
  | .byt b, u => ∃ t, u = Value.bytes b t
  | .flt b, u => ∃ t, u = Value.float b t
  | .ref a, u => u = Value.ref a
  | .ty n, u => u = Value.type n

noncomputable abbrev Vals : List V → List Value → Prop := Paired RelV
theorem Vals.length {xs : List V} {us : List Value} (r : Vals xs us) : xs.length = us.length := Paired.length r
theorem Vals.get : ∀ {xs : List V} {us : List Value} {i : Nat} {x : V}, Vals xs us → xs[i]? = some x → ∃ u, us[i]? = some u ∧ RelV x u
  | _, _, _, _, .nil, e => by simp at e
  | _, _, 0, _, .cons r _, e => by simp at e; subst e; exact ⟨_, rfl, r⟩
  | _, _, i + 1, x, .cons _ t, e => by
    obtain ⟨u, h1, h2⟩ := Vals.get (i := i) (x := x) t (by simpa using e)
    exact ⟨u, by simpa using h1, h2⟩
theorem Vals.set {x : V} {u : Value} (r : RelV x u) : ∀ {xs : List V} {us : List Value} (i : Nat), Vals xs us → Vals (xs.set i x) (us.set i u)
  | _, _, _, .nil => .nil
  | _, _, 0, .cons _ t => .cons r t
  | _, _, i + 1, .cons q t => .cons q (Vals.set r i t)
theorem Vals.append : ∀ {xs ys : List V} {us ws : List Value}, Vals xs us → Vals ys ws → Vals (xs ++ ys) (us ++ ws)
  | _, _, _, _, .nil, s => s
  | _, _, _, _, .cons r t, s => .cons r (Vals.append t s)
theorem Vals.take : ∀ {xs : List V} {us : List Value} (n : Nat), Vals xs us → Vals (xs.take n) (us.take n)
  | _, _, 0, _ => .nil
  | _, _, _ + 1, .nil => .nil
  | _, _, n + 1, .cons r t => .cons r (Vals.take n t)
theorem Vals.drop : ∀ {xs : List V} {us : List Value} (n : Nat), Vals xs us → Vals (xs.drop n) (us.drop n)
  | _, _, 0, r => r
  | _, _, _ + 1, .nil => .nil
  | _, _, n + 1, .cons _ t => Vals.drop n t
theorem Vals.none_of : ∀ {xs : List V} {us : List Value} {i : Nat}, Vals xs us → xs[i]? = none → us[i]? = none := fun {xs us i} r e => by
  have h1 := r.length
  have h2 : xs.length ≤ i := List.getElem?_eq_none_iff.mp e
  exact List.getElem?_eq_none_iff.mpr (by omega)

noncomputable def RelO : Option V → Option Value → Prop
  | some v, some u => RelV v u
  | none, none => True
  | _, _ => False
noncomputable def KV {κ : Type} : List (κ × V) → List (κ × Value) → Prop := Paired fun (p : κ × V) (q : κ × Value) => p.1 = q.1 ∧ RelV p.2 q.2

noncomputable def kV : Key → V
  | .inl i => .int i
  | .inr x => .str x

inductive HO where
  /-- a list -/
  | lst (xs : List V)
  /-- a tuple (never changes) -/
  | tup (xs : List V)
  /-- a dict whose keys are ints and texts; one whose keys are tuples of ints and texts (the empty one is both) -/
  | dK (kvs : List (Key × V)) | dT (kvs : List (List Key × V))
  /-- a set of ints: its members, its size -/
  | set (S : Int → Bool) (n : Nat)
  /-- an instance of the class at C, its dict at dx, its attributes -/
  | ins (C dx : Addr) (fs : List (Str × V))
  /-- the dict of the instance at x -/
  | own (x : Addr)
  /-- the dict of an exception -/
  | xd (fs : List (Str × V))
  /-- a bound method, f of x -/
  | met (f x : Addr)
  /-- a range object lo, lo + 1, .. below hi -/
  | rng (lo hi : Int)
  /-- a thing that is known to the object (the script; a dict while a loop walks it): read, never written while it is so -/
  | frz (o : Obj) (u : HO)
  /-- a code object's table -/
  | tbl (ps : Array Value)
  /-- any other thing, by what is true of its one object (a def of one's own: SetO a S n := HO.ext fun h => ..) -/
  | ext (φ : Heap → Prop)

noncomputable abbrev Hp := Addr → Option HO
noncomputable def upd (H : Hp) (a : Addr) (o : HO) : Hp := fun b => if b = a then some o else H b
theorem upd_same {H : Hp} {a : Addr} {o : HO} : upd H a o a = some o := by unfold upd; rw [if_pos rfl]
theorem upd_ne {H : Hp} {a b : Addr} {o : HO} (h : b ≠ a) : upd H a o b = H b := by unfold upd; rw [if_neg h]
theorem ne_of {H : Hp} {a b : Addr} {o u : HO} (h : H a = some o) (h' : H b = some u) (d : o ≠ u) : a ≠ b := by
  intro e; subst e; rw [h] at h'; exact d (Option.some.inj h')
theorem ne_of_none {H : Hp} {a b : Addr} {o : HO} (h : H a = some o) (h' : H b = none) : a ≠ b := by
  intro e; subst e; rw [h] at h'; cases h'

noncomputable def IsTupD (h : Heap) (a : Addr) (items : Array Value) : Prop := ∃ o, h.get? a = some o ∧ o.cls = .type "tuple" ∧ (∃ n, o.data = .seq items n) ∧ o.dict = none
theorem IsTupD.lt {h : Heap} {a : Addr} {items : Array Value} (x : IsTupD h a items) : a < h.objs.size := let ⟨_, e, _⟩ := x; Heap.lt_size e
theorem IsTupD.tup {h : Heap} {a : Addr} {items : Array Value} (x : IsTupD h a items) : IsTup h a items := let ⟨o, e, c, d, _⟩ := x; ⟨o, e, c, d⟩
theorem IsTupD.new (h : Heap) (items : Array Value) : IsTupD (h.push { cls := .type "tuple", data := .seq items }) h.objs.size items := ⟨_, Heap.get?_push_size _ rfl, rfl, ⟨_, rfl⟩, rfl⟩
section
variable (P : Program) (w : World)
noncomputable def ObjOk (H : Hp) (h : Heap) (a : Addr) : HO → Prop
  | .lst xs => xs.length ≤ sizeLine ∧ ∃ (its : List Value) (n : Nat), Vals xs its ∧ h.get? a = some { cls := .type "list", data := .seq its.toArray n }
  | .tup xs => xs.length ≤ sizeLine ∧ ∃ its : List Value, Vals xs its ∧ IsTupD h a its.toArray
  | .dK kvs => kvs.length ≤ sizeLine ∧ (a == sysModules) = false ∧ ∃ vs, KV kvs vs ∧ h.DictOf (mixKind P w) a vs
  | .dT kvs => kvs.length ≤ sizeLine ∧ (a == sysModules) = false ∧ ∃ xs : List (List Key × Addr × Value),
      Paired (fun (p : List Key × V) (q : List Key × Addr × Value) => p.1 = q.1 ∧ H q.2.1 = some (.tup (p.1.map kV)) ∧ RelV p.2 q.2.2) kvs xs ∧
      ∃ o es ep, h.get? a = some o ∧ o.ExactDict ∧ o.data = .dict es ep ∧ es.toList = xs.map (entryOfKey (tupleKind (mixKind P w))) ∧ (xs.map (·.1)).Nodup
  | .set S n => h.SetOf (intKind P w) a S n
  | .ins C dx fs => H dx = some (.own a) ∧ fs.length ≤ 1000 ∧ dx ≠ a ∧ h.get? a = some (PySem.W.instObj C dx) ∧
      ∃ mA, h.Ns1 dx mA ∧ (∀ f, RelO (fs.lookup f) (mA f)) ∧ PySem.Within mA (fs.map (·.1))
  | .own _ => ∃ o, h.get? a = some o
  | .xd fs => ∃ mA, h.Ns1 a mA ∧ ∀ f, RelO (fs.lookup f) (mA f)
  | .rng lo hi => ∃ t u v, h.get? a = some { cls := .type "range", data := .fields #[.int lo t, .int hi u, .int 1 v] }
  | .frz o u => h.get? a = some o ∧ ObjOk H h a u
  | .tbl ps => h.get? a = some { cls := .none, data := .fields ps }
  | .met f x => h.get? a = some (PySem.W.methodObj (.ref f) (.ref x))
  | .ext φ => φ h ∧ (∃ o, h.get? a = some o) ∧ ∀ h1 h2 : Heap, φ h1 → (∀ o, h1.get? a = some o → h2.get? a = some o) → φ h2
noncomputable def HOk (H : Hp) (h : Heap) : Prop := ∀ a o, H a = some o → ObjOk P w H h a o
end

section
variable {P : Program} {w : World} {H H' : Hp} {h h' : Heap} {a : Addr} {o : HO}
theorem ObjOk.lt (x : ObjOk P w H h a o) : a < h.objs.size := by
  cases o with
  | lst xs => obtain ⟨_, _, _, _, e⟩ := x; exact Heap.lt_size e
  | tup xs => obtain ⟨_, _, _, p⟩ := x; exact p.lt
  | dK kvs => obtain ⟨_, _, _, _, o, _, _, e, _⟩ := x; exact Heap.lt_size e
  | dT kvs => obtain ⟨_, _, _, _, o, _, _, e, _⟩ := x; exact Heap.lt_size e
  | set S n => obtain ⟨o, _, _, _, e, _⟩ := x; exact Heap.lt_size e
  | ins C dx fs => obtain ⟨_, _, _, e, _⟩ := x; exact Heap.lt_size e
  | own y => obtain ⟨_, e⟩ := x; exact Heap.lt_size e
  | xd fs => obtain ⟨_, ⟨_, _, _, e, _⟩, _⟩ := x; exact Heap.lt_size e
  | rng lo hi => obtain ⟨_, _, _, e⟩ := x; exact Heap.lt_size e
  | frz ob u => obtain ⟨e, _⟩ := x; exact Heap.lt_size e
  | tbl ps => exact Heap.lt_size (show h.get? a = some _ from x)
  | met f y => exact Heap.lt_size (show h.get? a = some _ from x)
  | ext φ => obtain ⟨_, ⟨_, e⟩, _⟩ := x; exact Heap.lt_size e
theorem Paired.mapP {α β : Type} {F G : α → β → Prop} : ∀ {l₁ : List α} {l₂ : List β}, Paired F l₁ l₂ → (∀ a b, F a b → G a b) → Paired G l₁ l₂
  | _, _, .nil, _ => .nil
  | _, _, .cons r t, f => .cons (f _ _ r) (Paired.mapP t f)
theorem ObjOk.stay (x : ObjOk P w H h a o) (k : ∀ b u, (b = a ∨ H b = some (.own a)) → h.get? b = some u → h'.get? b = some u)
    (ho : ∀ b, H b = some (.own a) → H' b = some (.own a)) (ht : ∀ b xs, H b = some (.tup xs) → H' b = some (.tup xs)) : ObjOk P w H' h' a o := by
  induction o with
  | lst xs => obtain ⟨z, its, n, r, e⟩ := x; exact ⟨z, its, n, r, k _ _ (.inl rfl) e⟩
  | tup xs => obtain ⟨z, its, r, ob, e, c⟩ := x; exact ⟨z, its, r, ob, k _ _ (.inl rfl) e, c⟩
  | dK kvs => obtain ⟨z, y, vs, r, ob, es, ep, e, c⟩ := x; exact ⟨z, y, vs, r, ob, es, ep, k _ _ (.inl rfl) e, c⟩
  | dT kvs =>
    obtain ⟨z, y, xs, r, ob, es, ep, e, c⟩ := x
    exact ⟨z, y, xs, Paired.mapP r fun p q z => ⟨z.1, ht _ _ z.2.1, z.2.2⟩, ob, es, ep, k _ _ (.inl rfl) e, c⟩
  | set S n => obtain ⟨ob, es, ep, t, e, c⟩ := x; exact ⟨ob, es, ep, t, k _ _ (.inl rfl) e, c⟩
  | ins C dx fs =>
    obtain ⟨d, z, ne, e, mA, ⟨od, es, ep, e2, c⟩, r⟩ := x
    exact ⟨ho _ d, z, ne, k _ _ (.inl rfl) e, mA, ⟨od, es, ep, k _ _ (.inr d) e2, c⟩, r⟩
  | own y => obtain ⟨ob, e⟩ := x; exact ⟨ob, k _ _ (.inl rfl) e⟩
  | xd fs => obtain ⟨mA, ⟨od, es, ep, e, c⟩, r⟩ := x; exact ⟨mA, ⟨od, es, ep, k _ _ (.inl rfl) e, c⟩, r⟩
  | rng lo hi => obtain ⟨t, u, v, e⟩ := x; exact ⟨t, u, v, k _ _ (.inl rfl) e⟩
  | frz ob u ih => obtain ⟨e, q⟩ := x; exact ⟨k _ _ (.inl rfl) e, ih q⟩
  | tbl ps =>
    have e : h.get? a = some { cls := .none, data := .fields ps } := x
    show h'.get? a = some { cls := .none, data := .fields ps }
    exact k a _ (.inl rfl) e
  | met f y =>
    have e : h.get? a = some (PySem.W.methodObj (.ref f) (.ref y)) := x
    show h'.get? a = some (PySem.W.methodObj (.ref f) (.ref y))
    exact k a _ (.inl rfl) e
  | ext φ => obtain ⟨p, ⟨o, e⟩, st⟩ := x; exact ⟨st _ _ p fun o q => k _ _ (.inl rfl) q, ⟨o, k _ _ (.inl rfl) e⟩, st⟩
theorem HOk.lt (x : HOk P w H h) (e : H a = some o) : a < h.objs.size := (x a o e).lt
theorem HOk.fresh (x : HOk P w H h) (e : h.objs.size ≤ a) : H a = none := by
  cases q : H a with
  | none => rfl
  | some u => exact absurd (Nat.lt_of_lt_of_le (x.lt q) e) (Nat.lt_irrefl _)
theorem HOk.kept (x : HOk P w H h) (k : ∀ b u, h.get? b = some u → h'.get? b = some u) : HOk P w H h' := fun a o e =>
  (x a o e).stay (fun b u _ q => k b u q) (fun _ q => q) fun _ _ q => q
theorem HOk.laid (x : HOk P w H h) (k : ∀ b u, h.get? b = some u → h'.get? b = some u) (hp : h.objs.size ≤ a) (new : ObjOk P w (upd H a o) h' a o) : HOk P w (upd H a o) h' := fun b u e => by
  have hn := x.fresh hp
  by_cases hb : b = a
  · subst hb; rw [upd_same] at e; cases e; exact new
  · rw [upd_ne hb] at e
    exact (x b u e).stay (fun c v _ q => k c v q) (fun c q => by rw [upd_ne (ne_of_none q hn)]; exact q) fun c xs q => by rw [upd_ne (ne_of_none q hn)]; exact q
end

noncomputable def Rd (H : Hp) (a : Addr) (u : HO) : Prop := H a = some u ∨ ∃ o, H a = some (.frz o u)
theorem Rd.of {H : Hp} {a : Addr} {u : HO} (h : H a = some u) : Rd H a u := .inl h
theorem Rd.ok {P : Program} {w : World} {H : Hp} {h : Heap} {a : Addr} {u : HO} (r : Rd H a u) (x : HOk P w H h) : ObjOk P w H h a u := by
  rcases r with r | ⟨o, r⟩
  · exact x a u r
  · obtain ⟨_, q⟩ := x a _ r
    exact q
noncomputable def Mut : Option HO → Prop
  | some (.lst _) => True
  | some (.dK _) => True
  | some (.dT _) => True
  | some (.set _ _) => True
  | some (.ins _ _ _) => True
  | some (.ext _) => True
  | _ => False
section
variable {P : Program} {w : World} {H : Hp} {h h' : Heap} {x e : Addr} {o' : HO}
theorem HOk.write (ok : HOk P w H h) (mu : Mut (H x)) (he : e = x ∨ H e = some (.own x)) (k : ∀ b u, b ≠ e → h.get? b = some u → h'.get? b = some u) (heo : ∃ u, h'.get? e = some u)
    (new : ObjOk P w (upd H x o') h' x o') : HOk P w (upd H x o') h' := fun b u q => by
  have nown : ∀ c y, H c = some (.own y) → c ≠ x := fun c y r z => by subst z; rw [r] at mu; exact mu
  have ntup : ∀ c xs, H c = some (.tup xs) → c ≠ x := fun c xs r z => by subst z; rw [r] at mu; exact mu
  by_cases hb : b = x
  · subst hb; rw [upd_same] at q; cases q; exact new
  · rw [upd_ne hb] at q
    by_cases hbe : b = e
    · have q' : H b = some (.own x) := by
        rcases he with z | z
        · exact absurd (hbe.trans z) hb
        · rw [hbe]; exact z
      rw [q] at q'; cases q'
      obtain ⟨v, hv⟩ := heo
      exact ⟨v, by rw [hbe]; exact hv⟩
    · refine (ok b u q).stay (fun c v hc r => k c v ?_ r) (fun c r => by rw [upd_ne (nown c b r)]; exact r) fun c xs r => by rw [upd_ne (ntup c xs r)]; exact r
      rcases hc with rfl | hc
      · exact hbe
      · rintro rfl
        rcases he with z | z
        · exact nown c b hc z
        · rw [hc] at z; cases z; exact hb rfl
end

/-! ### kept unless tracked; of the frames at fs (the callers') the slots may change (an exception that passes writes there); of the records at ex (iterators) nothing is said -/
structure Un (fs ex : List Addr) (H H' : Hp) (h h' : Heap) : Prop where
  keep : ∀ b o, h.get? b = some o → H b = none → b ∉ fs → b ∉ ex → h'.get? b = some o
  slot : ∀ b o, h.get? b = some o → H b = none → b ∈ fs → b ∉ ex → ∃ sl, h'.get? b = some { o with slots := sl }
  free : ∀ b o, h.get? b = some o → H b = none → b ∉ ex → H' b = none
  there : ∀ b o, h.get? b = some o → b ∉ ex → ∃ o', h'.get? b = some o'
  tups : ∀ b xs, H b = some (.tup xs) → H' b = some (.tup xs)
  frzs : ∀ b o u, H b = some (.frz o u) → H' b = some (.frz o u)
  tbls : ∀ b ps, H b = some (.tbl ps) → ∃ more, H' b = some (.tbl (ps ++ more))
section
variable {fs fs' ex ex' : List Addr} {H H1 H2 : Hp} {h h1 h2 h' : Heap} {a x e : Addr} {o : HO}
theorem Un.any (u : Un fs ex H H1 h h1) {b : Addr} {ob : Obj} (q : h.get? b = some ob) (n : H b = none) (hx : b ∉ ex) : ∃ sl, h1.get? b = some { ob with slots := sl } := by
  by_cases hb : b ∈ fs
  · exact u.slot b ob q n hb hx
  · exact ⟨ob.slots, u.keep b ob q n hb hx⟩
theorem Un.trans (a : Un fs ex H H1 h h1) (b : Un fs ex H1 H2 h1 h2) : Un fs ex H H2 h h2 where
  keep := fun c ob q n hc hx => b.keep c ob (a.keep c ob q n hc hx) (a.free c ob q n hx) hc hx
  slot := fun c ob q n hc hx => by
    obtain ⟨sl, e1⟩ := a.slot c ob q n hc hx
    obtain ⟨sl', e2⟩ := b.slot c _ e1 (a.free c ob q n hx) hc hx
    exact ⟨sl', e2⟩
  free := fun c ob q n hx => by
    obtain ⟨o', e1⟩ := a.there c ob q hx
    exact b.free c o' e1 (a.free c ob q n hx) hx
  there := fun c ob q hx => by
    obtain ⟨o', e1⟩ := a.there c ob q hx
    exact b.there c o' e1 hx
  tups := fun c xs q => b.tups c xs (a.tups c xs q)
  frzs := fun c ob xs q => b.frzs c ob xs (a.frzs c ob xs q)
  tbls := fun c ps q => by
    obtain ⟨m1, e1⟩ := a.tbls c ps q
    obtain ⟨m2, e2⟩ := b.tbls c _ e1
    exact ⟨m1 ++ m2, by rw [e2, Array.append_assoc]⟩
theorem Un.kept (k : ∀ b u, h.get? b = some u → h'.get? b = some u) : Un fs ex H H h h' :=
  ⟨fun b ob q _ _ _ => k b ob q, fun b ob q _ _ _ => ⟨ob.slots, k b ob q⟩, fun _ _ _ n _ => n, fun b ob q _ => ⟨ob, k b ob q⟩, fun _ _ q => q, fun _ _ _ q => q, fun _ ps q => ⟨#[], by rw [q]; simp⟩⟩
theorem Un.refl : Un fs ex H H h h := Un.kept fun _ _ q => q
theorem Un.laid (k : ∀ b u, h.get? b = some u → h'.get? b = some u) (hp : h.objs.size ≤ a) (hn : H a = none) : Un fs ex H (upd H a o) h h' where
  keep := fun b u q _ _ _ => k b u q
  slot := fun b u q _ _ _ => ⟨u.slots, k b u q⟩
  free := fun b u q n _ => by rw [upd_ne (Nat.ne_of_lt (Nat.lt_of_lt_of_le (Heap.lt_size q) hp))]; exact n
  there := fun b u q _ => ⟨u, k b u q⟩
  tups := fun b xs q => by rw [upd_ne (ne_of_none q hn)]; exact q
  frzs := fun b u xs q => by rw [upd_ne (ne_of_none q hn)]; exact q
  tbls := fun b ps q => ⟨#[], by rw [upd_ne (ne_of_none q hn), q]; simp⟩
theorem Un.write (mu : Mut (H x)) (he : e = x ∨ H e = some (.own x)) (k : ∀ b u, b ≠ e → h.get? b = some u → h'.get? b = some u) (heo : ∃ u, h'.get? e = some u) : Un fs ex H (upd H x o) h h' := by
  have hx : ∀ b, H b = none → b ≠ x := fun b n z => by subst z; rw [n] at mu; exact mu
  have hb : ∀ b, H b = none → b ≠ e := fun b n z => by
    subst z
    rcases he with r | r
    · exact hx b n r
    · rw [n] at r; cases r
  have hm : ∀ b u, H b = some u → ¬ Mut (some u) → b ≠ x := fun b u q nm z => by subst z; rw [q] at mu; exact nm mu
  refine ⟨fun b u q n _ _ => k b u (hb b n) q, fun b u q n _ _ => ⟨u.slots, k b u (hb b n) q⟩, fun b u q n _ => by rw [upd_ne (hx b n)]; exact n, fun b u q _ => ?_,
    fun b xs q => by rw [upd_ne (hm b _ q fun z => z)]; exact q, fun b u xs q => by rw [upd_ne (hm b _ q fun z => z)]; exact q, fun b ps q => ⟨#[], by rw [upd_ne (hm b _ q fun z => z), q]; simp⟩⟩
  by_cases hbe : b = e
  · subst hbe; exact heo
  · exact ⟨u, k b u hbe q⟩
theorem Un.mono (u : Un fs ex H H1 h h1) (hs : ∀ b ∈ fs, b ∈ fs') (hx : ∀ b ∈ ex, b ∈ ex') : Un fs' ex' H H1 h h1 :=
  ⟨fun b ob q n hb he => u.keep b ob q n (fun z => hb (hs b z)) fun z => he (hx b z), fun _ _ q n _ he => u.any q n fun z => he (hx _ z), fun b ob q n he => u.free b ob q n fun z => he (hx b z), fun b ob q he => u.there b ob q fun z => he (hx b z), u.tups, u.frzs, u.tbls⟩
end

/-! ### the heap without what is tracked -/
noncomputable def trk (h : Heap) (H : Hp) : List Addr := (List.range h.objs.size).filter fun a => (H a).isSome
noncomputable def hidT (h : Heap) (H : Hp) : Heap := PySem.W.hideAll h (trk h H)
theorem hidT_size (h : Heap) (H : Hp) : (hidT h H).objs.size = h.objs.size := PySem.W.hideAll_size _ _
theorem hidT_get {h : Heap} {H : Hp} {b : Addr} {o : Obj} (e : h.get? b = some o) (n : H b = none) : (hidT h H).get? b = some o :=
  PySem.W.hideAll_get _ e fun hm => by
    have q : (H b).isSome = true := (List.mem_filter.mp hm).2
    rw [n] at q; simp at q
theorem of_hidT {h : Heap} {H : Hp} {b : Addr} {o : Obj} (e : (hidT h H).get? b = some o) : h.get? b = some o ∧ H b = none := by
  have e' : h.get? b = some o := PySem.W.of_hideAll (trk h H) e
  refine ⟨e', ?_⟩
  cases q : H b with
  | none => rfl
  | some x =>
    have hm : b ∈ trk h H := List.mem_filter.mpr ⟨List.mem_range.mpr (Heap.lt_size e'), by simp [q]⟩
    have z : (hidT h H).get? b = none := PySem.W.hideAll_none (trk h H) hm
    rw [z] at e; cases e

/-! ### OpenK's ledger, filled with every new object but one -/
noncomputable def allNews (g h : Heap) (L : Addr) : List (Addr × Obj) := (List.range h.objs.size).filterMap fun a => if a = L ∨ (g.get? a).isSome = true then none else (h.get? a).map fun o => (a, o)
noncomputable def rest (g h : Heap) (L d : Addr) : List (Addr × Obj) := (allNews g h L).filter fun p => decide (p.1 ≠ d)
end L2

namespace L2
open PySem PySem.Spec PyProof.Rows

structure Mod (K : PySem.W.Frag) (mg : Str → Option Value) (base : Heap) : Prop where
  kin : K.In base
  glob : base.Ns mainGlobals mg
  blt : ∃ mb, base.Ns builtinsNs mb ∧ ∀ x : Str, x ≠ "__name__" → mb x = bootBuiltins x
  nolimit : base.NoLimit

structure Cx where
  prog : Program
  w : World
  K : PySem.W.Frag
  mg : Str → Option Value
  base : Heap
  A : Around
  N : List Str
  s₀ : Shared
  H₀ : Hp
  env : Env
  outer : List Env
  stack : List Env
  ex : List Addr
  fn : Str → Bool
  calm : Bool
  pn : List (Addr × Obj)
  xe : Value → Shared → Prop
noncomputable def frs (l : List Env) : List Addr := l.filterMap (·.frame)
noncomputable abbrev Cx.fs (X : Cx) : List Addr := frs X.outer

noncomputable def Vis (sc : Scope) (x : Str) : Prop := sc.names.lookup x = some .local ∨ sc.names.lookup x = some .cell ∨ sc.names.lookup x = some .free
noncomputable def Loc (sc : Scope) (x : Str) : Prop := sc.names.lookup x = some .local ∨ sc.names.lookup x = some .cell
noncomputable def Look (env : Env) (h : Heap) (m : Str → Option Value) (x : Str) (u : Value) : Prop :=
  (env.kindOf x = some .local ∧ m x = some u) ∨ ((env.kindOf x = some .cell ∨ env.kindOf x = some .free) ∧ ∃ c, env.cells.lookup x = some c ∧ h.IsCell c (some u))

structure Cx.Ok (X : Cx) : Prop where
  mod : Mod X.K X.mg X.base
  kind : X.env.scope.kind = .function
  glob : X.env.globals = mainGlobals
  blt : X.env.builtins = builtinsNs
  above : X.s₀.heap.objs.size ≤ X.env.locals
  inj : ∀ x y c, X.env.cells.lookup x = some c → X.env.cells.lookup y = some c → x = y
  has : ∀ x, (X.env.kindOf x = some .cell ∨ X.env.kindOf x = some .free) → ∃ c, X.env.cells.lookup x = some c
  cab : ∀ x c, X.fn x = true → X.env.cells.lookup x = some c → X.s₀.heap.objs.size ≤ c
  hd : X.calm = true → X.A.handled = none
  frames : X.A.frames = some X.stack
  stk : X.stack = X.outer ∨ (X.stack = X.env :: X.outer ∧ X.env.frame = some X.env.locals)
  exf : ∀ b ∈ X.ex, b ≠ X.env.locals ∧ ∀ x c, X.env.cells.lookup x = some c → c ≠ b
  bs : ∀ b o, X.base.get? b = some o → X.s₀.heap.get? b = some o ∧ X.H₀ b = none
  bsz : X.base.objs.size ≤ X.s₀.heap.objs.size
  noex : ∀ b o, X.base.get? b = some o → b ∉ X.ex
  exfs : ∀ b ∈ X.ex, b ∉ X.fs
  funs : X.s₀.heap.FunFrames X.base X.outer
  frf : ∀ b ∈ X.fs, X.H₀ b = none

structure Inv (X : Cx) (pins : List (Addr × Obj)) (σ : List (Option V)) (H : Hp) (s : Shared) : Prop where
  ok : X.Ok
  os : s.os = X.s₀.os
  bare : AllBare s.gens
  base : Un X.fs X.ex X.H₀ H X.s₀.heap s.heap
  loc : ∃ m, s.heap.Ns X.env.locals m ∧ ∀ (i : Nat) (x : Str) (v : V), X.N[i]? = some x → σ[i]? = some (some v) → Vis X.env.scope x → ∃ u, RelV v u ∧ Look X.env s.heap m x u
  cell : ∀ x c, X.env.cells.lookup x = some c → ∃ v, s.heap.IsCell c v
  free : H X.env.locals = none
  freeC : ∀ x c, X.env.cells.lookup x = some c → H c = none
  pin : ∀ p ∈ X.pn ++ pins, s.heap.get? p.1 = some p.2 ∧ H p.1 = none ∧ p.1 ≠ X.env.locals ∧ p.1 ∉ X.fs ∧ ∀ v, p.2.data ≠ .cell v
  hok : HOk X.prog X.w H s.heap
  len : σ.length = X.N.length

section
variable {X : Cx} {pins : List (Addr × Obj)} {σ : List (Option V)} {H H' : Hp} {s : Shared} {h' : Heap}

theorem Cx.Ok.nofr (ok : X.Ok) {b : Addr} {o : Obj} (e : X.base.get? b = some o) : b ∉ X.fs := fun hb => by
  have := (ok.funs.mem hb).1
  rw [e] at this; cases this
theorem Inv.bs (I : Inv X pins σ H s) : ∀ b o, X.base.get? b = some o → s.heap.get? b = some o ∧ H b = none := fun b o e =>
  ⟨I.base.keep b o (I.ok.bs b o e).1 (I.ok.bs b o e).2 (I.ok.nofr e) (I.ok.noex b o e), I.base.free b o (I.ok.bs b o e).1 (I.ok.bs b o e).2 (I.ok.noex b o e)⟩
theorem Inv.bk (I : Inv X pins σ H s) : ∀ b o, X.base.get? b = some o → s.heap.get? b = some o := fun b o e => (I.bs b o e).1
theorem Inv.mod (I : Inv X pins σ H s) : Mod X.K X.mg X.base := I.ok.mod
theorem Inv.kIn (I : Inv X pins σ H s) : X.K.In s.heap := I.ok.mod.kin.keeps I.bk
theorem Inv.nolimit (I : Inv X pins σ H s) : s.heap.NoLimit := I.ok.mod.nolimit.keeps I.bk
theorem Inv.fr (I : Inv X pins σ H s) : ∃ m, Fr X.base X.env.locals s.heap m :=
  let ⟨m, hn, _⟩ := I.loc
  ⟨m, hn, I.bk, Nat.le_trans I.ok.bsz I.ok.above⟩
theorem Inv.lt (I : Inv X pins σ H s) : X.env.locals < s.heap.objs.size := let ⟨_, hn, _⟩ := I.loc; hn.lt
theorem Inv.sz (I : Inv X pins σ H s) : X.s₀.heap.objs.size ≤ s.heap.objs.size := Nat.le_trans I.ok.above (Nat.le_of_lt I.lt)
theorem Inv.nofs (I : Inv X pins σ H s) {a : Addr} (h : s.heap.objs.size ≤ a) : a ∉ X.fs := fun hb => by
  obtain ⟨_, o, ho, _⟩ := I.ok.funs.mem hb
  exact absurd (Nat.lt_of_lt_of_le (Heap.lt_size ho) (Nat.le_trans I.sz h)) (Nat.lt_irrefl _)
theorem Inv.cne (I : Inv X pins σ H s) : ∀ x c, X.env.cells.lookup x = some c → c ≠ X.env.locals := fun x c e z => by
  obtain ⟨v, o, ho, hd⟩ := I.cell x c e
  obtain ⟨m, ⟨o', es, ep, ho', hd', _⟩, _⟩ := I.loc
  rw [z, ho'] at ho; cases ho; rw [hd'] at hd; cases hd
theorem Inv.funs (I : Inv X pins σ H s) : s.heap.FunFrames X.base X.outer := by
  have all : ∀ (l : List Env), (∀ b ∈ frs l, b ∈ X.fs) → X.s₀.heap.FunFrames X.base l → s.heap.FunFrames X.base l := by
    intro l
    induction l with
    | nil => intro _ _; trivial
    | cons env r ih =>
      intro hs hl
      obtain ⟨hk, ⟨L, o, hf, hn, ho, hd⟩, hr⟩ := hl
      have hL : L ∈ X.fs := hs L (by unfold frs; rw [List.filterMap_cons, hf]; exact List.mem_cons_self)
      obtain ⟨sl, e⟩ := I.base.slot L o ho (I.ok.frf L hL) hL fun z => I.ok.exfs L z hL
      exact ⟨hk, ⟨L, _, hf, hn, e, hd⟩, ih (fun b hb => hs b (by unfold frs; rw [List.filterMap_cons, hf]; exact List.mem_cons_of_mem _ hb)) hr⟩
  exact all X.outer (fun _ hb => hb) I.ok.funs

theorem Inv.stack (I : Inv X pins σ H s) : s.heap.FunFrames X.base X.stack := by
  rcases I.ok.stk with e | ⟨e, hf⟩
  · rw [e]; exact I.funs
  · rw [e]
    obtain ⟨m, hn, _⟩ := I.loc
    refine .cons (by rw [I.ok.kind]; decide) hf hn ?_ I.funs
    exact Heap.get?_none_of_le (Nat.le_trans I.ok.bsz I.ok.above)
theorem Inv.stkSub (I : Inv X pins σ H s) : ∀ b ∈ frs X.stack, b ∈ X.env.locals :: X.fs := fun b hb => by
  rcases I.ok.stk with e | ⟨e, hf⟩
  · rw [e] at hb; exact List.mem_cons_of_mem _ hb
  · rw [e] at hb
    unfold frs at hb
    rw [List.filterMap_cons, hf] at hb
    exact hb
theorem Inv.stkFree (I : Inv X pins σ H s) : ∀ b ∈ frs X.stack, H b = none := fun b hb => by
  rcases List.mem_cons.mp (I.stkSub b hb) with e | hb
  · rw [e]; exact I.free
  · obtain ⟨_, o, ho, _⟩ := I.ok.funs.mem hb
    exact I.base.free b o ho (I.ok.frf b hb) fun z => I.ok.exfs b z hb

theorem Inv.step {g' : Array GenState} {t' : Nat} {d' : Drawn} {ch : List Addr} (I : Inv X pins σ H s)
    (hch : ∀ b ∈ ch, (b ∈ X.ex ∨ X.s₀.heap.objs.size ≤ b) ∧ b ≠ X.env.locals ∧ (∀ x c, X.env.cells.lookup x = some c → c ≠ b) ∧ ∀ p ∈ X.pn ++ pins, p.1 ≠ b)
    (keep : ∀ b o, b ≠ X.env.locals → b ∉ X.fs → b ∉ ch → s.heap.get? b = some o → H b = none → h'.get? b = some o)
    (slot : ∀ b o, b ≠ X.env.locals → b ∈ X.fs → b ∉ ch → s.heap.get? b = some o → H b = none → ∃ sl, h'.get? b = some { o with slots := sl }) (free : ∀ b o, b ∉ ch → s.heap.get? b = some o → H b = none → H' b = none)
    (there : ∀ b o, b ∉ ch → s.heap.get? b = some o → ∃ o', h'.get? b = some o')
    (tups : ∀ b xs, H b = some (.tup xs) → H' b = some (.tup xs)) (frzs : ∀ b o u, H b = some (.frz o u) → H' b = some (.frz o u)) (tbls : ∀ b ps, H b = some (.tbl ps) → ∃ more, H' b = some (.tbl (ps ++ more)))
    (ns : ∀ m, s.heap.Ns X.env.locals m → h'.Ns X.env.locals m) (hok : HOk X.prog X.w H' h') (hg : AllBare g') :
    Inv X pins σ H' { s with heap := h', gens := g', drawn := d', toks := t' } := by
  have neL : ∀ b o, X.s₀.heap.get? b = some o → b ≠ X.env.locals := fun b o e => Nat.ne_of_lt (Nat.lt_of_lt_of_le (Heap.lt_size e) I.ok.above)
  have neC : ∀ b o, X.s₀.heap.get? b = some o → b ∉ X.ex → b ∉ ch := fun b o e hx hb => by
    rcases (hch b hb).1 with z | z
    · exact hx z
    · exact absurd (Nat.lt_of_lt_of_le (Heap.lt_size e) z) (Nat.lt_irrefl _)
  have cellK : ∀ x c, X.env.cells.lookup x = some c → ∀ v, s.heap.IsCell c v → h'.IsCell c v := fun x c e v ⟨o, ho, hd⟩ => by
    have nch : c ∉ ch := fun z => (hch c z).2.2.1 x c e rfl
    by_cases hc : c ∈ X.fs
    · obtain ⟨sl, q⟩ := slot c o (I.cne x c e) hc nch ho (I.freeC x c e)
      exact ⟨_, q, hd⟩
    · exact ⟨o, keep c o (I.cne x c e) hc nch ho (I.freeC x c e), hd⟩
  refine ⟨I.ok, I.os, hg, ⟨fun b o e n hb hx => ?_, fun b o e n hb hx => ?_, fun b o e n hx => ?_, fun b o e hx => ?_, fun b xs e => tups b xs (I.base.tups b xs e), fun b o xs e => frzs b o xs (I.base.frzs b o xs e), fun b ps e => ?_⟩, ?_, fun x c e => ?_, ?_, fun x c e => ?_, fun p hp => ?_, hok, I.len⟩
  · exact keep b o (neL b o e) hb (neC b o e hx) (I.base.keep b o e n hb hx) (I.base.free b o e n hx)
  · obtain ⟨sl, e1⟩ := I.base.slot b o e n hb hx
    obtain ⟨sl', e2⟩ := slot b _ (neL b o e) hb (neC b o e hx) e1 (I.base.free b o e n hx)
    exact ⟨sl', e2⟩
  · obtain ⟨o', e1⟩ := I.base.there b o e hx
    exact free b o' (neC b o e hx) e1 (I.base.free b o e n hx)
  · obtain ⟨o', e1⟩ := I.base.there b o e hx
    exact there b o' (neC b o e hx) e1
  · obtain ⟨m1, e1⟩ := I.base.tbls b ps e
    obtain ⟨m2, e2⟩ := tbls b _ e1
    exact ⟨m1 ++ m2, by rw [e2, Array.append_assoc]⟩
  · obtain ⟨m, hn, hl⟩ := I.loc
    refine ⟨m, ns m hn, fun i x v e1 e2 e3 => ?_⟩
    obtain ⟨u, r, l⟩ := hl i x v e1 e2 e3
    refine ⟨u, r, ?_⟩
    rcases l with l | ⟨k, c, e, z⟩
    · exact .inl l
    · exact .inr ⟨k, c, e, cellK x c e _ z⟩
  · obtain ⟨v, z⟩ := I.cell x c e
    exact ⟨v, cellK x c e v z⟩
  · obtain ⟨m, ⟨o, _, _, ho, _⟩, _⟩ := I.loc
    exact free _ o (fun z => (hch _ z).2.1 rfl) ho I.free
  · obtain ⟨v, o, ho, hd⟩ := I.cell x c e
    exact free c o (fun z => (hch c z).2.2.1 x c e rfl) ho (I.freeC x c e)
  · obtain ⟨e, n, ne, nf, d⟩ := I.pin p hp
    have nch : p.1 ∉ ch := fun z => (hch p.1 z).2.2.2 p hp rfl
    exact ⟨keep p.1 p.2 ne nf nch e n, free p.1 p.2 nch e n, ne, nf, d⟩
theorem Inv.un {t' : Nat} (I : Inv X pins σ H s) (u : Un X.fs [] H H' s.heap h') (hok : HOk X.prog X.w H' h') : Inv X pins σ H' { s with heap := h', toks := t' } := by
  obtain ⟨m, ⟨o, es, ep, ho, r⟩, _⟩ := id I.loc
  obtain ⟨sl, hL⟩ := u.any ho I.free (by simp)
  exact I.step (g' := s.gens) (d' := s.drawn) (ch := []) (fun _ z => nomatch z) (fun b o _ hb _ e n => u.keep b o e n hb (by simp)) (fun b o _ hb _ e n => u.slot b o e n hb (by simp)) (fun b o _ e n => u.free b o e n (by simp)) (fun b o _ e => u.there b o e (by simp)) u.tups u.frzs u.tbls (fun m' hm => by
    obtain ⟨o', es', ep', ho', r'⟩ := hm
    rw [ho] at ho'; cases ho'
    exact ⟨_, es', ep', hL, r'⟩) hok I.bare
theorem Inv.call {g' : Array GenState} {t' : Nat} {d' : Drawn} {ch : List Addr} (I : Inv X pins σ H s) (u : Un (frs X.stack) ch H H' s.heap h') (hok : HOk X.prog X.w H' h') (hg : AllBare g')
    (hch : ∀ b ∈ ch, (b ∈ X.ex ∨ X.s₀.heap.objs.size ≤ b) ∧ b ≠ X.env.locals ∧ (∀ x c, X.env.cells.lookup x = some c → c ≠ b) ∧ ∀ p ∈ X.pn ++ pins, p.1 ≠ b) :
    Inv X pins σ H' { s with heap := h', gens := g', drawn := d', toks := t' } := by
  obtain ⟨m, ⟨o, es, ep, ho, r⟩, _⟩ := id I.loc
  obtain ⟨sl, hL⟩ := u.any ho I.free fun z => (hch _ z).2.1 rfl
  exact I.step (ch := ch) hch (fun b o hL hb hc e n => u.keep b o e n (fun z => (List.mem_cons.mp (I.stkSub b z)).elim hL hb) hc) (fun b o _ _ hc e n => u.any e n hc) (fun b o hc e n => u.free b o e n hc) (fun b o hc e => u.there b o e hc) u.tups u.frzs u.tbls (fun m' hm => by
    obtain ⟨o', es', ep', ho', r'⟩ := hm
    rw [ho] at ho'; cases ho'
    exact ⟨_, es', ep', hL, r'⟩) hok hg
theorem Inv.turned {t' : Nat} {it : Addr} (I : Inv X pins σ H s) (k : ∀ b o, b ≠ it → s.heap.get? b = some o → h'.get? b = some o) (hn : H it = none) (hL : it ≠ X.env.locals)
    (h1 : it ∈ X.ex ∨ X.s₀.heap.objs.size ≤ it) (h2 : ∀ x c, X.env.cells.lookup x = some c → c ≠ it) (h3 : ∀ p ∈ X.pn ++ pins, p.1 ≠ it) : Inv X pins σ H { s with heap := h', toks := t' } := by
  have nit : ∀ b u, H b = some u → b ≠ it := fun b u e z => by rw [z, hn] at e; cases e
  refine I.step (g' := s.gens) (d' := s.drawn) (ch := [it]) (fun b hb => ?_) (fun b o _ _ hc e _ => k b o (fun z => hc (by simp [z])) e) (fun b o _ _ hc e _ => ⟨o.slots, k b o (fun z => hc (by simp [z])) e⟩) (fun _ _ _ _ n => n)
    (fun b o hc e => ⟨o, k b o (fun z => hc (by simp [z])) e⟩) (fun _ _ e => e) (fun _ _ _ e => e) (fun b ps e => ⟨#[], by rw [e]; simp⟩) (fun m hm => ?_) (fun b u e => ?_) I.bare
  · have e : b = it := by simpa using hb
    subst e
    exact ⟨h1, hL, h2, h3⟩
  · obtain ⟨o, es, ep, ho, r⟩ := hm
    exact ⟨o, es, ep, k _ o (Ne.symm hL) ho, r⟩
  · refine (I.hok b u e).stay (fun c v hc q => k c v ?_ q) (fun _ q => q) fun _ _ q => q
    rcases hc with z | z
    · rw [z]; exact nit b u e
    · exact nit c _ z
theorem Inv.tok (I : Inv X pins σ H s) (t : Nat) : Inv X pins σ H { s with toks := t } := I.un (h' := s.heap) (t' := t) Un.refl I.hok
theorem Inv.kept {t' : Nat} (I : Inv X pins σ H s) (k : ∀ b u, s.heap.get? b = some u → h'.get? b = some u) : Inv X pins σ H { s with heap := h', toks := t' } := I.un (Un.kept k) (I.hok.kept k)
theorem Inv.laid {a : Addr} {o : HO} {t' : Nat} (I : Inv X pins σ H s) (k : ∀ b u, s.heap.get? b = some u → h'.get? b = some u) (hp : s.heap.objs.size ≤ a) (new : ObjOk X.prog X.w (upd H a o) h' a o) :
    Inv X pins σ (upd H a o) { s with heap := h', toks := t' } := I.un (Un.laid k hp (I.hok.fresh hp)) (I.hok.laid k hp new)
theorem Inv.write {x e : Addr} {o : HO} {t' : Nat} (I : Inv X pins σ H s) (mu : Mut (H x)) (he : e = x ∨ H e = some (.own x)) (k : ∀ b u, b ≠ e → s.heap.get? b = some u → h'.get? b = some u) (heo : ∃ u, h'.get? e = some u)
    (new : ObjOk X.prog X.w (upd H x o) h' x o) : Inv X pins σ (upd H x o) { s with heap := h', toks := t' } := I.un (Un.write mu he k heo) (I.hok.write mu he k heo new)
theorem Inv.weak {σ' : List (Option V)} (I : Inv X pins σ H s) (hl : σ'.length = σ.length) (w : ∀ (i : Nat) v, σ'[i]? = some (some v) → σ[i]? = some (some v)) : Inv X pins σ' H s :=
  ⟨I.ok, I.os, I.bare, I.base, let ⟨m, hn, hl'⟩ := I.loc; ⟨m, hn, fun i x v e1 e2 e3 => hl' i x v e1 (w i v e2) e3⟩, I.cell, I.free, I.freeC, I.pin, I.hok, hl.trans I.len⟩
theorem Inv.pins_of {pins' : List (Addr × Obj)} (I : Inv X pins σ H s) (h : ∀ p ∈ pins', s.heap.get? p.1 = some p.2 ∧ H p.1 = none ∧ p.1 ≠ X.env.locals ∧ p.1 ∉ X.fs ∧ ∀ v, p.2.data ≠ .cell v) : Inv X pins' σ H s :=
  ⟨I.ok, I.os, I.bare, I.base, I.loc, I.cell, I.free, I.freeC, fun p hp => (List.mem_append.mp hp).elim (fun z => I.pin p (List.mem_append_left _ z)) (h p), I.hok, I.len⟩

theorem nodup_ix {N : List Str} (hN : N.Nodup) {i j : Nat} {x : Str} (a : N[i]? = some x) (b : N[j]? = some x) : i = j := by
  obtain ⟨h1, e1⟩ := List.getElem?_eq_some_iff.mp a
  obtain ⟨h2, e2⟩ := List.getElem?_eq_some_iff.mp b
  exact (List.getElem_inj hN).mp (e1.trans e2.symm)

theorem store_ok2 {M : Model} {A : Around} {E : Value → Shared → Prop} {i : Nat} {x : Str} {v : V} {u : Value} {Q : Unit → Shared → Prop} (I : Inv X pins σ H s) (hN : X.N.Nodup) (hi : X.N[i]? = some x) (hx : Loc X.env.scope x) (r : RelV v u)
    (h : ∀ s', Inv X pins (σ.set i (some v)) H s' → (∃ a, Heap.SameBut a s.heap s'.heap ∧ (a = X.env.locals ∨ X.env.cells.lookup x = some a)) → Q () s') (hf : X.fn x = true ∨ X.env.scope.names.lookup x = some .local := by first | exact .inl rfl | exact .inr rfl | assumption) : wpAny M A (storeName X.env x u) Q E s := by
  obtain ⟨m, hn, hl⟩ := id I.loc
  have hcls : (X.env.scope.kind == .class || (X.env.scope.kind == .module && X.env.locals != X.env.globals)) = false := by rw [I.ok.kind]; rfl
  have hiσ : i < σ.length := by rw [I.len]; exact (List.getElem?_eq_some_iff.mp hi).1
  have cne := I.cne
  have tracked : ∀ {a : Addr} {h' : Heap}, (∃ o, s.heap.get? a = some o ∧ H a = none) → Heap.SameBut a s.heap h' → HOk X.prog X.w H h' := fun {a h'} ha hs b ob e => by
    obtain ⟨_, _, hfree⟩ := ha
    refine (I.hok b ob e).stay (fun c w' hc q => (hs.2 c ?_).trans q) (fun _ q => q) fun _ _ q => q
    rintro rfl
    rcases hc with rfl | hc
    · rw [hfree] at e; cases e
    · rw [hfree] at hc; cases hc
  rcases hx with hk | hk
  · refine wpAny_storeName_local hk hn (fun h' hn' hs => ?_) hcls
    obtain ⟨oL, _, _, hoL, _⟩ := id hn
    refine h _ ⟨I.ok, I.os, I.bare, ⟨fun b o e n hb hx => ?_, fun b o e n hb hx => ?_, I.base.free, fun b o e hx => ?_, I.base.tups, I.base.frzs, I.base.tbls⟩, ⟨_, hn', fun j y v' e1 e2 e3 => ?_⟩, fun y c e => ?_, I.free, I.freeC, fun p hp => ?_, tracked ⟨oL, hoL, I.free⟩ hs, by simpa using I.len⟩ ⟨_, hs, .inl rfl⟩
    · exact (hs.2 b (Nat.ne_of_lt (Nat.lt_of_lt_of_le (Heap.lt_size e) I.ok.above))).trans (I.base.keep b o e n hb hx)
    · obtain ⟨sl, e1⟩ := I.base.slot b o e n hb hx
      exact ⟨sl, (hs.2 b (Nat.ne_of_lt (Nat.lt_of_lt_of_le (Heap.lt_size e) I.ok.above))).trans e1⟩
    · obtain ⟨o', e1⟩ := I.base.there b o e hx
      exact ⟨o', (hs.2 b (Nat.ne_of_lt (Nat.lt_of_lt_of_le (Heap.lt_size e) I.ok.above))).trans e1⟩
    · by_cases hj : j = i
      · subst hj
        rw [hi] at e1; cases e1
        rw [List.getElem?_set_self hiσ] at e2
        cases e2
        exact ⟨u, r, .inl ⟨hk, by simp⟩⟩
      · rw [List.getElem?_set_ne (Ne.symm hj)] at e2
        obtain ⟨u', r', q⟩ := hl j y v' e1 e2 e3
        refine ⟨u', r', ?_⟩
        rcases q with ⟨k, e⟩ | ⟨k, c, e, z⟩
        · refine .inl ⟨k, ?_⟩
          have : y ≠ x := fun e => hj (nodup_ix hN e1 (e ▸ hi))
          simp [this, e]
        · exact .inr ⟨k, c, e, z.sameBut hs (cne y c e)⟩
    · obtain ⟨w', z⟩ := I.cell y c e
      exact ⟨w', z.sameBut hs (cne y c e)⟩
    · obtain ⟨e, n, ne, nf, d⟩ := I.pin p hp
      exact ⟨(hs.2 p.1 ne).trans e, n, ne, nf, d⟩
  · have hfn : X.fn x = true := by
      rcases hf with z | z
      · exact z
      · rw [z] at hk; cases hk
    obtain ⟨c, hc⟩ := I.ok.has x (.inl hk)
    obtain ⟨w', z⟩ := I.cell x c hc
    refine wpAny_storeName_cell I.ok.kind hk hc z (fun h' hc' hs => ?_)
    obtain ⟨oc, hoc, hocd⟩ := id z
    refine h { s with heap := h' } ⟨I.ok, I.os, I.bare, ⟨fun b o e n hb hx => ?_, fun b o e n hb hx => ?_, I.base.free, fun b o e hx => ?_, I.base.tups, I.base.frzs, I.base.tbls⟩, ⟨m, hn.sameBut hs (Ne.symm (cne x c hc)), fun j y v' e1 e2 e3 => ?_⟩, fun y c' e => ?_, I.free, I.freeC, fun p hp => ?_, tracked ⟨oc, hoc, I.freeC x c hc⟩ hs, by simpa using I.len⟩ ⟨c, hs, .inr hc⟩
    · exact (hs.2 b (Nat.ne_of_lt (Nat.lt_of_lt_of_le (Heap.lt_size e) (I.ok.cab x c hfn hc)))).trans (I.base.keep b o e n hb hx)
    · obtain ⟨sl, e1⟩ := I.base.slot b o e n hb hx
      exact ⟨sl, (hs.2 b (Nat.ne_of_lt (Nat.lt_of_lt_of_le (Heap.lt_size e) (I.ok.cab x c hfn hc)))).trans e1⟩
    · obtain ⟨o', e1⟩ := I.base.there b o e hx
      exact ⟨o', (hs.2 b (Nat.ne_of_lt (Nat.lt_of_lt_of_le (Heap.lt_size e) (I.ok.cab x c hfn hc)))).trans e1⟩
    · by_cases hj : j = i
      · subst hj
        rw [hi] at e1; cases e1
        rw [List.getElem?_set_self hiσ] at e2
        cases e2
        exact ⟨u, r, .inr ⟨.inl hk, c, hc, hc'⟩⟩
      · rw [List.getElem?_set_ne (Ne.symm hj)] at e2
        obtain ⟨u', r', q⟩ := hl j y v' e1 e2 e3
        refine ⟨u', r', ?_⟩
        rcases q with q | ⟨k, c', e, z'⟩
        · exact .inl q
        · refine .inr ⟨k, c', e, z'.sameBut hs ?_⟩
          rintro rfl
          exact hj (nodup_ix hN e1 (I.ok.inj _ _ _ e hc ▸ hi))
    · by_cases hcc : c' = c
      · subst hcc; exact ⟨_, hc'⟩
      · obtain ⟨w2, z2⟩ := I.cell y c' e
        exact ⟨w2, z2.sameBut hs hcc⟩
    · obtain ⟨e, n, ne, nf, d⟩ := I.pin p hp
      refine ⟨(hs.2 p.1 ?_).trans e, n, ne, nf, d⟩
      intro q
      rw [q, hoc] at e
      have q' : oc = p.2 := Option.some.inj e
      exact d w' (by rw [← q']; exact hocd)
theorem store_ok {M : Model} {A : Around} {E : Value → Shared → Prop} {i : Nat} {x : Str} {v : V} {u : Value} {Q : Unit → Shared → Prop} (I : Inv X pins σ H s) (hN : X.N.Nodup) (hi : X.N[i]? = some x) (hx : Loc X.env.scope x) (r : RelV v u)
    (h : ∀ s', Inv X pins (σ.set i (some v)) H s' → Q () s') (hf : X.fn x = true ∨ X.env.scope.names.lookup x = some .local := by first | exact .inl rfl | exact .inr rfl | assumption) : wpAny M A (storeName X.env x u) Q E s :=
  store_ok2 I hN hi hx r (fun s' I' _ => h s' I') hf
theorem Inv.call' {s' : Shared} {ch : List Addr} (I : Inv X pins σ H s) (ho : s'.os = s.os) (u : Un (frs X.stack) ch H H' s.heap s'.heap) (hok : HOk X.prog X.w H' s'.heap) (hg : AllBare s'.gens)
    (hch : ∀ b ∈ ch, (b ∈ X.ex ∨ X.s₀.heap.objs.size ≤ b) ∧ b ≠ X.env.locals ∧ (∀ x c, X.env.cells.lookup x = some c → c ≠ b) ∧ ∀ p ∈ X.pn ++ pins, p.1 ≠ b) : Inv X pins σ H' s' := by
  obtain ⟨h', g', d', t', o'⟩ := s'
  have e : o' = s.os := ho
  subst e
  exact I.call (g' := g') (t' := t') (d' := d') u hok hg hch
end

/-! ### the judgements -/
noncomputable abbrev XK := Value → Option Addr → Hp → Prop
noncomputable abbrev St := List (Option V)
noncomputable abbrev VK := V → Hp → Prop
noncomputable abbrev TE := St → Hp → VK → Prop
noncomputable abbrev TT := St → Hp → (Bool → Hp → Prop) → Prop
noncomputable abbrev TA := St → Hp → (List V → Hp → Prop) → Prop
structure Ends where
  nx : St → Hp → Prop
  rt : VK
  bk : St → Hp → Prop := fun _ _ => False
  ct : St → Hp → Prop := fun _ _ => False
noncomputable abbrev TS := Ends → St → Hp → Prop

noncomputable def EP (X : Cx) (pins : List (Addr × Obj)) (σ : St) (Q : VK) (u : Value) (s' : Shared) : Prop := ∃ v H', Inv X pins σ H' s' ∧ RelV v u ∧ Q v H'
noncomputable def TP (X : Cx) (pins : List (Addr × Obj)) (σ : St) (Q : Bool → Hp → Prop) (b : Bool) (s' : Shared) : Prop := ∃ H', Inv X pins σ H' s' ∧ Q b H'
noncomputable def AP (X : Cx) (pins : List (Addr × Obj)) (σ : St) (Q : List V → Hp → Prop) (us : List Value) (s' : Shared) : Prop := ∃ vs H', Inv X pins σ H' s' ∧ Vals vs us ∧ Q vs H'
noncomputable def SP (X : Cx) (pins : List (Addr × Obj)) (D : Ends) (f : Flow) (s' : Shared) : Prop :=
  match f with
  | .next => ∃ σ' H', Inv X pins σ' H' s' ∧ D.nx σ' H'
  | .brk => ∃ σ' H', Inv X pins σ' H' s' ∧ D.bk σ' H'
  | .cont => ∃ σ' H', Inv X pins σ' H' s' ∧ D.ct σ' H'
  | .ret u => ∃ v σ' H', Inv X pins σ' H' s' ∧ RelV v u ∧ D.rt v H'

noncomputable def PE (X : Cx) (e : Expr) (t : TE) : Prop :=
  ∀ (pins : List (Addr × Obj)) (s : Shared) (σ : St) (H : Hp) (Q : VK), Inv X pins σ H s → t σ H Q → wpAny (model X.prog X.w) X.A (eval e X.env) (EP X pins σ Q) X.xe s
noncomputable def PT (X : Cx) (e : Expr) (t : TT) : Prop :=
  ∀ (pins : List (Addr × Obj)) (s : Shared) (σ : St) (H : Hp) (Q : Bool → Hp → Prop), Inv X pins σ H s → t σ H Q → wpAny (model X.prog X.w) X.A (isTrue e X.env (eval e X.env)) (TP X pins σ Q) X.xe s
noncomputable def PW (X : Cx) (e : Expr) (t : TT) : Prop :=
  ∀ (whole : Sem Value) (pins : List (Addr × Obj)) (s : Shared) (σ : St) (H : Hp) (Q : Bool → Hp → Prop), Inv X pins σ H s → t σ H Q → wpAny (model X.prog X.w) X.A (isTrue e X.env whole) (TP X pins σ Q) X.xe s
theorem PW.pt {X : Cx} {e : Expr} {t : TT} (h : PW X e t) : PT X e t := h _
noncomputable def PA (X : Cx) (es : List Expr) (t : TA) : Prop :=
  ∀ (pos : Pos) (pins : List (Addr × Obj)) (s : Shared) (σ : St) (H : Hp) (Q : List V → Hp → Prop), Inv X pins σ H s → t σ H Q → wpAny (model X.prog X.w) X.A (spliced (backTo pos (starEach es X.env))) (AP X pins σ Q) X.xe s
noncomputable def PS (X : Cx) (st : Stmt) (t : TS) : Prop :=
  ∀ (pins : List (Addr × Obj)) (s : Shared) (σ : St) (H : Hp) (D : Ends), Inv X pins σ H s → t D σ H → wpAny (model X.prog X.w) X.A (exec st X.env) (SP X pins D) X.xe s
noncomputable def PSs (X : Cx) (st : List Stmt) (t : TS) : Prop :=
  ∀ (pins : List (Addr × Obj)) (s : Shared) (σ : St) (H : Hp) (D : Ends), Inv X pins σ H s → t D σ H → wpAny (model X.prog X.w) X.A (execs st X.env) (SP X pins D) X.xe s
theorem thn {α : Type} {t : Sem α} {Q Q' : α → Shared → Prop} {M : Model} {A : Around} {E : Value → Shared → Prop} {s : Shared} (h : wpAny M A t Q E s) (hQ : ∀ a s, Q a s → Q' a s) : wpAny M A t Q' E s := wpAny_mono h hQ fun _ _ x => x
end L2

namespace L2
open PySem PySem.Spec PyProof.Rows
section
variable {X : Cx}

/-! ### names and constants -/
noncomputable def tVar (i : Nat) : TE := fun σ H Q => ∃ v, σ[i]? = some (some v) ∧ Q v H
noncomputable def tC (v : V) : TE := fun _ H Q => Q v H
theorem pe_var {i : Nat} {x : Str} {pos : Pos} (hN : X.N[i]? = some x) (hv : Vis X.env.scope x) (hd : (x == ("__debug__" : Str)) = false := by decide) (hcd : (x == ("__classdict__" : Str)) = false := by decide) : PE X (.Name x pos) (tVar i) := by
  intro pins s σ H Q I h
  obtain ⟨v, e, h⟩ := h
  obtain ⟨m, hn, hl⟩ := I.loc
  obtain ⟨u, r, l⟩ := hl i x v hN e hv
  have fin : EP X pins σ Q u s := ⟨v, H, I, r, h⟩
  rcases l with ⟨hk, hm⟩ | ⟨hk, c, hc, hcell⟩
  · exact wpAny_Name (wpAny_loadName_local I.ok.kind hk hn hm fin) hd
  · rcases hk with hk | hk
    · exact wpAny_Name (wpAny_loadName_cell I.ok.kind hk hc hcell fin) hd
    · exact wpAny_Name (wpAny_loadName_free I.ok.kind hk hc hcell fin hcd) hd
theorem pe_int {i j pos} : PE X (.Constant (.int i) j pos) (tC (.int i)) := fun _ _ _ H _ I h => wpAny_Constant_int ⟨.int i, H, I.tok _, ⟨_, rfl⟩, h⟩
theorem pe_bl {b j pos} : PE X (.Constant (.bool b) j pos) (tC (.bl b)) := fun _ _ _ H _ I h => Constant_bool ⟨.bl b, H, I, rfl, h⟩
theorem pe_non {j pos} : PE X (.Constant .none j pos) (tC .non) := fun _ _ _ H _ I h => Constant_none ⟨.non, H, I, rfl, h⟩
theorem pe_str {x j pos} : PE X (.Constant (.str x) j pos) (tC (.str x)) := fun _ _ _ H _ I h => Calls.Constant_str ⟨.str x, H, I.tok _, ⟨_, rfl⟩, h⟩

noncomputable def Gl (X : Cx) (x : Str) : Prop := X.env.kindOf x = some .globalImplicit
theorem ld_glob {E : Value → Shared → Prop} {pins : List (Addr × Obj)} {s : Shared} {σ : St} {H : Hp} {x : Str} {u : Value} {pos : Pos} {Q : Value → Shared → Prop} (I : Inv X pins σ H s) (hg : Gl X x) (hm : X.mg x = some u) (h : Q u s)
    (hd : (x == ("__debug__" : Str)) = false := by decide) : wpAny (model X.prog X.w) X.A (eval (.Name x pos) X.env) Q E s :=
  Calls.Name_function_global I.ok.kind hg (Calls.loadGlobal_global (by rw [I.ok.glob]; exact I.mod.glob.keeps I.bk) hm h) hd
theorem ld_blt {E : Value → Shared → Prop} {pins : List (Addr × Obj)} {s : Shared} {σ : St} {H : Hp} {x : Str} {u : Value} {pos : Pos} {Q : Value → Shared → Prop} (I : Inv X pins σ H s) (hg : Gl X x) (hm : X.mg x = none) (hv : bootBuiltins x = some u) (h : Q u s)
    (hn : x ≠ "__name__" := by decide) (hd : (x == ("__debug__" : Str)) = false := by decide) : wpAny (model X.prog X.w) X.A (eval (.Name x pos) X.env) Q E s := by
  obtain ⟨mb, h1, h2⟩ := I.mod.blt
  exact Calls.Name_function_global I.ok.kind hg (Calls.loadGlobal_builtin (by rw [I.ok.glob]; exact I.mod.glob.keeps I.bk) hm (by rw [I.ok.blt]; exact h1.keeps I.bk) ((h2 x hn).trans hv) h) hd
theorem pe_glob {x : Str} {v : V} {u : Value} {pos : Pos} (hg : Gl X x) (hm : X.mg x = some u) (r : RelV v u) (hd : (x == ("__debug__" : Str)) = false := by decide) : PE X (.Name x pos) (tC v) :=
  fun _ _ _ H _ I h => ld_glob I hg hm ⟨v, H, I, r, h⟩ hd
theorem pe_bltn {x : Str} {v : V} {u : Value} {pos : Pos} (hg : Gl X x) (hm : X.mg x = none) (hv : bootBuiltins x = some u) (r : RelV v u) (hn : x ≠ "__name__" := by decide) (hd : (x == ("__debug__" : Str)) = false := by decide) : PE X (.Name x pos) (tC v) :=
  fun _ _ _ H _ I h => ld_blt I hg hm hv ⟨v, H, I, r, h⟩ hn hd

/-! ### arithmetic -/
variable {a b : Expr} {ta tb : TE} {pos : Pos}
/-! ### comparisons -/
noncomputable def tB (t : TE) : TT := fun σ H Q => t σ H fun x H1 => ∃ c, x = .bl c ∧ Q c H1
theorem pt_val {e : Expr} {t : TE} (h : PE X e t) (he : ∀ whole, isTrue e X.env whole = (do let v ← whole; standAt e.pos; holding [v] (truthy v)) := by intro _; rfl) : PT X e (tB t) := by
  intro pins s σ H Q I hw
  refine isTrue_plain (thn (h pins s σ H _ I hw) fun v s1 ⟨x, H1, I1, r1, q1⟩ => ?_) (he _)
  obtain ⟨d, rfl, q⟩ := q1
  cases r1
  exact wpAny_truthy_bool ⟨H1, I1, q⟩

/-! ### and, or, not -/
variable {tA tB' : TT} {rest : List Expr}
noncomputable def tAnd (t u : TT) : TT := fun σ H Q => t σ H fun c H1 => if c = true then u σ H1 Q else Q false H1
noncomputable def tOr (t u : TT) : TT := fun σ H Q => t σ H fun c H1 => if c = true then Q true H1 else u σ H1 Q
noncomputable def tNot (t : TT) : TT := fun σ H Q => t σ H fun c H1 => Q (!c) H1
theorem pw_and1 (ha : PT X a tA) : PW X (.BoolOp .And [a] pos) tA := by
  intro wh pins s σ H Q I h
  refine isTrue_and (thn (ha pins s σ H Q I h) fun c s1 e => ?_)
  cases c with
  | true => exact isTrue_and_nil e
  | false => exact e
theorem pw_or1 (ha : PT X a tA) : PW X (.BoolOp .Or [a] pos) tA := by
  intro wh pins s σ H Q I h
  refine isTrue_or (thn (ha pins s σ H Q I h) fun c s1 e => ?_)
  cases c with
  | false => exact isTrue_or_nil e
  | true => exact e
theorem pw_and (ha : PT X a tA) (hb : PW X (.BoolOp .And (b :: rest) pos) tB') : PW X (.BoolOp .And (a :: b :: rest) pos) (tAnd tA tB') := by
  intro wh pins s σ H Q I h
  refine isTrue_and (thn (ha pins s σ H _ I h) fun c s1 ⟨H1, I1, q1⟩ => ?_)
  cases c with
  | true => exact hb wh pins s1 σ H1 Q I1 q1
  | false => exact ⟨H1, I1, q1⟩
theorem pw_or (ha : PT X a tA) (hb : PW X (.BoolOp .Or (b :: rest) pos) tB') : PW X (.BoolOp .Or (a :: b :: rest) pos) (tOr tA tB') := by
  intro wh pins s σ H Q I h
  refine isTrue_or (thn (ha pins s σ H _ I h) fun c s1 ⟨H1, I1, q1⟩ => ?_)
  cases c with
  | true => exact ⟨H1, I1, q1⟩
  | false => exact hb wh pins s1 σ H1 Q I1 q1
theorem pt_not (ha : PT X a tA) : PT X (.UnaryOp .Not a pos) (tNot tA) := by
  intro pins s σ H Q I h
  exact isTrue_not (ha pins s σ H (fun c H1 => Q (!c) H1) I h)
noncomputable def tAndV (ta tb : TE) : TE := fun σ H Q => ta σ H fun x H1 => ∃ c, x = .bl c ∧ if c = true then tb σ H1 Q else Q (.bl false) H1
noncomputable def tOrV (ta tb : TE) : TE := fun σ H Q => ta σ H fun x H1 => ∃ c, x = .bl c ∧ if c = true then Q (.bl true) H1 else tb σ H1 Q
noncomputable def tNotV (ta : TE) : TE := fun σ H Q => ta σ H fun x H1 => ∃ c, x = .bl c ∧ Q (.bl (!c)) H1
theorem pe_one {op} {t : TE} (h : PE X a t) : PE X (.BoolOp op [a] pos) t := fun pins s σ H Q I hw => BoolOp_one (h pins s σ H Q I hw)
theorem pe_and (ha : PE X a ta) (hb : PE X (.BoolOp .And (b :: rest) pos) tb) : PE X (.BoolOp .And (a :: b :: rest) pos) (tAndV ta tb) := by
  intro pins s σ H Q I h
  refine BoolOp_and (thn (ha pins s σ H _ I h) fun v s1 ⟨x, H1, I1, r1, q1⟩ => ?_)
  obtain ⟨c, rfl, q1⟩ := q1
  cases r1
  refine wpAny_truthy_bool ?_
  cases c with
  | true => exact hb pins s1 σ H1 Q I1 q1
  | false => exact ⟨.bl false, H1, I1, rfl, q1⟩
theorem pe_not (ha : PE X a ta) : PE X (.UnaryOp .Not a pos) (tNotV ta) := by
  intro pins s σ H Q I h
  refine UnaryOp_ (thn (ha pins s σ H _ I h) fun v s1 ⟨x, H1, I1, r1, q1⟩ => ?_)
  obtain ⟨c, rfl, q1⟩ := q1
  cases r1
  exact not_of (wpAny_truthy_bool ⟨.bl (!c), H1, I1, rfl, q1⟩)
noncomputable def tIf (t : TT) (ta tb : TE) : TE := fun σ H Q => t σ H fun c H1 => if c = true then ta σ H1 Q else tb σ H1 Q
end
end L2

namespace L2
open PySem PySem.Spec PyProof.Rows

/-! ### a list, a tuple that is read: tracked, frozen, or an object of the module -/
noncomputable def SqL (K : PySem.W.Frag) (H : Hp) (a : Addr) (xs : List V) : Prop :=
  Rd H a (.lst xs) ∨
    ∃ (o : Obj) (its : Array Value) (n : Nat), K.lookup a = some o ∧ o.cls = .type "list" ∧ o.dict = none ∧ o.data = .seq its n ∧ its.size ≤ sizeLine ∧ Vals xs its.toList
noncomputable def SqT (K : PySem.W.Frag) (H : Hp) (a : Addr) (xs : List V) : Prop :=
  Rd H a (.tup xs) ∨
    ∃ (o : Obj) (its : Array Value) (n : Nat), K.lookup a = some o ∧ o.cls = .type "tuple" ∧ o.data = .seq its n ∧ its.size ≤ sizeLine ∧ Vals xs its.toList
noncomputable def absV : Value → Option V
  | .none => some .non
  | .bool b => some (.bl b)
  | .int i _ => some (.int i)
  | .str x _ => some (.str x)
  | .bytes b _ => some (.byt b)
  | .float b _ => some (.flt b)
  | .ref a => some (.ref a)
  | .type n => some (.ty n)
  | _ => none
theorem RelV.abs {x : V} {u : Value} (r : RelV x u) : absV u = some x := by
  cases x with
  | non => cases r; rfl
  | bl _ => cases r; rfl
  | int _ => obtain ⟨t, rfl⟩ := r; rfl
  | str _ => obtain ⟨t, rfl⟩ := r; rfl
  | byt _ => obtain ⟨t, rfl⟩ := r; rfl
  | flt _ => obtain ⟨t, rfl⟩ := r; rfl
  | ref _ => cases r; rfl
  | ty _ => cases r; rfl
theorem RelV.inj {x y : V} {u : Value} (r : RelV x u) (q : RelV y u) : x = y := Option.some.inj (r.abs.symm.trans q.abs)
theorem Vals.inj {xs ys : List V} {us : List Value} (h : Vals xs us) : Vals ys us → xs = ys := by
  induction h generalizing ys with
  | nil => intro h; cases h; rfl
  | cons r t ih => intro h; cases h with
    | cons r' t' => rw [r.inj r', ih t']
section
variable {X : Cx} {pins : List (Addr × Obj)} {σ : St} {H : Hp} {s : Shared} {a : Addr} {xs ys : List V}
theorem SqL.of {K : PySem.W.Frag} (h : H a = some (.lst xs)) : SqL K H a xs := .inl (.inl h)
theorem SqT.of {K : PySem.W.Frag} (h : H a = some (.tup xs)) : SqT K H a xs := .inl (.inl h)
theorem Inv.list (I : Inv X pins σ H s) (h : SqL X.K H a xs) : ∃ its : List Value, Vals xs its ∧ PlainL s.heap a its.toArray ∧ xs.length ≤ sizeLine := by
  rcases h with h | ⟨o, its, n, hk, hc, hd, hs, hz, r⟩
  · obtain ⟨z, its, n, r, e⟩ := h.ok I.hok
    exact ⟨its, r, ⟨_, n, e, rfl, rfl, rfl⟩, z⟩
  · refine ⟨its.toList, r, ⟨o, n, I.kIn a o hk, hc, hd, by simpa using hs⟩, ?_⟩
    have e := r.length
    simp only [Array.length_toList] at e
    omega
theorem Inv.tuple (I : Inv X pins σ H s) (h : SqT X.K H a xs) : ∃ its : List Value, Vals xs its ∧ IsTup s.heap a its.toArray ∧ xs.length ≤ sizeLine := by
  rcases h with h | ⟨o, its, n, hk, hc, hs, hz, r⟩
  · obtain ⟨z, its, r, p⟩ := h.ok I.hok
    exact ⟨its, r, p.tup, z⟩
  · refine ⟨its.toList, r, ⟨o, I.kIn a o hk, hc, n, by simpa using hs⟩, ?_⟩
    have e := r.length
    simp only [Array.length_toList] at e
    omega
theorem Inv.list_inj (I : Inv X pins σ H s) (h : SqL X.K H a xs) (h' : SqL X.K H a ys) : xs = ys := by
  obtain ⟨its, r, ⟨o, n, e, _, _, d⟩, _⟩ := I.list h
  obtain ⟨its', r', ⟨o', n', e', _, _, d'⟩, _⟩ := I.list h'
  rw [e] at e'; cases e'
  rw [d] at d'
  injection d' with d1 _
  have : its = its' := by simpa using congrArg Array.toList d1
  subst this
  exact r.inj r'
theorem Inv.tuple_inj (I : Inv X pins σ H s) (h : SqT X.K H a xs) (h' : SqT X.K H a ys) : xs = ys := by
  obtain ⟨its, r, ⟨o, e, _, n, d⟩, _⟩ := I.tuple h
  obtain ⟨its', r', ⟨o', e', _, n', d'⟩, _⟩ := I.tuple h'
  rw [e] at e'; cases e'
  rw [d] at d'
  injection d' with d1 _
  have : its = its' := by simpa using congrArg Array.toList d1
  subst this
  exact r.inj r'
end

/-! ### another wish about exceptions -/
noncomputable abbrev Cx.wish (X : Cx) (E : Value → Shared → Prop) : Cx := { X with xe := E }
noncomputable abbrev Cx.nox (X : Cx) : Cx := X.wish fun _ _ => False
theorem Cx.Ok.wish {X : Cx} (ok : X.Ok) (E : Value → Shared → Prop) : (X.wish E).Ok :=
  ⟨ok.mod, ok.kind, ok.glob, ok.blt, ok.above, ok.inj, ok.has, ok.cab, ok.hd, ok.frames, ok.stk, ok.exf, ok.bs, ok.bsz, ok.noex, ok.exfs, ok.funs, ok.frf⟩
theorem Cx.Ok.unwish {X : Cx} {E : Value → Shared → Prop} (ok : (X.wish E).Ok) : X.Ok :=
  ⟨ok.mod, ok.kind, ok.glob, ok.blt, ok.above, ok.inj, ok.has, ok.cab, ok.hd, ok.frames, ok.stk, ok.exf, ok.bs, ok.bsz, ok.noex, ok.exfs, ok.funs, ok.frf⟩
section
variable {X : Cx} {pins : List (Addr × Obj)} {σ : St} {H : Hp} {s : Shared} {E : Value → Shared → Prop}
theorem Inv.wish (I : Inv X pins σ H s) (E : Value → Shared → Prop) : Inv (X.wish E) pins σ H s := ⟨I.ok.wish E, I.os, I.bare, I.base, I.loc, I.cell, I.free, I.freeC, I.pin, I.hok, I.len⟩
theorem Inv.unwish (I : Inv (X.wish E) pins σ H s) : Inv X pins σ H s := ⟨I.ok.unwish, I.os, I.bare, I.base, I.loc, I.cell, I.free, I.freeC, I.pin, I.hok, I.len⟩
theorem SP.unwish {D : Ends} {f : Flow} {s' : Shared} (h : SP (X.wish E) pins D f s') : SP X pins D f s' := by
  cases f with
  | next => obtain ⟨σ', H', I, q⟩ := h; exact ⟨σ', H', I.unwish, q⟩
  | brk => obtain ⟨σ', H', I, q⟩ := h; exact ⟨σ', H', I.unwish, q⟩
  | cont => obtain ⟨σ', H', I, q⟩ := h; exact ⟨σ', H', I.unwish, q⟩
  | ret u => obtain ⟨v, σ', H', I, r, q⟩ := h; exact ⟨v, σ', H', I.unwish, r, q⟩
theorem PE.nox {e : Expr} {t : TE} (h : PE X.nox e t) : PE X e t := fun pins s σ H Q I hw =>
  wpAny_mono (h pins s σ H Q (I.wish _) hw) (fun _ _ ⟨v, H', I', r, q⟩ => ⟨v, H', I'.unwish, r, q⟩) fun _ _ z => False.elim z
theorem PT.nox {e : Expr} {t : TT} (h : PT X.nox e t) : PT X e t := fun pins s σ H Q I hw =>
  wpAny_mono (h pins s σ H Q (I.wish _) hw) (fun _ _ ⟨H', I', q⟩ => ⟨H', I'.unwish, q⟩) fun _ _ z => False.elim z
theorem PSs.nox {st : List Stmt} {t : TS} (h : PSs X.nox st t) : PSs X st t := fun pins s σ H D I hw =>
  wpAny_mono (h pins s σ H D (I.wish _) hw) (fun _ _ q => q.unwish) fun _ _ z => False.elim z
end

/-! ### blocks and small statements -/
section
variable {X : Cx} {st : Stmt} {rest : List Stmt} {t u : TS} {e : Expr} {te : TE} {pos : Pos}
noncomputable def tNext : TS := fun D σ H => D.nx σ H
noncomputable def tSeq (t u : TS) : TS := fun D σ H => t { D with nx := u D } σ H
theorem pss_nil : PSs X [] tNext := fun _ _ σ H _ I h => wpAny_execs_nil ⟨σ, H, I, h⟩
theorem pss_cons (h1 : PS X st t) (h2 : PSs X rest u) : PSs X (st :: rest) (tSeq t u) := by
  intro pins s σ H D I h
  refine wpAny_execs_cons (thn (h1 pins s σ H { D with nx := u D } I h) fun f s1 q => ?_)
  cases f with
  | next =>
    obtain ⟨σ', H', I', q⟩ := q
    exact h2 pins s1 σ' H' D I' q
  | ret v => exact q
  | brk => exact q
  | cont => exact q
theorem pss_one (h1 : PS X st t) : PSs X [st] t := by
  intro pins s σ H D I h
  refine wpAny_execs_cons (thn (h1 pins s σ H D I h) fun f s1 q => ?_)
  cases f with
  | next => exact wpAny_execs_nil q
  | ret v => exact q
  | brk => exact q
  | cont => exact q
noncomputable def tBreak : TS := fun D σ H => D.bk σ H
noncomputable def tCont : TS := fun D σ H => D.ct σ H
theorem Inv.quiet {pins : List (Addr × Obj)} {σ : St} {H : Hp} {s : Shared} (I : Inv X pins σ H s) : interactive X.env = false := by simp [interactive, I.ok.kind]
noncomputable def tDrop (te : TE) : TS := fun D σ H => te σ H fun _ H1 => D.nx σ H1
theorem ps_expr (he : PE X e te) (hs : swapsWith e none pos.line X.env = pure false := by rfl) : PS X (.Expr e pos) (tDrop te) := by
  intro pins s σ H D I h
  exact wpAny_Expr_any (thn (he pins s σ H _ I h) fun v s1 ⟨x, H1, I1, r1, q1⟩ => ⟨σ, H1, I1, q1⟩) I.quiet hs
noncomputable def tRet (te : TE) : TS := fun D σ H => te σ H D.rt
theorem ps_ret (he : PE X e te) : PS X (.Return (some e) pos) (tRet te) := by
  intro pins s σ H D I h
  exact wpAny_Return_some (thn (he pins s σ H _ I h) fun v s1 ⟨x, H1, I1, r1, q1⟩ => ⟨x, σ, H1, I1, r1, q1⟩)
noncomputable def tRetN : TS := fun D _ H => D.rt .non H
noncomputable def tIfS (c : TT) (t u : TS) : TS := fun D σ H => c σ H fun b H1 => if b = true then t D σ H1 else u D σ H1
theorem ps_if {c : Expr} {a b : List Stmt} {tc : TT} (hc : PT X c tc) (ha : PSs X a t) (hb : PSs X b u) : PS X (.If c a b pos) (tIfS tc t u) := by
  intro pins s σ H D I h
  refine wpAny_If (thn (hc pins s σ H _ I h) fun d s1 ⟨H1, I1, q1⟩ => ?_)
  cases d with
  | true => exact ha pins s1 σ H1 D I1 q1
  | false => exact hb pins s1 σ H1 D I1 q1
noncomputable def tNever : TS := fun _ _ _ => False
theorem ps_never : PS X st tNever := fun _ _ _ _ _ _ h => h.elim
end

/-! ### targets -/
noncomputable abbrev TG := V → St → Hp → (St → Hp → Prop) → Prop
noncomputable abbrev TGs := List V → St → Hp → (St → Hp → Prop) → Prop
noncomputable def PG (X : Cx) (target : Expr) (t : TG) : Prop :=
  ∀ (pins : List (Addr × Obj)) (s : Shared) (σ : St) (H : Hp) (v : V) (u : Value) (Q : St → Hp → Prop), Inv X pins σ H s → RelV v u → t v σ H Q →
    wpAny (model X.prog X.w) X.A (assign target X.env u) (fun _ s' => ∃ σ' H', Inv X pins σ' H' s' ∧ Q σ' H') X.xe s
noncomputable def PGs (X : Cx) (ts : List Expr) (t : TGs) : Prop :=
  ∀ (pins : List (Addr × Obj)) (s : Shared) (σ : St) (H : Hp) (vs : List V) (us : List Value) (Q : St → Hp → Prop), Inv X pins σ H s → Vals vs us → t vs σ H Q →
    wpAny (model X.prog X.w) X.A (assignInOrder ((assignEach ts X.env).map (·.2)) us) (fun _ s' => ∃ σ' H', Inv X pins σ' H' s' ∧ Q σ' H') X.xe s
noncomputable abbrev TSet := V → V → V → Hp → (Hp → Prop) → Prop
noncomputable def PSet (X : Cx) (t : TSet) : Prop :=
  ∀ (pins : List (Addr × Obj)) (s : Shared) (σ : St) (H : Hp) (o i v : V) (ov iv u : Value) (Q : Hp → Prop), Inv X pins σ H s → RelV o ov → RelV i iv → RelV v u → t o i v H Q →
    wpAny (model X.prog X.w) X.A (setItem ov iv u) (fun _ s' => ∃ H', Inv X pins σ H' s' ∧ Q H') X.xe s
section
variable {X : Cx} {pos : Pos}
noncomputable def gName (i : Nat) : TG := fun v σ H Q => Q (σ.set i (some v)) H
theorem pg_name {i : Nat} {x : Str} (hN : X.N.Nodup) (hi : X.N[i]? = some x) (hx : Loc X.env.scope x) (hf : X.fn x = true ∨ X.env.scope.names.lookup x = some .local := by first | exact .inl rfl | exact .inr rfl | assumption) : PG X (.Name x pos) (gName i) := by
  intro pins s σ H v u Q I r h
  exact wpAny_assign_Name (store_ok I hN hi hx r (fun s' I' => ⟨_, H, I', h⟩) hf)
noncomputable def gNil : TGs := fun vs σ H Q => vs = [] ∧ Q σ H
noncomputable def gCons (t : TG) (u : TGs) : TGs := fun vs σ H Q => ∃ v r, vs = v :: r ∧ t v σ H fun σ' H' => u r σ' H' Q
theorem pgs_nil : PGs X [] gNil := by
  intro pins s σ H vs us Q I r h
  obtain ⟨e, h⟩ := h
  subst e
  cases r
  exact assignInOrder_nil ⟨σ, H, I, h⟩
theorem pgs_cons {e : Expr} {es : List Expr} {t : TG} {u : TGs} (h1 : PG X e t) (h2 : PGs X es u)
    (hs : (assignEach (e :: es) X.env).map (·.2) = assign e X.env :: (assignEach es X.env).map (·.2) := by rfl) : PGs X (e :: es) (gCons t u) := by
  intro pins s σ H vs us Q I r h
  obtain ⟨v, vr, e1, h⟩ := h
  subst e1
  cases r with
  | cons r rr =>
    rw [hs]
    refine assignInOrder_cons (thn (h1 pins s σ H _ _ _ I r h) fun _ s1 ⟨σ1, H1, I1, q1⟩ => ?_)
    exact h2 pins s1 σ1 H1 _ _ Q I1 rr q1
noncomputable def gTup (K : PySem.W.Frag) (n : Nat) (t : TGs) : TG := fun v σ H Q => ∃ a xs, v = .ref a ∧ SqT K H a xs ∧ xs.length = n ∧ t xs σ H Q
theorem pg_tup {es : List Expr} {k : Nat} {t : TGs} {n : Nat} (hc : X.calm = true) (h : PGs X es t)
    (hn : (assignEach es X.env).length = n := by rfl) (hst : (assignEach es X.env).findIdx? (·.1) = none := by rfl) : PG X (.Tuple es k pos) (gTup X.K n t) := by
  intro pins s σ H v u Q I r hw
  obtain ⟨a, xs, e1, hq, hl, hw⟩ := hw
  subst e1
  cases r
  obtain ⟨its, rv, ht, hz⟩ := I.tuple hq
  refine assign_Tuple_tuple (I.ok.hd hc) ht (by simp [hn, ← hl, rv.length]) hst fun h' hx => ?_
  have I1 : Inv X pins σ H { s with heap := h' } := I.kept (t' := s.toks) fun b o e => hx b o (Nat.ne_of_lt (Heap.lt_size e)) e
  exact h pins _ σ H xs _ Q I1 (by simpa using rv) hw
noncomputable def gSub (to ti : TE) (t : TSet) : TG := fun v σ H Q => to σ H fun o H1 => ti σ H1 fun i H2 => t o i v H2 fun H3 => Q σ H3
theorem pg_sub {o i : Expr} {to ti : TE} {t : TSet} (ho : PE X o to) (hi : PE X i ti) (hs : PSet X t)
    (ha : ∀ v, assign (.Subscript o i pos) X.env v = (do
      let ov ← holding [v] (eval o X.env)
      let iv ← holding [v, ov] (eval i X.env)
      standAt pos
      holding [v, ov, iv] (setItem ov iv v)
      release [v, ov, iv] []) := by intro _; rfl) : PG X (.Subscript o i pos) (gSub to ti t) := by
  intro pins s σ H v u Q I r h
  rw [ha]
  refine wpAny_bind (wpAny_holding (thn (ho pins s σ H _ I h) fun ov s1 ⟨x, H1, I1, r1, q1⟩ => ?_))
  refine wpAny_bind (wpAny_holding (thn (hi pins s1 σ H1 _ I1 q1) fun iv s2 ⟨y, H2, I2, r2, q2⟩ => ?_))
  refine wpAny_bind (wpAny_standAt (wpAny_bind (wpAny_holding (thn (hs pins s2 σ H2 x y v ov iv u _ I2 r1 r2 r q2) fun _ s3 ⟨H3, I3, q3⟩ => ?_))))
  exact wpAny_release ⟨σ, H3, I3, q3⟩
noncomputable def tAsg (te : TE) (g : TG) : TS := fun D σ H => te σ H fun x H1 => g x σ H1 D.nx
theorem ps_asg {tg e : Expr} {te : TE} {g : TG} (he : PE X e te) (hg : PG X tg g) (hs : swapsWithSole [tg] e pos.line X.env = pure false := by rfl) (hw : swappedStores [tg] e X.env = pure none := by rfl)
    (h1 : (assignEach [tg] X.env).map (·.2) = [assign tg X.env] := by rfl) : PS X (.Assign [tg] e pos) (tAsg te g) := by
  intro pins s σ H D I h
  refine wpAny_Assign_stores (thn (he pins s σ H _ I h) fun v s1 ⟨x, H1, I1, r1, q1⟩ => ?_) hs hw
  rw [h1]
  exact thn (hg pins s1 σ H1 x v _ I1 r1 q1) fun _ s2 q => q
theorem ps_set {i : Nat} {x : Str} {e : Expr} {te : TE} {pos' : Pos} (hN : X.N.Nodup) (hi : X.N[i]? = some x) (hx : Loc X.env.scope x) (he : PE X e te) (hs : swapsWith e (some (.Name x pos')) pos.line X.env = pure false := by rfl) (hf : X.fn x = true ∨ X.env.scope.names.lookup x = some .local := by first | exact .inl rfl | exact .inr rfl | assumption) :
    PS X (.Assign [.Name x pos'] e pos) (tAsg te (gName i)) := by
  intro pins s σ H D I h
  refine wpAny_Assign_Name (thn (he pins s σ H _ I h) fun v s1 ⟨y, H1, I1, r1, q1⟩ => ?_) hs
  exact store_ok I1 hN hi hx r1 (fun s2 I2 => ⟨_, H1, I2, q1⟩) hf
end

/-! ### while -/
section
variable {X : Cx} {pos : Pos}
noncomputable def tWhile (c : TT) (tb : TS) : TS := fun D σ H => ∃ W : Nat → St → Hp → Prop, (∃ m, W m σ H) ∧ ∀ m σ H, W m σ H →
  c σ H fun b H1 => if b = true then ∃ N : St → Hp → Prop, (∀ σ' H', N σ' H' → ∃ m', m' < m ∧ W m' σ' H') ∧ tb { D with nx := N, ct := N, bk := D.nx } σ H1 else D.nx σ H1
theorem ps_while {c : Expr} {body : List Stmt} {tc : TT} {tb : TS} (hp : PassesOwn (model X.prog X.w) X.A X.env X.xe) (hc : PT X c tc) (hb : PSs X body tb) : PS X (.While c body [] pos) (tWhile tc tb) := by
  intro pins s σ H D I h
  obtain ⟨W, ⟨m0, w0⟩, turn⟩ := h
  refine wpAny_While (codeAny_whileLoop (fun n s' => ∃ σ' H', Inv X pins σ' H' s' ∧ W n σ' H') ?_ m0 ⟨σ, H, I, w0⟩)
  rintro n s1 ⟨σ1, H1, I1, w1⟩
  refine wpAny_passesOwn hp (thn (hc pins s1 σ1 H1 _ I1 (turn n σ1 H1 w1)) fun b s2 ⟨H2, I2, q2⟩ => ?_)
  cases b with
  | true =>
    obtain ⟨N, hN, q2⟩ := q2
    rw [if_pos rfl]
    refine wpAny_passesOwn hp (thn (hb pins s2 σ1 H2 _ I2 q2) fun f s3 q3 => ?_)
    cases f with
    | next =>
      obtain ⟨σ3, H3, I3, n3⟩ := q3
      obtain ⟨m', hm, w3⟩ := hN σ3 H3 n3
      exact ⟨m', hm, σ3, H3, I3, w3⟩
    | cont =>
      obtain ⟨σ3, H3, I3, n3⟩ := q3
      obtain ⟨m', hm, w3⟩ := hN σ3 H3 n3
      exact ⟨m', hm, σ3, H3, I3, w3⟩
    | brk => exact q3
    | ret v => exact q3
  | false =>
    rw [if_neg Bool.false_ne_true]
    exact wpAny_execs_nil ⟨σ1, H2, I2, q2⟩
end

/-! ### what a loop or a comprehension walks -/
structure It where
  go : Nat → Hp → Prop
  yld : Nat → Hp → V → Hp → Prop
  stop : Nat → Hp → Prop
noncomputable def FpOk (X : Cx) (pins : List (Addr × Obj)) (H : Hp) (b : Addr) : Prop :=
  H b = none ∧ b ≠ X.env.locals ∧ b ∉ X.fs ∧ (b ∈ X.ex ∨ X.s₀.heap.objs.size ≤ b) ∧ (∀ x c, X.env.cells.lookup x = some c → c ≠ b) ∧ ∀ p ∈ X.pn ++ pins, p.1 ≠ b
theorem Inv.fpOk {X : Cx} {pins : List (Addr × Obj)} {σ : St} {H H' : Hp} {s : Shared} {b : Addr} (I : Inv X pins σ H s) (hb : s.heap.objs.size ≤ b) (hn : H' b = none) : FpOk X pins H' b := by
  refine ⟨hn, Nat.ne_of_gt (Nat.lt_of_lt_of_le I.lt hb), I.nofs hb, .inr (Nat.le_trans I.sz hb), fun x c e z => ?_, fun p hp z => ?_⟩
  · obtain ⟨v, q⟩ := I.cell x c e
    exact absurd (Nat.lt_of_lt_of_le q.lt (by rw [z]; exact hb)) (Nat.lt_irrefl _)
  · exact absurd (Nat.lt_of_lt_of_le (Heap.lt_size (I.pin p hp).1) (by rw [z]; exact hb)) (Nat.lt_irrefl _)
structure Turn (P : Program) (w : World) (K : PySem.W.Frag) (tg : Expr) (J : It) (fp : List Addr) (it : Addr) (tn : Nat → Heap → Prop) : Prop where
  mem : it ∈ fp
  obj : ∀ i h, tn i h → ∀ b ∈ fp, ∃ o, h.get? b = some o ∧ ∀ v, o.data ≠ .cell v
  keep : ∀ i h h', tn i h → (∀ b ∈ fp, ∀ o, h.get? b = some o → h'.get? b = some o) → tn i h'
  item : ∀ (X : Cx), X.prog = P → X.w = w → X.K = K → X.calm = true → ∀ (i : Nat) (pins : List (Addr × Obj)) (s : Shared) (σ : St) (H : Hp) (E : Value → Shared → Prop), Inv X pins σ H s → (∀ b ∈ fp, FpOk X pins H b) → tn i s.heap → J.go i H →
    wpAny (model P w) X.A (pyNext (.ref it)) (fun r s1 => ∃ u, r = some u ∧
      wpAny (model P w) X.A (letOwnedTupleGo tg (.ref it) u) (fun _ s2 => ∃ x H', Inv X pins σ H' s2 ∧ RelV x u ∧ J.yld i H x H' ∧ tn (i + 1) s2.heap ∧ ∀ b ∈ fp, H' b = none) E s1) E s
  done : ∀ (X : Cx), X.prog = P → X.w = w → X.K = K → X.calm = true → ∀ (i : Nat) (pins : List (Addr × Obj)) (s : Shared) (σ : St) (H : Hp) (E : Value → Shared → Prop), Inv X pins σ H s → (∀ b ∈ fp, FpOk X pins H b) → tn i s.heap → J.stop i H →
    wpAny (model P w) X.A (pyNext (.ref it)) (fun r s1 => r = none ∧ Inv X pins σ H s1) E s
  self : ∀ (A : Around) (i : Nat) (s : Shared) (Q : Value → Shared → Prop) (E : Value → Shared → Prop), tn i s.heap → Q (.ref it) s → wpAny (model P w) A (pyIter (.ref it)) Q E s
noncomputable abbrev TI := St → Hp → (It → Hp → Prop) → Prop
noncomputable def PIE (X : Cx) (pins : List (Addr × Obj)) (σ : St) (tg : Expr) (R : It → Hp → Prop) (itv : Value) (s2 : Shared) : Prop :=
  ∃ (it : Addr) (fp : List Addr) (tn : Nat → Heap → Prop) (J : It) (H' : Hp), itv = .ref it ∧ Inv X pins σ H' s2 ∧ Turn X.prog X.w X.K tg J fp it tn ∧ tn 0 s2.heap ∧ (∀ b ∈ fp, FpOk X pins H' b) ∧ R J H'
noncomputable def PI (X : Cx) (tg iter : Expr) (wi : TI) : Prop :=
  ∀ (pins : List (Addr × Obj)) (s : Shared) (σ : St) (H : Hp) (R : It → Hp → Prop), Inv X pins σ H s → wi σ H R →
    wpAny (model X.prog X.w) X.A (eval iter X.env) (fun v s1 => wpAny (model X.prog X.w) X.A (pyIter v) (PIE X pins σ tg R) X.xe s1) X.xe s

theorem go_of {M : Model} {A : Around} {E : Value → Shared → Prop} {s : Shared} {tg : Expr} {it : Addr} {u : Value} {o : Obj} {n : String} {vs : Array Value} {Q : Unit → Shared → Prop} (ho : s.heap.get? it = some o) (hc : o.cls = .type n) (hd : o.data = .fields vs)
    (hn : ["enumerate", "zip", "dict_itemiterator", "dict_reverseitemiterator", "odict_iterator", "itertools.zip_longest", "itertools.pairwise"].contains n = false) (hQ : Q () s) : wpAny M A (letOwnedTupleGo tg (.ref it) u) Q E s := by
  unfold letOwnedTupleGo
  cases tg <;> first
    | exact wpAny_pure hQ
    | (cases u <;> first
        | exact wpAny_pure hQ
        | (refine wpAny_bind (wpAny_load ho ?_)
           rw [hc, hd]
           show wpAny M A (if (["enumerate", "zip", "dict_itemiterator", "dict_reverseitemiterator", "odict_iterator", "itertools.zip_longest", "itertools.pairwise"].contains n && vs[0]? == some (rawInt _)) = true then _ else _) Q E s
           rw [if_neg (by intro h; rw [hn, Bool.false_and] at h; cases h)]
           exact wpAny_pure hQ))

noncomputable def Itl (K : PySem.W.Frag) (a : Addr) : It :=
  ⟨fun i H => ∃ xs x, SqL K H a xs ∧ xs[i]? = some x, fun i H x H' => H' = H ∧ ∀ xs, SqL K H a xs → xs[i]? = some x, fun i H => ∃ xs, SqL K H a xs ∧ xs.length ≤ i⟩
noncomputable def Itt (K : PySem.W.Frag) (a : Addr) : It :=
  ⟨fun i H => ∃ xs x, SqT K H a xs ∧ xs[i]? = some x, fun i H x H' => H' = H ∧ ∀ xs, SqT K H a xs → xs[i]? = some x, fun i H => ∃ xs, SqT K H a xs ∧ xs.length ≤ i⟩
noncomputable def Itr (lo : Int) (n : Nat) : It := ⟨fun i _ => i < n, fun i H x H' => H' = H ∧ x = .int (lo + i), fun i _ => n ≤ i⟩
theorem turn_list {P : Program} {w : World} {K : PySem.W.Frag} {tg : Expr} (a it : Addr) : Turn P w K tg (Itl K a) [it] it (fun i h => h.IsListIter it a i) where
  mem := by simp
  obj := fun i h st b hb => by
    have e : b = it := by simpa using hb
    subst e
    obtain ⟨o, e, c, d⟩ := st
    exact ⟨o, e, fun v z => by rw [d] at z; cases z⟩
  keep := fun i h h' st k => st.at fun o e => k it (by simp) o e
  item := by
    intro X hP hw hK hc i pins s σ H E I hf st hg
    subst hP hw hK
    obtain ⟨xs, x, hq, hx⟩ := hg
    obtain ⟨its, rv, p, hz⟩ := I.list hq
    obtain ⟨u, hu, ru⟩ := rv.get hx
    obtain ⟨f0, f1, f2, f3, f4, f5⟩ := hf it (by simp)
    refine wpAny_pyNext_list_item st p.isList (x := u) (by simpa using hu) fun h' st' sb => ?_
    have I1 : Inv X pins σ H { s with heap := h' } := I.turned (t' := s.toks) (fun b o hb e => (sb.2 b hb).trans e) f0 f1 f3 f4 f5
    obtain ⟨o, e, c, d⟩ := id st'
    exact ⟨u, rfl, go_of (s := { s with heap := h' }) e c d (by decide) ⟨x, H, I1, ru, ⟨rfl, fun ys hy => by rw [I.list_inj hy hq]; exact hx⟩, st', fun b hb => (hf b hb).1⟩⟩
  done := by
    intro X hP hw hK hc i pins s σ H E I hf st hg
    subst hP hw hK
    obtain ⟨xs, hq, hx⟩ := hg
    obtain ⟨its, rv, p, hz⟩ := I.list hq
    obtain ⟨f0, f1, f2, f3, f4, f5⟩ := hf it (by simp)
    have hl := rv.length
    exact wpAny_pyNext_list_end (I.ok.hd hc) st p.isList (by simp; omega) fun h' eb => ⟨rfl, I.turned (t' := s.toks) (fun b o hb e => eb b o hb e) f0 f1 f3 f4 f5⟩
  self := fun _ _ _ _ _ st h => wpAny_pyIter_listiter st h
theorem turn_tuple {P : Program} {w : World} {K : PySem.W.Frag} {tg : Expr} (a it : Addr) : Turn P w K tg (Itt K a) [it] it (fun i h => h.IsTupleIter it a i) where
  mem := by simp
  obj := fun i h st b hb => by
    have e : b = it := by simpa using hb
    subst e
    obtain ⟨o, e, c, d⟩ := st
    exact ⟨o, e, fun v z => by rw [d] at z; cases z⟩
  keep := fun i h h' st k => st.at fun o e => k it (by simp) o e
  item := by
    intro X hP hw hK hc i pins s σ H E I hf st hg
    subst hP hw hK
    obtain ⟨xs, x, hq, hx⟩ := hg
    obtain ⟨its, rv, p, hz⟩ := I.tuple hq
    obtain ⟨u, hu, ru⟩ := rv.get hx
    obtain ⟨f0, f1, f2, f3, f4, f5⟩ := hf it (by simp)
    refine wpAny_pyNext_tuple_item st (show s.heap.IsTuple a its.toArray from p) (x := u) (by simpa using hu) fun h' st' sb => ?_
    have I1 : Inv X pins σ H { s with heap := h' } := I.turned (t' := s.toks) (fun b o hb e => (sb.2 b hb).trans e) f0 f1 f3 f4 f5
    obtain ⟨o, e, c, d⟩ := id st'
    exact ⟨u, rfl, go_of (s := { s with heap := h' }) e c d (by decide) ⟨x, H, I1, ru, ⟨rfl, fun ys hy => by rw [I.tuple_inj hy hq]; exact hx⟩, st', fun b hb => (hf b hb).1⟩⟩
  done := by
    intro X hP hw hK hc i pins s σ H E I hf st hg
    subst hP hw hK
    obtain ⟨xs, hq, hx⟩ := hg
    obtain ⟨its, rv, p, hz⟩ := I.tuple hq
    obtain ⟨f0, f1, f2, f3, f4, f5⟩ := hf it (by simp)
    have hl := rv.length
    exact wpAny_pyNext_tuple_end (I.ok.hd hc) st (show s.heap.IsTuple a its.toArray from p) (by simp; omega) fun h' eb => ⟨rfl, I.turned (t' := s.toks) (fun b o hb e => eb b o hb e) f0 f1 f3 f4 f5⟩
  self := fun _ _ _ _ _ st h => wpAny_pyIter_tupleiter st h
theorem turn_range {P : Program} {w : World} {K : PySem.W.Frag} {tg : Expr} (it : Addr) (lo : Int) (n : Nat) : Turn P w K tg (Itr lo n) [it] it (fun i h => IsRangeIter h it (lo + (i : Nat) * 1) ((n : Int) - (i : Nat)) 1) where
  mem := by simp
  obj := fun i h st b hb => by
    have e : b = it := by simpa using hb
    subst e
    exact ⟨_, st, fun v z => by
      have z' : Data.fields _ = Data.cell v := z
      cases z'⟩
  keep := fun i h h' st k => k it (by simp) _ st
  item := by
    intro X hP hw hK hc i pins s σ H E I hf st hg
    subst hP hw hK
    obtain ⟨f0, f1, f2, f3, f4, f5⟩ := hf it (by simp)
    have W := Walks.range (prog := X.prog) (w := X.w) (I.ok.hd hc) it lo 1 n
    refine W.item i s _ _ hg st fun v h' tk hv st' kk => ?_
    obtain ⟨t, rfl⟩ := hv
    have I1 : Inv X pins σ H { s with heap := h', toks := tk } := I.turned (fun b o hb e => kk b o (by simpa using hb) e) f0 f1 f3 f4 f5
    refine ⟨_, rfl, go_of (s := { s with heap := h', toks := tk }) (n := "range_iterator") st' rfl rfl (by decide) ⟨.int (lo + i), H, I1, ⟨t, ?_⟩, ⟨rfl, rfl⟩, st', fun b hb => (hf b hb).1⟩⟩
    rw [Int.mul_one]
  done := by
    intro X hP hw hK hc i pins s σ H E I hf st hg
    subst hP hw hK
    obtain ⟨f0, f1, f2, f3, f4, f5⟩ := hf it (by simp)
    exact wpAny_pyNext_range_end (I.ok.hd hc) st (by have : n ≤ i := hg; omega) fun h' eb => ⟨rfl, I.turned (t' := s.toks) (fun b o hb e => eb b o hb e) f0 f1 f3 f4 f5⟩
  self := fun _ _ _ _ _ st h => wpAny_pyIter_rangeiter st h
end L2

namespace L2
open PySem PySem.Spec PyProof.Rows
section
variable {X : Cx} {tg : Expr}
noncomputable def iList (K : PySem.W.Frag) (tl : TE) : TI := fun σ H R => tl σ H fun x H1 => ∃ a, x = .ref a ∧ (∃ xs, SqL K H1 a xs) ∧ R (Itl K a) H1
noncomputable def iTup (K : PySem.W.Frag) (tl : TE) : TI := fun σ H R => tl σ H fun x H1 => ∃ a, x = .ref a ∧ (∃ xs, SqT K H1 a xs) ∧ R (Itt K a) H1
theorem pi_list {l : Expr} {tl : TE} (hl : PE X l tl) : PI X tg l (iList X.K tl) := by
  intro pins s σ H R I h
  refine thn (hl pins s σ H _ I h) fun v s1 ⟨x, H1, I1, r1, q1⟩ => ?_
  obtain ⟨a, e, ⟨xs, hq⟩, q⟩ := q1
  subst e
  cases r1
  obtain ⟨its, rv, p, hz⟩ := I1.list hq
  refine wpAny_pyIter_list p.isList ?_
  refine ⟨s1.heap.objs.size, [s1.heap.objs.size], _, _, H1, rfl, I1.kept (t' := s1.toks) fun b o e => Heap.get?_push_of_some _ e, turn_list a _, ⟨_, Heap.get?_push_size _ rfl, rfl, rfl⟩, fun b hb => ?_, q⟩
  have e : b = s1.heap.objs.size := by simpa using hb
  subst e
  exact I1.fpOk (Nat.le_refl _) (I1.hok.fresh (Nat.le_refl _))
theorem pi_tup {l : Expr} {tl : TE} (hl : PE X l tl) : PI X tg l (iTup X.K tl) := by
  intro pins s σ H R I h
  refine thn (hl pins s σ H _ I h) fun v s1 ⟨x, H1, I1, r1, q1⟩ => ?_
  obtain ⟨a, e, ⟨xs, hq⟩, q⟩ := q1
  subst e
  cases r1
  obtain ⟨its, rv, p, hz⟩ := I1.tuple hq
  refine wpAny_pyIter_tuple (show s1.heap.IsTuple a its.toArray from p) ?_
  refine ⟨s1.heap.objs.size, [s1.heap.objs.size], _, _, H1, rfl, I1.kept (t' := s1.toks) fun b o e => Heap.get?_push_of_some _ e, turn_tuple a _, ⟨_, Heap.get?_push_size _ rfl, rfl, rfl⟩, fun b hb => ?_, q⟩
  have e : b = s1.heap.objs.size := by simpa using hb
  subst e
  exact I1.fpOk (Nat.le_refl _) (I1.hok.fresh (Nat.le_refl _))
theorem range_it {pins : List (Addr × Obj)} {σ : St} {H : Hp} {s : Shared} {R : It → Hp → Prop} {E : Value → Shared → Prop} {lo hi : Int} {t u v : Tok} {tk : Nat} (I : Inv X pins σ H s) (h1 : -(2 ^ 62) ≤ lo) (h2 : lo < 2 ^ 62) (h3 : -(2 ^ 62) ≤ hi) (h4 : hi < 2 ^ 62)
    (q : R (Itr lo (hi - lo).toNat) H) : wpAny (model X.prog X.w) X.A (pyIter (.ref s.heap.objs.size)) (PIE X pins σ tg R) E { s with heap := s.heap.push { cls := .type "range", data := .fields #[.int lo t, .int hi u, .int 1 v] }, toks := tk } := by
  refine wpAny_pyIter_range (IsRange.new ..) (small_one h1 h2 h3 h4) ?_
  have I1 : Inv X pins σ H { s with heap := s.heap.push { cls := .type "range", data := .fields #[.int lo t, .int hi u, .int 1 v] }, toks := tk } := I.kept fun b o e => Heap.get?_push_of_some _ e
  refine ⟨(s.heap.push { cls := .type "range", data := .fields #[.int lo t, .int hi u, .int 1 v] }).objs.size, [(s.heap.push { cls := .type "range", data := .fields #[.int lo t, .int hi u, .int 1 v] }).objs.size], _, _, H, rfl,
    I1.kept (t' := tk) fun b o e => Heap.get?_push_of_some _ e, turn_range _ lo (hi - lo).toNat, ?_, fun b hb => ?_, q⟩
  · have e1 : lo + ((0 : Nat) : Int) * 1 = lo := by simp
    have e2 : (((hi - lo).toNat : Nat) : Int) - ((0 : Nat) : Int) = Builtin.Range.rangeSize lo hi 1 := by rw [rangeSize_one]; split <;> omega
    show IsRangeIter _ _ (lo + ((0 : Nat) : Int) * 1) ((((hi - lo).toNat : Nat) : Int) - ((0 : Nat) : Int)) 1
    rw [e1, e2]
    exact Heap.get?_push_size _ rfl
  · have e : b = (s.heap.push { cls := .type "range", data := .fields #[.int lo t, .int hi u, .int 1 v] }).objs.size := by simpa using hb
    subst e
    exact I1.fpOk (Nat.le_refl _) (I1.hok.fresh (Nat.le_refl _))
noncomputable def iRng1 (ta : TA) : TI := fun σ H R => ta σ H fun vs H1 => ∃ j : Int, vs = [.int j] ∧ -(2 ^ 62) ≤ j ∧ j < 2 ^ 62 ∧ R (Itr 0 j.toNat) H1
noncomputable def iRng2 (ta : TA) : TI := fun σ H R => ta σ H fun vs H1 => ∃ i j : Int, vs = [.int i, .int j] ∧ (-(2 ^ 62) ≤ i ∧ i < 2 ^ 62 ∧ -(2 ^ 62) ≤ j ∧ j < 2 ^ 62) ∧ R (Itr i (j - i).toNat) H1
theorem pi_range1 {a : Expr} {ta : TA} {p pos : Pos} (hg : Gl X "range") (hm : X.mg "range" = none) (ha : PA X [a] ta) (hs : starEach [a] X.env = [(false, eval a X.env)] := by rfl) : PI X tg (.Call (.Name "range" p) [a] [] pos) (iRng1 ta) := by
  intro pins s σ H R I h
  refine Call_ (ld_blt I hg hm boot_range (PyProof.Rows.callWith_type1 (thn (ha pos pins s σ H _ I h) fun us s1 ⟨vs, H1, I1, r1, q1⟩ => ?_) hs rfl))
  obtain ⟨j, e, q1, q2, q⟩ := q1
  subst e
  cases r1 with
  | cons r rr =>
    cases rr
    obtain ⟨t, rfl⟩ := r
    exact call_range_1 (range_it I1 (by omega) (by omega) q1 q2 (by simpa using q))
/-! ### for -/
noncomputable def tFor (wi : TI) (g : TG) (tb : TS) : TS := fun D σ H => wi σ H fun J H1 => ∃ W : Nat → Nat → St → Hp → Prop, (∃ m, W 0 m σ H1) ∧ ∀ i m σ H, W i m σ H →
  (J.stop i H ∧ D.nx σ H) ∨ (J.go i H ∧ ∃ N : St → Hp → Prop, (∀ σ' H', N σ' H' → ∃ m', m' < m ∧ W (i + 1) m' σ' H') ∧ ∀ x H', J.yld i H x H' → g x σ H' fun σ2 H2 => tb { D with nx := N, ct := N, bk := D.nx } σ2 H2)
noncomputable def pinsAt (fp : List Addr) (h : Heap) : List (Addr × Obj) := fp.filterMap fun b => (h.get? b).map fun o => (b, o)
theorem mem_pinsAt {fp : List Addr} {h : Heap} {b : Addr} {o : Obj} (hb : b ∈ fp) (e : h.get? b = some o) : (b, o) ∈ pinsAt fp h := List.mem_filterMap.mpr ⟨b, hb, by rw [e]; rfl⟩
theorem of_pinsAt {fp : List Addr} {h : Heap} {p : Addr × Obj} (hp : p ∈ pinsAt fp h) : p.1 ∈ fp ∧ h.get? p.1 = some p.2 := by
  obtain ⟨b, hb, e⟩ := List.mem_filterMap.mp hp
  cases q : h.get? b with
  | none => rw [q] at e; cases e
  | some o =>
    rw [q] at e
    have e' : (b, o) = p := Option.some.inj e
    subst e'
    exact ⟨hb, q⟩
theorem Inv.pinned {pins : List (Addr × Obj)} {σ : St} {H : Hp} {s : Shared} {fp : List Addr} (I : Inv X pins σ H s) (hf : ∀ b ∈ fp, FpOk X pins H b) (ho : ∀ b ∈ fp, ∃ o, s.heap.get? b = some o ∧ ∀ v, o.data ≠ .cell v) : Inv X (pins ++ pinsAt fp s.heap) σ H s :=
  I.pins_of fun p hp => (List.mem_append.mp hp).elim (fun z => I.pin p (List.mem_append_right _ z)) fun z => by
    obtain ⟨hb, e⟩ := of_pinsAt z
    obtain ⟨f0, f1, f2, _⟩ := hf p.1 hb
    obtain ⟨o, e', d⟩ := ho p.1 hb
    rw [e] at e'; cases e'
    exact ⟨e, f0, f1, f2, d⟩
theorem Inv.unpinned {pins pl : List (Addr × Obj)} {σ : St} {H : Hp} {s : Shared} (I : Inv X (pins ++ pl) σ H s) : Inv X pins σ H s := I.pins_of fun p hp => I.pin p (List.mem_append_right _ (List.mem_append_left _ hp))
theorem ps_for {iter : Expr} {body : List Stmt} {wi : TI} {g : TG} {tb : TS} {pos : Pos} (hp : PassesOwn (model X.prog X.w) X.A X.env X.xe) (hc : X.calm = true) (hi : PI X tg iter wi) (hg : PG X tg g) (hb : PSs X body tb)
    (hs : ∀ x, foldedSetIterable iter X.env x = pure x := by intro _; rfl) : PS X (.For tg iter body [] pos) (tFor wi g tb) := by
  intro pins s σ H D I h
  refine wpAny_For (thn (hi pins s σ H _ I h) fun v s1 h1 => thn h1 fun itv s2 h2 => ?_) hs
  obtain ⟨it, fp, tn, J, H2, e, I2, T, st2, f2, W, ⟨m0, w0⟩, turn⟩ := h2
  subst e
  -- what stays true of the iterator's objects through the loop
  have stat : ∀ {H' : Hp}, (∀ b ∈ fp, H' b = none) → ∀ b ∈ fp, FpOk X pins H' b := fun hn b hb => ⟨hn b hb, (f2 b hb).2⟩
  refine codeAny_forLoop_any (fun n s' => ∃ i σ' H', Inv X pins σ' H' s' ∧ tn i s'.heap ∧ (∀ b ∈ fp, H' b = none) ∧ W i n σ' H') ?_ m0 ⟨0, σ, H2, I2, st2, fun b hb => (f2 b hb).1, w0⟩
  rintro n s3 ⟨i, σ3, H3, I3, st3, fr3, w3⟩
  rcases turn i n σ3 H3 w3 with ⟨stop, qn⟩ | ⟨go, N, hN, step⟩
  · refine wpAny_passesOwn hp (thn (T.done X rfl rfl rfl hc i pins s3 σ3 H3 X.xe I3 (stat fr3) st3 stop) fun r s4 ⟨hr, I4⟩ => ?_)
    subst hr
    exact wpAny_execs_nil ⟨σ3, H3, I4, qn⟩
  · refine wpAny_passesOwn hp (thn (T.item X rfl rfl rfl hc i pins s3 σ3 H3 X.xe I3 (stat fr3) st3 go) fun r s4 ⟨u, hr, h4⟩ => ?_)
    subst hr
    refine wpAny_passesOwn hp (thn h4 fun _ s5 ⟨x, H5, I5, r5, y5, st5, fr5⟩ => ?_)
    have I5' := I5.pinned (stat fr5) (T.obj _ _ st5)
    refine wpAny_passesOwn hp (thn (hg _ s5 σ3 H5 x u _ I5' r5 (step x H5 y5)) fun _ s6 ⟨σ6, H6, I6, q6⟩ => ?_)
    refine wpAny_passesOwn hp (thn (hb _ s6 σ6 H6 _ I6 q6) fun f s7 q7 => ?_)
    have again : ∀ {σ7 : St} {H7 : Hp}, Inv X (pins ++ pinsAt fp s5.heap) σ7 H7 s7 → N σ7 H7 → ∃ m, m < n ∧ ∃ i σ' H', Inv X pins σ' H' s7 ∧ tn i s7.heap ∧ (∀ b ∈ fp, H' b = none) ∧ W i m σ' H' := fun {σ7 H7} I7 n7 => by
      obtain ⟨m', hm, w7⟩ := hN σ7 H7 n7
      refine ⟨m', hm, i + 1, σ7, H7, I7.unpinned, T.keep _ _ _ st5 fun b hb o e => (I7.pin (b, o) (List.mem_append_right _ (List.mem_append_right _ (mem_pinsAt hb e)))).1, fun b hb => ?_, w7⟩
      obtain ⟨o, e, d⟩ := T.obj _ _ st5 b hb
      exact (I7.pin (b, o) (List.mem_append_right _ (List.mem_append_right _ (mem_pinsAt hb e)))).2.1
    cases f with
    | next => obtain ⟨σ7, H7, I7, n7⟩ := q7; exact again I7 n7
    | cont => obtain ⟨σ7, H7, I7, n7⟩ := q7; exact again I7 n7
    | brk => obtain ⟨σ7, H7, I7, q7⟩ := q7; exact ⟨σ7, H7, I7.unpinned, q7⟩
    | ret v => obtain ⟨x7, σ7, H7, I7, r7, q7⟩ := q7; exact ⟨x7, σ7, H7, I7.unpinned, r7, q7⟩
end

/-! ### the forms one uses -/
theorem for_list {K : PySem.W.Frag} {a : Addr} {xs : List V} {g : TG} {tb : TS} {D : Ends} {σ : St} {H : Hp} (Pv : Nat → St → Hp → Prop) (h0 : Pv 0 σ H) (hl : ∀ i σ H, i ≤ xs.length → Pv i σ H → SqL K H a xs)
    (hs : ∀ i x σ H, xs[i]? = some x → Pv i σ H → g x σ H fun σ2 H2 => tb { D with nx := Pv (i + 1), ct := Pv (i + 1), bk := D.nx } σ2 H2) (hd : ∀ σ H, Pv xs.length σ H → D.nx σ H) :
    ∃ W : Nat → Nat → St → Hp → Prop, (∃ m, W 0 m σ H) ∧ ∀ i m σ H, W i m σ H →
      ((Itl K a).stop i H ∧ D.nx σ H) ∨ ((Itl K a).go i H ∧ ∃ N : St → Hp → Prop, (∀ σ' H', N σ' H' → ∃ m', m' < m ∧ W (i + 1) m' σ' H') ∧ ∀ x H', (Itl K a).yld i H x H' → g x σ H' fun σ2 H2 => tb { D with nx := N, ct := N, bk := D.nx } σ2 H2) := by
  refine ⟨fun i m σ H => m = xs.length - i ∧ i ≤ xs.length ∧ Pv i σ H, ⟨xs.length, by simp, Nat.zero_le _, h0⟩, ?_⟩
  rintro i m σ H ⟨rfl, hi, p⟩
  have q := hl i σ H hi p
  by_cases hlt : i < xs.length
  · refine .inr ⟨⟨xs, xs[i], q, by simp [hlt]⟩, Pv (i + 1), fun σ' H' p' => ⟨xs.length - (i + 1), by omega, rfl, hlt, p'⟩, fun x H' y => ?_⟩
    obtain ⟨e, y⟩ := y
    subst e
    exact hs i x σ _ (y xs q) p
  · have e : i = xs.length := by omega
    subst e
    exact .inl ⟨⟨xs, q, Nat.le_refl _⟩, hd σ H p⟩
theorem for_tup {K : PySem.W.Frag} {a : Addr} {xs : List V} {g : TG} {tb : TS} {D : Ends} {σ : St} {H : Hp} (Pv : Nat → St → Hp → Prop) (h0 : Pv 0 σ H) (hl : ∀ i σ H, i ≤ xs.length → Pv i σ H → SqT K H a xs)
    (hs : ∀ i x σ H, xs[i]? = some x → Pv i σ H → g x σ H fun σ2 H2 => tb { D with nx := Pv (i + 1), ct := Pv (i + 1), bk := D.nx } σ2 H2) (hd : ∀ σ H, Pv xs.length σ H → D.nx σ H) :
    ∃ W : Nat → Nat → St → Hp → Prop, (∃ m, W 0 m σ H) ∧ ∀ i m σ H, W i m σ H →
      ((Itt K a).stop i H ∧ D.nx σ H) ∨ ((Itt K a).go i H ∧ ∃ N : St → Hp → Prop, (∀ σ' H', N σ' H' → ∃ m', m' < m ∧ W (i + 1) m' σ' H') ∧ ∀ x H', (Itt K a).yld i H x H' → g x σ H' fun σ2 H2 => tb { D with nx := N, ct := N, bk := D.nx } σ2 H2) := by
  refine ⟨fun i m σ H => m = xs.length - i ∧ i ≤ xs.length ∧ Pv i σ H, ⟨xs.length, by simp, Nat.zero_le _, h0⟩, ?_⟩
  rintro i m σ H ⟨rfl, hi, p⟩
  have q := hl i σ H hi p
  by_cases hlt : i < xs.length
  · refine .inr ⟨⟨xs, xs[i], q, by simp [hlt]⟩, Pv (i + 1), fun σ' H' p' => ⟨xs.length - (i + 1), by omega, rfl, hlt, p'⟩, fun x H' y => ?_⟩
    obtain ⟨e, y⟩ := y
    subst e
    exact hs i x σ _ (y xs q) p
  · have e : i = xs.length := by omega
    subst e
    exact .inl ⟨⟨xs, q, Nat.le_refl _⟩, hd σ H p⟩
theorem for_range {lo : Int} {n : Nat} {g : TG} {tb : TS} {D : Ends} {σ : St} {H : Hp} (Pv : Nat → St → Hp → Prop) (h0 : Pv 0 σ H)
    (hs : ∀ i σ H, i < n → Pv i σ H → g (.int (lo + i)) σ H fun σ2 H2 => tb { D with nx := Pv (i + 1), ct := Pv (i + 1), bk := D.nx } σ2 H2) (hd : ∀ σ H, Pv n σ H → D.nx σ H) :
    ∃ W : Nat → Nat → St → Hp → Prop, (∃ m, W 0 m σ H) ∧ ∀ i m σ H, W i m σ H →
      ((Itr lo n).stop i H ∧ D.nx σ H) ∨ ((Itr lo n).go i H ∧ ∃ N : St → Hp → Prop, (∀ σ' H', N σ' H' → ∃ m', m' < m ∧ W (i + 1) m' σ' H') ∧ ∀ x H', (Itr lo n).yld i H x H' → g x σ H' fun σ2 H2 => tb { D with nx := N, ct := N, bk := D.nx } σ2 H2) := by
  refine ⟨fun i m σ H => m = n - i ∧ i ≤ n ∧ Pv i σ H, ⟨n, by simp, Nat.zero_le _, h0⟩, ?_⟩
  rintro i m σ H ⟨rfl, hi, p⟩
  by_cases hlt : i < n
  · refine .inr ⟨hlt, Pv (i + 1), fun σ' H' p' => ⟨n - (i + 1), by omega, rfl, hlt, p'⟩, fun x H' y => ?_⟩
    obtain ⟨e, y⟩ := y
    subst e y
    exact hs i σ _ hlt p
  · have e : i = n := by omega
    subst e
    exact .inl ⟨Nat.le_refl _, hd σ H p⟩
end L2

namespace L2
open PySem PySem.Spec PyProof.Rows

noncomputable abbrev R2 := V → V → Hp → VK → Prop
noncomputable def OpR (X : Cx) (f : Value → Value → Sem Value) (r : R2) : Prop :=
  ∀ (pins : List (Addr × Obj)) (s : Shared) (σ : St) (H : Hp) (x y : V) (v u : Value) (Q : VK), Inv X pins σ H s → RelV x v → RelV y u → r x y H Q →
    wpAny (model X.prog X.w) X.A (f v u) (EP X pins σ Q) X.xe s
noncomputable def UnR (X : Cx) (f : Value → Sem Value) (r : V → Hp → VK → Prop) : Prop :=
  ∀ (pins : List (Addr × Obj)) (s : Shared) (σ : St) (H : Hp) (x : V) (v : Value) (Q : VK), Inv X pins σ H s → RelV x v → r x H Q →
    wpAny (model X.prog X.w) X.A (f v) (EP X pins σ Q) X.xe s
noncomputable def CallR (X : Cx) (f : Value) (r : List V → Hp → VK → Prop) : Prop :=
  ∀ (pins : List (Addr × Obj)) (s : Shared) (σ : St) (H : Hp) (xs : List V) (us : List Value) (Q : VK), Inv X pins σ H s → Vals xs us → r xs H Q →
    wpAny (model X.prog X.w) X.A (call f us) (EP X pins σ Q) X.xe s
noncomputable def tOp (r : R2) (ta tb : TE) : TE := fun σ H Q => ta σ H fun x H1 => tb σ H1 fun y H2 => r x y H2 Q
noncomputable def tUn (r : V → Hp → VK → Prop) (ta : TE) : TE := fun σ H Q => ta σ H fun x H1 => r x H1 Q
noncomputable def rI (C : Int → Int → Prop) (g : Int → Int → V) : R2 := fun x y H Q => ∃ i j, x = .int i ∧ y = .int j ∧ C i j ∧ Q (g i j) H
noncomputable def rI0 (g : Int → Int → V) : R2 := fun x y H Q => ∃ i j, x = .int i ∧ y = .int j ∧ Q (g i j) H
noncomputable def rU (g : Int → V) : V → Hp → VK → Prop := fun x H Q => ∃ i, x = .int i ∧ Q (g i) H

section
variable {X : Cx} {a b c : Expr} {ta tb tc : TE} {pos : Pos}

theorem binT (ha : PE X a ta) (hb : PE X b tb) {pins : List (Addr × Obj)} {s : Shared} {σ : St} {H : Hp} {R : V → V → Hp → Prop} (I : Inv X pins σ H s)
    (h : ta σ H fun x H1 => tb σ H1 fun y H2 => R x y H2) {Q : Value → Shared → Prop} {f : Value → Value → Sem Value}
    (hf : ∀ v u s2 x y H2, Inv X pins σ H2 s2 → RelV x v → RelV y u → R x y H2 → wpAny (model X.prog X.w) X.A (f v u) Q X.xe s2) :
    wpAny (model X.prog X.w) X.A (eval a X.env) (fun v s₁ => wpAny (model X.prog X.w) X.A (eval b X.env) (fun u s₂ => wpAny (model X.prog X.w) X.A (f v u) Q X.xe s₂) X.xe s₁) X.xe s := by
  refine thn (ha pins s σ H _ I h) fun v s1 ⟨x, H1, I1, r1, q1⟩ => ?_
  refine thn (hb pins s1 σ H1 _ I1 q1) fun u s2 ⟨y, H2, I2, r2, q2⟩ => ?_
  exact hf v u s2 x y H2 I2 r1 r2 q2

theorem pe_op {op : Operator} {r : R2} (ho : OpR X (binaryOp op) r) (ha : PE X a ta) (hb : PE X b tb) : PE X (.BinOp a op b pos) (tOp r ta tb) := by
  intro pins s σ H Q I h
  exact wpAny_BinOp (binT ha hb I h fun v u s2 x y H2 I2 rx ry q => ho pins s2 σ H2 x y v u Q I2 rx ry q)
/-! ### ints -/
theorem opI {f : Value → Value → Sem Value} {C : Int → Int → Prop} {g : Int → Int → Int}
    (rule : ∀ (i j : Int) (t u : Tok) (s : Shared) (Q : Value → Shared → Prop) (E : Value → Shared → Prop), C i j → Q (.int (g i j) s.toks) { s with toks := s.toks + 1 } → wpAny (model X.prog X.w) X.A (f (.int i t) (.int j u)) Q E s) :
    OpR X f (rI C fun i j => .int (g i j)) := by
  intro pins s σ H x y v u Q I rx ry h
  obtain ⟨i, j, rfl, rfl, hc, q⟩ := h
  obtain ⟨t, rfl⟩ := rx
  obtain ⟨t', rfl⟩ := ry
  exact rule i j t t' s _ _ hc ⟨.int (g i j), H, I.tok _, ⟨_, rfl⟩, q⟩
theorem opI0 {f : Value → Value → Sem Value} {g : Int → Int → Int}
    (rule : ∀ (i j : Int) (t u : Tok) (s : Shared) (Q : Value → Shared → Prop) (E : Value → Shared → Prop), Q (.int (g i j) s.toks) { s with toks := s.toks + 1 } → wpAny (model X.prog X.w) X.A (f (.int i t) (.int j u)) Q E s) :
    OpR X f (rI0 fun i j => .int (g i j)) := by
  intro pins s σ H x y v u Q I rx ry h
  obtain ⟨i, j, rfl, rfl, q⟩ := h
  obtain ⟨t, rfl⟩ := rx
  obtain ⟨t', rfl⟩ := ry
  exact rule i j t t' s _ _ ⟨.int (g i j), H, I.tok _, ⟨_, rfl⟩, q⟩
theorem opB0 {f : Value → Value → Sem Value} {g : Int → Int → Bool}
    (rule : ∀ (i j : Int) (t u : Tok) (s : Shared) (Q : Value → Shared → Prop) (E : Value → Shared → Prop), Q (.bool (g i j)) s → wpAny (model X.prog X.w) X.A (f (.int i t) (.int j u)) Q E s) :
    OpR X f (rI0 fun i j => .bl (g i j)) := by
  intro pins s σ H x y v u Q I rx ry h
  obtain ⟨i, j, rfl, rfl, q⟩ := h
  obtain ⟨t, rfl⟩ := rx
  obtain ⟨t', rfl⟩ := ry
  exact rule i j t t' s _ _ ⟨.bl (g i j), H, I, rfl, q⟩

noncomputable def CDiv (i j : Int) : Prop := 0 < j ∧ j < 1073741824
noncomputable def CMul (i j : Int) : Prop := (-(2 ^ 64) < i ∧ i < 2 ^ 64) ∨ (-(2 ^ 64) < j ∧ j < 2 ^ 64)
theorem CMul.ok {i j : Int} (h : CMul i j) : IntMulOk i j := by
  rcases h with ⟨h1, h2⟩ | ⟨h1, h2⟩
  · exact .of_left (intBits_le_64 h1 h2)
  · exact .of_right (intBits_le_64 h1 h2)
theorem op_add : OpR X (binaryOp .Add) (rI0 fun i j => .int (i + j)) := opI0 fun _ _ _ _ _ _ _ q => add_int q
theorem op_sub : OpR X (binaryOp .Sub) (rI0 fun i j => .int (i - j)) := opI0 fun _ _ _ _ _ _ _ q => sub_int q
theorem op_fdiv : OpR X (binaryOp .FloorDiv) (rI CDiv fun i j => .int (i / j)) := opI fun i j _ _ _ _ _ hc q => by
  have h1 : (0 : Int) < j := hc.1
  have h2 : j < 1073741824 := hc.2
  exact floordiv_int (by omega) (by rw [Int.fdiv_eq_ediv_of_nonneg i (by omega)]; exact q) (.inl (PyProof.noPylong_small (by omega)))
theorem op_mod : OpR X (binaryOp .Mod) (rI (fun _ j => 0 < j) fun i j => .int (i % j)) := opI fun i j _ _ _ _ _ hc q => by
  have h1 : (0 : Int) < j := hc
  exact mod_int' (by omega) (by rw [Int.fmod_eq_emod_of_nonneg i (by omega)]; exact q)
/-! ### bools among ints: n += (a < b) -/
end

/-! ### comparisons -/
noncomputable def scal : V → V → Bool
  | .non, .non => true | .non, .int _ => true | .int _, .non => true | .non, .bl _ => true | .bl _, .non => true | .non, .str _ => true | .str _, .non => true
  | .int _, .int _ => true | .bl _, .bl _ => true | .str _, .str _ => true | .byt _, .byt _ => true
  | .int _, .str _ => true | .str _, .int _ => true | .bl _, .str _ => true | .str _, .bl _ => true
  | _, _ => false
noncomputable def rEq : R2 := fun x y H Q => scal x y = true ∧ Q (.bl (decide (x = y))) H
noncomputable def rNe : R2 := fun x y H Q => scal x y = true ∧ Q (.bl (!decide (x = y))) H

theorem dec_int {i j : Int} : decide (V.int i = V.int j) = (i == j) := by
  rw [Bool.eq_iff_iff]
  simp
theorem dec_bl {i j : Bool} : decide (V.bl i = V.bl j) = (i == j) := by
  rw [Bool.eq_iff_iff]
  simp
theorem dec_str {i j : Str} : decide (V.str i = V.str j) = (i == j) := by
  rw [Bool.eq_iff_iff]
  simp
theorem dec_byt {i j : Array UInt8} : decide (V.byt i = V.byt j) = (i.toList == j.toList) := by
  rw [Bool.eq_iff_iff]
  cases i
  cases j
  simp

section
variable {X : Cx} {a b c : Expr} {ta tb tc : TE} {pos : Pos}
theorem fin_bl {pins : List (Addr × Obj)} {σ : St} {H : Hp} {s : Shared} {Q : VK} {k k' : Bool} (I : Inv X pins σ H s) (q : Q (.bl k) H) (e : k = k') : EP X pins σ Q (.bool k') s := by
  subst e
  exact ⟨.bl k, H, I, rfl, q⟩
theorem op_eq : OpR X (compareOp .Eq) rEq := by
  intro pins s σ H x y v u Q I rx ry h
  obtain ⟨hs, q⟩ := h
  cases x with
  | non =>
    cases rx
    cases y with
    | non => cases ry; exact PySem.EqNone.eq_none_none (fin_bl I q (by simp))
    | bl j => cases ry; exact PySem.EqNone.eq_none_bool (fin_bl I q (by simp))
    | int j => obtain ⟨t', rfl⟩ := ry; exact PySem.EqNone.eq_none_int (fin_bl I q (by simp))
    | str j => obtain ⟨t', rfl⟩ := ry; exact PySem.EqNone.eq_none_str (fin_bl I q (by simp))
    | _ => exact absurd (show false = true from hs) Bool.false_ne_true
  | bl i =>
    cases rx
    cases y with
    | non => cases ry; exact PySem.EqNone.eq_bool_none (fin_bl I q (by simp))
    | bl j => cases ry; exact eq_bool (fin_bl I q dec_bl)
    | str j => obtain ⟨t', rfl⟩ := ry; exact PySem.EqMixed.eq_bool_str (fin_bl I q (by simp))
    | _ => exact absurd (show false = true from hs) Bool.false_ne_true
  | int i =>
    obtain ⟨t, rfl⟩ := rx
    cases y with
    | non => cases ry; exact PySem.EqNone.eq_int_none (fin_bl I q (by simp))
    | int j => obtain ⟨t', rfl⟩ := ry; exact eq_int (fin_bl I q dec_int)
    | str j => obtain ⟨t', rfl⟩ := ry; exact PySem.EqMixed.eq_int_str (fin_bl I q (by simp))
    | _ => exact absurd (show false = true from hs) Bool.false_ne_true
  | str i =>
    obtain ⟨t, rfl⟩ := rx
    cases y with
    | non => cases ry; exact PySem.EqNone.eq_str_none (fin_bl I q (by simp))
    | bl j => cases ry; exact PySem.EqMixed.eq_str_bool (fin_bl I q (by simp))
    | int j => obtain ⟨t', rfl⟩ := ry; exact PySem.EqMixed.eq_str_int (fin_bl I q (by simp))
    | str j => obtain ⟨t', rfl⟩ := ry; exact eq_str (fin_bl I q dec_str)
    | _ => exact absurd (show false = true from hs) Bool.false_ne_true
  | byt i =>
    obtain ⟨t, rfl⟩ := rx
    cases y with
    | byt j => obtain ⟨t', rfl⟩ := ry; exact PySem.W.eq_bytes (fin_bl I q dec_byt)
    | _ => exact absurd (show false = true from hs) Bool.false_ne_true
  | _ => cases y <;> exact absurd (show false = true from hs) Bool.false_ne_true
theorem op_lt : OpR X (compareOp .Lt) (rI0 fun i j => .bl (decide (i < j))) := opB0 fun _ _ _ _ _ _ _ q => lt_int q
theorem op_le : OpR X (compareOp .LtE) (rI0 fun i j => .bl (decide (i ≤ j))) := opB0 fun _ _ _ _ _ _ _ q => le_int q
theorem op_gt : OpR X (compareOp .Gt) (rI0 fun i j => .bl (decide (j < i))) := opB0 fun _ _ _ _ _ _ _ q => gt_int q
theorem OpR.or {f : Value → Value → Sem Value} {r r' : R2} (h : OpR X f r) (h' : OpR X f r') : OpR X f (fun x y H Q => r x y H Q ∨ r' x y H Q) := by
  intro pins s σ H x y v u Q I rx ry q
  rcases q with q | q
  · exact h pins s σ H x y v u Q I rx ry q
  · exact h' pins s σ H x y v u Q I rx ry q

theorem nomark (b : Expr) {op : CmpOp} (h : op ≠ .In := by decide) (h2 : op ≠ .NotIn := by decide) : behindInMarks op b = false := by
  have e1 : (op == CmpOp.In) = false := by cases op <;> first | rfl | exact absurd rfl h
  have e2 : (op == CmpOp.NotIn) = false := by cases op <;> first | rfl | exact absurd rfl h2
  cases b <;> simp [behindInMarks, e1, e2]
theorem pe_cmpR {op : CmpOp} {r : R2} (ho : OpR X (compareOp op) r) (ha : PE X a ta) (hb : PE X b tb) (hm : behindInMarks op b = false) : PE X (.Compare a [op] [b] pos) (tOp r ta tb) := by
  intro pins s σ H Q I h
  exact wpAny_Compare1 (binT ha hb I h fun v u s2 x y H2 I2 rx ry q => ho pins s2 σ H2 x y v u Q I2 rx ry q) hm
noncomputable def tTest (t : TE) : TT := fun σ H Q => t σ H fun x H' => ∃ k, x = .bl k ∧ Q k H'
theorem pt_cmpR {op : CmpOp} {r : R2} (ho : OpR X (compareOp op) r) (ha : PE X a ta) (hb : PE X b tb) (hm : behindInMarks op b = false) : PT X (.Compare a [op] [b] pos) (tTest (tOp r ta tb)) := by
  intro pins s σ H Q I h
  refine wpAny_isTrue_Compare1 (thn (ha pins s σ H _ I h) fun v s1 ⟨x, H1, I1, r1, q1⟩ => thn (hb pins s1 σ H1 _ I1 q1) fun u s2 ⟨y, H2, I2, r2, q2⟩ =>
    thn (ho pins s2 σ H2 x y v u _ I2 r1 r2 q2) fun c s3 ⟨z, H3, I3, r3, k, e, q3⟩ => ?_) hm
  subst e
  cases r3
  exact wpAny_truthy_bool ⟨H3, I3, q3⟩
noncomputable def tChain (r r' : R2) (ta tb tc : TE) : TE := fun σ H Q => ta σ H fun x H1 => tb σ H1 fun y H2 => r x y H2 fun z H3 => ∃ k, z = .bl k ∧
  (if k = true then tc σ H3 fun w' H4 => r' y w' H4 Q else Q (.bl false) H3)
theorem pe_chain {op op' : CmpOp} {r r' : R2} (ho : OpR X (compareOp op) r) (ho' : OpR X (compareOp op') r') (ha : PE X a ta) (hb : PE X b tb) (hc : PE X c tc)
    (hm : lastMarks [op, op'] [b, c] = false := by with_unfolding_all rfl) : PE X (.Compare a [op, op'] [b, c] pos) (tChain r r' ta tb tc) := by
  intro pins s σ H Q I h
  refine Compare_chain (thn (ha pins s σ H _ I h) fun v s1 ⟨x, H1, I1, r1, q1⟩ => chain_link (thn (hb pins s1 σ H1 _ I1 q1) fun u s2 ⟨y, H2, I2, r2, q2⟩ =>
    thn (ho pins s2 σ H2 x y v u _ I2 r1 r2 q2) fun d s3 ⟨z, H3, I3, r3, k, e, q3⟩ => ?_)) hm
  subst e
  cases r3
  refine wpAny_truthy_bool ?_
  cases k with
  | false => exact ite_ff ⟨.bl false, H3, I3, rfl, q3⟩
  | true => exact ite_tt (chain_last (thn (hc pins s3 σ H3 _ I3 q3) fun w' s4 ⟨z', H4, I4, r4, q4⟩ => ho' pins s4 σ H4 y z' u w' Q I4 r2 r4 q4))
/-! ### truth -/
theorem line63 : (sizeLine : Nat) < 2 ^ 63 := by rw [sizeLine_eq]; decide
/-! ### strs and bytes -/
/-! ### scalar builtins, by CallR -/
theorem vals1 {x : V} {us : List Value} (r : Vals [x] us) : ∃ u, us = [u] ∧ RelV x u := by
  cases r with
  | cons r1 r2 => cases r2; exact ⟨_, rfl, r1⟩
theorem vals2 {x y : V} {us : List Value} (r : Vals [x, y] us) : ∃ u w', us = [u, w'] ∧ RelV x u ∧ RelV y w' := by
  cases r with
  | cons r1 r2 =>
    cases r2 with
    | cons r3 r4 => cases r4; exact ⟨_, _, rfl, r1, r3⟩
theorem call_min2 (hc : X.calm = true) : CallR X (.builtin "min") (fun xs H Q => ∃ i j, xs = [.int i, .int j] ∧ Q (.int (if j < i then j else i)) H) := by
  intro pins s σ H xs us Q I r h
  obtain ⟨i, j, rfl, q⟩ := h
  obtain ⟨u, w', rfl, ⟨t, rfl⟩, ⟨t', rfl⟩⟩ := vals2 r
  refine min_two_ints (I.ok.hd hc) fun h' tk k => ⟨_, H, I.kept k, ?_, q⟩
  by_cases hj : j < i
  · rw [if_pos hj, if_pos hj]; exact ⟨_, rfl⟩
  · rw [if_neg hj, if_neg hj]; exact ⟨_, rfl⟩
end
end L2

namespace L2
open PySem PySem.Spec PyProof.Rows

/-! ### an instance, its attributes a map -/
structure ObjM (h : Heap) (x dx C : Addr) (mA : Str → Option Value) : Prop where
  obj : h.get? x = some (PySem.W.instObj C dx)
  ns : h.Ns1 dx mA
  ne : dx ≠ x

theorem lookIn_ns {h : Heap} {dx : Addr} {mA : Str → Option Value} (n : h.Ns1 dx mA) : ∃ od, h.get? dx = some od ∧ ∀ name, PySem.W.lookIn name od = some (mA name) := by
  obtain ⟨o, es, ep, ho, hd, hk, _, hm⟩ := n
  refine ⟨o, ho, fun name => ?_⟩
  have e := hm name
  unfold nsFind findBy at e
  rw [← Array.find?_toList] at e
  unfold PySem.W.lookIn
  rw [hd]
  dsimp only
  split
  · rename_i y q
    rw [q] at e
    exact congrArg some e
  · rename_i q
    rw [q] at e
    have a : es.toList.any (·.refKey) = false := by
      rw [List.any_eq_false]
      intro y hy
      obtain ⟨z, t, hkey⟩ := hk y (Array.mem_toList_iff.mp hy)
      simp [DictEntry.refKey, hkey]
    have a' : ¬ es.toList.any (·.refKey) = true := by rw [a]; exact Bool.false_ne_true
    rw [if_neg a']
    exact congrArg some e

theorem ObjM.look {h : Heap} {x dx C : Addr} {mA : Str → Option Value} (I : ObjM h x dx C mA) : ∃ od, PySem.W.InstAt h x (PySem.W.instObj C dx) C (some od) ∧ ∀ name, PySem.W.lookIn name od = some (mA name) :=
  let ⟨od, ho, hl⟩ := lookIn_ns I.ns
  ⟨od, ⟨I.obj, rfl, rfl, ho⟩, hl⟩

section
variable {prog : Program} {w : World} {A : Around} {E : Value → Shared → Prop} {s : Shared} {K : PySem.W.Frag} {x dx C f : Addr} {mA : Str → Option Value} {name : Str} {v : Value}

theorem get_map {expr : Bool} {Q : Value → Shared → Prop} (X : K.In s.heap) (I : ObjM s.heap x dx C mA) (hg : PySem.W.plainGet K C name = true) (hh : PySem.W.hasDictIn K C = true)
    (ha : PySem.W.findIn K (.ref C) name = some none) (hv : mA name = some v) (hv' : PySem.W.handedIn v = true) (h : Q v { s with toks := s.toks + 1 }) :
    wpAny (model prog w) A (getAttr (.ref x) name expr) Q E s := by
  obtain ⟨od, J, hl⟩ := I.look
  exact PySem.W.get_value X J (PySem.W.plainGet_of hg).1 (PySem.W.findObj_own hh ha rfl (by rw [hl, hv])) hv' h

theorem get_meth {pl : Sem Bool} {Q : Value × List Value → Shared → Prop} (X : K.In s.heap) (I : ObjM s.heap x dx C mA) (hg : PySem.W.plainGet K C name = true)
    (hf : PySem.W.findIn K (.ref C) name = some (some (.ref f))) (ht : PySem.W.isFn K (.ref f) = true) (hv : mA name = none) (h : Q (.ref f, [.ref x]) s) :
    wpAny (model prog w) A (getMethod (.ref x) name pl) Q E s := by
  obtain ⟨od, J, hl⟩ := I.look
  exact PySem.W.method_fn X J (PySem.W.plainGet_of hg).1 (PySem.W.plainGet_of hg).2 hf (beq_iff_eq.mp ht) (by show (PySem.W.lookIn name od).map (·.isSome) = some false; rw [hl, hv]; rfl) h

theorem set_map {ns : List Str} {Q : Unit → Shared → Prop} (X : K.In s.heap) (I : ObjM s.heap x dx C mA)
    (hs : PySem.W.findIn K (.ref C) "__setattr__" = some (some (.builtin "object.__setattr__"))) (hp : PySem.W.plainOver K C = true) (ht : PySem.W.takerIn K C name = some none) (hh : PySem.W.hasDictIn K C = true)
    (hw : PySem.Within mA ns) (hsz : ns.length ≤ sizeLine)
    (h : ∀ h', ObjM h' x dx C (fun y => if y = name then some v else mA y) → Heap.SameBut dx s.heap h' → Q () { s with heap := h', toks := s.toks + 2 }) :
    wpAny (model prog w) A (setAttr (.ref x) name v) Q E s := by
  obtain ⟨od, J, hl⟩ := I.look
  refine PySem.W.set_plain X J hs (PySem.W.osa_open (s := { s with toks := s.toks + 1 }) (r := none) X J hp ht fun b => ?_)
  obtain ⟨cd, hc, hd'⟩ := PySem.W.any_some hh
  have hx : s.heap.get? x = some ⟨.ref C, some dx, .plain, #[]⟩ := I.obj
  refine wpAny_bind (wpAny_pure (wpAny_bind (wpAny_bind (wpAny_loadPart hx (wpAny_bind (PySem.W.Looks.here (s := { s with toks := s.toks + 1 }) (PySem.W.looks_clsIn X hc) ?_))))))
  rw [hd']
  refine wpAny_pure (a := some dx) (wpAny_bind (wpAny_pure (wpAny_bind ?_)))
  refine wpAny_nsSet1 (s := { s with toks := s.toks + 1 }) I.ns fun h' hn2 hs2 => ?_
  obtain ⟨oD, esD, epD, hoD, hdD, hcD⟩ := hn2.count (PySem.Within.cons name v hw)
  refine wpAny_bind (wpAny_lookBehind hoD (by rw [hdD]; exact pastItsLine_dict (Nat.le_trans hcD (by rw [List.length_cons]; omega))) ?_)
  exact wpAny_pure (h _ ⟨(hs2.2 _ (Ne.symm I.ne)).trans I.obj, hn2, I.ne⟩ hs2)

theorem make_map {R : Result → Shared → Prop} {vs : List Value} {kw : List (Str × Value)} (X : K.In s.heap) (hm : PySem.W.makesIn K C = true)
    (hi : PySem.W.findIn K (.ref C) "__init__" = some (some (.ref f))) (hf : PySem.W.typeIn K (.ref f) = some (.type "function"))
    (h : codeAny (model prog w) (A.under (.builtin "type.__call__" ⟨.ref C :: vs, kw⟩)) (.call (.ref f) ⟨.ref (s.heap.objs.size + 1) :: vs, kw⟩) (PySem.W.InitBack (s.heap.objs.size + 1) R)
      { s with heap := (s.heap.push PySem.W.emptyDict).push (PySem.W.instObj C s.heap.objs.size) }) :
    codeAny (model prog w) A (.call (.ref C) ⟨vs, kw⟩) R s := by
  obtain ⟨hh, g, d, t, os⟩ := s
  exact PySem.W.make_core (PySem.W.makes_of X hm) (PySem.W.looks_findIn X hi) (fun self => PySem.W.bind_fn X self hf) (.inl rfl) h
end

/-! ### the attributes as a list of pairs -/
noncomputable def putF (f : Str) (v : V) : List (Str × V) → List (Str × V)
  | [] => [(f, v)]
  | (g, x) :: r => if g = f then (g, v) :: r else (g, x) :: putF f v r
theorem lookup_putF (f g : Str) (v : V) : ∀ fs : List (Str × V), (putF f v fs).lookup g = if g = f then some v else fs.lookup g
  | [] => by
    show List.lookup g [(f, v)] = _
    by_cases h : g = f
    · have hb : (g == f) = true := beq_iff_eq.mpr h
      simp only [List.lookup, hb, if_pos h]
    · have hb : (g == f) = false := beq_eq_false_iff_ne.mpr h
      simp only [List.lookup, hb, if_neg h]
  | (k, x) :: r => by
    have ih := lookup_putF f g v r
    rw [show putF f v ((k, x) :: r) = (if k = f then (k, v) :: r else (k, x) :: putF f v r) from rfl]
    by_cases hk : k = f
    · rw [if_pos hk]
      by_cases h : g = k
      · have hb : (g == k) = true := beq_iff_eq.mpr h
        simp only [List.lookup, hb, if_pos (h.trans hk)]
      · have hb : (g == k) = false := beq_eq_false_iff_ne.mpr h
        simp only [List.lookup, hb, if_neg (fun e : g = f => h (e.trans hk.symm))]
    · rw [if_neg hk]
      by_cases h : g = k
      · have hb : (g == k) = true := beq_iff_eq.mpr h
        simp only [List.lookup, hb, if_neg (fun e : g = f => hk (h.symm.trans e))]
      · have hb : (g == k) = false := beq_eq_false_iff_ne.mpr h
        simp only [List.lookup, hb]
        exact ih
theorem keys_putF (f : Str) (v : V) : ∀ fs : List (Str × V), f ∈ (putF f v fs).map (·.1) ∧ ∀ g, g ∈ fs.map (·.1) → g ∈ (putF f v fs).map (·.1)
  | [] => ⟨by simp [putF], fun g h => by simp at h⟩
  | (k, x) :: r => by
    obtain ⟨i1, i2⟩ := keys_putF f v r
    rw [show putF f v ((k, x) :: r) = (if k = f then (k, v) :: r else (k, x) :: putF f v r) from rfl]
    by_cases hk : k = f
    · rw [if_pos hk]
      subst hk
      exact ⟨by simp, fun g h => by simpa using h⟩
    · rw [if_neg hk]
      refine ⟨?_, fun g h => ?_⟩
      · rw [List.map_cons]
        exact List.mem_cons_of_mem _ i1
      · rw [List.map_cons] at h ⊢
        rcases List.mem_cons.mp h with e | e
        · exact List.mem_cons.mpr (.inl e)
        · exact List.mem_cons_of_mem _ (i2 g e)
theorem length_putF (f : Str) (v : V) : ∀ fs : List (Str × V), (putF f v fs).length ≤ fs.length + 1
  | [] => by simp [putF]
  | (k, x) :: r => by
    have ih := length_putF f v r
    rw [show putF f v ((k, x) :: r) = (if k = f then (k, v) :: r else (k, x) :: putF f v r) from rfl]
    by_cases hk : k = f
    · rw [if_pos hk, List.length_cons, List.length_cons]; omega
    · rw [if_neg hk, List.length_cons, List.length_cons]; omega

theorem RelO.some_of {v : V} {o : Option Value} (r : RelO (some v) o) : ∃ u, o = some u ∧ RelV v u := by
  cases o with
  | none => exact (show False from r).elim
  | some u => exact ⟨u, rfl, r⟩
theorem RelO.none_of {o : Option Value} (r : RelO none o) : o = none := by
  cases o with
  | none => rfl
  | some u => exact (show False from r).elim
theorem handed_of {v : V} {u : Value} (r : RelV v u) : PySem.W.handedIn u = true := by
  cases v with
  | non => cases (show u = Value.none from r); rfl
  | bl b => cases (show u = Value.bool b from r); rfl
  | int i => obtain ⟨t, e⟩ := (show ∃ t, u = Value.int i t from r); cases e; rfl
  | str x => obtain ⟨t, e⟩ := (show ∃ t, u = Value.str x t from r); cases e; rfl
  | byt b => obtain ⟨t, e⟩ := (show ∃ t, u = Value.bytes b t from r); cases e; rfl
  | flt b => obtain ⟨t, e⟩ := (show ∃ t, u = Value.float b t from r); cases e; rfl
  | ref a => cases (show u = Value.ref a from r); rfl
  | ty n => cases (show u = Value.type n from r); rfl

section
variable {P : Program} {w : World} {H H' : Hp} {h h' : Heap} {a C dx : Addr} {fs fs' : List (Str × V)}
theorem ins_get (hok : HOk P w H h) (e : H a = some (.ins C dx fs)) : ∃ mA, ObjM h a dx C mA ∧ (∀ f, RelO (fs.lookup f) (mA f)) ∧ PySem.Within mA (fs.map (·.1)) ∧ fs.length ≤ 1000 ∧ H dx = some (.own a) := by
  obtain ⟨d, z, ne, ob, mA, n, r, q⟩ := (show ObjOk P w H h a (.ins C dx fs) from hok a _ e)
  exact ⟨mA, ⟨ob, n, ne⟩, r, q, z, d⟩
end

/-! ### what of the text a class must have -/
structure Cls (K : PySem.W.Frag) (C : Addr) : Prop where
  pg : PySem.W.plainGet K C Str.empty = true
  hd : PySem.W.hasDictIn K C = true
  po : PySem.W.plainOver K C = true
  sa : PySem.W.findIn K (.ref C) "__setattr__" = some (some (.builtin "object.__setattr__"))
theorem Cls.get {K : PySem.W.Frag} {C : Addr} (c : Cls K C) (f : Str) : PySem.W.plainGet K C f = true := c.pg
noncomputable def NoAttr (K : PySem.W.Frag) (C : Addr) (f : Str) : Prop := PySem.W.findIn K (.ref C) f = some none
theorem NoAttr.taker {K : PySem.W.Frag} {C : Addr} {f : Str} (n : NoAttr K C f) : PySem.W.takerIn K C f = some none := by
  unfold PySem.W.takerIn
  rw [show PySem.W.findIn K (.ref C) f = some none from n]
  rfl
structure Con (K : PySem.W.Frag) (C : Addr) (f : Str) (v : V) (u : Value) : Prop where
  at_ : PySem.W.findIn K (.ref C) f = some (some u)
  rel : RelV v u
  get : PySem.W.specialIn K u "__get__" = some none
  cp : PySem.W.copiedNames.contains f = false
structure Meth (K : PySem.W.Frag) (C : Addr) (m : Str) (f : Addr) : Prop where
  at_ : PySem.W.findIn K (.ref C) m = some (some (.ref f))
  fn : PySem.W.isFn K (.ref f) = true
  kp : PySem.W.keepIn K (.ref f) = true

section
variable {X : Cx} {pins : List (Addr × Obj)} {σ : St} {H : Hp} {s : Shared} {a C dx : Addr} {fs : List (Str × V)} {f : Str} {v : V} {A : Around} {E : Value → Shared → Prop}

theorem getattr_ok {b : Bool} {Q : Value → Shared → Prop} (I : Inv X pins σ H s) (e : H a = some (.ins C dx fs)) (c : Cls X.K C) (n : NoAttr X.K C f) (l : fs.lookup f = some v)
    (h : ∀ u s', Inv X pins σ H s' → RelV v u → Q u s') : wpAny (model X.prog X.w) A (getAttr (.ref a) f b) Q E s := by
  obtain ⟨mA, O, r, _, _, _⟩ := ins_get I.hok e
  obtain ⟨u, hu, ru⟩ := RelO.some_of (v := v) (o := mA f) (by rw [← l]; exact r f)
  exact get_map I.kIn O (c.get f) c.hd n hu (handed_of ru) (h u _ (I.tok _) ru)

theorem getmeth_ok {m : Str} {g : Addr} {pl : Sem Bool} {Q : Value × List Value → Shared → Prop} (I : Inv X pins σ H s) (e : H a = some (.ins C dx fs)) (c : Cls X.K C) (k : Meth X.K C m g) (l : fs.lookup m = none)
    (h : Q (.ref g, [.ref a]) s) : wpAny (model X.prog X.w) A (getMethod (.ref a) m pl) Q E s := by
  obtain ⟨mA, O, r, _, _, _⟩ := ins_get I.hok e
  have hn : mA m = none := RelO.none_of (by rw [← l]; exact r m)
  exact get_meth I.kIn O (c.get m) k.at_ k.fn hn h

theorem setattr_ok {y : V} {u : Value} {Q : Unit → Shared → Prop} (I : Inv X pins σ H s) (e : H a = some (.ins C dx fs)) (c : Cls X.K C) (n : NoAttr X.K C f) (hl : fs.length < 1000) (ry : RelV y u)
    (h : ∀ s', Inv X pins σ (upd H a (.ins C dx (putF f y fs))) s' → Q () s') : wpAny (model X.prog X.w) A (setAttr (.ref a) f u) Q E s := by
  obtain ⟨mA, O, r, wi, _, ho⟩ := ins_get I.hok e
  have hz : (fs.map (·.1)).length ≤ sizeLine := by rw [List.length_map, sizeLine_eq]; omega
  refine set_map I.kIn O c.sa c.po n.taker c.hd wi hz fun h' O' sb => h _ ?_
  have hd : ∃ o, h'.get? dx = some o := let ⟨o, _, _, e', _⟩ := O'.ns; ⟨o, e'⟩
  refine I.write (x := a) (e := dx) (by rw [e]; exact True.intro) (.inr ho) (fun b q hb z => (sb.2 b hb).trans z) hd ?_
  refine ⟨by rw [upd_ne O.ne]; exact ho, ?_, O.ne, O'.obj, _, O'.ns, fun g => ?_, fun g hg => ?_⟩
  · have := length_putF f y fs; omega
  · show RelO ((putF f y fs).lookup g) (if g = f then some u else mA g)
    rw [lookup_putF]
    by_cases q : g = f
    · rw [if_pos q, if_pos q]; exact ry
    · rw [if_neg q, if_neg q]; exact r g
  · by_cases q : g = f
    · rw [q]; exact (keys_putF f y fs).1
    · refine (keys_putF f y fs).2 g (wi g fun z => hg ?_)
      show (if g = f then some u else mA g) = none
      rw [if_neg q]; exact z

theorem Inv.made (I : Inv X pins σ H s) : Inv X pins σ (upd (upd H s.heap.objs.size (.own (s.heap.objs.size + 1))) (s.heap.objs.size + 1) (.ins C s.heap.objs.size []))
    { s with heap := (s.heap.push PySem.W.emptyDict).push (PySem.W.instObj C s.heap.objs.size) } := by
  have e1 : (s.heap.push PySem.W.emptyDict).get? s.heap.objs.size = some PySem.W.emptyDict := Heap.get?_push_size s.heap rfl
  have e2 : ((s.heap.push PySem.W.emptyDict).push (PySem.W.instObj C s.heap.objs.size)).get? (s.heap.objs.size + 1) = some (PySem.W.instObj C s.heap.objs.size) := by
    have := Heap.get?_push_size (s.heap.push PySem.W.emptyDict) (o := PySem.W.instObj C s.heap.objs.size) rfl
    rwa [Heap.size_push] at this
  have e3 : (s.heap.push PySem.W.emptyDict).Ns s.heap.objs.size (fun _ => none) := ⟨PySem.W.emptyDict, #[], _, e1, rfl, (fun e he => absurd he (by simp)), fun _ => rfl⟩
  have I1 := I.laid (a := s.heap.objs.size) (o := .own (s.heap.objs.size + 1)) (h' := s.heap.push PySem.W.emptyDict) (t' := s.toks) (fun b u q => Heap.get?_push_of_some _ q) (Nat.le_refl _) ⟨_, e1⟩
  refine I1.laid (a := s.heap.objs.size + 1) (o := .ins C s.heap.objs.size []) (t' := s.toks) (fun b u q => Heap.get?_push_of_some _ q) (Nat.le_of_eq (Heap.size_push _ _)) ?_
  have ne : s.heap.objs.size ≠ s.heap.objs.size + 1 := Nat.ne_of_lt (Nat.lt_succ_self _)
  refine ⟨by rw [upd_ne ne, upd_same], Nat.zero_le _, ne, e2, fun _ => none, (Heap.Ns1.of_empty e3).at fun o q => Heap.get?_push_of_some _ q, fun _ => True.intro, fun y hy => absurd rfl hy⟩

theorem attr_of {prog : Program} {w : World} {env : Env} {e : Expr} {f : Str} {pos : Pos} {s : Shared} {Q : Value → Shared → Prop} (hb : attributeBase e f env (eval e env) = eval e env)
    (h : wpAny (model prog w) A (eval e env) (fun o s₁ => wpAny (model prog w) A (getAttr o f true) Q E s₁) E s) : wpAny (model prog w) A (eval (.Attribute e f pos) env) Q E s :=
  Attribute_any_ h (by rw [arm_eval_Attribute, hb])
end

/-! ### readings and rules -/
noncomputable def tFld (K : PySem.W.Frag) (ta : TE) (f : Str) : TE := fun σ H Q => ta σ H fun x H1 => ∃ a C dx fs v, x = .ref a ∧ H1 a = some (.ins C dx fs) ∧ Cls K C ∧ NoAttr K C f ∧ fs.lookup f = some v ∧ Q v H1
noncomputable def sFld (K : PySem.W.Frag) (ta tv : TE) (f : Str) : TS := fun D σ H => tv σ H fun y H1 => ta σ H1 fun x H2 => ∃ a C dx fs, x = .ref a ∧ H2 a = some (.ins C dx fs) ∧ Cls K C ∧ NoAttr K C f ∧ fs.length < 1000 ∧
  D.nx σ (upd H2 a (.ins C dx (putF f y fs)))
section
variable {X : Cx} {o e value : Expr} {f : Str} {pos pos' tpos : Pos} {ta tv : TE}
theorem pe_fld (he : PE X e ta) (hb : attributeBase e f X.env (eval e X.env) = eval e X.env) : PE X (.Attribute e f pos) (tFld X.K ta f) := by
  intro pins s σ H Q I h
  refine attr_of hb (thn (he pins s σ H _ I h) fun u s1 ⟨x, H1, I1, rx, a, C, dx, fs, v, ex, ea, c, n, l, q⟩ => ?_)
  subst ex
  obtain rfl : u = Value.ref a := rx
  exact getattr_ok I1 ea c n l fun u' s2 I2 ru => ⟨v, H1, I2, ru, q⟩
theorem ps_fld (ha : PE X o ta) (hv : PE X value tv) (hs : swapsWith value (some (.Attribute o f pos')) pos.line X.env = pure false) : PS X (.Assign [.Attribute o f pos'] value pos) (sFld X.K ta tv f) := by
  intro pins s σ H D I h
  refine plainObj_wpAny_Assign_Attribute (thn (hv pins s σ H _ I h) fun u s1 ⟨y, H1, I1, ry, q⟩ => thn (ha pins s1 σ H1 _ I1 q) fun ov s2 ⟨x, H2, I2, rx, a, C, dx, fs, ex, ea, c, n, l, q2⟩ => ?_) hs
  subst ex
  obtain rfl : ov = Value.ref a := rx
  exact setattr_ok I2 ea c n l ry fun s3 I3 => ⟨σ, _, I3, q2⟩
end

/-! ### isinstance -/
section
variable {X : Cx} {pins : List (Addr × Obj)} {σ : St} {H : Hp} {s : Shared} {A : Around} {E : Value → Shared → Prop} {Q : Value → Shared → Prop} {c : Value} {b : Bool}
inductive TyOf (K : PySem.W.Frag) (H : Hp) : V → Value → Prop where
  | non : TyOf K H .non (.type "NoneType")
  | bl (x : Bool) : TyOf K H (.bl x) (.type "bool")
  | int (i : Int) : TyOf K H (.int i) (.type "int")
  | str (x : Str) : TyOf K H (.str x) (.type "str")
  | flt (x : UInt64) : TyOf K H (.flt x) (.type "float")
  | lst {a : Addr} {xs : List V} (e : H a = some (.lst xs)) : TyOf K H (.ref a) (.type "list")
  | frz {a : Addr} {o : Obj} {xs : List V} (e : H a = some (.frz o (.lst xs))) : TyOf K H (.ref a) (.type "list")
  | tup {a : Addr} {xs : List V} (e : H a = some (.tup xs)) : TyOf K H (.ref a) (.type "tuple")
  | dK {a : Addr} {kvs : List (Key × V)} (e : H a = some (.dK kvs)) : TyOf K H (.ref a) (.type "dict")
  | dT {a : Addr} {kvs : List (List Key × V)} (e : H a = some (.dT kvs)) : TyOf K H (.ref a) (.type "dict")
  | ins {a C dx : Addr} {fs : List (Str × V)} (e : H a = some (.ins C dx fs)) (cl : Cls K C) (ha : PySem.W.findIn K (.ref C) "__class__" = some (some (.builtin "object.__class__")))
      (hn : PySem.W.specialIn K (.builtin "object.__class__") "__get__" = some (some (.builtin "getset_descriptor.__get__"))) (htk : PySem.W.takesIn K (.builtin "object.__class__") = some true)
      (hm : PySem.W.mroIn K C (.type "object") = some true) : TyOf K H (.ref a) (.ref C)
theorem isinst_ok {x : V} {u t : Value} (I : Inv X pins σ H s) (rx : RelV x u) (ty : TyOf X.K H x t) (e : PySem.W.kitOne X.K t c = some b) (h : ∀ tk, Q (.bool b) { s with toks := tk }) :
    wpAny (model X.prog X.w) A (call (.builtin "isinstance") [u, c]) Q E s := by
  cases ty with
  | non => cases (show u = Value.none from rx); exact PySem.W.kia_one PySem.W.kitx_none I.kIn True.intro e (fun z => nomatch z) h
  | bl y => cases (show u = Value.bool y from rx); exact PySem.W.kia_one PySem.W.kitx_bool I.kIn True.intro e (fun z => nomatch z) h
  | int i => obtain ⟨t, q⟩ := (show ∃ t, u = Value.int i t from rx); cases q; exact PySem.W.kia_one PySem.W.kitx_int I.kIn True.intro e (fun z => nomatch z) h
  | str y => obtain ⟨t, q⟩ := (show ∃ t, u = Value.str y t from rx); cases q; exact PySem.W.kia_one PySem.W.kitx_str I.kIn True.intro e (fun z => nomatch z) h
  | flt y => obtain ⟨t, q⟩ := (show ∃ t, u = Value.float y t from rx); cases q; exact PySem.W.kia_one PySem.W.kitx_float I.kIn True.intro e (fun z => nomatch z) h
  | @lst a xs ea =>
    cases (show u = Value.ref a from rx)
    obtain ⟨_, _, n, _, h1⟩ := (show ObjOk X.prog X.w H s.heap a (.lst xs) from I.hok a _ ea)
    exact PySem.W.kia_one PySem.W.kitx_list I.kIn ⟨_, h1, rfl⟩ e (fun z => nomatch z) h
  | @frz a ob xs ea =>
    cases (show u = Value.ref a from rx)
    obtain ⟨_, _, _, n, _, h1⟩ := (show ObjOk X.prog X.w H s.heap a (.frz ob (.lst xs)) from I.hok a _ ea)
    exact PySem.W.kia_one PySem.W.kitx_list I.kIn ⟨_, h1, rfl⟩ e (fun z => nomatch z) h
  | @tup a xs ea =>
    cases (show u = Value.ref a from rx)
    obtain ⟨_, _, _, p⟩ := (show ObjOk X.prog X.w H s.heap a (.tup xs) from I.hok a _ ea)
    obtain ⟨o, h1, h2, _⟩ := p
    exact PySem.W.kia_one PySem.W.kitx_tuple I.kIn ⟨o, h1, h2⟩ e (fun z => nomatch z) h
  | @dK a kvs ea =>
    cases (show u = Value.ref a from rx)
    obtain ⟨_, _, vs, _, p⟩ := (show ObjOk X.prog X.w H s.heap a (.dK kvs) from I.hok a _ ea)
    obtain ⟨o, es, ep, h1, h2, _⟩ := p
    exact PySem.W.kia_one PySem.W.kitx_dict I.kIn ⟨o, h1, h2.1⟩ e (fun z => nomatch z) h
  | @dT a kvs ea =>
    cases (show u = Value.ref a from rx)
    obtain ⟨_, _, xs, _, o, es, ep, h1, h2, _⟩ := (show ObjOk X.prog X.w H s.heap a (.dT kvs) from I.hok a _ ea)
    exact PySem.W.kia_one PySem.W.kitx_dict I.kIn ⟨o, h1, h2.1⟩ e (fun z => nomatch z) h
  | @ins a C dx fs ea cl ha hn htk hm =>
    cases (show u = Value.ref a from rx)
    obtain ⟨mA, O, _⟩ := ins_get I.hok ea
    obtain ⟨od, J, _⟩ := O.look
    exact PySem.W.kia_one (PySem.W.kitx_own (cl.get _) cl.hd ha hn htk hm) I.kIn J e (fun z => nomatch z) h
end
end L2

namespace L2
open PySem PySem.Spec PyProof.Rows

/-! ### room -/
structure Room (k : Nat) (A : Around) : Prop where
  hd : A.handled = none
  dp : A.depth + 3 * k + 5 < recursionLimit
  un : A.units + 16 * k + 200 < cLine
theorem Room.mono {j k : Nat} {A : Around} (r : Room k A) (h : j ≤ k) : Room j A := ⟨r.hd, by have := r.dp; omega, by have := r.un; omega⟩
theorem Room.deeper {k : Nat} {A : Around} (r : Room (k + 1) A) (env : Env) : Room k (A.deeper env) :=
  ⟨r.hd, by have := r.dp; show A.depth + 1 + 3 * k + 5 < _; omega, by have := r.un; show A.units + 3 + 16 * k + 200 < _; omega⟩
theorem Room.in1 {k : Nat} {A : Around} (r : Room (k + 1) A) : Room k A.in1 :=
  ⟨r.hd, by have := r.dp; show A.depth + 3 * k + 5 < _; omega, by have := r.un; show A.units + 1 + 16 * k + 200 < _; omega⟩
theorem make_depth {A : Around} {C : Addr} {us : List Value} {kw : List (Str × Value)} : (A.under (.builtin "type.__call__" ⟨.ref C :: us, kw⟩)).depth = A.depth + 1 := by
  first | rfl | simp [Around.under, Code.weight, Code.isCreation, Code.isGuard, Code.isCaller, Code.frames, Code.isFrame, guardIds]
theorem make_units {A : Around} {C : Addr} {us : List Value} {kw : List (Str × Value)} : (A.under (.builtin "type.__call__" ⟨.ref C :: us, kw⟩)).units = A.units + 1 := by
  first | rfl | simp [Around.under, Code.cUnits, Code.frames, Code.isFrame]
theorem Room.make {k : Nat} {A : Around} (r : Room (k + 1) A) (C : Addr) (us : List Value) (kw : List (Str × Value)) : Room k (A.under (.builtin "type.__call__" ⟨.ref C :: us, kw⟩)) :=
  ⟨r.hd, by have := r.dp; rw [make_depth]; omega, by have := r.un; rw [make_units]; omega⟩
theorem Room.depth {k : Nat} {A : Around} (r : Room k A) : A.depth < recursionLimit := by have := r.dp; omega
theorem Room.units {k : Nat} {A : Around} (r : Room k A) : A.units + 64 < cLine := by have := r.un; omega
theorem Room.units0 {k : Nat} {A : Around} (r : Room k A) : A.units < cLine := by have := r.un; omega

/-! ### argument lists and displays -/
noncomputable def tNil : TA := fun _ H Q => Q [] H
noncomputable def tCons (ta : TE) (tr : TA) : TA := fun σ H Q => ta σ H fun x H1 => tr σ H1 fun xs H2 => Q (x :: xs) H2
section
variable {X : Cx} {e : Expr} {es : List Expr} {te : TE} {t : TA} {pos : Pos}
theorem pa_nil : PA X [] tNil := fun _ _ _ _ H Q I h => Calls.spliced_nil ⟨[], H, I, .nil, h⟩
theorem pa_cons (ha : PE X e te) (hr : PA X es t) (hs : starEach (e :: es) X.env = (false, eval e X.env) :: starEach es X.env := by rfl) : PA X (e :: es) (tCons te t) := by
  intro pos pins s σ H Q I h
  rw [hs]
  show wpAny _ _ (spliced ((false, eval e X.env) :: backTo pos (starEach es X.env))) _ _ s
  refine Calls.spliced_cons (thn (ha pins s σ H _ I h) fun u s1 ⟨x, H1, I1, r1, q1⟩ => ?_)
  exact thn (hr pos pins s1 σ H1 _ I1 q1) fun us s2 ⟨xs, H2, I2, r2, q2⟩ => ⟨x :: xs, H2, I2, .cons r1 r2, q2⟩

noncomputable def tTup (t : TA) : TE := fun σ H Q => t σ H fun xs H1 => xs.length ≤ sizeLine ∧ ∀ p, H1 p = none → Q (.ref p) (upd H1 p (.tup xs))
noncomputable def tLst (t : TA) : TE := fun σ H Q => t σ H fun xs H1 => xs.length ≤ sizeLine ∧ ∀ p, H1 p = none → Q (.ref p) (upd H1 p (.lst xs))
theorem pe_tup {x1} (h : PA X es t) : PE X (.Tuple es x1 pos) (tTup t) := by
  intro pins s σ H Q I hq
  refine wpAny_Tuple_spliced (thn (h pos pins s σ H _ I hq) fun us s1 ⟨xs, H1, I1, r, z, q⟩ => ⟨by rw [← r.length]; exact z, ?_⟩)
  have hf : H1 s1.heap.objs.size = none := I1.hok.fresh (Nat.le_refl _)
  refine ⟨.ref s1.heap.objs.size, upd H1 s1.heap.objs.size (.tup xs), I1.laid (t' := s1.toks) (fun b u e => Heap.get?_push_of_some _ e) (Nat.le_refl _) ?_, rfl, q _ hf⟩
  exact ⟨z, us, r, IsTupD.new _ _⟩
theorem pe_lst (h : PA X es t) : PE X (.List es pos) (tLst t) := by
  intro pins s σ H Q I hq
  refine wpAny_List_spliced (thn (h pos pins s σ H _ I hq) fun us s1 ⟨xs, H1, I1, r, z, q⟩ => ⟨by rw [← r.length]; exact z, ?_⟩)
  have hf : H1 s1.heap.objs.size = none := I1.hok.fresh (Nat.le_refl _)
  refine ⟨.ref s1.heap.objs.size, upd H1 s1.heap.objs.size (.lst xs), I1.laid (t' := s1.toks) (fun b u e => Heap.get?_push_of_some _ e) (Nat.le_refl _) ?_, rfl, q _ hf⟩
  exact ⟨z, us, 0, r, Heap.get?_push_size _ rfl⟩
end

/-! ### what a def promises -/
noncomputable abbrev Sp := List V → Hp → VK → XK → Prop
noncomputable abbrev CXT := List Env → Hp → Shared → XK → Value → Shared → Prop

structure Env0 (P : Program) (w : World) (K : PySem.W.Frag) (mg : Str → Option Value) (base : Heap) (A : Around) (outer : List Env) (s : Shared) (H : Hp) : Prop where
  frames : A.frames = some outer
  mod : Mod K mg base
  bs : ∀ b o, base.get? b = some o → s.heap.get? b = some o ∧ H b = none
  bsz : base.objs.size ≤ s.heap.objs.size
  funs : s.heap.FunFrames base outer
  frf : ∀ b ∈ frs outer, H b = none
  hok : HOk P w H s.heap
  bare : AllBare s.gens
noncomputable def CE (outer : List Env) (P : Program) (w : World) (H : Hp) (s : Shared) (Q : VK) (u : Value) (s' : Shared) : Prop :=
  ∃ v H', s'.os = s.os ∧ AllBare s'.gens ∧ Un (frs outer) [] H H' s.heap s'.heap ∧ HOk P w H' s'.heap ∧ RelV v u ∧ Q v H'
noncomputable def CR (CX : CXT) (outer : List Env) (P : Program) (w : World) (H : Hp) (s : Shared) (Q : VK) (E : XK) (r : Result) (s' : Shared) : Prop :=
  match r with
  | .ok (.ret u) => CE outer P w H s Q u s'
  | .ok _ => False
  | .error e => CX outer H s E e s'
structure FnOk (P : Program) (w : World) (K : PySem.W.Frag) (mg : Str → Option Value) (base : Heap) (CX : CXT) (k : Nat) (f : Addr) (fd : FuncData) (ps : List Str) (sp : Sp) : Prop where
  len : ∀ vs H Q E, sp vs H Q E → vs.length = ps.length
  run : ∀ (A : Around) (outer : List Env) (s : Shared) (H : Hp) (args : Args) (us : List Value) (vs : List V) (Q : VK) (E : XK), Room k A → Env0 P w K mg base A outer s H → BindsTo s fd args (ps.zip us) → Vals vs us → sp vs H Q E →
    codeAny (model P w) A (.call (.ref f) args) (CR CX outer P w H s Q E) s
theorem FnOk.mono {P : Program} {w : World} {K : PySem.W.Frag} {mg : Str → Option Value} {base : Heap} {CX : CXT} {j k : Nat} {f : Addr} {fd : FuncData} {ps : List Str} {sp : Sp} (F : FnOk P w K mg base CX j f fd ps sp) (h : j ≤ k) :
    FnOk P w K mg base CX k f fd ps sp := ⟨F.len, fun A outer s H args us vs Q E hr => F.run A outer s H args us vs Q E (hr.mono h)⟩
theorem FnOk.imp {P : Program} {w : World} {K : PySem.W.Frag} {mg : Str → Option Value} {base : Heap} {CX : CXT} {k : Nat} {f : Addr} {fd : FuncData} {ps : List Str} {sp sp' : Sp} (F : FnOk P w K mg base CX k f fd ps sp)
    (h : ∀ vs H Q E, sp' vs H Q E → sp vs H Q E) : FnOk P w K mg base CX k f fd ps sp' :=
  ⟨fun vs H Q E q => F.len vs H Q E (h _ _ _ _ q), fun A outer s H args us vs Q E hr he hb hv hs => F.run A outer s H args us vs Q E hr he hb hv (h _ _ _ _ hs)⟩

theorem Env0.make {P : Program} {w : World} {K : PySem.W.Frag} {mg : Str → Option Value} {base : Heap} {A : Around} {outer : List Env} {s : Shared} {H : Hp} (e : Env0 P w K mg base A outer s H) (C : Addr) (us : List Value) (kw : List (Str × Value)) :
    Env0 P w K mg base (A.under (.builtin "type.__call__" ⟨.ref C :: us, kw⟩)) outer s H := ⟨by first | exact e.frames | (simpa [Around.under, Code.envs, Code.isFrame, pushEnvs] using e.frames), e.mod, e.bs, e.bsz, e.funs, e.frf, e.hok, e.bare⟩
theorem Env0.in1 {P : Program} {w : World} {K : PySem.W.Frag} {mg : Str → Option Value} {base : Heap} {A : Around} {outer : List Env} {s : Shared} {H : Hp} (e : Env0 P w K mg base A outer s H) :
    Env0 P w K mg base A.in1 outer s H := ⟨e.frames, e.mod, e.bs, e.bsz, e.funs, e.frf, e.hok, e.bare⟩

section
variable {X : Cx} {pins : List (Addr × Obj)} {σ : St} {H : Hp} {s s' : Shared}
theorem Inv.env0 (I : Inv X pins σ H s) : Env0 X.prog X.w X.K X.mg X.base X.A X.stack s H :=
  ⟨I.ok.frames, I.ok.mod, I.bs, Nat.le_trans I.ok.bsz I.sz, I.stack, I.stkFree, I.hok, I.bare⟩
theorem Inv.after {Q : VK} {u : Value} (I : Inv X pins σ H s) (h : CE X.stack X.prog X.w H s Q u s') : EP X pins σ Q u s' := by
  obtain ⟨v, H', os, bare, un, hok, r, q⟩ := h
  obtain ⟨hh, g, d, t, os'⟩ := s'
  obtain rfl : os' = s.os := os
  exact ⟨v, H', I.call (h' := hh) (g' := g) (d' := d) (t' := t) (ch := []) un hok bare (fun b z => absurd z (by simp)), r, q⟩
end

/-! ### calls -/
noncomputable def tCall (sp : Sp) (dvs : List V) (E : XK) (t : TA) : TE := fun σ H Q => t σ H fun vs H1 => sp (vs ++ dvs) H1 Q E
noncomputable def tMeth (C : Addr) (m : Str) (sp : Sp) (dvs : List V) (E : XK) (ta : TE) (t : TA) : TE := fun σ H Q => ta σ H fun x H1 => ∃ a dx fs, x = .ref a ∧ H1 a = some (.ins C dx fs) ∧ fs.lookup m = none ∧
  t σ H1 fun vs H2 => sp (x :: (vs ++ dvs)) H2 Q E
noncomputable def tMake (C : Addr) (sp : Sp) (dvs : List V) (E : XK) (t : TA) : TE := fun σ H Q => t σ H fun vs H1 => ∀ x dx, H1 x = none → H1 dx = none → dx ≠ x →
  sp (.ref x :: (vs ++ dvs)) (upd (upd H1 dx (.own x)) x (.ins C dx [])) (fun v H2 => v = .non ∧ Q (.ref x) H2) E

noncomputable def Binds (K : PySem.W.Frag) (fd : FuncData) (ps : List Str) (ds : List Value) : Prop :=
  ∀ (s : Shared) (us : List Value), K.In s.heap → (us ++ ds).length = ps.length → BindsTo s fd ⟨us, []⟩ (ps.zip (us ++ ds))
theorem Binds.all {K : PySem.W.Frag} {fd : FuncData} {ps : List Str} (h : ∀ us : List Value, us.length = ps.length → bindArgs fd ⟨us, []⟩ = pure (ps.zip us)) : Binds K fd ps [] := fun s us _ hl => by
  rw [List.append_nil] at hl ⊢
  exact .of_eq (h us hl)

noncomputable def Passes (CX : CXT) (X : Cx) (E : XK) : Prop := ∀ (pins : List (Addr × Obj)) (σ : St) (H : Hp) (s : Shared) (e : Value) (s' : Shared), Inv X pins σ H s → CX X.stack H s E e s' → X.xe e s'

section
variable {X : Cx} {CX : CXT} {k : Nat} {f C : Addr} {fd : FuncData} {ps : List Str} {sp : Sp} {dvs : List V} {ds : List Value} {E : XK} {x m : Str} {p pos apos : Pos} {e o : Expr} {es : List Expr} {ta : TE} {t : TA}

theorem run_fn {pins : List (Addr × Obj)} {σ : St} {H : Hp} {s : Shared} {Q : VK} {us : List Value} {vs : List V} (F : FnOk X.prog X.w X.K X.mg X.base CX k f fd ps sp) (hr : Room k X.A) (hb : Binds X.K fd ps ds) (hd : Vals dvs ds) (hx : Passes CX X E)
    (I : Inv X pins σ H s) (r : Vals vs us) (h : sp (vs ++ dvs) H Q E) : wpAny (model X.prog X.w) X.A (call (.ref f) us) (EP X pins σ Q) X.xe s := by
  have r2 : Vals (vs ++ dvs) (us ++ ds) := r.append hd
  have hl : (us ++ ds).length = ps.length := by rw [← r2.length]; exact F.len _ _ _ _ h
  refine wpAny_call (codeAny_mono (F.run X.A X.stack s H ⟨us, []⟩ (us ++ ds) (vs ++ dvs) Q E hr I.env0 (hb s us I.kIn hl) r2 h) fun r s' hq => ?_)
  cases r with
  | error e => exact hx pins σ H s e s' I hq
  | ok fl =>
    cases fl with
    | ret u => exact I.after hq
    | next => exact False.elim hq
    | brk => exact False.elim hq
    | cont => exact False.elim hq

theorem pe_call (F : FnOk X.prog X.w X.K X.mg X.base CX k f fd ps sp) (hr : Room k X.A) (hg : Gl X x) (hm : X.mg x = some (.ref f)) (hk : PySem.W.keepIn X.K (.ref f) = true) (hb : Binds X.K fd ps ds) (hd : Vals dvs ds) (hx : Passes CX X E)
    (ha : PA X (e :: es) t) (hdb : (x == ("__debug__" : Str)) = false := by decide) (he : starEach (e :: es) X.env = (false, eval e X.env) :: starEach es X.env := by rfl) (hpl : (backTo pos (starEach es X.env)).any (·.1) = false := by rfl) :
    PE X (.Call (.Name x p) (e :: es) [] pos) (tCall sp dvs E t) := by
  intro pins s σ H Q I h
  refine wpAny_Call_Name_kw (ld_glob I hg hm ?_ hdb)
  refine PySem.W.callWith_K (h₀ := X.base) I.ok.mod.kin hk (thn (ha pos pins s σ H _ I h) fun us s1 ⟨vs, H1, I1, r, q⟩ => ⟨I1.kIn, ?_⟩) he hpl
  exact run_fn F hr hb hd hx I1 r q
theorem pe_meth {pl : Sem Bool} (he : PE X o ta) (c : Cls X.K C) (hm : Meth X.K C m f) (F : FnOk X.prog X.w X.K X.mg X.base CX k f fd ps sp) (hr : Room k X.A) (hb : Binds X.K fd ps ds) (hd : Vals dvs ds) (hx : Passes CX X E) (ha : PA X (e :: es) t)
    (hst : starEach (e :: es) X.env = (false, eval e X.env) :: starEach es X.env := by rfl) (hpl : (backTo pos (starEach es X.env)).any (·.1) = false := by rfl)
    (ht : eval (.Call (.Attribute o m apos) (e :: es) [] pos) X.env = (do
      let ov ← eval o X.env
      standAt apos.atName
      let (f, first) ← holding [ov] (getMethod ov m pl)
      callWith pos f first (backTo pos (starEach (e :: es) X.env)) (backToKw pos (keywordEach [] X.env))) := by rfl) :
    PE X (.Call (.Attribute o m apos) (e :: es) [] pos) (tMeth C m sp dvs E ta t) := by
  intro pins s σ H Q I h
  refine PySem.W.methodCall_KW (pl := pl) (thn (he pins s σ H _ I h) fun u s1 ⟨x, H1, I1, rx, a, dx, fs, ex, ea, l, q⟩ => ?_) ht
  subst ex
  obtain rfl : u = Value.ref a := rx
  refine getmeth_ok I1 ea c hm l ?_
  refine PySem.W.callWith_K (first := [.ref a]) (h₀ := X.base) I.ok.mod.kin hm.kp (thn (ha pos pins s1 σ H1 _ I1 q) fun us s2 ⟨vs, H2, I2, r, q2⟩ => ⟨I2.kIn, ?_⟩) hst hpl
  exact run_fn (us := .ref a :: us) (vs := .ref a :: vs) F hr hb hd hx I2 (.cons rfl r) q2
structure Mk (K : PySem.W.Frag) (C f : Addr) : Prop where
  makes : PySem.W.makesIn K C = true
  init : PySem.W.findIn K (.ref C) "__init__" = some (some (.ref f))
  fn : PySem.W.isFn K (.ref f) = true
  kp : PySem.W.keepIn K (.ref C) = true

theorem run_make {pins : List (Addr × Obj)} {σ : St} {H : Hp} {s : Shared} {Q : VK} {us : List Value} {vs : List V} (M : Mk X.K C f) (F : FnOk X.prog X.w X.K X.mg X.base CX k f fd ps sp) (hr : Room (k + 1) X.A) (hb : Binds X.K fd ps ds) (hd : Vals dvs ds)
    (hx : Passes CX X E) (I : Inv X pins σ H s) (r : Vals vs us)
    (h : ∀ x dx, H x = none → H dx = none → dx ≠ x → sp (.ref x :: (vs ++ dvs)) (upd (upd H dx (.own x)) x (.ins C dx [])) (fun v H2 => v = .non ∧ Q (.ref x) H2) E) :
    wpAny (model X.prog X.w) X.A (call (.ref C) us) (EP X pins σ Q) X.xe s := by
  have hq := h (s.heap.objs.size + 1) s.heap.objs.size (I.hok.fresh (Nat.le_succ _)) (I.hok.fresh (Nat.le_refl _)) (Nat.ne_of_lt (Nat.lt_succ_self _))
  have I2 := Inv.made (C := C) I
  have r2 : Vals (V.ref (s.heap.objs.size + 1) :: (vs ++ dvs)) (Value.ref (s.heap.objs.size + 1) :: (us ++ ds)) := .cons rfl (r.append hd)
  have hl : (Value.ref (s.heap.objs.size + 1) :: us ++ ds).length = ps.length := by
    have e := r2.length
    rw [F.len _ _ _ _ hq] at e
    exact e.symm
  refine wpAny_call (make_map (f := f) I.kIn M.makes M.init (beq_iff_eq.mp M.fn) (codeAny_mono (F.run _ X.stack _ _ ⟨Value.ref (s.heap.objs.size + 1) :: us, []⟩ (Value.ref (s.heap.objs.size + 1) :: (us ++ ds)) _ _ E (hr.make C us [])
    (I2.env0.make C us []) (hb _ (Value.ref (s.heap.objs.size + 1) :: us) I2.kIn hl) r2 hq) fun r s' hq' => ?_))
  cases r with
  | error e => exact hx pins σ _ _ e s' I2 hq'
  | ok fl =>
    cases fl with
    | ret u =>
      obtain ⟨v, H', I3, rv, ev, q3⟩ := I2.after hq'
      subst ev
      exact ⟨rv, ⟨V.ref (s.heap.objs.size + 1), H', I3, rfl, q3⟩⟩
    | next => exact False.elim hq'
    | brk => exact False.elim hq'
    | cont => exact False.elim hq'
theorem pe_make (M : Mk X.K C f) (F : FnOk X.prog X.w X.K X.mg X.base CX k f fd ps sp) (hr : Room (k + 1) X.A) (hg : Gl X x) (hm : X.mg x = some (.ref C)) (hb : Binds X.K fd ps ds) (hd : Vals dvs ds) (hx : Passes CX X E)
    (ha : PA X (e :: es) t) (hdb : (x == ("__debug__" : Str)) = false := by decide) (he : starEach (e :: es) X.env = (false, eval e X.env) :: starEach es X.env := by rfl) (hpl : (backTo pos (starEach es X.env)).any (·.1) = false := by rfl) :
    PE X (.Call (.Name x p) (e :: es) [] pos) (tMake C sp dvs E t) := by
  intro pins s σ H Q I h
  refine wpAny_Call_Name_kw (ld_glob I hg hm ?_ hdb)
  refine PySem.W.callWith_K (h₀ := X.base) I.ok.mod.kin M.kp (thn (ha pos pins s σ H _ I h) fun us s1 ⟨vs, H1, I1, r, q⟩ => ⟨I1.kIn, ?_⟩) he hpl
  exact run_make M F hr hb hd hx I1 r q
end

/-! ### keywords -/
section
variable {X : Cx} {CX : CXT} {k : Nat} {f C : Addr} {fd : FuncData} {ps ks : List Str} {sp : Sp} {E : XK} {x m : Str} {p pos apos kpos : Pos} {e o : Expr} {es : List Expr} {kws : List Keyword} {te ta : TE} {t tk : TA} {nm : Option Str}
structure KBinds (K : PySem.W.Frag) (fd : FuncData) (ps ks : List Str) (g : List Value → List Value → List Value) (gV : List V → List V → List V) : Prop where
  to : ∀ (s : Shared) (us ws : List Value), K.In s.heap → (g us ws).length = ps.length → BindsTo s fd ⟨us, ks.zip ws⟩ (ps.zip (g us ws))
  rel : ∀ {vs : List V} {us : List Value} {zs : List V} {ws : List Value}, Vals vs us → Vals zs ws → Vals (gV vs zs) (g us ws)
variable {g : List Value → List Value → List Value} {gV : List V → List V → List V}
end

/-! ### a def's body keeps its promise -/
structure FnScope (N P : List Str) (sc : Scope) : Prop where
  kind : sc.kind = .function
  co : sc.isCoroutine = false
  gen : sc.isGenerator = false
  nd : N.Nodup
  pre : N.take P.length = P
  par : ∀ x ∈ P, sc.names.lookup x = some .local ∨ sc.names.lookup x = some .cell
  nofree : ∀ y ∈ sc.names, y.2 ≠ .free

theorem bindL_out {kindOf : Str → Option NameKind} {x : Str} : ∀ {binds : List (Str × Value)} {m : Str → Option Value}, (∀ v, (x, v) ∉ binds) → bindL kindOf binds m x = m x
  | [], _, _ => rfl
  | (n, v) :: r, m, h => by
    unfold bindL
    rw [bindL_out fun w hw => h w (List.mem_cons_of_mem _ hw)]
    split
    · have : x ≠ n := by rintro rfl; exact h v List.mem_cons_self
      simp [this]
    · rfl
theorem bindC_out {kindOf : Str → Option NameKind} {x : Str} : ∀ {binds : List (Str × Value)} {m : Str → Option Value}, (∀ v, (x, v) ∉ binds) → bindC kindOf binds m x = m x
  | [], _, _ => rfl
  | (n, v) :: r, m, h => by
    unfold bindC
    rw [bindC_out fun w hw => h w (List.mem_cons_of_mem _ hw)]
    split
    · rfl
    · have : x ≠ n := by rintro rfl; exact h v List.mem_cons_self
      simp [this]
theorem bindL_get {kindOf : Str → Option NameKind} {x : Str} {v : Value} : ∀ {P : List Str} {vs : List Value} {i : Nat} {m : Str → Option Value}, P.Nodup → P[i]? = some x → vs[i]? = some v → kindOf x = some .local →
    bindL kindOf (P.zip vs) m x = some v
  | [], _, _, _, _, h, _, _ => by simp at h
  | _ :: _, [], _, _, _, _, h, _ => by simp at h
  | p :: P, w :: vs, 0, m, nd, h1, h2, hk => by
    simp at h1 h2; subst h1; subst h2
    show bindL kindOf ((p, w) :: P.zip vs) m p = _
    unfold bindL
    rw [bindL_out fun v hv => (List.nodup_cons.mp nd).1 (List.of_mem_zip hv).1, if_pos hk]
    simp
  | p :: P, w :: vs, i + 1, m, nd, h1, h2, hk => by
    show bindL kindOf ((p, w) :: P.zip vs) m x = _
    unfold bindL
    exact bindL_get (i := i) (List.nodup_cons.mp nd).2 (by simpa using h1) (by simpa using h2) hk
theorem bindC_get {kindOf : Str → Option NameKind} {x : Str} {v : Value} : ∀ {P : List Str} {vs : List Value} {i : Nat} {m : Str → Option Value}, P.Nodup → P[i]? = some x → vs[i]? = some v → kindOf x ≠ some .local →
    bindC kindOf (P.zip vs) m x = some v
  | [], _, _, _, _, h, _, _ => by simp at h
  | _ :: _, [], _, _, _, _, h, _ => by simp at h
  | p :: P, w :: vs, 0, m, nd, h1, h2, hk => by
    simp at h1 h2; subst h1; subst h2
    show bindC kindOf ((p, w) :: P.zip vs) m p = _
    unfold bindC
    rw [bindC_out fun v hv => (List.nodup_cons.mp nd).1 (List.of_mem_zip hv).1, if_neg hk]
    simp
  | p :: P, w :: vs, i + 1, m, nd, h1, h2, hk => by
    show bindC kindOf ((p, w) :: P.zip vs) m x = _
    unfold bindC
    exact bindC_get (i := i) (List.nodup_cons.mp nd).2 (by simpa using h1) (by simpa using h2) hk

noncomputable def start (N : List Str) (vs : List V) : St := vs.map some ++ List.replicate (N.length - vs.length) none

noncomputable def cxOf (CX : CXT) (P : Program) (w : World) (K : PySem.W.Frag) (mg : Str → Option Value) (base : Heap) (N : List Str) (qual : Str) (scope : Scope) (f : Addr) (cd : Value) (A : Around) (outer : List Env) (s : Shared) (H : Hp) (E : XK) : Cx where
  prog := P
  w := w
  K := K
  mg := mg
  base := base
  A := A.deeper (envOfC qual scope s.heap.objs.size f cd)
  N := N
  s₀ := s
  H₀ := H
  env := envOfC qual scope s.heap.objs.size f cd
  outer := outer
  stack := envOfC qual scope s.heap.objs.size f cd :: outer
  ex := []
  calm := true
  fn := fun _ => true
  pn := []
  xe := fun e s' => wpAny (model P w) (A.deeper (envOfC qual scope s.heap.objs.size f cd)) («leaving» (envOfC qual scope s.heap.objs.size f cd) e) (fun _ s'' => CX outer H s E e s'') (fun e' s'' => CX outer H s E e' s'') s'

theorem cell_has {sc : Scope} {n : Nat} {x : Str} (h : sc.names.lookup x = some .cell) : ∃ c, (cellsFrom n sc.names []).lookup x = some c := by
  have q := PySem.W.cellsFrom_some sc.names n [] (.inl h)
  exact Option.isSome_iff_exists.mp q

theorem inv_start {CX : CXT} {P : Program} {w : World} {K : PySem.W.Frag} {mg : Str → Option Value} {base : Heap} {N ps : List Str} {qual : Str} {scope : Scope} {f : Addr} {cd : Value} {A : Around} {outer : List Env} {s s1 : Shared} {H : Hp} {E : XK} {us : List Value} {vs : List V}
    (S : FnScope N ps scope) (hd : A.handled = none) (e0 : Env0 P w K mg base A outer s H) (hl : vs.length = ps.length) (r : Vals vs us)
    (x : InCallC s s.heap.objs.size (bindL (envOfC qual scope s.heap.objs.size f cd).kindOf (ps.zip us) fun _ => none) (cellsFrom (s.heap.objs.size + 1) scope.names []) (bindC (envOfC qual scope s.heap.objs.size f cd).kindOf (ps.zip us) fun _ => none) s1) :
    Inv (cxOf CX P w K mg base N qual scope f cd A outer s H E) [] (start N vs) H s1 := by
  have hpl : ps.length ≤ N.length := by have := congrArg List.length S.pre; rw [List.length_take] at this; omega
  obtain ⟨h1, tk, rfl, hk⟩ := x.done
  have noA : ∀ b : Addr, b ∉ (cxOf CX P w K mg base N qual scope f cd A outer s H E).ex := fun b z => absurd (show b ∈ ([] : List Addr) from z) (by simp)
  refine ⟨⟨e0.mod, S.kind, rfl, rfl, Nat.le_refl _, fun y z c h1 h2 => ?_, fun y hy => ?_, fun y c _ h => ?_, fun _ => hd, Around.frames_deeper e0.frames, .inr ⟨rfl, rfl⟩, fun b z => absurd z (noA b), e0.bs, e0.bsz, fun b _ _ => noA b, fun b z => absurd z (noA b), e0.funs, e0.frf⟩,
    rfl, e0.bare, Un.kept hk, ⟨_, x.toInCall.ns, fun i y v h1 h2 h3 => ?_⟩, fun y c h => ⟨_, x.cell y c h⟩, e0.hok.fresh (Nat.le_refl _), fun y c h => ?_, fun p hp => absurd (show p ∈ ([] : List (Addr × Obj)) from hp) (by simp), e0.hok.kept hk, ?_⟩
  · exact name_of_addr x.apart (PySem.mem_of_lookup h1) (PySem.mem_of_lookup h2)
  · have hy : scope.names.lookup y = some .cell ∨ scope.names.lookup y = some .free := hy
    rcases hy with hy | hy
    · exact cell_has hy
    · exact absurd rfl (S.nofree _ (PySem.mem_of_lookup hy))
  · exact Nat.le_of_lt (x.above y c (PySem.mem_of_lookup h))
  · have hi : i < vs.length := by
      unfold start at h2
      by_cases hi : i < vs.length
      · exact hi
      · rw [List.getElem?_append_right (by simpa using hi)] at h2
        rw [List.getElem?_replicate] at h2
        split at h2 <;> cases h2
    have ha : vs[i]? = some v := by
      unfold start at h2
      rw [List.getElem?_append_left (by simpa using hi), List.getElem?_map] at h2
      cases e : vs[i]? with
      | none => rw [e] at h2; cases h2
      | some a => rw [e] at h2; cases h2; rfl
    obtain ⟨u, hu, rv⟩ := r.get ha
    have hp : ps[i]? = some y := by
      rw [← S.pre, List.getElem?_take_of_lt (by omega)]; exact h1
    have ndP : ps.Nodup := by rw [← S.pre]; exact S.nd.sublist (List.take_sublist _ _)
    refine ⟨u, rv, ?_⟩
    rcases S.par y (List.mem_of_getElem? hp) with k | k
    · exact .inl ⟨k, bindL_get ndP hp hu k⟩
    · obtain ⟨c, e⟩ := cell_has (n := s.heap.objs.size + 1) k
      refine .inr ⟨.inl k, c, e, ?_⟩
      have q := x.cell y c e
      rw [bindC_get ndP hp hu (by show scope.names.lookup y ≠ _; rw [k]; decide)] at q
      exact q
  · exact e0.hok.fresh (Nat.le_of_lt (x.above y c (PySem.mem_of_lookup h)))
  · unfold start
    show _ = N.length
    rw [List.length_append, List.length_map, List.length_replicate]
    omega

theorem fn_of {CX : CXT} {P : Program} {w : World} {K : PySem.W.Frag} {mg : Str → Option Value} {base : Heap} {k : Nat} {f : Addr} {name qual : Str} {params : Arguments} {body : List Stmt} {scope : Scope} {dV kV doc pm cdv ct oc : Value} {an od : Option Addr}
    {osl : Array (Option Value)} {N ps : List Str} {sp : Sp} (lk : K.lookup f = some ⟨oc, od, .func (PySem.W.fnOf name qual params body scope dV kV doc pm an cdv ct), osl⟩) (hcd : PySem.W.codeIn K cdv qual = true) (S : FnScope N ps scope)
    (len : ∀ vs H Q E, sp vs H Q E → vs.length = ps.length)
    (hbody : ∀ (A : Around) (outer : List Env) (s : Shared) (H : Hp) (vs : List V) (Q : VK) (E : XK), Room k (A.deeper (envOfC qual scope s.heap.objs.size f cdv)) → sp vs H Q E →
      ∃ t, PSs (cxOf CX P w K mg base N qual scope f cdv A outer s H E) body t ∧ t { nx := fun _ H' => Q .non H', rt := Q } (start N vs) H) :
    FnOk P w K mg base CX (k + 1) f (PySem.W.fnOf name qual params body scope dV kV doc pm an cdv ct) ps sp := by
  refine ⟨len, fun A outer s H args us vs Q E hr e0 hb r hsp => ?_⟩
  have hl := len _ _ _ _ hsp
  have KX : K.In s.heap := e0.mod.kin.keeps fun b o e => (e0.bs b o e).1
  have lim : s.heap.NoLimit := e0.mod.nolimit.keeps fun b o e => (e0.bs b o e).1
  have hkind : ∀ y ∈ ps.zip us, scope.names.lookup y.1 = some .local ∨ (scope.names.lookup y.1 = some .cell ∧ ((cellsFrom (s.heap.objs.size + 1) scope.names []).lookup y.1).isSome = true) := fun ⟨n, v⟩ hy => by
    rcases S.par n (List.of_mem_zip hy).1 with q | q
    · exact .inl q
    · exact .inr ⟨q, PySem.W.cellsFrom_some _ _ _ (.inl q)⟩
  refine codeAny_call_function hr.depth (KX _ _ lk) rfl S.co S.gen rfl (PySem.W.codeRec_of KX hcd) (hb _ _ _ _ ?_)
  refine wpAny_newFunctionEnv_cells S.kind hkind fun env he s1 x => ?_
  subst he
  refine ⟨lim.keeps x.toInCall.keep, codeAny_func ?_⟩
  obtain ⟨t, ht, hq⟩ := hbody A outer s H vs Q E (hr.deeper _) hsp
  have I : Inv (cxOf CX P w K mg base N qual scope f cdv A outer s H E) [] (start N vs) H s1 := inv_start S hr.hd e0 hl r x
  refine wpAny_mono (ht [] s1 (start N vs) H _ I hq) (fun fl s' hs => ?_) fun e s' hs => hs
  have fin : ∀ {σ' : St} {H' : Hp} {v : V} {u : Value}, Inv (cxOf CX P w K mg base N qual scope f cdv A outer s H E) [] σ' H' s' → RelV v u → Q v H' → CE outer P w H s Q u s' :=
    fun {σ' H' v u} J rv q => ⟨v, H', J.os, J.bare, J.base, J.hok, rv, q⟩
  cases fl with
  | ret u =>
    obtain ⟨v, σ', H', J, rv, q⟩ := hs
    exact fin J rv q
  | next =>
    obtain ⟨σ', H', J, q⟩ := hs
    exact fin (v := V.non) (u := Value.none) J rfl q
  | brk =>
    obtain ⟨_, _, _, q⟩ := hs
    exact False.elim q
  | cont =>
    obtain ⟨_, _, _, q⟩ := hs
    exact False.elim q
end L2

namespace L2
open PySem PySem.Spec PyProof.Rows
section
variable {X : Cx} {x : Str} {p pos : Pos} {e : Expr} {es : List Expr} {t : TA} {id T : String} {r : List V → Hp → VK → Prop}

noncomputable def tCB (r : List V → Hp → VK → Prop) (t : TA) : TE := fun σ H Q => t σ H fun vs H1 => r vs H1 Q
theorem pe_callB (hc : CallR X (.builtin id) r) (hg : Gl X x) (hm : X.mg x = none) (hv : bootBuiltins x = some (.builtin id)) (ha : PA X (e :: es) t) (hn : x ≠ "__name__" := by decide) (hdb : (x == ("__debug__" : Str)) = false := by decide)
    (he : starEach (e :: es) X.env = (false, eval e X.env) :: starEach es X.env := by rfl) (hpl : (backTo pos (starEach es X.env)).any (·.1) = false := by rfl) : PE X (.Call (.Name x p) (e :: es) [] pos) (tCB r t) := by
  intro pins s σ H Q I h
  refine wpAny_Call_Name_kw (ld_blt I hg hm hv ?_ hn hdb)
  exact PyProof.Rows.callWith_builtin1 (thn (ha pos pins s σ H _ I h) fun us s1 ⟨vs, H1, I1, r1, q1⟩ => hc pins s1 σ H1 vs us Q I1 r1 q1) he hpl
theorem pe_callTy (hc : CallR X (.type T) r) (hg : Gl X x) (hm : X.mg x = none) (hv : bootBuiltins x = some (.type T)) (ha : PA X (e :: es) t) (hn : x ≠ "__name__" := by decide) (hdb : (x == ("__debug__" : Str)) = false := by decide)
    (he : starEach (e :: es) X.env = (false, eval e X.env) :: starEach es X.env := by rfl) (hpl : (backTo pos (starEach es X.env)).any (·.1) = false := by rfl) : PE X (.Call (.Name x p) (e :: es) [] pos) (tCB r t) := by
  intro pins s σ H Q I h
  refine wpAny_Call_Name_kw (ld_blt I hg hm hv ?_ hn hdb)
  exact PyProof.Rows.callWith_type1 (thn (ha pos pins s σ H _ I h) fun us s1 ⟨vs, H1, I1, r1, q1⟩ => hc pins s1 σ H1 vs us Q I1 r1 q1) he hpl
end
end L2

namespace HT
open PySem PyProof.Rows

section
open PySem.SeqAt
open PySem.AutoSeq1 (wpAny_loadPart')
open PySem.MeetsSeq PySem.MeetsSeq2 PySem.MeetsSeq3

end

section
variable {prog : Program} {w : World} {A : Around} {E : Value → Shared → Prop} {s : Shared}

theorem cat_tup {t b : Addr} {vs ws : List Value} {Q : Value → Shared → Prop} (ht : IsTup s.heap t vs.toArray) (hb : IsTup s.heap b ws.toArray) (hv : vs ≠ [])
    (h1 : ws = [] → Q (.ref t) s) (h2 : ws ≠ [] → Q (.ref s.heap.objs.size) { s with heap := s.heap.push { cls := .type "tuple", data := .seq (vs ++ ws).toArray } })
    (hsz : vs.length + ws.length ≤ sizeLine) : wpAny (model prog w) A (binaryOp .Add (.ref t) (.ref b)) Q E s := by
  obtain ⟨⟨cls, dd, data, sl⟩, ho, hc, n, hd⟩ := id ht
  obtain ⟨⟨cls2, dd2, data2, sl2⟩, ho2, hc2, n2, hd2⟩ := id hb
  simp only at hc hd hc2 hd2
  subst hc hd hc2 hd2
  have e : vs.toArray ++ ws.toArray = (vs ++ ws).toArray := by simp
  by_cases hw : ws = []
  · exact concat_meets ⟨_, ho, rfl⟩ ⟨_, ho2, rfl⟩ noFill_tuple_add seq_tuple_add PySem.F.slot_tuple_add PySem.F.entry_tuple_add (PySem.F.args_tuple_add_2 _ _)
      (tuple_addW1 t b vs.toArray ws.toArray n n2 dd dd2 sl sl2 (by simpa using hv) (by simp [hw])) ⟨ho, ho2, h1 hw⟩
  · refine concat_meets ⟨_, ho, rfl⟩ ⟨_, ho2, rfl⟩ noFill_tuple_add seq_tuple_add PySem.F.slot_tuple_add PySem.F.entry_tuple_add (PySem.F.args_tuple_add_2 _ _)
      (tuple_addW2 t b vs.toArray ws.toArray n n2 dd dd2 sl sl2 (by simpa using hv) (by simpa using hw) (by rw [List.size_toArray, List.size_toArray]; exact hsz)) ⟨ho, ho2, ?_⟩
    rw [e]
    exact h2 hw

/-! ### t[a:b], not the whole -/
end
end HT

namespace L2
open PySem PySem.Spec PyProof.Rows

/-! ### the parts of a slice -/
noncomputable abbrev TO := St → Hp → (Option Int → Hp → Prop) → Prop
noncomputable def PO (X : Cx) (e : Option Expr) (t : TO) : Prop :=
  ∀ (pins : List (Addr × Obj)) (s : Shared) (σ : St) (H : Hp) (Q : Option Int → Hp → Prop), Inv X pins σ H s → t σ H Q →
    wpAny (model X.prog X.w) X.A (evalPart e X.env) (fun u s' => ∃ o H', Inv X pins σ H' s' ∧ IsPart u o ∧ Q o H') X.xe s
noncomputable def tNoPart : TO := fun _ H Q => Q none H
noncomputable def tPart (t : TE) : TO := fun σ H Q => t σ H fun x H1 => ∃ i, x = .int i ∧ Q (some i) H1

theorem intsAre_of {ns : List Int} : ∀ {us : List Value}, Vals (ns.map V.int) us → IntsAre us ns := by
  induction ns with
  | nil => intro us r; rw [List.map_nil] at r; cases r; exact .nil
  | cons n ns ih =>
    intro us r
    rw [List.map_cons] at r
    cases r with
    | cons r1 r2 =>
      obtain ⟨t, e⟩ := r1
      subst e
      exact .cons n t (ih r2)

section
variable {X : Cx} {e : Expr} {te : TE} {lo hi : Option Expr} {tl th : TO} {pos p2 : Pos}

noncomputable def SlR (X : Cx) (r : V → Option Int → Option Int → Hp → VK → Prop) : Prop :=
  ∀ (pins : List (Addr × Obj)) (s : Shared) (σ : St) (H : Hp) (x : V) (v vl vu : Value) (lo hi : Option Int) (sl : Addr) (Q : VK), Inv X pins σ H s → RelV x v → s.heap.IsSliceOf sl vl vu .none → IsPart vl lo → IsPart vu hi → r x lo hi H Q →
    ∃ T id, typeLookup (.type T) "__getitem__" = pure (some (.builtin id)) ∧ s.TypeIs v T ∧ wpAny (model X.prog X.w) X.A (getItem v (.ref sl)) (EP X pins σ Q) X.xe s
theorem SlR.or {r r' : V → Option Int → Option Int → Hp → VK → Prop} (h : SlR X r) (h' : SlR X r') : SlR X (fun x lo hi H Q => r x lo hi H Q ∨ r' x lo hi H Q) := by
  intro pins s σ H x v vl vu lo hi sl Q I rx hs pl pu q
  rcases q with q | q
  · exact h pins s σ H x v vl vu lo hi sl Q I rx hs pl pu q
  · exact h' pins s σ H x v vl vu lo hi sl Q I rx hs pl pu q
noncomputable def tSl (r : V → Option Int → Option Int → Hp → VK → Prop) (te : TE) (tl th : TO) : TE := fun σ H Q => te σ H fun x H1 => tl σ H1 fun l H2 => th σ H2 fun u H3 => r x l u H3 Q
/-! ### t < u, t + u -/
noncomputable def rCatT (K : PySem.W.Frag) : R2 := fun x y H Q => ∃ a b xs ys, x = .ref a ∧ y = .ref b ∧ SqT K H a xs ∧ SqT K H b ys ∧ xs ≠ [] ∧ xs.length + ys.length ≤ sizeLine ∧
  (ys = [] → Q (.ref a) H) ∧ (ys ≠ [] → ∀ p, H p = none → Q (.ref p) (upd H p (.tup (xs ++ ys))))
theorem Vals.nil_iff {xs : List V} {us : List Value} (r : Vals xs us) : us = [] ↔ xs = [] := by
  cases r with
  | nil => simp
  | cons _ _ => simp
theorem op_catT : OpR X (binaryOp .Add) (rCatT X.K) := by
  intro pins s σ H x y v u Q I rx ry h
  obtain ⟨a, b, xs, ys, rfl, rfl, ha, hb, hx, hz, q1, q2⟩ := h
  cases rx
  cases ry
  obtain ⟨its, r1, p1, _⟩ := I.tuple ha
  obtain ⟨its2, r2, p2, _⟩ := I.tuple hb
  refine HT.cat_tup p1 p2 (fun z => hx (r1.nil_iff.mp z)) (fun z => ⟨.ref a, H, I, rfl, q1 (r2.nil_iff.mp z)⟩) (fun z => ?_) (by rw [← r1.length, ← r2.length]; exact hz)
  refine ⟨.ref s.heap.objs.size, _, I.laid (t' := s.toks) (o := .tup (xs ++ ys)) (fun b ob q => Heap.get?_push_of_some _ q) (Nat.le_refl _) ?_, rfl, q2 (fun w => z (r2.nil_iff.mpr w)) _ (I.hok.fresh (Nat.le_refl _))⟩
  exact ⟨by rw [List.length_append]; exact hz, _, r1.append r2, IsTupD.new _ _⟩
end
end L2

namespace L2
open PySem PySem.Spec PyProof.Rows

/-! ### places -/
noncomputable def ixN (n : Nat) (i : Int) : Option Nat := if 0 ≤ i then (if i < n then some i.toNat else none) else if -(n : Int) ≤ i then some (i + n).toNat else none
noncomputable def atI {α : Type} (xs : List α) (i : Int) : Option α := (ixN xs.length i).bind fun j => xs[j]?
theorem ixN_seq {n : Nat} {i : Int} {j : Nat} (h : ixN n i = some j) : seqIndex? i n = some j ∧ j < n ∧ -(n : Int) ≤ i ∧ i < n := by
  unfold ixN at h
  by_cases h0 : 0 ≤ i
  · rw [if_pos h0] at h
    by_cases h1 : i < n
    · rw [if_pos h1] at h
      have e : i.toNat = j := Option.some.inj h
      exact ⟨by rw [seqIndex_of h0 h1, e], by omega, by omega, h1⟩
    · rw [if_neg h1] at h; cases h
  · rw [if_neg h0] at h
    by_cases h1 : -(n : Int) ≤ i
    · rw [if_pos h1] at h
      have e : (i + n).toNat = j := Option.some.inj h
      exact ⟨by rw [seqIndex_neg (by omega) h1, e], by omega, h1, by omega⟩
    · rw [if_neg h1] at h; cases h
theorem atI_get {α : Type} {xs : List α} {i : Int} {v : α} (h : atI xs i = some v) : ∃ j, seqIndex? i xs.length = some j ∧ xs[j]? = some v ∧ j < xs.length ∧ -(xs.length : Int) ≤ i ∧ i < xs.length := by
  unfold atI at h
  cases e : ixN xs.length i with
  | none => rw [e] at h; cases h
  | some j =>
    rw [e] at h
    obtain ⟨h1, h2, h3, h4⟩ := ixN_seq e
    exact ⟨j, h1, h, h2, h3, h4⟩
theorem atI_nat {α : Type} {xs : List α} {j : Nat} {v : α} (h : xs[j]? = some v) : atI xs (j : Int) = some v := by
  have hj : j < xs.length := (List.getElem?_eq_some_iff.mp h).1
  have e : ixN xs.length (j : Int) = some j := by
    unfold ixN
    rw [if_pos (by omega), if_pos (by omega)]; simp
  unfold atI; rw [e]; exact h
/-! ### what may be subscripted -/
noncomputable def PlainIx (b : Expr) : Prop := ∀ o i, subscripted b false o i = operate [o, i] (getItem o i)
noncomputable def IxR (X : Cx) (r : R2) : Prop :=
  ∀ (value slice : Expr) (pins : List (Addr × Obj)) (s : Shared) (σ : St) (H : Hp) (x y : V) (v u : Value) (Q : VK), Inv X pins σ H s → RelV x v → RelV y u → r x y H Q →
    subscripted slice false v u = operate [v, u] (getItem v u) → wpAny (model X.prog X.w) X.A (subscriptTail value slice v u) (EP X pins σ Q) X.xe s
noncomputable def MtR (X : Cx) (id : String) (r : V → List V → Hp → VK → Prop) : Prop :=
  ∀ (pins : List (Addr × Obj)) (s : Shared) (σ : St) (H : Hp) (x : V) (xs : List V) (v : Value) (us : List Value) (Q : VK), Inv X pins σ H s → RelV x v → Vals xs us → r x xs H Q →
    wpAny (model X.prog X.w) X.A (call (.builtin id) (v :: us)) (EP X pins σ Q) X.xe s
section
variable {X : Cx} {a b : Expr} {ta tb : TE} {pos : Pos}
theorem IxR.or {r r' : R2} (h : IxR X r) (h' : IxR X r') : IxR X (fun x y H Q => r x y H Q ∨ r' x y H Q) := by
  intro value slice pins s σ H x y v u Q I rx ry q hs
  rcases q with q | q
  · exact h value slice pins s σ H x y v u Q I rx ry q hs
  · exact h' value slice pins s σ H x y v u Q I rx ry q hs
theorem MtR.or {id : String} {r r' : V → List V → Hp → VK → Prop} (h : MtR X id r) (h' : MtR X id r') : MtR X id (fun x xs H Q => r x xs H Q ∨ r' x xs H Q) := by
  intro pins s σ H x xs v us Q I rx rs q
  rcases q with q | q
  · exact h pins s σ H x xs v us Q I rx rs q
  · exact h' pins s σ H x xs v us Q I rx rs q
theorem pe_ix {r : R2} (hr : IxR X r) (ha : PE X a ta) (hb : PE X b tb) (hs : PlainIx b) : PE X (.Subscript a b pos) (tOp r ta tb) := by
  intro pins s σ H Q I h
  exact Subscript_ (binT ha hb I h fun v u s2 x y H2 I2 rx ry q => hr a b pins s2 σ H2 x y v u Q I2 rx ry q (hs _ _))

noncomputable def rIxL (K : PySem.W.Frag) : R2 := fun x y H Q => ∃ p xs i v, x = .ref p ∧ y = .int i ∧ SqL K H p xs ∧ atI xs i = some v ∧ Q v H
noncomputable def rIxT (K : PySem.W.Frag) : R2 := fun x y H Q => ∃ p xs i v, x = .ref p ∧ y = .int i ∧ SqT K H p xs ∧ atI xs i = some v ∧ Q v H
theorem ix_list : IxR X (rIxL X.K) := by
  intro value slice pins s σ H x y v u Q I rx ry h hs
  obtain ⟨p, xs, i, z, rfl, rfl, hq, he, q⟩ := h
  cases rx
  obtain ⟨t, rfl⟩ := ry
  obtain ⟨its, r, pl, hz⟩ := I.list hq
  obtain ⟨j, h1, h2, h3, h4, h5⟩ := atI_get he
  obtain ⟨w, ew, rw'⟩ := r.get h2
  have hl := r.length
  have hn := line63
  have fin : EP X pins σ Q w s := ⟨z, H, I, rw', q⟩
  by_cases h0 : 0 ≤ i
  · have hj : i.toNat = j := by
      rw [seqIndex_of h0 h5] at h1
      exact Option.some.inj h1
    exact item_listR pl.isList h0 (by omega) (by rw [hj]; simpa using ew) fin hs
  · have hj : (i + (its.toArray.size : Int)).toNat = j := by
      rw [seqIndex_neg (by omega) h4] at h1
      rw [List.size_toArray, ← hl]
      exact Option.some.inj h1
    exact subscriptTail_builtinR (x := w) pl.isList.typeIs slot_list_getitem.lookup
      (wpAny_getItem_list_neg (Q := fun r s' => r = w ∧ EP X pins σ Q r s') pl.isList (by omega) (by rw [List.size_toArray] <;> omega) (by omega) (by rw [hj]; simpa using ew) ⟨rfl, fin⟩) hs
theorem ix_tup : IxR X (rIxT X.K) := by
  intro value slice pins s σ H x y v u Q I rx ry h hs
  obtain ⟨p, xs, i, z, rfl, rfl, hq, he, q⟩ := h
  cases rx
  obtain ⟨t, rfl⟩ := ry
  obtain ⟨its, r, pl, hz⟩ := I.tuple hq
  obtain ⟨j, h1, h2, h3, h4, h5⟩ := atI_get he
  obtain ⟨w, ew, rw'⟩ := r.get h2
  have hl := r.length
  have hn := line63
  have fin : EP X pins σ Q w s := ⟨z, H, I, rw', q⟩
  exact subscriptTail_builtinR (x := w) pl.typeIs slot_tuple_getitem.lookup
    (getItem_tuple (j := j) (Q := fun r s' => r = w ∧ EP X pins σ Q r s') pl (by omega) (by omega) (by rw [List.size_toArray, ← hl]; exact h1) (by simpa using ew) ⟨rfl, fin⟩) hs
/-! ### xs[i] = v, any sign -/
theorem mapSeq_set (its : List Value) (n j : Nat) (u : Value) : Obj.mapSeq (·.setIfInBounds j u) { cls := .type "list", data := .seq its.toArray n } = { cls := .type "list", data := .seq (its.set j u).toArray n } := by
  simp [Obj.mapSeq]
theorem Inv.lst {pins : List (Addr × Obj)} {σ : St} {H : Hp} {s : Shared} {p : Addr} {xs : List V} (I : Inv X pins σ H s) (h : H p = some (.lst xs)) :
    ∃ (its : List Value) (n : Nat), Vals xs its ∧ s.heap.get? p = some { cls := .type "list", data := .seq its.toArray n } ∧ xs.length ≤ sizeLine := by
  obtain ⟨z, its, n, r, e⟩ := I.hok p _ h
  exact ⟨its, n, r, e, z⟩
theorem Inv.lstUpd {pins : List (Addr × Obj)} {σ : St} {H : Hp} {s : Shared} {p : Addr} {xs ys : List V} {its its' : List Value} {n n' : Nat} {f : Obj → Obj} (I : Inv X pins σ H s) (h : H p = some (.lst xs))
    (ho : s.heap.get? p = some { cls := .type "list", data := .seq its.toArray n }) (hf : f { cls := .type "list", data := .seq its.toArray n } = { cls := .type "list", data := .seq its'.toArray n' }) (r : Vals ys its') (hz : ys.length ≤ sizeLine) (t : Nat) :
    Inv X pins σ (upd H p (.lst ys)) { s with heap := s.heap.update p f, toks := t } := by
  have e : (s.heap.update p f).get? p = some { cls := .type "list", data := .seq its'.toArray n' } := by
    rw [Heap.get?_update_self f ho (by rw [hf] <;> rfl), hf]
  refine I.write (x := p) (e := p) (by rw [h]; trivial) (.inl rfl) (fun b u hb q => (Heap.get?_update_other _ _ (Ne.symm hb)).trans q) ⟨_, e⟩ ?_
  exact ⟨hz, its', n', r, e⟩
noncomputable def rSetL : V → V → V → Hp → (Hp → Prop) → Prop := fun o i v H Q => ∃ p xs k j, o = .ref p ∧ i = .int k ∧ H p = some (.lst xs) ∧ ixN xs.length k = some j ∧ Q (upd H p (.lst (xs.set j v)))
theorem set_list : PSet X rSetL := by
  intro pins s σ H o i v ov iv u Q I ro ri rv h
  obtain ⟨p, xs, k, j, rfl, rfl, hp, hj, q⟩ := h
  cases ro
  obtain ⟨t, rfl⟩ := ri
  obtain ⟨its, n, r, ho, hz⟩ := I.lst hp
  obtain ⟨h1, h2, h3, h4⟩ := ixN_seq hj
  have hl := r.length
  have hn := line63
  have I' : Inv X pins σ (upd H p (.lst (xs.set j v))) { s with heap := s.heap.update p (Obj.mapSeq (·.setIfInBounds j u)) } :=
    I.lstUpd hp ho (mapSeq_set its n j u) (r.set rv j) (by rw [List.length_set]; exact hz) s.toks
  by_cases h0 : 0 ≤ k
  · have hk : k.toNat = j := by
      rw [seqIndex_of h0 h4] at h1
      exact Option.some.inj h1
    exact PySem.W.ki_setAt ho h0 (by omega) (by rw [List.size_toArray, ← hl]; exact h4) (by rw [hk]; exact ⟨_, I', q⟩)
  · have hk : (k + (its.toArray.size : Int)).toNat = j := by
      rw [seqIndex_neg (by omega) h3] at h1
      rw [List.size_toArray, ← hl]
      exact Option.some.inj h1
    exact PySem.W.ki_setBack ho (by omega) (by rw [List.size_toArray, ← hl]; exact h3) (by omega) (by rw [hk]; exact ⟨_, I', q⟩)

/-! ### slices -/
/-! ### in, not in: flat items -/
noncomputable def flatV : V → Bool
  | .non => true
  | .bl _ => true
  | .int _ => true
  | .str _ => true
  | _ => false
noncomputable def eqV : V → V → Bool
  | .non, .non => true
  | .bl a, .bl b => a == b
  | .bl a, .int b => (if a then 1 else 0) == b
  | .int a, .bl b => a == (if b then 1 else 0)
  | .int a, .int b => a == b
  | .str a, .str b => a == b
  | _, _ => false
theorem eqAt_V {A : Around} {s : Shared} {y x : V} {u v : Value} (ry : RelV y u) (rx : RelV x v) (fy : flatV y = true) (fx : flatV x = true) : SeqAt.EqAt A s u v (eqV y x) := by
  cases y with
  | non =>
    cases ry
    cases x with
    | non => cases rx; exact SeqAt.EqAt.same _
    | bl b => cases rx; exact SeqAt.EqAt.none_bool b
    | int b => obtain ⟨t, rfl⟩ := rx; exact SeqAt.EqAt.none_int b t
    | str b => obtain ⟨t, rfl⟩ := rx; exact SeqAt.EqAt.none_str b t
    | _ => exact absurd (show false = true from fx) Bool.false_ne_true
  | bl a =>
    cases ry
    cases x with
    | non => cases rx; exact SeqAt.EqAt.bool_none a
    | bl b => cases rx; exact SeqAt.EqAt.bool_bool a b
    | int b => obtain ⟨t, rfl⟩ := rx; exact SeqAt.EqAt.bool_int a b t
    | str b => obtain ⟨t, rfl⟩ := rx; exact SeqAt.EqAt.bool_str a b t
    | _ => exact absurd (show false = true from fx) Bool.false_ne_true
  | int a =>
    obtain ⟨t', rfl⟩ := ry
    cases x with
    | non => cases rx; exact SeqAt.EqAt.int_none a t'
    | bl b => cases rx; exact SeqAt.EqAt.int_bool a t' b
    | int b => obtain ⟨t, rfl⟩ := rx; exact SeqAt.EqAt.int_int a t' b t
    | str b => obtain ⟨t, rfl⟩ := rx; exact SeqAt.EqAt.int_str a t' b t
    | _ => exact absurd (show false = true from fx) Bool.false_ne_true
  | str a =>
    obtain ⟨t', rfl⟩ := ry
    cases x with
    | non => cases rx; exact SeqAt.EqAt.str_none a t'
    | bl b => cases rx; exact SeqAt.EqAt.str_bool a t' b
    | int b => obtain ⟨t, rfl⟩ := rx; exact SeqAt.EqAt.str_int a t' b t
    | str b => obtain ⟨t, rfl⟩ := rx; exact SeqAt.EqAt.str_str a t' b t
    | _ => exact absurd (show false = true from fx) Bool.false_ne_true
  | _ => exact absurd (show false = true from fy) Bool.false_ne_true
noncomputable def eqU (x : V) (u : Value) : Bool := match u with
  | .none => eqV .non x
  | .bool b => eqV (.bl b) x
  | .int i _ => eqV (.int i) x
  | .str z _ => eqV (.str z) x
  | _ => false
theorem eqU_of {x y : V} {u : Value} (r : RelV y u) (f : flatV y = true) : eqU x u = eqV y x := by
  cases y with
  | non => cases r; rfl
  | bl b => cases r; rfl
  | int i => obtain ⟨t, rfl⟩ := r; rfl
  | str z => obtain ⟨t, rfl⟩ := r; rfl
  | _ => exact absurd (show false = true from f) Bool.false_ne_true
theorem mem_eqAt {A : Around} {s : Shared} {x : V} {v : Value} (rx : RelV x v) (fx : flatV x = true) : ∀ {xs : List V} {us : List Value}, Vals xs us → xs.all flatV = true → ∀ u ∈ us, SeqAt.EqAt A s u v (eqU x u)
  | _, _, .nil, _ => fun u hu => by cases hu
  | y :: xs, u :: us, .cons r t, f => fun u' hu => by
    rw [List.all_cons, Bool.and_eq_true] at f
    rcases List.mem_cons.mp hu with rfl | hu
    · rw [eqU_of r f.1]; exact eqAt_V r rx f.1 fx
    · exact mem_eqAt rx fx t f.2 u' hu
/-! ### len, list(x), tuple(x) of any list or tuple that is read -/
theorem call_len_seq : CallR X (.builtin "len") (fun xs H Q => ∃ p ys, xs = [.ref p] ∧ (SqL X.K H p ys ∨ SqT X.K H p ys) ∧ Q (.int ys.length) H) := by
  intro pins s σ H xs us Q I r h
  obtain ⟨p, ys, rfl, hq, q⟩ := h
  obtain ⟨u, rfl, rx⟩ := vals1 r
  cases rx
  have hn := line63
  rcases hq with hq | hq
  · obtain ⟨its, r', pl, hz⟩ := I.list hq
    have hlen := r'.length
    exact Calls.call_len_list pl.isList (by simp only [List.size_toArray] <;> omega) ⟨.int ys.length, H, I.tok _, ⟨s.toks + 1, by rw [List.size_toArray, hlen]⟩, q⟩
  · obtain ⟨its, r', pl, hz⟩ := I.tuple hq
    have hlen := r'.length
    exact len_tuple pl (by simp only [List.size_toArray] <;> omega) ⟨.int ys.length, H, I.tok _, ⟨s.toks + 1, by rw [List.size_toArray, hlen]⟩, q⟩
theorem CallR.or {f : Value} {r r' : List V → Hp → VK → Prop} (h : CallR X f r) (h' : CallR X f r') : CallR X f (fun xs H Q => r xs H Q ∨ r' xs H Q) := by
  intro pins s σ H xs us Q I rs q
  rcases q with q | q
  · exact h pins s σ H xs us Q I rs q
  · exact h' pins s σ H xs us Q I rs q
theorem call_list_of : CallR X (.type "list") (fun xs H Q => ∃ p ys, xs = [.ref p] ∧ (SqL X.K H p ys ∨ SqT X.K H p ys) ∧ ∀ l, H l = none → Q (.ref l) (upd H l (.lst ys))) := by
  intro pins s σ H xs us Q I r h
  obtain ⟨p, ys, rfl, hq, q⟩ := h
  obtain ⟨u, rfl, rx⟩ := vals1 r
  cases rx
  have fin : ∀ (its : List Value), Vals ys its → ys.length ≤ sizeLine → ∀ (h' : Heap) (c' : Nat), (∀ b o', s.heap.get? b = some o' → h'.get? b = some o') →
      h'.get? s.heap.objs.size = some { cls := .type "list", dict := none, data := .seq its.toArray c', slots := #[] } → EP X pins σ Q (.ref s.heap.objs.size) { s with heap := h' } := fun its r' hz h' c' kp e =>
    ⟨.ref s.heap.objs.size, _, I.laid (t' := s.toks) kp (Nat.le_refl _) (show ObjOk X.prog X.w _ h' _ (.lst ys) from ⟨hz, its, c', r', e⟩), rfl, q _ (I.hok.fresh (Nat.le_refl _))⟩
  rcases hq with hq | hq
  · obtain ⟨its, r', pl, hz⟩ := I.list hq
    have hlen := r'.length
    obtain ⟨o, ho, hc, n, hd⟩ := pl.isList
    exact call_list_seq p (.inl rfl) ho hc hd (fun h' c' kp e => fin its r' hz h' c' kp e) (by simp only [List.size_toArray] <;> omega)
  · obtain ⟨its, r', pl, hz⟩ := I.tuple hq
    have hlen := r'.length
    obtain ⟨o, ho, hc, n, hd⟩ := pl
    exact call_list_seq p (.inr rfl) ho hc hd (fun h' c' kp e => fin its r' hz h' c' kp e) (by simp only [List.size_toArray] <;> omega)
theorem call_tuple_of : CallR X (.type "tuple") (fun xs H Q => ∃ p ys, xs = [.ref p] ∧ ((SqL X.K H p ys ∧ ∀ l, H l = none → Q (.ref l) (upd H l (.tup ys))) ∨ (SqT X.K H p ys ∧ Q (.ref p) H))) := by
  intro pins s σ H xs us Q I r h
  obtain ⟨p, ys, rfl, h⟩ := h
  obtain ⟨u, rfl, rx⟩ := vals1 r
  cases rx
  rcases h with ⟨hq, q⟩ | ⟨hq, q⟩
  · obtain ⟨its, r', pl, hz⟩ := I.list hq
    have hlen := r'.length
    refine call_tuple_list pl.isList (fun h' kp => ?_) (by simp only [List.size_toArray] <;> omega)
    have I1 : Inv X pins σ H { s with heap := h' } := I.kept (t' := s.toks) kp
    have I2 : Inv X pins σ (upd H h'.objs.size (.tup ys)) { s with heap := h'.push { cls := .type "tuple", data := .seq its.toArray } } :=
      I1.laid (t' := s.toks) (fun b o e => Heap.get?_push_of_some _ e) (Nat.le_refl _) (show ObjOk X.prog X.w _ _ _ (.tup ys) from ⟨hz, its, r', IsTupD.new _ _⟩)
    exact ⟨.ref h'.objs.size, _, I2, rfl, q _ (I1.hok.fresh (Nat.le_refl _))⟩
  · obtain ⟨its, r', pl, hz⟩ := I.tuple hq
    exact call_tuple_same pl ⟨.ref p, H, I, rfl, q⟩

/-! ### the call of a builtin's method: o.m(..) -/
noncomputable def tyV (K : PySem.W.Frag) (T : String) (x : V) (H : Hp) : Prop := match x with
  | .str _ => T = "str"
  | .int _ => T = "int"
  | .ref p => (T = "list" ∧ ∃ xs, SqL K H p xs) ∨ (T = "tuple" ∧ ∃ o, K.lookup p = some o ∧ o.cls = .type "tuple" ∧ o.dict = none) ∨
      (T = "dict" ∧ ((∃ kvs, H p = some (.dK kvs)) ∨ ∃ kvs, H p = some (.dT kvs))) ∨ (T = "set" ∧ ∃ S n, H p = some (.set S n))
  | _ => False
theorem tyV_is {pins : List (Addr × Obj)} {σ : St} {H : Hp} {s : Shared} {T : String} {x : V} {v : Value} (I : Inv X pins σ H s) (r : RelV x v) (ty : tyV X.K T x H) :
    s.TypeIs v T ∧ ∀ a, v = .ref a → ∃ ob, s.heap.get? a = some ob ∧ ob.dict = none := by
  cases x with
  | str z =>
    obtain ⟨t, rfl⟩ := r
    cases (show T = "str" from ty)
    exact ⟨typeIs_str s z t, fun _ e => nomatch e⟩
  | int i =>
    obtain ⟨t, rfl⟩ := r
    cases (show T = "int" from ty)
    exact ⟨typeIs_int s i t, fun _ e => nomatch e⟩
  | ref p =>
    cases r
    rcases ty with ⟨rfl, xs, hq⟩ | ⟨rfl, o, hk, hc, hd⟩ | ⟨rfl, hk⟩ | ⟨rfl, S, n, hk⟩
    · obtain ⟨its, _, pl, _⟩ := I.list hq
      refine ⟨pl.isList.typeIs, fun a e => ?_⟩
      cases e
      obtain ⟨o, n, e, c, hd, _⟩ := pl
      exact ⟨o, e, hd⟩
    · refine ⟨⟨o, I.kIn p o hk, hc⟩, fun a e => ?_⟩
      cases e
      exact ⟨o, I.kIn _ o hk, hd⟩
    · have z : ∃ o, s.heap.get? p = some o ∧ o.ExactDict := by
        rcases hk with ⟨kvs, hk⟩ | ⟨kvs, hk⟩
        · obtain ⟨_, _, _, _, o, _, _, e, ex, _⟩ := I.hok p _ hk
          exact ⟨o, e, ex⟩
        · obtain ⟨_, _, _, _, o, _, _, e, ex, _⟩ := I.hok p _ hk
          exact ⟨o, e, ex⟩
      obtain ⟨o, e, ex⟩ := z
      refine ⟨⟨o, e, ex.1⟩, fun a e2 => ?_⟩
      cases e2
      exact ⟨o, e, ex.2.1⟩
    · obtain ⟨o, _, _, _, e, ex, _⟩ := I.hok p _ hk
      refine ⟨⟨o, e, ex.1⟩, fun a e2 => ?_⟩
      cases e2
      exact ⟨o, e, ex.2.1⟩
  | _ => exact False.elim ty
noncomputable def tBM0 (K : PySem.W.Frag) (T : String) (r : V → List V → Hp → VK → Prop) (to : TE) : TE := fun σ H Q => to σ H fun x H1 => tyV K T x H1 ∧ r x [] H1 Q
noncomputable def tBM (K : PySem.W.Frag) (T : String) (r : V → List V → Hp → VK → Prop) (to : TE) (t : TA) : TE := fun σ H Q => to σ H fun x H1 => tyV K T x H1 ∧ t σ H1 fun xs H2 => r x xs H2 Q
variable {o e : Expr} {es : List Expr} {to : TE} {t : TA} {name : Str} {apos cpos : Pos} {T id : String} {r : V → List V → Hp → VK → Prop}
theorem pe_bm0 (pa : PlainAttrs T) (slot : Slot T name id) (hty : typeOf (.builtin id) = pure (.type "method_descriptor")) (hm : MtR X id r) (ho : PE X o to)
    (hbase : attributeBase o name X.env (eval o X.env) = eval o X.env := by rfl) (hline : (apos.endLine == cpos.line) = true := by rfl) : PE X (.Call (.Attribute o name apos) [] [] cpos) (tBM0 X.K T r to) := by
  intro pins s σ H Q I h
  refine wpAny_Call_method0_late hbase hline (thn (ho pins s σ H _ I h) fun v s1 ⟨x, H1, I1, r1, ty, q1⟩ => ?_)
  obtain ⟨h1, h2⟩ := tyV_is I1 r1 ty
  exact ⟨T, id, pa, slot, hty, h1, h2, Calls.callWith_builtin rfl (PySem.evalArgs_none (hm pins s1 σ H1 x [] v [] Q I1 r1 .nil q1))⟩
theorem pe_bm (pa : PlainAttrs T) (slot : Slot T name id) (hty : typeOf (.builtin id) = pure (.type "method_descriptor")) (hm : MtR X id r) (ho : PE X o to) (ha : PA X (e :: es) t)
    (hbase : attributeBase o name X.env (eval o X.env) = eval o X.env := by rfl)
    (hfew : ((backTo cpos (starEach (e :: es) X.env)).all (fun x => !x.1) && (backToKw cpos (keywordEach [] X.env)).all (fun x => x.1.isSome)
      && decide ((e :: es).length + ([] : List Keyword).length + (if ([] : List Keyword).isEmpty then 0 else 1) < 30)) = true := by rfl)
    (hline : (apos.endLine == cpos.line) = true := by rfl) (hs : starEach (e :: es) X.env = (false, eval e X.env) :: starEach es X.env := by rfl) (hplain : (backTo cpos (starEach es X.env)).any (·.1) = false := by rfl) :
    PE X (.Call (.Attribute o name apos) (e :: es) [] cpos) (tBM X.K T r to t) := by
  intro pins s σ H Q I h
  refine wpAny_Call_method_late hbase hfew hline rfl (thn (ho pins s σ H _ I h) fun v s1 ⟨x, H1, I1, r1, ty, q1⟩ => ?_)
  obtain ⟨h1, h2⟩ := tyV_is I1 r1 ty
  refine ⟨T, id, pa, slot, hty, h1, h2, ?_⟩
  have hA := ha cpos pins s1 σ H1 _ I1 q1
  rw [hs] at hA ⊢
  refine Calls.callWith_builtin (by show (false || (backTo cpos (starEach es X.env)).any (·.1)) = false; rw [hplain] <;> rfl) (Calls.evalArgs_plain ?_)
  exact thn hA fun us s2 ⟨vs, H2, I2, r2, q2⟩ => hm pins s2 σ H2 x vs v us Q I2 r1 r2 q2
/- xs.append(e), list.index on a module's tuple .. are MtR facts of 06m -/
end
end L2

namespace L2
open PySem PySem.Spec PyProof.Rows

noncomputable def MtM (X : Cx) (id : String) (r : V → List V → Hp → VK → Prop) : Prop :=
  ∀ (pins : List (Addr × Obj)) (s : Shared) (σ : St) (H : Hp) (x : V) (xs : List V) (v : Value) (us : List Value) (Q : VK), Inv X pins σ H s → RelV x v → Vals xs us → r x xs H Q →
    wpAny (model X.prog X.w) X.A (call (.builtin id) (v :: us)) (EP X pins σ Q) X.xe s

/-! ### lists of values -/
theorem Vals.one {x : V} {us : List Value} (h : Vals [x] us) : ∃ u, us = [u] ∧ RelV x u := by
  cases h with
  | cons r t => cases t; exact ⟨_, rfl, r⟩
theorem Vals.two {x y : V} {us : List Value} (h : Vals [x, y] us) : ∃ u v, us = [u, v] ∧ RelV x u ∧ RelV y v := by
  cases h with
  | cons r t => cases t with
    | cons q z => cases z; exact ⟨_, _, rfl, r, q⟩
theorem Vals.zero : ∀ {us : List Value}, Vals [] us → us = []
  | _, .nil => rfl
theorem Vals.eraseIdx : ∀ {xs : List V} {us : List Value} (i : Nat), Vals xs us → Vals (xs.eraseIdx i) (us.eraseIdx i)
  | _, _, _, .nil => .nil
  | _, _, 0, .cons _ t => t
  | _, _, i + 1, .cons r t => .cons r (Vals.eraseIdx i t)
theorem Vals.reverse {xs : List V} {us : List Value} (h : Vals xs us) : Vals xs.reverse us.reverse := by
  induction h with
  | nil => exact .nil
  | cons r t ih => rw [List.reverse_cons, List.reverse_cons]; exact Vals.append ih (.cons r .nil)
section
variable {X : Cx} {pins : List (Addr × Obj)} {σ : St} {H : Hp} {s : Shared} {l b : Addr} {xs ys zs : List V}

/-! ### the two steps: a tracked list is rewritten, a new list is laid -/
theorem Inv.lset {its its' : List Value} {n : Nat} {f : Array Value → Array Value} {t' : Nat} (I : Inv X pins σ H s) (hH : H l = some (.lst xs))
    (e : s.heap.get? l = some { cls := .type "list", data := .seq its.toArray n }) (hf : f its.toArray = its'.toArray) (hv : Vals ys its') (hz : ys.length ≤ sizeLine) :
    Inv X pins σ (upd H l (.lst ys)) { s with heap := s.heap.update l (Obj.mapSeq f), toks := t' } := by
  have q := PySem.IsL.update e f
  rw [hf] at q
  refine I.write (x := l) (e := l) (by rw [hH]; exact trivial) (.inl rfl) (fun b' u hb hu => (Heap.get?_update_other s.heap (Obj.mapSeq f) (Ne.symm hb)).trans hu) ⟨_, q⟩ ?_
  exact ⟨hz, its', _, hv, q⟩
theorem Inv.lnew {its : List Value} {t' : Nat} (I : Inv X pins σ H s) (hv : Vals ys its) (hz : ys.length ≤ sizeLine) :
    Inv X pins σ (upd H s.heap.objs.size (.lst ys)) { s with heap := s.heap.push { cls := .type "list", data := .seq its.toArray }, toks := t' } :=
  I.laid (fun _ _ q => Heap.get?_push_of_some _ q) (Nat.le_refl _) ⟨hz, its, 0, hv, Heap.get?_push_size _ rfl⟩
theorem Inv.fresh (I : Inv X pins σ H s) : H s.heap.objs.size = none := I.hok.fresh (Nat.le_refl _)
theorem Inv.lstM (I : Inv X pins σ H s) (hH : H l = some (.lst xs)) : xs.length ≤ sizeLine ∧ ∃ (its : List Value) (n : Nat), Vals xs its ∧ xs.length = its.length ∧ s.heap.get? l = some { cls := .type "list", data := .seq its.toArray n } := by
  obtain ⟨z, its, n, r, e⟩ := I.hok l _ hH
  exact ⟨z, its, n, r, r.length, e⟩

end

section
variable {X : Cx}

/-! ### methods -/
noncomputable def rAppend : V → List V → Hp → VK → Prop := fun x vs H Q => ∃ l xs y, x = .ref l ∧ vs = [y] ∧ H l = some (.lst xs) ∧ xs.length < sizeLine ∧ Q .non (upd H l (.lst (xs ++ [y])))
theorem mt_append : MtM X "list.append" rAppend := by
  intro pins s σ H x vs v us Q I rx rv h
  obtain ⟨l, xs, y, rfl, rfl, hH, hz, q⟩ := h
  cases rx
  obtain ⟨u, rfl, ru⟩ := rv.one
  obtain ⟨z, its, n, r, hl, e⟩ := I.lstM hH
  refine call_meets F.slot_list_append ⟨_, e, rfl⟩ F.entry_list_append (F.args_list_append_2 _ _) (PySem.list_append l its.toArray n u (by rw [List.size_toArray]; omega)) ⟨e, ?_⟩
  refine ⟨.non, _, I.lset (its' := its ++ [u]) hH e (by simp) (r.append (.cons ru .nil)) ?_, rfl, q⟩
  rw [List.length_append, List.length_singleton]
  omega

noncomputable def rClear : V → List V → Hp → VK → Prop := fun x vs H Q => ∃ l xs, x = .ref l ∧ vs = [] ∧ H l = some (.lst xs) ∧ Q .non (upd H l (.lst []))
theorem mt_clear : MtM X "list.clear" rClear := by
  intro pins s σ H x vs v us Q I rx rv h
  obtain ⟨l, xs, rfl, rfl, hH, q⟩ := h
  cases rx
  have hus := rv.zero
  subst hus
  obtain ⟨z, its, n, r, hl, e⟩ := I.lstM hH
  refine call_meets F.slot_list_clear ⟨_, e, rfl⟩ F.entry_list_clear (F.args_list_clear_1 _) (AutoSeq1.list_clear_list_0 l its.toArray n (by rw [List.size_toArray]; omega)) ⟨e, ?_⟩
  exact ⟨.non, _, I.lset (its' := []) (ys := []) hH e rfl .nil (Nat.zero_le _), rfl, q⟩

/-! ### list + list, list += list, list * int -/
noncomputable def rCat : R2 := fun x y H Q => ∃ l b xs zs, x = .ref l ∧ y = .ref b ∧ H l = some (.lst xs) ∧ H b = some (.lst zs) ∧ xs.length + zs.length ≤ sizeLine ∧ ∀ p, H p = none → Q (.ref p) (upd H p (.lst (xs ++ zs)))
theorem op_cat : OpR X (binaryOp .Add) rCat := by
  intro pins s σ H x y v u Q I rx ry h
  obtain ⟨l, b, xs, zs, rfl, rfl, hH, hB, hz, q⟩ := h
  cases rx
  cases ry
  obtain ⟨z, its, n, r, hl, e⟩ := I.lstM hH
  obtain ⟨z2, its2, n2, r2, hl2, e2⟩ := I.lstM hB
  refine PySem.P.add_list e e2 ?_ (by rw [List.size_toArray, List.size_toArray]; omega)
  have ea : its.toArray ++ its2.toArray = (its ++ its2).toArray := by simp
  rw [ea]
  exact ⟨.ref _, _, I.lnew (t' := s.toks) (r.append r2) (by rw [List.length_append]; omega), rfl, q _ I.fresh⟩
/-! ### del xs[i] -/
end

/-! ### xs[a:b] = ys -/
section
variable {prog : Program} {w : World} {A : Around} {E : Value → Shared → Prop} {s : Shared}
end

section
variable {X : Cx}
end
end L2

namespace Att
open PySem PySem.W PySem.Calls PyProof.Rows

/-! ### the script -/
theorem ints_of_wellAll {P : Params} {h : Heap} : ∀ (ns : List Int) (vs : List Value), WellAll P h vs (ns.map WData.int) → IntsAre vs ns := by
  intro ns
  induction ns with
  | nil =>
    intro vs w
    rw [List.map_nil] at w
    cases w
    exact .nil
  | cons n ns ih =>
    intro vs w
    rw [List.map_cons] at w
    cases w with
    | cons a b =>
      cases a
      exact .cons _ _ (ih _ b)

theorem script_of {l : OpenLaw} {n : Nat} (hn : l.most = some n) {P : Params} {h : Heap} {args : List WData} {vals : List Value}
    (hpre : l.row.toRowW.claim.pre args = true) (hwl : WellAll P h vals args) :
    ∃ a vs ns, vals = [Value.ref a] ∧ args = [WData.list (ns.map WData.int)] ∧ h.get? a = some { cls := .type "list", data := .seq vs.toArray } ∧ IntsAre vs ns ∧ ns.length ≤ n := by
  have hsh : WShape.hasAll [] args [.list .int] = true := (pre_splitW hpre).1
  have hc : l.pre.holds [] { args := args } = true := (pre_splitW hpre).2
  obtain ⟨d, r, rfl, h1, h2⟩ := hasAllW_cons hsh
  obtain rfl := hasAllW_nil h2
  obtain ⟨xs, rfl, h3⟩ := hasW_list h1
  obtain ⟨ns, rfl⟩ := items_int h3
  have hlen : ns.length ≤ n := by
    unfold OpenLaw.pre at hc
    have h4 : (WTm.not (.lt (.lit (.int (n : Int))) (.len (.arg 0)))).holds [] { args := [.list (ns.map .int)] } = true := by
      have h4 := (holds_andW hc).1
      rw [hn] at h4
      exact h4
    have h5 := condW_of h4 (w_not (w_lt w_lit (w_len_list (w_arg rfl))))
    rw [List.length_map] at h5
    refine Nat.le_of_not_lt fun q => ?_
    have q' : (n : Int) < ((ns.length : Nat) : Int) := by omega
    first
      | (rw [decide_eq_true q'] at h5; exact absurd h5 (by decide))
      | (simp at h5; omega)
  cases hwl with
  | cons w1 w2 =>
    cases w2
    cases w1 with
    | list ho hall => exact ⟨_, _, ns, rfl, rfl, ho, ints_of_wellAll ns _ hall, hlen⟩

theorem post_true (l : OpenLaw) (args : List WData) : l.row.toRowW.claim.post args (.bool true) args = true :=
  postW_of (r := l.row.toRowW) (X := (true == true))
    (show WShape.has [] (.bool true) .bool = true by first | rfl | decide | simp [WShape.has, WShape.arms, WShape.armsAll])
    (show (WTm.eq .res (.lit (.bool true))).value [] { args := args, res := some (.bool true), after := args } = some (.bool (true == true)) from w_eq_bool (w_res rfl) w_lit) rfl

/-! ### the attachment: holds_open's last premise (the goal 'hc' behind k_head) from a wpAny of the law's body -/
theorem attach_call {l : OpenLaw} {n : Nat} {q : Program} {loose : List Str} {XP : (Str → Option Value) → Heap → Prop} {YP : World → Heap → Prop} {d : DefRec}
    (hn : l.most = some n) (hdf : d.params.defaults = [])
    (call : ∀ (w : World) (s₀ s₁ : Shared) (mg mb : Str → Option Value) (fa : Addr) (o : Obj) (pm cd doc : Value) (a : Addr) (vs : List Value) (ns : List Int),
      Ground q loose [] XP w s₀ mg mb s₁.heap → YP w s₁.heap →
      s₁.heap.get? fa = some o → o.data = .func (docDef d.name d.params d.body d.scope pm cd doc) → s₁.heap.CodeRec cd d.name → mg d.name = some (.ref fa) →
      s₁.heap.get? a = some { cls := .type "list", data := .seq vs.toArray } → IntsAre vs ns → ns.length ≤ n → s₁.gens = #[] →
      codeAny (model l.prog w) callerA (.call (.ref fa) ⟨[.ref a], []⟩) (fun r s' => r = .ok (.ret (.bool true)) ∧ OldK s₁.heap s'.heap ∧ s'.os = s₁.os ∧ AllBare s'.gens) s₁) :
    WalkO q loose XP YP l.row.toRowW d [] (fun f vs => PySem.call f vs) := by
  intro w s₀ s₁ mg mb G Y fa o pm cd doc dV kV ho hd hcd hD hmg hg args vals as hpre hlay hrd hwl hlo
  obtain rfl : dV = .none := Dflts.none hD hdf
  obtain rfl : kV = .none := Dflts.noKw hD
  obtain ⟨a, vs, ns, rfl, rfl, hobj, hints, hlen⟩ := script_of hn hpre hwl
  refine enter_call (codeAny_mono (call w s₀ s₁ mg mb fa o pm cd doc a vs ns G Y ho (fd_plain hd) hcd hmg hobj hints hlen hg) fun r s' hq => ?_)
  obtain ⟨rfl, h2, h3, h4⟩ := hq
  exact ⟨.inl ⟨.bool true, .bool true, [], rfl, fun _ => rfl, .bool true, post_true l _, fun _ => ⟨List.Pairwise.nil, fun _ hm => (nomatch hm)⟩⟩, h2, h3, h4⟩

/-! ### rules over ANY heap (no ledger) from facts about the written part K: the library's own take a ledger (News) for what they write -/
section
variable {prog : Program} {w : World} {A : Around} {E : Value → Shared → Prop} {s : Shared} {K : Frag}

/-! the whole heap as the ledger: makes every rule that writes through a ledger a rule over any heap -/
noncomputable def ledger (h : Heap) (L d : Addr) : List (Addr × Obj) := (List.range h.objs.size).filterMap fun a => if a = L ∨ a = d then none else (h.get? a).map fun o => (a, o)
end
end Att

namespace L2
open PySem PySem.Spec PyProof.Rows

theorem vals_ints : ∀ {vs : List Value} {ns : List Int}, IntsAre vs ns → Vals (ns.map V.int) vs
  | _, _, .nil => .nil
  | _, _, .cons n t h => .cons ⟨t, rfl⟩ (vals_ints h)

noncomputable def Only (H : Hp) : Prop := ∀ b, H b = none ∨ ∃ o xs, H b = some (.frz o (.lst xs))

theorem law_call {P : Program} {w : World} {K : PySem.W.Frag} {mg mb : Str → Option Value} {CX : CXT} {k : Nat} {fa a : Addr} {fd : FuncData} {x : Str} {sp : Sp} {s₁ : Shared} {vs : List Value} {ns : List Int}
    (KX : K.In s₁.heap) (hns : s₁.heap.Ns mainGlobals mg) (hb : s₁.heap.Ns builtinsNs mb) (hbb : ∀ x : Str, x ≠ "__name__" → mb x = bootBuiltins x) (hlim : s₁.heap.NoLimit) (hg : s₁.gens = #[])
    (ha : s₁.heap.get? a = some { cls := .type "list", data := .seq vs.toArray }) (hi : IntsAre vs ns) (hl : ns.length ≤ sizeLine) (hr : Room k callerA)
    (F : ∀ base : Heap, K.In base → base.Ns mainGlobals mg → FnOk P w K mg base CX k fa fd [x] sp) (hbind : ∀ (s : Shared) (u : Value), BindsTo s fd ⟨[u], []⟩ [(x, u)])
    (hsp : ∀ H : Hp, Only H → SqL K H a (ns.map V.int) → sp [.ref a] H (fun v _ => v = .bl true) fun _ _ _ => False)
    (hCX : ∀ H e s', CX [] H s₁ (fun _ _ _ => False) e s' → False) :
    codeAny (model P w) callerA (.call (.ref fa) ⟨[.ref a], []⟩) (fun r s' => r = .ok (.ret (.bool true)) ∧ OldK s₁.heap s'.heap ∧ s'.os = s₁.os ∧ AllBare s'.gens) s₁ := by
  have rv := vals_ints hi
  have lenV := hi.length
  -- from an abstract heap in which nothing but the script may be tracked
  have core : ∀ H : Hp, Only H → SqL K H a (ns.map V.int) → HOk P w H s₁.heap → (∀ b, H b ≠ none → b = a) → (H a ≠ none → K.lookup a = none) →
      codeAny (model P w) callerA (.call (.ref fa) ⟨[.ref a], []⟩) (fun r s' => r = .ok (.ret (.bool true)) ∧ OldK s₁.heap s'.heap ∧ s'.os = s₁.os ∧ AllBare s'.gens) s₁ := by
    intro H hO hS hok hA hK
    have base_of : ∀ {b : Addr} {o : Obj}, s₁.heap.get? b = some o → H b = none → (hidT s₁.heap H).get? b = some o := fun e n => hidT_get e n
    have noA : ∀ {b : Addr} {o : Obj} {es : Array DictEntry} {ep : Nat}, s₁.heap.get? b = some o → o.data = .dict es ep → H b = none := fun {b o es ep} e d => by
      cases q : H b with
      | none => rfl
      | some u =>
        have e' : b = a := hA b (by rw [q]; simp)
        subst e'
        rw [ha] at e; cases e
        have d' : Data.seq vs.toArray _ = Data.dict es ep := d
        cases d'
    have nsK : ∀ {b : Addr} {m : Str → Option Value}, s₁.heap.Ns b m → (hidT s₁.heap H).Ns b m := fun {b m} ⟨o, es, ep, e, d, r⟩ => ⟨o, es, ep, base_of e (noA e d), d, r⟩
    have hKb : K.In (hidT s₁.heap H) := fun b o e => base_of (KX b o e) (by
      cases q : H b with
      | none => rfl
      | some u =>
        have e' : b = a := hA b (by rw [q]; simp)
        subst e'
        rw [hK (by rw [q]; simp)] at e; cases e)
    have hM : Mod K mg (hidT s₁.heap H) := ⟨hKb, nsK hns, ⟨mb, nsK hb, hbb⟩, let ⟨mc, h1, h2⟩ := hlim; ⟨mc, nsK h1, h2⟩⟩
    have e0 : Env0 P w K mg (hidT s₁.heap H) callerA [] s₁ H := ⟨rfl, hM, fun b o e => of_hidT e, Nat.le_of_eq (hidT_size _ _), trivial, fun b hb => absurd (show b ∈ ([] : List Addr) from hb) (by simp), hok, .of_eq hg⟩
    refine codeAny_mono ((F _ hKb (nsK hns)).run callerA [] s₁ H ⟨[.ref a], []⟩ [.ref a] [.ref a] _ _ hr e0 (hbind s₁ (.ref a)) (.cons rfl .nil) (hsp H hO hS)) fun r s' h => ?_
    cases r with
    | error e => exact (hCX H e s' h).elim
    | ok fl =>
      cases fl with
      | next => exact False.elim h
      | brk => exact False.elim h
      | cont => exact False.elim h
      | ret u =>
        obtain ⟨v, H', os, bare, un, hok', r', q⟩ := h
        have q' : v = .bl true := q
        subst q'
        obtain rfl : u = Value.bool true := r'
        refine ⟨rfl, OldK.of_keep fun b o e => ?_, os, bare⟩
        cases q : H b with
        | none => exact un.keep b o e q (by intro z; exact absurd (show b ∈ ([] : List Addr) from z) (by simp)) (by simp)
        | some u =>
          rcases hO b with z | ⟨ob, xs, z⟩
          · rw [q] at z; cases z
          · have z2 := un.frzs b ob _ z
            obtain ⟨e1, _⟩ := hok b _ z
            obtain ⟨e2, _⟩ := hok' b _ z2
            rw [e] at e1; cases e1
            exact e2
  cases hk : K.lookup a with
  | some o =>
    -- the script is one of the module's own objects
    have e := KX a o hk
    rw [ha] at e
    cases e
    refine core (fun _ => none) (fun _ => .inl rfl) (.inr ⟨_, vs.toArray, _, hk, rfl, rfl, rfl, by rw [List.size_toArray, lenV]; exact hl, by simpa using rv⟩) (fun b u z => by have z' : (none : Option HO) = some u := z; cases z') (fun b z => absurd rfl z) fun z => absurd rfl z
  | none =>
    refine core (fun b => if b = a then some (.frz { cls := .type "list", data := .seq vs.toArray } (.lst (ns.map V.int))) else none) (fun b => ?_) (.inl (.inr ⟨{ cls := .type "list", data := .seq vs.toArray }, if_pos rfl⟩)) (fun b u z => ?_) (fun b z => ?_) fun _ => hk
    · by_cases hb : b = a
      · exact .inr ⟨_, _, if_pos hb⟩
      · exact .inl (if_neg hb)
    · by_cases hb : b = a
      · have z' := (if_pos hb).symm.trans z
        cases z'
        subst hb
        exact ⟨ha, by rw [List.length_map]; exact hl, vs, _, rv, ha⟩
      · have z' := (if_neg hb).symm.trans z
        cases z'
    · by_cases hb : b = a
      · exact hb
      · exact absurd (if_neg hb) z
end L2

namespace L2
open PySem PySem.Spec PyProof.Rows

noncomputable abbrev KOf {K : PySem.W.Frag} {h : Heap} (_ : K.In h) : PySem.W.Frag := K

theorem walk_of {l : PySem.W.OpenLaw} {n k : Nat} {q : Program} {loose : List Str} {XP : (Str → Option Value) → Heap → Prop} {YP : World → Heap → Prop} {d : DefRec} {K : Params → PySem.W.Frag} {CX : World → CXT} {sp : World → Sp} {x : Str}
    (hn : l.most = some n) (hn2 : n ≤ sizeLine) (hdf : d.params.defaults = []) (hr : Room k callerA)
    (hY : ∀ (w : World) (h : Heap), YP w h → (K w.params).In h)
    (F : ∀ (w : World) (mg : Str → Option Value) (fa : Addr) (h : Heap), (K w.params).In h → h.Ns mainGlobals mg → mg d.name = some (.ref fa) →
      ∃ fd : FuncData, (∀ (s : Shared) (u : Value), BindsTo s fd ⟨[u], []⟩ [(x, u)]) ∧
        ∀ base : Heap, (K w.params).In base → base.Ns mainGlobals mg → FnOk l.prog w (K w.params) mg base (CX w) k fa fd [x] (sp w))
    (hsp : ∀ (w : World) (H : Hp) (a : Addr) (ns : List Int), ns.length ≤ n → Only H → SqL (K w.params) H a (ns.map V.int) → sp w [.ref a] H (fun v _ => v = .bl true) fun _ _ _ => False)
    (hCX : ∀ (w : World) (H : Hp) (s : Shared) (e : Value) (s' : Shared), CX w [] H s (fun _ _ _ => False) e s' → False) :
    PySem.W.WalkO q loose XP YP l.row.toRowW d [] (fun f vs => PySem.call f vs) := by
  refine Att.attach_call hn hdf fun w s₀ s₁ mg mb fa o pm cd doc a vs ns G Y ho hd hcd hmg hobj hints hlen hg => ?_
  have KX := hY w _ Y
  obtain ⟨fd, hb, hF⟩ := F w mg fa _ KX G.T.g hmg
  exact law_call KX G.T.g G.T.b G.T.builtins G.T.nolimit hg hobj hints (Nat.le_trans hlen hn2) hr hF hb (fun H hO hS => hsp w H a ns hlen hO hS) fun H e s' => hCX w H s₁ e s'
end L2

/- THE LAST THEOREM (shape; LID, My.* are yours):
   My.Adr: a structure of the addresses that your layer names (classes, functions); My.Txt K t: a structure (Prop) of the equations over K;
   My.txt_mk : {K} {implicit addresses ..} (e1 : nsIn K mainGlobals "law" = some (some (.ref f))) (e2 : K.lookup f = some ⟨oc, od, .func (fnOf "law" "law" params body scope dV kV doc pm an cdv ct), sl⟩) (e3 : codeIn K cdv "law" = true) .. : ∃ t, My.Txt K t

set_option maxRecDepth 100000 in
set_option maxHeartbeats 0 in
theorem PySem.Challenge.cw_LID_holds : PySem.Challenge.rw_LID.Holds := by
  w_on; o_law; k_head; (case hw => w_witness2)
  k_fill
  refine L2.walk_of (l := PySem.Challenge.rw_LID) (n := 63) (k := 40) (x := "script") (CX := fun w => ..) (sp := fun _ => My.sp_law) rfl (by decide) rfl ⟨rfl, by decide, by decide⟩ (fun w h Y => PySem.W.kIn_of Y) ?F ?S ?C
  case F =>
    intro w mg fa h KX G hmg
    have T : ∃ t, My.Txt (L2.KOf KX) t := by
      dsimp only [L2.KOf]                          -- K must stand as «<heap const> w.params» for k_is
      refine' My.txt_mk ?e1 ?e2 ?e3 ..
      (case e1 => PySem.W.k_is)                    -- in the order: a name -> its address -> its object -> its parts
      (case e2 => PySem.W.k_is)
      ..
    obtain ⟨t, T⟩ := T
    have e0 := hmg.symm.trans (PySem.W.mg_of KX G T.law)
    cases e0                                       -- fa is the law's own address
    exact ⟨_, fun s u => .of_eq rfl, fun base kb nb => My.law_fn T kb nb⟩     -- if «.of_eq rfl» comes too early: refine' ⟨_, ?b, fun base kb nb => My.law_fn T kb nb⟩; exact fun s u => .of_eq rfl
  case S => exact fun w H a ns hl hO hS => ..
  case C => exact ..
(the tactic k_is has no namespace: write k_is) -/

/-! SHORT WORDS over the layer: a def of the text, its body, what a loop and a test want. -/
namespace L2
open PySem PySem.Spec PyProof.Rows

/-! ### the text by places -/
noncomputable def inClass (s : Stmt) (j : Nat) : Stmt := match s with
  | .ClassDef _ _ _ body _ _ _ _ _ _ _ => body.getD j (.Pass ⟨0, 0, 0, 0⟩)
  | _ => .Pass ⟨0, 0, 0, 0⟩
noncomputable def defArgs (s : Stmt) : Arguments := match s with
  | .FunctionDef _ a _ _ _ _ _ _ _ _ => a
  | _ => { posonlyargs := [], args := [], vararg := none, kwonlyargs := [], kw_defaults := [], kwarg := none, defaults := [] }
noncomputable def defBody (s : Stmt) : List Stmt := match s with
  | .FunctionDef _ _ b _ _ _ _ _ _ _ => b
  | _ => []
noncomputable def defScope (s : Stmt) : Scope := match s with
  | .FunctionDef _ _ _ _ _ _ sc _ _ _ => sc
  | _ => { kind := .function, names := [], isGenerator := false, isCoroutine := false }

/-! ### no exception leaves a def -/
noncomputable abbrev CX0 : CXT := fun _ _ _ _ _ _ => False
noncomputable abbrev E0 : XK := fun _ _ _ => False
theorem pass0 {X : Cx} : Passes CX0 X E0 := fun _ _ _ _ _ _ _ h => h.elim

/-! ### a def (or method) of the text as it stands behind the top -/
structure Fun (K : PySem.W.Frag) (x qual : Str) (st : Stmt) (f : Addr) (fd : FuncData) : Prop where
  ex : ∃ (oc : Value) (od : Option Addr) (kV doc pm : Value) (an : Option Addr) (cdv ct : Value) (osl : Array (Option Value)),
    fd = PySem.W.fnOf x qual (defArgs st) (defBody st) (defScope st) .none kV doc pm an cdv ct ∧ K.lookup f = some ⟨oc, od, .func fd, osl⟩ ∧ PySem.W.codeIn K cdv qual = true
  kp : PySem.W.keepIn K (.ref f) = true
section
variable {P : Program} {w : World} {K : PySem.W.Frag} {mg : Str → Option Value} {base : Heap}
theorem Fun.ok {x qual : Str} {st : Stmt} {f : Addr} {fd : FuncData} {N ps : List Str} {k : Nat} {sp : Sp} (F : Fun K x qual st f fd) (S : FnScope N ps (defScope st)) (len : ∀ vs H Q E, sp vs H Q E → vs.length = ps.length)
    (hbody : ∀ (cdv : Value) (A : Around) (outer : List Env) (s : Shared) (H : Hp) (vs : List V) (Q : VK) (E : XK), Room k (A.deeper (envOfC qual (defScope st) s.heap.objs.size f cdv)) → sp vs H Q E →
      ∃ t, PSs (cxOf CX0 P w K mg base N qual (defScope st) f cdv A outer s H E).nox (defBody st) t ∧ t { nx := fun _ H' => Q .non H', rt := Q } (start N vs) H) : FnOk P w K mg base CX0 (k + 1) f fd ps sp := by
  obtain ⟨oc, od, kV, doc, pm, an, cdv, ct, osl, rfl, lk, hcd⟩ := F.ex
  refine fn_of lk hcd S len fun A outer s H vs Q E hr hsp => ?_
  obtain ⟨t, h, q⟩ := hbody cdv A outer s H vs Q E hr hsp
  exact ⟨t, h.nox, q⟩
theorem Fun.binds {x qual : Str} {st : Stmt} {f : Addr} {fd : FuncData} {ps : List Str} (F : Fun K x qual st f fd)
    (h : ∀ (kV doc pm : Value) (an : Option Addr) (cdv ct : Value) (us : List Value), us.length = ps.length → bindArgs (PySem.W.fnOf x qual (defArgs st) (defBody st) (defScope st) .none kV doc pm an cdv ct) ⟨us, []⟩ = pure (ps.zip us)) : Binds K fd ps [] := by
  obtain ⟨oc, od, kV, doc, pm, an, cdv, ct, osl, rfl, lk, hcd⟩ := F.ex
  exact .all (h kV doc pm an cdv ct)
theorem fun_mk {x qual : Str} {st : Stmt} {f : Addr} {oc : Value} {od an : Option Addr} {osl : Array (Option Value)} {kV doc pm cdv ct : Value} (l : K.lookup f = some ⟨oc, od, .func (PySem.W.fnOf x qual (defArgs st) (defBody st) (defScope st) .none kV doc pm an cdv ct), osl⟩)
    (c : PySem.W.codeIn K cdv qual = true) (k : PySem.W.keepIn K (.ref f) = true) : Fun K x qual st f (PySem.W.fnOf x qual (defArgs st) (defBody st) (defScope st) .none kV doc pm an cdv ct) := ⟨⟨oc, od, kV, doc, pm, an, cdv, ct, osl, rfl, l, c⟩, k⟩
end
theorem small1000 {n : Nat} (h : n ≤ 1000) : n < sizeLine := Nat.lt_of_le_of_lt h (by decide)

/-! ### expressions in short: the name that stands in the i-th slot -/
section
variable {X : Cx}
theorem pv (i : Nat) {x : Str} {pos : Pos} (hN : X.N[i]? = some x := by rfl) (hv : Vis X.env.scope x := by first | exact Or.inl rfl | exact Or.inr (Or.inl rfl) | exact Or.inr (Or.inr rfl)) (hd : (x == ("__debug__" : Str)) = false := by decide)
    (hcd : (x == ("__classdict__" : Str)) = false := by decide) : PE X (.Name x pos) (tVar i) := pe_var hN hv hd hcd
end

/-! ### tests -/
theorem iteF {A B : Prop} (h : B) : if false = true then A else B := by
  rw [if_neg Bool.false_ne_true]
  exact h
theorem iteT {A B : Prop} (h : A) : if true = true then A else B := by
  rw [if_pos rfl]
  exact h
/-! ### heaps -/
noncomputable def Same (H H' : Hp) : Prop := ∀ b o, H b = some o → H' b = some o
theorem Same.refl (H : Hp) : Same H H := fun _ _ h => h
theorem Same.trans {H H1 H2 : Hp} (a : Same H H1) (b : Same H1 H2) : Same H H2 := fun c o h => b c o (a c o h)
theorem Same.free {H H' : Hp} (e : Same H H') {l : Addr} (h : H' l = Option.none) : H l = Option.none := by
  cases q : H l with
  | none => rfl
  | some o =>
    rw [e l o q] at h
    cases h
theorem Same.seq {K : PySem.W.Frag} {H H' : Hp} {a : Addr} {xs : List V} (e : Same H H') (h : SqL K H a xs) : SqL K H' a xs := by
  rcases h with (h | ⟨o, h⟩) | h
  · exact .inl (.inl (e _ _ h))
  · exact .inl (.inr ⟨o, e _ _ h⟩)
  · exact .inr h

end L2

end

section
-- KcComp
set_option Elab.async false
set_option linter.all false
set_option maxRecDepth 100000
set_option maxHeartbeats 4000000
namespace L2
open PySem PySem.Spec PyProof.Rows

/-! ### addresses -/
theorem ltNe {a b : Addr} {n : Nat} (h : a < n) (h' : n ≤ b) : a ≠ b := Nat.ne_of_lt (Nat.lt_of_lt_of_le h h')
theorem neLt {a b : Addr} {n : Nat} (h : n ≤ a) (h' : b < n) : a ≠ b := Nat.ne_of_gt (Nat.lt_of_lt_of_le h' h)
/-! ### a list comprehension's block: its own context over the enclosing one -/
noncomputable def clOf (env : Env) : List (Str × NameKind) → List (Str × Addr) → List (Str × Addr)
  | [], acc => acc
  | (n, k) :: r, acc => if k = .free then (match env.cells.lookup n with | some c => clOf env r ((n, c) :: acc) | none => clOf env r acc) else clOf env r acc
theorem clOf_sound {env : Env} : ∀ (ns : List (Str × NameKind)) (acc : List (Str × Addr)), (∀ p ∈ acc, env.cells.lookup p.1 = some p.2) → ∀ p ∈ clOf env ns acc, env.cells.lookup p.1 = some p.2
  | [], acc, h => by intro p hp; exact h p hp
  | (n, k) :: r, acc, h => by
    intro p hp
    rw [clOf] at hp
    split at hp
    · split at hp
      · rename_i c hc
        refine clOf_sound r _ (fun q hq => ?_) p hp
        rcases List.mem_cons.mp hq with rfl | hq
        · exact hc
        · exact h q hq
      · exact clOf_sound r acc h p hp
    · exact clOf_sound r acc h p hp
theorem clOf_acc {env : Env} : ∀ (ns : List (Str × NameKind)) (acc : List (Str × Addr)), ∀ p ∈ acc, p ∈ clOf env ns acc
  | [], acc => fun p hp => hp
  | (n, k) :: r, acc => fun p hp => by
    rw [clOf]
    split
    · split
      · exact clOf_acc r _ p (List.mem_cons_of_mem _ hp)
      · exact clOf_acc r acc p hp
    · exact clOf_acc r acc p hp
theorem clOf_has {env : Env} : ∀ (ns : List (Str × NameKind)) (acc : List (Str × Addr)) (x : Str) (c : Addr), (x, NameKind.free) ∈ ns → env.cells.lookup x = some c → (x, c) ∈ clOf env ns acc
  | [], acc, x, c => fun h _ => (nomatch h)
  | (n, k) :: r, acc, x, c => fun h hc => by
    rw [clOf]
    rcases List.mem_cons.mp h with e | h
    · cases e
      rw [if_pos rfl, hc]
      exact clOf_acc r _ _ List.mem_cons_self
    · split
      · split
        · exact clOf_has r _ x c h hc
        · exact clOf_has r acc x c h hc
      · exact clOf_has r acc x c h hc
theorem lookup_of_mem {α : Type} {x : Str} {c : α} : ∀ {l : List (Str × α)}, (x, c) ∈ l → ∃ d, l.lookup x = some d
  | (y, d) :: r, h => by
    rw [List.lookup_cons]
    cases e : x == y with
    | true => exact ⟨d, rfl⟩
    | false =>
      rcases List.mem_cons.mp h with q | q
      · cases q
        rw [beq_self_eq_true] at e
        cases e
      · exact lookup_of_mem q
theorem clOf_lookup {env : Env} {ns : List (Str × NameKind)} {x : Str} {c : Addr} (h : (clOf env ns []).lookup x = some c) : env.cells.lookup x = some c :=
  clOf_sound ns [] (fun _ hp => (nomatch hp)) (x, c) (PySem.mem_of_lookup h)
theorem clOf_some {env : Env} {ns : List (Str × NameKind)} {x : Str} {c : Addr} (hm : (x, NameKind.free) ∈ ns) (hc : env.cells.lookup x = some c) : (clOf env ns []).lookup x = some c := by
  obtain ⟨d, hd⟩ := lookup_of_mem (clOf_has ns [] x c hm hc)
  have e := clOf_lookup hd
  rw [hc] at e
  cases e
  exact hd
theorem closure_of {scope : Scope} {env : Env} (h : ∀ y ∈ scope.names, y.2 = .free → ∃ c, env.cells.lookup y.1 = some c) : closureFor scope env = pure (clOf env scope.names []) := by
  have go : ∀ (ns : List (Str × NameKind)) (acc : List (Str × Addr)), (∀ y ∈ ns, y.2 = .free → ∃ c, env.cells.lookup y.1 = some c) →
      (forIn ns acc fun (x : Str × NameKind) (cs : List (Str × Addr)) => (match x with
        | (name, kind) => if (kind == NameKind.free) = true then (do let c ← cellOf env name; pure (ForInStep.yield ((name, c) :: cs))) else pure (ForInStep.yield cs) : Sem (ForInStep (List (Str × Addr))))) = (pure (clOf env ns acc) : Sem (List (Str × Addr))) := by
    intro ns
    induction ns with
    | nil => intro acc _; rfl
    | cons y r ih =>
      intro acc hy
      obtain ⟨n, k⟩ := y
      have ih' := fun acc => ih acc fun z hz => hy z (List.mem_cons_of_mem _ hz)
      rw [List.forIn_cons, clOf]
      by_cases hk : k = .free
      · subst hk
        obtain ⟨c, hc⟩ := hy (n, .free) List.mem_cons_self rfl
        have hc' : env.cells.lookup n = some c := hc
        simp only [beq_self_eq_true, if_true, cellOf, hc', pure_bind]
        exact ih' _
      · have hb : (k == NameKind.free) = false := by simpa using hk
        simp only [hb, Bool.false_eq_true, if_false, pure_bind, if_neg hk]
        exact ih' _
  unfold closureFor
  have g := go scope.names [] h
  simp only [bind_pure]
  exact g

structure CompScope (sc scope : Scope) (NX N : List Str) (ix : List (Option Nat)) : Prop where
  kind : scope.kind = .function
  nocell : ∀ y ∈ scope.names, y.2 ≠ .cell
  names : ∀ y ∈ scope.names, y.2 = .local → scope.names.lookup y.1 = some .local
  free : ∀ y ∈ scope.names, y.2 = .free → sc.names.lookup y.1 = some .cell ∨ sc.names.lookup y.1 = some .free
  nd : N.Nodup
  len : ix.length = N.length
  at_ : ∀ p ∈ N.zip ix, ∀ i ∈ p.2, NX[i]? = some p.1 ∧ scope.names.lookup p.1 = some .free
noncomputable def sub (ix : List (Option Nat)) (σ : St) : St := ix.map fun o => match o with | some i => (match σ[i]? with | some v => v | none => none) | none => none

noncomputable def cxComp (X : Cx) (N : List Str) (scope : Scope) (C : Addr) (s : Shared) (H : Hp) (fp : List Addr) : Cx where
  prog := X.prog
  w := X.w
  K := X.K
  mg := X.mg
  base := X.base
  A := X.A
  N := N
  s₀ := s
  H₀ := H
  env := compEnvC scope (clOf X.env scope.names []) C X.env
  outer := X.stack
  stack := X.stack
  ex := fp
  fn := fun _ => false
  calm := X.calm
  pn := []
  xe := fun _ _ => False

theorem relabel_look {scope : Scope} {env : Env} {x : Str} {k : NameKind} (h : (relabel scope env).names.lookup x = some k) : scope.names.lookup x = some k ∨ (k = .cell ∧ scope.names.lookup x = some .free) := by
  have go : ∀ ns : List (Str × NameKind), (ns.map fun (n, k) => if (k == NameKind.free && env.scope.kind == .function && env.kindOf n == some .cell) then (n, NameKind.cell) else (n, k)).lookup x = some k →
      ns.lookup x = some k ∨ (k = .cell ∧ ns.lookup x = some .free) := by
    intro ns
    induction ns with
    | nil => intro q; simp at q
    | cons y r ih =>
      obtain ⟨n, k'⟩ := y
      intro q
      rw [List.map_cons] at q
      by_cases hc : (k' == NameKind.free && env.scope.kind == .function && env.kindOf n == some .cell) = true
      · simp only [hc, if_true] at q
        have hk' : k' = .free := by
          have := (Bool.and_eq_true _ _ ▸ hc)
          have h1 := (Bool.and_eq_true _ _ ▸ this.1)
          exact eq_of_beq h1.1
        subst hk'
        rw [List.lookup_cons] at q ⊢
        cases e : x == n with
        | true =>
          rw [e] at q
          cases q
          exact .inr ⟨rfl, rfl⟩
        | false =>
          rw [e] at q
          exact ih q
      · simp only [hc] at q
        rw [if_neg (by simp)] at q
        rw [List.lookup_cons] at q ⊢
        cases e : x == n with
        | true => rw [e] at q; exact .inl q
        | false => rw [e] at q; exact ih q
  exact go scope.names h
theorem relabel_free {scope : Scope} {env : Env} {x : Str} (h : scope.names.lookup x = some .free) : (relabel scope env).names.lookup x = some .cell ∨ (relabel scope env).names.lookup x = some .free := by
  have go : ∀ ns : List (Str × NameKind), ns.lookup x = some .free →
      (ns.map fun (n, k) => if (k == NameKind.free && env.scope.kind == .function && env.kindOf n == some .cell) then (n, NameKind.cell) else (n, k)).lookup x = some .cell ∨
      (ns.map fun (n, k) => if (k == NameKind.free && env.scope.kind == .function && env.kindOf n == some .cell) then (n, NameKind.cell) else (n, k)).lookup x = some .free := by
    intro ns
    induction ns with
    | nil => intro q; simp at q
    | cons y r ih =>
      obtain ⟨n, k'⟩ := y
      intro q
      rw [List.map_cons]
      rw [List.lookup_cons] at q
      cases e : x == n with
      | true =>
        rw [e] at q
        cases q
        by_cases hc : (NameKind.free == NameKind.free && env.scope.kind == .function && env.kindOf n == some .cell) = true
        · simp only [hc, if_true]
          rw [List.lookup_cons, e]
          exact .inl rfl
        · simp only [hc]
          rw [if_neg (by simp), List.lookup_cons, e]
          exact .inr rfl
      | false =>
        rw [e] at q
        have z := ih q
        by_cases hc : (k' == NameKind.free && env.scope.kind == .function && env.kindOf n == some .cell) = true
        · simp only [hc, if_true]
          rw [List.lookup_cons, e]
          exact z
        · simp only [hc]
          rw [if_neg (by simp), List.lookup_cons, e]
          exact z
  exact go scope.names h

theorem Inv.gone {X : Cx} {pins : List (Addr × Obj)} {σ σ₂ : St} {H H₂ : Hp} {s s₂ : Shared} {C : Addr} {h'' : Heap} (I : Inv X pins σ H s) (I2 : Inv X pins σ₂ H₂ s₂) (hC : s₂.heap.objs.size ≤ C) (hn : H C = none) (hs : Heap.SameBut C s.heap h'') : Inv X pins σ H { s with heap := h'' } :=
  I.turned (t' := s.toks) (it := C) (fun b o hb e => hs.extBut b o hb e) hn (Nat.ne_of_gt (Nat.lt_of_lt_of_le I2.lt hC)) (.inr (Nat.le_trans I2.sz hC))
    (fun x c e => by
      obtain ⟨v, o, ho, _⟩ := I2.cell x c e
      exact ltNe (Heap.lt_size ho) hC) fun q hq => ltNe (Heap.lt_size (I2.pin q hq).1) hC
/-! ### the tests of a clause -/
noncomputable def PTL (X : Cx) (ifs : List Expr) (t : TT) : Prop :=
  ∀ (pins : List (Addr × Obj)) (s : Shared) (σ : St) (H : Hp) (Q : Bool → Hp → Prop), Inv X pins σ H s → t σ H Q →
    wpAny (model X.prog X.w) X.A (forIn ifs true fun c r => if r = true then do let ok ← isTrue c X.env (eval c X.env); pure (ForInStep.yield ok) else pure (ForInStep.yield r)) (TP X pins σ Q) X.xe s
noncomputable def tAlways : TT := fun _ H Q => Q true H
theorem ptl_nil {X : Cx} : PTL X [] tAlways := fun _ _ _ H _ I h => wpAny_tests_nil ⟨H, I, h⟩
theorem ptl_one {X : Cx} {c : Expr} {t : TT} (h : PT X c t) : PTL X [c] t := fun pins s σ H Q I q => wpAny_tests_one (h pins s σ H Q I q)

/-! ### the rule -/
noncomputable def CompBody (J : It) (g : TG) (tt : TT) (te : TE) (σ₀ : St) (p : Addr) (Q : VK) (W : Nat → Nat → List V → Hp → Prop) : Prop :=
  ∀ i m acc H, W i m acc H → H p = some (.lst acc) ∧
    ((J.stop i H ∧ Q (.ref p) H) ∨ (J.go i H ∧ acc.length < sizeLine ∧ ∃ N : List V → Hp → Prop, (∀ acc' H', N acc' H' → ∃ m', m' < m ∧ W (i + 1) m' acc' H') ∧
      ∀ x H1, J.yld i H x H1 → g x σ₀ H1 fun σ2 H2 => tt σ2 H2 fun b H3 => if b = true then te σ2 H3 fun y H4 => H4 p = some (.lst acc) ∧ N (acc ++ [y]) (upd H4 p (.lst (acc ++ [y]))) else N acc H3))
noncomputable abbrev CF (α : Type) := Addr → Shared → Hp → List Addr → α
noncomputable def tComp (wi : TI) (g : CF TG) (tt : CF TT) (te : CF TE) (ix : List (Option Nat)) : TE := fun σ H Q => wi σ H fun J H1 => ∀ p, H1 p = none →
  ∃ W : Nat → Nat → List V → Hp → Prop, (∃ m, W 0 m [] (upd H1 p (.lst []))) ∧ ∀ C s' H' fp, CompBody J (g C s' H' fp) (tt C s' H' fp) (te C s' H' fp) (sub ix σ) p Q W
section
variable {X : Cx} {elt tg iter : Expr} {ifs : List Expr} {scope sc : Scope} {pos : Pos} {NX N : List Str} {ix : List (Option Nat)} {wi : TI} {g : CF TG} {tt : CF TT} {te : CF TE}

theorem comp_loop {prog : Program} {w : World} {A : Around} {R : Result → Shared → Prop} {s : Shared} {it acc : Value} {env : Env} (I : Nat → Shared → Prop)
    (turn : ∀ n s, I n s → wpAny (model prog w) A (pyNext it) (fun r s₁ => match r with
      | none => R (.ok .next) s₁
      | some v => wpAny (model prog w) A (letOwnedTupleGo tg it v) (fun _ s₁' => wpAny (model prog w) A (assign tg env v) (fun _ s₂ =>
          wpAny (model prog w) A (forIn ifs true fun c r => if r = true then do let ok ← isTrue c env (eval c env); pure (ForInStep.yield ok) else pure (ForInStep.yield r)) (fun ok s₃ =>
            if ok = true then wpAny (model prog w) A (eval elt env) (fun x s₄ =>
              wpAny (model prog w) A (call (.builtin "list.append") [acc, x]) (fun _ s₅ => ∃ m, m < n ∧ I m s₅) (fun _ _ => False) s₄) (fun _ _ => False) s₃
            else ∃ m, m < n ∧ I m s₃) (fun _ _ => False) s₂) (fun _ _ => False) s₁') (fun _ _ => False) s₁) (fun _ _ => False) s)
    (n : Nat) (h : I n s) : codeAny (model prog w) A (.compLoop (.ListComp elt [⟨tg, iter, ifs, 0⟩] scope pos) 0 it acc env) R s := by
  refine codeAny_loop rfl I (fun n s hI => ?_) n h
  show wpAny _ A ((compTurn (.ListComp elt [⟨tg, iter, ifs, 0⟩] scope pos) 0 it acc env).onRaise (fun x => do noteFrame x env; theTreesLotGoes x)) _ _ s
  refine wpAny_noted ?_
  rw [compTurn_list]
  refine wpAny_bind (wpAny_standAt (wpAny_bind (wpAny_mono (turn n s hI) (fun r s₁ h₁ => ?_) fun _ _ z => z.elim)))
  cases r with
  | none => exact wpAny_pure h₁
  | some v =>
    refine wpAny_bind (wpAny_mono h₁ (fun _ s₁' h₁' => ?_) fun _ _ z => z.elim)
    refine wpAny_bind (wpAny_mono h₁' (fun _ s₂ h₂ => wpAny_bind (wpAny_mono h₂ (fun ok s₃ h₃ => ?_) fun _ _ z => z.elim)) fun _ _ z => z.elim)
    cases ok with
    | false => exact wpAny_pure ⟨rfl, h₃⟩
    | true => exact wpAny_bind (wpAny_bind (wpAny_mono h₃ (fun x s₄ h₄ => wpAny_bind (wpAny_mono h₄ (fun _ s₅ h₅ => wpAny_pure (wpAny_pure ⟨rfl, h₅⟩)) fun _ _ z => z.elim)) fun _ _ z => z.elim))

theorem comp_block {pins : List (Addr × Obj)} {σ : St} {H : Hp} {s : Shared} {fp : List Addr} {it : Addr} {J : It} {tn : Nat → Heap → Prop} {Q : VK} {E : Value → Shared → Prop} {RR : Value → Addr → Result → Shared → Prop}
    (hc : X.calm = true) (hsc : X.env.scope = sc) (hNX : X.N = NX) (S : CompScope sc scope NX N ix)
    (hg : ∀ C s H fp, PG (cxComp X N scope C s H fp) tg (g C s H fp)) (ht : ∀ C s H fp, PTL (cxComp X N scope C s H fp) ifs (tt C s H fp)) (he : ∀ C s H fp, PE (cxComp X N scope C s H fp) elt (te C s H fp))
    (I : Inv X pins σ H s) (T : Turn X.prog X.w X.K tg J fp it tn) (st : tn 0 s.heap) (hf : ∀ b ∈ fp, FpOk X pins H b)
    (hq : ∀ p, H p = none → ∃ W : Nat → Nat → List V → Hp → Prop, (∃ m, W 0 m [] (upd H p (.lst []))) ∧ ∀ C s' H' fp, CompBody J (g C s' H' fp) (tt C s' H' fp) (te C s' H' fp) (sub ix σ) p Q W)
    (hR : ∀ p C s' H' m, s.heap.objs.size ≤ p → s.heap.objs.size ≤ C → s'.heap.Ns C m → H' C = none → Q (.ref p) H' → Inv X pins σ H' s' → RR (.ref p) C (.ok .next) s') :
    wpAny (model X.prog X.w) X.A (newList []) (fun acc s₃ => wpAny (model X.prog X.w) X.A (newFunctionEnv scope X.env.globals (clOf X.env scope.names []) [] X.env.qual none .none (some X.env)) (fun cenv s₄ =>
      codeAny (model X.prog X.w) X.A (.compStart (.ListComp elt [⟨tg, iter, ifs, 0⟩] scope pos) 0 (.ref it) acc { cenv with scope := relabel scope X.env }) (RR acc cenv.locals) s₄) E s₃) E s := by
  refine wpAny_newObj_type (wpAny_newFunctionEnv S.nocell (by intro y hy; simp at hy) (fun h₁ hns₁ hsb₁ => ?_) S.kind)
  dsimp only at hns₁ hsb₁ ⊢
  have hsz : (s.heap.push { cls := .type "list", dict := none, data := .seq ([] : List Value).toArray }).objs.size = s.heap.objs.size + 1 := Heap.size_push ..
  generalize hC : (s.heap.push { cls := .type "list", dict := none, data := .seq ([] : List Value).toArray }).objs.size = C at hns₁ hsb₁ ⊢
  rw [hsz] at hC
  generalize hp : s.heap.objs.size = p at hC
  have pC : p ≠ C := by omega
  have old : ∀ b o, s.heap.get? b = some o → h₁.get? b = some o := fun b o e => hsb₁.extBut b o (ltNe (Heap.lt_size e) (by omega)) (Heap.get?_push_of_some _ (Heap.get?_push_of_some _ e))
  have hnew : h₁.get? p = some { cls := .type "list", data := .seq ([] : List Value).toArray } := hsb₁.extBut _ _ pC (Heap.get?_push_of_some _ (by rw [← hp]; exact Heap.get?_push_size _ rfl))
  have hfp : H p = none := I.hok.fresh (by omega)
  have hfC : H C = none := I.hok.fresh (by omega)
  have lt : ∀ b ∈ fp, b < p := fun b hb => by
    obtain ⟨o, e, _⟩ := T.obj 0 _ st b hb
    rw [← hp]
    exact Heap.lt_size e
  -- the free names' cells
  have hcells : ∀ y ∈ scope.names, y.2 = .free → ∃ c, X.env.cells.lookup y.1 = some c := fun y hy hk => by
    refine I.ok.has y.1 ?_
    show X.env.scope.names.lookup y.1 = some .cell ∨ X.env.scope.names.lookup y.1 = some .free
    rw [hsc]
    exact S.free y hy hk
  have noown : ∀ x, scope.names.lookup x ≠ some .cell := fun x e => S.nocell _ (PySem.mem_of_lookup e) rfl
  have hok : (cxComp X N scope C s H fp).Ok := by
    refine ⟨I.ok.mod, S.kind, I.ok.glob, I.ok.blt, by show s.heap.objs.size ≤ C; omega, fun x y c h1 h2 => I.ok.inj x y c (clOf_lookup h1) (clOf_lookup h2), fun x hx => ?_, fun x c z => (by cases z), I.ok.hd, I.ok.frames, .inl rfl, fun b hb => ?_, I.bs, Nat.le_trans I.ok.bsz I.sz, fun b o e hb => ?_, fun b hb z => ?_, I.stack, I.stkFree⟩
    · have hx' : scope.names.lookup x = some .free := by
        rcases hx with hx | hx
        · rcases relabel_look hx with q | q
          · exact absurd q (noown x)
          · exact q.2
        · rcases relabel_look hx with q | q
          · exact q
          · exact q.2
      obtain ⟨c, hc'⟩ := hcells _ (PySem.mem_of_lookup hx') rfl
      exact ⟨c, clOf_some (PySem.mem_of_lookup hx') hc'⟩
    · refine ⟨?_, fun x c e => (hf b hb).2.2.2.2.1 x c (clOf_lookup e)⟩
      show b ≠ C
      exact ltNe (lt b hb) (by omega)
    · rcases (hf b hb).2.2.2.1 with z | z
      · exact I.ok.noex b o e z
      · exact absurd (Nat.lt_of_lt_of_le (Heap.lt_size e) (Nat.le_trans I.ok.bsz z)) (Nat.lt_irrefl _)
    · rcases List.mem_cons.mp (I.stkSub b z) with q | q
      · exact (hf b hb).2.1 q
      · exact (hf b hb).2.2.1 q
  -- the free names' values lie in cells that stay
  have locs : ∀ h' : Heap, (∀ x c o, X.env.cells.lookup x = some c → s.heap.get? c = some o → ∃ sl, h'.get? c = some { o with slots := sl }) →
      ∀ (i : Nat) (x : Str) (v : V), N[i]? = some x → (sub ix σ)[i]? = some (some v) → ∃ u, RelV v u ∧ ∀ m, Look (compEnvC scope (clOf X.env scope.names []) C X.env) h' m x u := by
    intro h' hk i x v h1 h2
    obtain ⟨k, hk', hv⟩ : ∃ k, ix[i]? = some (some k) ∧ σ[k]? = some (some v) := by
      unfold sub at h2
      rw [List.getElem?_map] at h2
      cases e : ix[i]? with
      | none => rw [e] at h2; cases h2
      | some o =>
        rw [e] at h2
        cases o with
        | none => cases h2
        | some k =>
          refine ⟨k, rfl, ?_⟩
          have h2' : (match σ[k]? with | some v => v | none => none) = some v := Option.some.inj h2
          cases e2 : σ[k]? with
          | none => rw [e2] at h2'; cases h2'
          | some z =>
            rw [e2] at h2'
            rw [show z = some v from h2']
    have hm : (x, some k) ∈ N.zip ix := by
      refine List.mem_of_getElem? (i := i) ?_
      rw [List.getElem?_zip_eq_some]
      exact ⟨h1, hk'⟩
    obtain ⟨a1, a2⟩ := S.at_ _ hm k (by simp)
    have hX := S.free _ (PySem.mem_of_lookup a2) rfl
    have hvis : Vis X.env.scope x := by
      show _ ∨ _ ∨ _
      rw [hsc]
      exact .inr hX
    obtain ⟨m, hn, hl⟩ := I.loc
    obtain ⟨u, r, l⟩ := hl k x v (by rw [hNX]; exact a1) hv hvis
    refine ⟨u, r, fun m' => .inr ⟨relabel_free a2, ?_⟩⟩
    rcases l with ⟨l, _⟩ | ⟨_, c, e, z⟩
    · have l' : X.env.scope.names.lookup x = some .local := l
      rw [hsc] at l'
      rcases hX with q | q <;> (rw [q] at l'; cases l')
    · obtain ⟨o, ho, hd⟩ := z
      obtain ⟨sl, e'⟩ := hk x c o e ho
      exact ⟨c, clOf_some (PySem.mem_of_lookup a2) e, _, e', hd⟩
  have hlen : (sub ix σ).length = N.length := by
    unfold sub
    rw [List.length_map]
    exact S.len
  have I1 : Inv (cxComp X N scope C s H fp) [] (sub ix σ) (upd H p (.lst [])) { s with heap := h₁, toks := s.toks + ([] : List (Str × Value)).length } := by
    refine ⟨hok, rfl, I.bare, Un.laid old (Nat.le_of_eq hp) hfp, ⟨_, hns₁, fun i x v h1 h2 h3 => ?_⟩, fun x c e => ?_, ?_, fun x c e => ?_, fun q hq => (nomatch hq), I.hok.laid old (Nat.le_of_eq hp) ⟨Nat.zero_le _, [], 0, .nil, hnew⟩, hlen⟩
    · obtain ⟨u, r, l⟩ := locs h₁ (fun y c o _ ho => ⟨o.slots, old c o ho⟩) i x v h1 h2
      exact ⟨u, r, l _⟩
    · obtain ⟨v, o, ho, hd⟩ := I.cell x c (clOf_lookup e)
      exact ⟨v, o, old c o ho, hd⟩
    · show upd H p _ C = none
      rw [upd_ne (Ne.symm pC)]
      exact hfC
    · have e' := clOf_lookup e
      obtain ⟨v, o, ho, hd⟩ := I.cell x c e'
      rw [upd_ne (ltNe (Heap.lt_size ho) (Nat.le_of_eq hp))]
      exact I.freeC x c e'
  -- back to the block's first names
  have back : ∀ {pl : List (Addr × Obj)} {σ' : St} {H' : Hp} {s' : Shared}, Inv (cxComp X N scope C s H fp) pl σ' H' s' → Inv (cxComp X N scope C s H fp) pl (sub ix σ) H' s' := fun {pl σ' H' s'} J => by
    obtain ⟨m, hn, _⟩ := J.loc
    refine ⟨J.ok, J.os, J.bare, J.base, ⟨m, hn, fun i x v h1 h2 h3 => ?_⟩, J.cell, J.free, J.freeC, J.pin, J.hok, hlen⟩
    obtain ⟨u, r, l⟩ := locs s'.heap (fun y c o hc' ho => J.base.any ho (I.freeC y c hc') fun hb => (hf c hb).2.2.2.2.1 y c hc' rfl) i x v h1 h2
    exact ⟨u, r, l _⟩
  obtain ⟨W, ⟨m0, w0⟩, turn⟩ := hq p hfp
  have st1 : tn 0 h₁ := T.keep 0 _ _ st fun b _ o e => old b o e
  have fp1 : ∀ {H' : Hp}, (∀ b ∈ fp, H' b = none) → ∀ b ∈ fp, FpOk (cxComp X N scope C s H fp) [] H' b := fun {H'} hn b hb =>
    ⟨hn b hb, (hok.exf b hb).1, hok.exfs b hb, .inl hb, (hok.exf b hb).2, fun q hq => (nomatch hq)⟩
  have loop : codeAny (model X.prog X.w) X.A (.compLoop (.ListComp elt [⟨tg, iter, ifs, 0⟩] scope pos) 0 (.ref it) (.ref p) (compEnvC scope (clOf X.env scope.names []) C X.env)) (RR (.ref p) C) { s with heap := h₁, toks := s.toks + ([] : List (Str × Value)).length } := by
    refine comp_loop (fun n s' => ∃ i acc H', Inv (cxComp X N scope C s H fp) [] (sub ix σ) H' s' ∧ tn i s'.heap ∧ (∀ b ∈ fp, H' b = none) ∧ W i n acc H') ?_ m0
      ⟨0, [], _, I1, st1, fun b hb => by rw [upd_ne (ltNe (lt b hb) (Nat.le_refl _))]; exact (hf b hb).1, w0⟩
    rintro n s3 ⟨i, acc, H3, I3, st3, fr3, w3⟩
    obtain ⟨hacc, w4⟩ := turn C s H fp i n acc H3 w3
    rcases w4 with ⟨stop, qn⟩ | ⟨go, hln, N', hN', step⟩
    · refine thn (T.done (cxComp X N scope C s H fp) rfl rfl rfl hc i [] s3 _ H3 (fun _ _ => False) I3 (fp1 fr3) st3 stop) fun r s4 ⟨hr, I4⟩ => ?_
      subst hr
      obtain ⟨m, hn, _⟩ := I4.loc
      refine hR p C s4 H3 m (by omega) (by omega) hn I4.free qn ?_
      exact I.call' I4.os I4.base I4.hok I4.bare fun b hb => ⟨(hf b hb).2.2.2.1, (hf b hb).2.1, (hf b hb).2.2.2.2.1, (hf b hb).2.2.2.2.2⟩
    · refine thn (T.item (cxComp X N scope C s H fp) rfl rfl rfl hc i [] s3 _ H3 (fun _ _ => False) I3 (fp1 fr3) st3 go) fun r s4 ⟨u, hr, h4⟩ => ?_
      subst hr
      refine thn h4 fun _ s5 ⟨x, H5, I5, r5, y5, st5, fr5⟩ => ?_
      have I5' := I5.pinned (fp1 fr5) (T.obj _ _ st5)
      refine thn (hg C s H fp _ s5 _ H5 x u _ I5' r5 (step x H5 y5)) fun _ s6 ⟨σ6, H6, I6, q6⟩ => ?_
      have later : ∀ {s7 : Shared} {H7 : Hp} {acc' : List V} {σ7 : St}, Inv (cxComp X N scope C s H fp) ([] ++ pinsAt fp s5.heap) σ7 H7 s7 → (∃ m', m' < n ∧ W (i + 1) m' acc' H7) →
          ∃ m, m < n ∧ ∃ i acc H', Inv (cxComp X N scope C s H fp) [] (sub ix σ) H' s7 ∧ tn i s7.heap ∧ (∀ b ∈ fp, H' b = none) ∧ W i m acc H' := fun {s7 H7 acc' σ7} I7 ⟨m', hm, w7⟩ => by
        refine ⟨m', hm, i + 1, acc', H7, back (I7.unpinned (pins := [])), T.keep _ _ _ st5 fun b hb o e => (I7.pin (b, o) (List.mem_append_right _ (List.mem_append_right _ (mem_pinsAt hb e)))).1, fun b hb => ?_, w7⟩
        obtain ⟨o, e, d⟩ := T.obj _ _ st5 b hb
        exact (I7.pin (b, o) (List.mem_append_right _ (List.mem_append_right _ (mem_pinsAt hb e)))).2.1
      refine thn (ht C s H fp _ s6 σ6 H6 _ I6 q6) fun ok s7 ⟨H7, I7, q7⟩ => ?_
      cases ok with
      | false => exact later I7 (hN' _ _ q7)
      | true =>
        refine thn (he C s H fp _ s7 σ6 H7 _ I7 q7) fun y s8 ⟨v8, H8, I8, r8, hacc8, w8⟩ => ?_
        refine thn (mt_append (X := cxComp X N scope C s H fp) _ s8 σ6 H8 (.ref p) [v8] (.ref p) [y] (fun _ H9 => H9 = upd H8 p (.lst (acc ++ [v8]))) I8 rfl (.cons r8 .nil) ⟨p, acc, v8, rfl, rfl, hacc8, hln, rfl⟩) fun _ s9 ⟨_, H9, I9, _, e9⟩ => ?_
        subst e9
        exact later I9 (hN' _ _ w8)
  exact codeAny_compStart_list loop (T.self _ 0 _ _ _ st1 loop)

theorem pe_comp (hc : X.calm = true) (S : CompScope sc scope NX N ix) (hi : PI X tg iter wi)
    (hg : ∀ C s H fp, PG (cxComp X N scope C s H fp) tg (g C s H fp)) (ht : ∀ C s H fp, PTL (cxComp X N scope C s H fp) ifs (tt C s H fp)) (he : ∀ C s H fp, PE (cxComp X N scope C s H fp) elt (te C s H fp))
    (hsc : X.env.scope = sc := by rfl) (hNX : X.N = NX := by rfl) (hs : ∀ x, foldedSetIterable iter X.env x = pure x := by intro _; rfl) :
    PE X (.ListComp elt [⟨tg, iter, ifs, 0⟩] scope pos) (tComp wi g tt te ix) := by
  intro pins s σ H Q I h
  rw [eval_ListComp]
  have hcells : closureFor scope X.env = pure (clOf X.env scope.names []) := closure_of fun y hy hk => by
    refine I.ok.has y.1 ?_
    show X.env.scope.names.lookup y.1 = some .cell ∨ X.env.scope.names.lookup y.1 = some .free
    rw [hsc]
    exact S.free y hy hk
  refine wpAny_comprehension_free (use := none) rfl hs hcells S.kind S.names (thn (hi pins s σ H _ I h) fun v s1 h1 => thn h1 fun itv s2 h2 => ?_)
  obtain ⟨it, fp, tn, J, H2, e, I2, T, st2, f2, hq⟩ := h2
  subst e
  refine comp_block (Q := Q) (RR := fun acc C => compPost (model X.prog X.w) X.A X.xe none (EP X pins σ Q) acc C) hc hsc hNX S hg ht he I2 T st2 f2 hq ?_
  intro p C s' H' m hp hC hn hfree q I'
  exact ⟨m, hn, fun h'' hs'' => ⟨.ref p, H', I'.gone I2 hC hfree hs'', rfl, q⟩⟩
end

/-! ### the forms one uses: W from a word over the turn, the new list, the heap -/
section
variable {g : CF TG} {tt : CF TT} {te : CF TE} {σ₀ : St} {p : Addr} {Q : VK} {H : Hp}
theorem comp_of {J : It} {n : Nat} {Y : Nat → Hp → V → Hp → Prop} (Pv : Nat → List V → Hp → Prop) (h0 : Pv 0 [] (upd H p (.lst []))) (hp : ∀ i acc H, i ≤ n → Pv i acc H → H p = some (.lst acc) ∧ acc.length ≤ i) (hz : n ≤ sizeLine)
    (hgo : ∀ i acc H, i < n → Pv i acc H → J.go i H) (hst : ∀ acc H, Pv n acc H → J.stop n H) (hy : ∀ i acc H x H1, i < n → Pv i acc H → J.yld i H x H1 → Y i H x H1)
    (hs : ∀ C s' H' fp, ∀ i x acc H H1, i < n → Pv i acc H → Y i H x H1 → g C s' H' fp x σ₀ H1 fun σ2 H2 => tt C s' H' fp σ2 H2 fun b H3 => if b = true then te C s' H' fp σ2 H3 fun y H4 => H4 p = some (.lst acc) ∧ Pv (i + 1) (acc ++ [y]) (upd H4 p (.lst (acc ++ [y]))) else Pv (i + 1) acc H3)
    (hd : ∀ acc H, Pv n acc H → Q (.ref p) H) :
    ∃ W : Nat → Nat → List V → Hp → Prop, (∃ m, W 0 m [] (upd H p (.lst []))) ∧ ∀ C s' H' fp, CompBody J (g C s' H' fp) (tt C s' H' fp) (te C s' H' fp) σ₀ p Q W := by
  refine ⟨fun i m acc H => m = n - i ∧ i ≤ n ∧ Pv i acc H, ⟨n, by simp, Nat.zero_le _, h0⟩, ?_⟩
  rintro C s' H' fp i m acc H ⟨rfl, hi, w⟩
  obtain ⟨h1, h2⟩ := hp i acc H hi w
  refine ⟨h1, ?_⟩
  by_cases hlt : i < n
  · exact .inr ⟨hgo i acc H hlt w, by omega, Pv (i + 1), fun acc' H' q => ⟨n - (i + 1), by omega, rfl, hlt, q⟩, fun x H1 y => hs C s' H' fp i x acc H H1 hlt w (hy i acc H x H1 hlt w y)⟩
  · have e : i = n := by omega
    subst e
    exact .inl ⟨hst acc H w, hd acc H w⟩
theorem comp_list {K : PySem.W.Frag} {a : Addr} {xs : List V} (Pv : Nat → List V → Hp → Prop) (h0 : Pv 0 [] (upd H p (.lst []))) (hp : ∀ i acc H, i ≤ xs.length → Pv i acc H → H p = some (.lst acc) ∧ acc.length ≤ i) (hl : ∀ i acc H, i ≤ xs.length → Pv i acc H → SqL K H a xs) (hz : xs.length ≤ sizeLine)
    (hs : ∀ C s' H' fp, ∀ i x acc H, xs[i]? = some x → Pv i acc H → g C s' H' fp x σ₀ H fun σ2 H2 => tt C s' H' fp σ2 H2 fun b H3 => if b = true then te C s' H' fp σ2 H3 fun y H4 => H4 p = some (.lst acc) ∧ Pv (i + 1) (acc ++ [y]) (upd H4 p (.lst (acc ++ [y]))) else Pv (i + 1) acc H3)
    (hd : ∀ acc H, Pv xs.length acc H → Q (.ref p) H) :
    ∃ W : Nat → Nat → List V → Hp → Prop, (∃ m, W 0 m [] (upd H p (.lst []))) ∧ ∀ C s' H' fp, CompBody (Itl K a) (g C s' H' fp) (tt C s' H' fp) (te C s' H' fp) σ₀ p Q W :=
  comp_of (Y := fun i H x H1 => H1 = H ∧ xs[i]? = some x) Pv h0 hp hz (fun i acc H hi w => ⟨xs, xs[i], hl i acc H (Nat.le_of_lt hi) w, by simp [hi]⟩) (fun acc H w => ⟨xs, hl _ acc H (Nat.le_refl _) w, Nat.le_refl _⟩)
    (fun i acc H x H1 hi w y => ⟨y.1, y.2 xs (hl i acc H (Nat.le_of_lt hi) w)⟩) (fun C s' H' fp i x acc H H1 hi w y => by
      obtain ⟨e, y⟩ := y
      subst e
      exact hs C s' H' fp i x acc _ y w) hd
theorem comp_range {lo : Int} {n : Nat} (Pv : Nat → List V → Hp → Prop) (h0 : Pv 0 [] (upd H p (.lst []))) (hp : ∀ i acc H, i ≤ n → Pv i acc H → H p = some (.lst acc) ∧ acc.length ≤ i) (hz : n ≤ sizeLine)
    (hs : ∀ C s' H' fp, ∀ i acc H, i < n → Pv i acc H → g C s' H' fp (.int (lo + i)) σ₀ H fun σ2 H2 => tt C s' H' fp σ2 H2 fun b H3 => if b = true then te C s' H' fp σ2 H3 fun y H4 => H4 p = some (.lst acc) ∧ Pv (i + 1) (acc ++ [y]) (upd H4 p (.lst (acc ++ [y]))) else Pv (i + 1) acc H3)
    (hd : ∀ acc H, Pv n acc H → Q (.ref p) H) :
    ∃ W : Nat → Nat → List V → Hp → Prop, (∃ m, W 0 m [] (upd H p (.lst []))) ∧ ∀ C s' H' fp, CompBody (Itr lo n) (g C s' H' fp) (tt C s' H' fp) (te C s' H' fp) σ₀ p Q W :=
  comp_of (Y := fun i H x H1 => H1 = H ∧ x = .int (lo + i)) Pv h0 hp hz (fun i acc H hi w => hi) (fun acc H w => Nat.le_refl _) (fun i acc H x H1 hi w y => y) (fun C s' H' fp i x acc H H1 hi w y => by
      obtain ⟨e, e2⟩ := y
      subst e e2
      exact hs C s' H' fp i acc _ hi w) hd
end
end L2

end

section
-- KcIter
set_option Elab.async false
set_option linter.all false
set_option maxRecDepth 100000
set_option maxHeartbeats 4000000
namespace L2
open PySem PySem.Spec PyProof.Rows

/-! ### drawing from a tuple's iterator inside enumerate and zip -/
section
variable {prog : Program} {w : World} {A : Around} {E : Value → Shared → Prop} {s : Shared}
theorem draw_tuple_item {jt t : Addr} {i : Nat} {its : Array Value} {y : Value} {Q : Value → Shared → Prop} (h1 : s.heap.IsTupleIter jt t i) (h2 : s.heap.IsTuple t its) (hy : its[i]? = some y)
    (k : ∀ h', h'.IsTupleIter jt t (i + 1) → Heap.SameBut jt s.heap h' → Q y { s with heap := h' }) : wpAny (model prog w) A (Builtin.SmallTypes.nextOf (.ref jt)) Q E s := by
  obtain ⟨o, ho, hc, hd⟩ := id h1
  obtain ⟨ot, hot, _, nt, hdt⟩ := h2
  unfold Builtin.SmallTypes.nextOf
  refine wpAny_bind (wpAny_callSpecial?_slot (name := Str.ofString "__next__") h1.typeIs F.slot_tuple_iterator_next (wpAny_call_entry F.slot_tuple_iterator_next h1.typeIs F.entry_tuple_iterator_next ?_ (F.args_tuple_iterator_next_1 _)))
  show wpAny _ _ (field (.ref jt) 0 >>= _) _ _ s
  refine wpAny_bind (wpAny_field ho hd (x := .ref t) rfl ?_)
  show wpAny _ _ (if (Value.ref t == Value.none) = true then _ else _) _ _ s
  rw [if_neg (show ¬ ((Value.ref t == Value.none) = true) from Bool.false_ne_true)]
  show wpAny _ _ (field (.ref jt) 1 >>= _) _ _ s
  refine wpAny_bind (wpAny_field ho hd (x := .int i 0) rfl ?_)
  show wpAny _ _ (seqItems? (.ref t) >>= _) _ _ s
  refine wpAny_bind (wpAny_seqItems hot hdt ?_)
  simp only [Int.toNat_natCast, hy]
  refine wpAny_bind (wpAny_setField ho hd (by simp) (wpAny_pure ⟨y, rfl, wpAny_pure (k _ ?_ (Heap.SameBut.update ..))⟩))
  exact ⟨_, Heap.get?_update_self _ ho (Obj.isFreed_of_fields (Obj.data_mapFields hd _)), (Obj.cls_mapFields ..).trans hc, by rw [Obj.data_mapFields hd]; simp [rawInt]⟩
theorem draw_tuple_end {jt t : Addr} {i : Nat} {its : Array Value} {Q : Value → Shared → Prop} (hh : A.handled = none) (h1 : s.heap.IsTupleIter jt t i) (h2 : s.heap.IsTuple t its) (hy : its[i]? = none)
    (k : ∀ h' e, Heap.ExtBut jt s.heap h' → (∃ o, h'.get? e = some o ∧ o.cls = .type "StopIteration") → E (.ref e) { s with heap := h' }) : wpAny (model prog w) A (Builtin.SmallTypes.nextOf (.ref jt)) Q E s := by
  obtain ⟨o, ho, hc, hd⟩ := id h1
  obtain ⟨ot, hot, _, nt, hdt⟩ := h2
  unfold Builtin.SmallTypes.nextOf
  refine wpAny_bind (wpAny_callSpecial?_slot (name := Str.ofString "__next__") h1.typeIs F.slot_tuple_iterator_next (wpAny_call_entry F.slot_tuple_iterator_next h1.typeIs F.entry_tuple_iterator_next ?_ (F.args_tuple_iterator_next_1 _)))
  show wpAny _ _ (field (.ref jt) 0 >>= _) _ _ s
  refine wpAny_bind (wpAny_field ho hd (x := .ref t) rfl ?_)
  show wpAny _ _ (if (Value.ref t == Value.none) = true then _ else _) _ _ s
  rw [if_neg (show ¬ ((Value.ref t == Value.none) = true) from Bool.false_ne_true)]
  show wpAny _ _ (field (.ref jt) 1 >>= _) _ _ s
  refine wpAny_bind (wpAny_field ho hd (x := .int i 0) rfl ?_)
  show wpAny _ _ (seqItems? (.ref t) >>= _) _ _ s
  refine wpAny_bind (wpAny_seqItems hot hdt ?_)
  simp only [Int.toNat_natCast, hy]
  refine wpAny_bind (wpAny_rule (wpAny_bind (wpAny_setField ho hd (by simp) ?_)))
  show wpAny _ _ (newExc (.type "StopIteration") [] >>= _) _ _ _
  refine wpAny_bind ?_
  simp only [newExc, newTuple]
  refine wpAny_bind (wpAny_newObj_type ?_ (by size_fits))
  refine wpAny_bind (m := firstArgMember _ _) (wpAny_of_eq (a := Value.none) (by first | rfl | (simp only [firstArgMember]; rfl)) ?_)
  refine wpAny_newObj_type ?_ (by size_fits)
  simp only [raiseNew]
  refine wpAny_bind (wpAny_handled ?_)
  first | rw [show A.in1.handled = none from hh] | rw [hh]
  refine wpAny_bind (wpAny_pure (wpAny_throw ?_))
  exact k _ _ (((Heap.SameBut.update ..).extBut.push _).push _) ⟨_, Heap.get?_push_size _ rfl, rfl⟩
end
theorem draws_tuple {prog : Program} {w : World} {A : Around} (hh : A.handled = none) (jt t : Addr) (hne : t ≠ jt) (its : Array Value) :
    Draws prog w A jt [jt, t] its.size (fun i v => its[i]? = some v) (fun i h => h.IsTupleIter jt t i ∧ h.IsTuple t its) where
  live := fun _ _ st => let ⟨o, ho, _⟩ := st.1; ⟨o, ho⟩
  frame := fun _ _ _ st hk => ⟨st.1.at fun o e => hk jt (by simp) o e, let ⟨o, ho, r⟩ := st.2; ⟨o, hk t (by simp) o ho, r⟩⟩
  item := fun i s Q E hi st hQ => draw_tuple_item st.1 st.2 (y := its[i]) (by simp [hi]) fun h' a b => hQ _ h' s.toks (by simp [hi]) ⟨a, st.2.extBut b.extBut hne⟩ b
  done := fun s Q E st hE => draw_tuple_end hh st.1 st.2 (by simp) hE

theorem Inv.offBase {X : Cx} {pins : List (Addr × Obj)} {σ : St} {H : Hp} {s : Shared} {c : Addr} {o : Obj} (I : Inv X pins σ H s) (f : FpOk X pins H c) (e : X.base.get? c = some o) : False := by
  rcases f.2.2.2.1 with z | z
  · exact I.ok.noex c o e z
  · exact absurd (Nat.lt_of_lt_of_le (Heap.lt_size e) (Nat.le_trans I.ok.bsz z)) (Nat.lt_irrefl _)
/-! ### the sources: lists and tuples in one -/
structure Src where
  Sq : PySem.W.Frag → Hp → Addr → List V → Prop
  Is : Heap → Addr → Array Value → Prop
  It : Heap → Addr → Addr → Nat → Prop
  icls : String
  get : ∀ {X : Cx} {pins : List (Addr × Obj)} {σ : St} {H : Hp} {s : Shared} {a : Addr} {xs : List V}, Inv X pins σ H s → Sq X.K H a xs → ∃ its : List Value, Vals xs its ∧ Is s.heap a its.toArray ∧ xs.length ≤ sizeLine
  inj : ∀ {X : Cx} {pins : List (Addr × Obj)} {σ : St} {H : Hp} {s : Shared} {a : Addr} {xs ys : List V}, Inv X pins σ H s → Sq X.K H a xs → Sq X.K H a ys → xs = ys
  off : ∀ {X : Cx} {pins : List (Addr × Obj)} {σ : St} {H : Hp} {s : Shared} {a c : Addr} {xs : List V}, Inv X pins σ H s → Sq X.K H a xs → FpOk X pins H c → c ≠ a
  isSeq : ∀ {h : Heap} {a : Addr} {its : Array Value}, Is h a its → ∃ o n, h.get? a = some o ∧ o.data = .seq its n
  isIt : ∀ {h : Heap} {jt a : Addr} {i : Nat}, It h jt a i → ∃ o, h.get? jt = some o ∧ o.cls = .type icls ∧ o.data = .fields #[.ref a, .int i 0]
  mkI : ∀ {h : Heap} {jt a : Addr} {i : Nat} {o : Obj}, h.get? jt = some o → o.cls = .type icls → o.data = .fields #[.ref a, .int i 0] → It h jt a i
  itKeep : ∀ {h h' : Heap} {jt a : Addr} {i : Nat}, It h jt a i → (∀ o, h.get? jt = some o → h'.get? jt = some o) → It h' jt a i
  isKeep : ∀ {h h' : Heap} {a : Addr} {its : Array Value}, Is h a its → (∀ o, h.get? a = some o → h'.get? a = some o) → Is h' a its
  draws : ∀ {prog : Program} {w : World} {A : Around}, A.handled = none → ∀ (jt a : Addr), a ≠ jt → ∀ its : Array Value, Draws prog w A jt [jt, a] its.size (fun i v => its[i]? = some v) (fun i h => It h jt a i ∧ Is h a its)
  iter : ∀ {prog : Program} {w : World} {A : Around} {E : Value → Shared → Prop} {s : Shared} {a : Addr} {its : Array Value} {Q : Value → Shared → Prop}, Is s.heap a its →
    Q (.ref s.heap.objs.size) { s with heap := s.heap.push { cls := .type icls, data := .fields #[.ref a, .int 0 0] } } → wpAny (model prog w) A (pyIter (.ref a)) Q E s
noncomputable def srcL : Src where
  Sq := SqL
  Is := fun h a its => h.IsList a its
  It := fun h jt a i => h.IsListIter jt a i
  icls := "list_iterator"
  get := fun I h => let ⟨its, r, p, z⟩ := I.list h; ⟨its, r, p.isList, z⟩
  inj := fun I h h' => I.list_inj h h'
  off := fun {X pins σ H s a c xs} I h f e => by
    subst e
    rcases h with (h | ⟨o, h⟩) | ⟨o, its, n, hk, _⟩
    · rw [f.1] at h; cases h
    · rw [f.1] at h; cases h
    · exact I.offBase f (I.ok.mod.kin _ _ hk)
  isSeq := fun h => let ⟨o, ho, _, n, hd⟩ := h; ⟨o, n, ho, hd⟩
  isIt := fun h => h
  mkI := fun h1 h2 h3 => ⟨_, h1, h2, h3⟩
  itKeep := fun h k => h.at k
  isKeep := fun h k => h.at k
  draws := fun hh jt a hne its => Draws.list hh jt a hne its
  iter := fun h q => wpAny_pyIter_list h q
noncomputable def srcT : Src where
  Sq := SqT
  Is := fun h a its => h.IsTuple a its
  It := fun h jt a i => h.IsTupleIter jt a i
  icls := "tuple_iterator"
  get := fun I h => let ⟨its, r, p, z⟩ := I.tuple h; ⟨its, r, p, z⟩
  inj := fun I h h' => I.tuple_inj h h'
  off := fun {X pins σ H s a c xs} I h f e => by
    subst e
    rcases h with (h | ⟨o, h⟩) | ⟨o, its, n, hk, _⟩
    · rw [f.1] at h; cases h
    · rw [f.1] at h; cases h
    · exact I.offBase f (I.ok.mod.kin _ _ hk)
  isSeq := fun h => let ⟨o, ho, _, n, hd⟩ := h; ⟨o, n, ho, hd⟩
  isIt := fun h => h
  mkI := fun h1 h2 h3 => ⟨_, h1, h2, h3⟩
  itKeep := fun h k => h.at k
  isKeep := fun h k => let ⟨o, ho, r⟩ := h; ⟨o, k o ho, r⟩
  draws := fun hh jt a hne its => draws_tuple hh jt a hne its
  iter := fun h q => wpAny_pyIter_tuple h q

/-! ### untracked records turn, a new object is laid -/
theorem Inv.turns {X : Cx} {pins : List (Addr × Obj)} {σ : St} {H : Hp} {s : Shared} {h' : Heap} {t' : Nat} {ch : List Addr} {T : Addr} {o : HO} (I : Inv X pins σ H s) (hf : ∀ b ∈ ch, FpOk X pins H b)
    (k : ∀ b ob, b ∉ ch → s.heap.get? b = some ob → h'.get? b = some ob) (hT : s.heap.objs.size ≤ T) (new : ObjOk X.prog X.w (upd H T o) h' T o) : Inv X pins σ (upd H T o) { s with heap := h', toks := t' } := by
  have hn : H T = none := I.hok.fresh hT
  have nc : ∀ b u, H b = some u → b ∉ ch := fun b u e z => by
    have := (hf b z).1
    rw [e] at this
    cases this
  refine I.step (g' := s.gens) (d' := s.drawn) (ch := ch) (fun b hb => ⟨(hf b hb).2.2.2.1, (hf b hb).2.1, (hf b hb).2.2.2.2.1, (hf b hb).2.2.2.2.2⟩) (fun b ob _ _ hc e _ => k b ob hc e) (fun b ob _ _ hc e _ => ⟨ob.slots, k b ob hc e⟩)
    (fun b ob _ e n => ?_) (fun b ob hc e => ⟨ob, k b ob hc e⟩) (fun b xs e => ?_) (fun b ob xs e => ?_) (fun b ps e => ⟨#[], ?_⟩) (fun m hm => ?_) (fun b u e => ?_) I.bare
  · rw [upd_ne (ltNe (Heap.lt_size e) hT)]
    exact n
  · rw [upd_ne (ne_of_none e hn)]
    exact e
  · rw [upd_ne (ne_of_none e hn)]
    exact e
  · rw [upd_ne (ne_of_none e hn), e]
    simp
  · obtain ⟨ob, es, ep, ho, r⟩ := hm
    exact ⟨ob, es, ep, k _ ob (fun z => (hf _ z).2.1 rfl) ho, r⟩
  · by_cases hb : b = T
    · subst hb
      rw [upd_same] at e
      cases e
      exact new
    · rw [upd_ne hb] at e
      refine (I.hok b u e).stay (fun c v hc q => k c v ?_ q) (fun c q => by rw [upd_ne (ne_of_none q hn)]; exact q) fun c xs q => by rw [upd_ne (ne_of_none q hn)]; exact q
      rcases hc with z | z
      · rw [z]; exact nc b u e
      · exact nc c _ z
theorem Inv.turnsN {X : Cx} {pins : List (Addr × Obj)} {σ : St} {H : Hp} {s : Shared} {h' : Heap} {t' : Nat} {ch : List Addr} (I : Inv X pins σ H s) (hf : ∀ b ∈ ch, FpOk X pins H b)
    (k : ∀ b ob, b ∉ ch → s.heap.get? b = some ob → h'.get? b = some ob) : Inv X pins σ H { s with heap := h', toks := t' } := by
  have nc : ∀ b u, H b = some u → b ∉ ch := fun b u e z => by
    have := (hf b z).1
    rw [e] at this
    cases this
  refine I.step (g' := s.gens) (d' := s.drawn) (ch := ch) (fun b hb => ⟨(hf b hb).2.2.2.1, (hf b hb).2.1, (hf b hb).2.2.2.2.1, (hf b hb).2.2.2.2.2⟩) (fun b ob _ _ hc e _ => k b ob hc e) (fun b ob _ _ hc e _ => ⟨ob.slots, k b ob hc e⟩)
    (fun b ob _ e n => n) (fun b ob hc e => ⟨ob, k b ob hc e⟩) (fun b xs e => e) (fun b ob xs e => e) (fun b ps e => ⟨#[], by rw [e]; simp⟩) (fun m hm => ?_) (fun b u e => ?_) I.bare
  · obtain ⟨ob, es, ep, ho, r⟩ := hm
    exact ⟨ob, es, ep, k _ ob (fun z => (hf _ z).2.1 rfl) ho, r⟩
  · refine (I.hok b u e).stay (fun c v hc q => k c v ?_ q) (fun c q => q) fun c xs q => q
    rcases hc with z | z
    · rw [z]; exact nc b u e
    · exact nc c _ z

/-! ### enumerate, its tuples unpacked -/
noncomputable def Ite (S : Src) (K : PySem.W.Frag) (a : Addr) : It :=
  ⟨fun i H => ∃ xs x, S.Sq K H a xs ∧ xs[i]? = some x, fun i H x H' => ∃ T v, H T = none ∧ x = .ref T ∧ H' = upd H T (.tup [.int i, v]) ∧ ∀ xs, S.Sq K H a xs → xs[i]? = some v, fun i H => ∃ xs, S.Sq K H a xs ∧ xs.length = i⟩
theorem turn_enum {P : Program} {w : World} {K : PySem.W.Frag} {elts : List Expr} {k0 : Nat} {pos : Pos} (S : Src) (a e it : Addr) (hl : S.icls ≠ "enumerate") :
    Turn P w K (.Tuple elts k0 pos) (Ite S K a) [e, it] e (fun i h => (∃ old, IsEnum h e it i old) ∧ S.It h it a i) where
  mem := by simp
  obj := fun i h st b hb => by
    obtain ⟨⟨old, he⟩, hi⟩ := st
    rcases List.mem_cons.mp hb with rfl | hb
    · exact ⟨_, he, fun v z => nomatch z⟩
    · obtain rfl := List.mem_singleton.mp hb
      obtain ⟨o, ho, _, hd⟩ := S.isIt hi
      exact ⟨o, ho, fun v z => by rw [hd] at z; cases z⟩
  keep := fun i h h' st k => by
    obtain ⟨⟨old, he⟩, hi⟩ := st
    exact ⟨⟨old, k e (by simp) _ he⟩, S.itKeep hi fun o q => k it (by simp) o q⟩
  item := by
    intro X hP hw hK hc i pins s σ H E I hf st hg
    subst hP hw hK
    obtain ⟨xs, x, hq, hx⟩ := hg
    obtain ⟨its, rv, p, hz⟩ := S.get I hq
    obtain ⟨⟨old, he⟩, hi⟩ := st
    obtain ⟨u, hu, ru⟩ := rv.get hx
    obtain ⟨oa, na, hoa, hda⟩ := S.isSeq p
    obtain ⟨oi, hoi, hci, hdi⟩ := S.isIt hi
    have nei : e ≠ it := fun z => by
      have he' : s.heap.get? e = some _ := he
      rw [z, hoi] at he'
      cases he'
      exact hl (by simpa using hci.symm)
    have nae : e ≠ a := S.off I hq (hf e (by simp))
    have nai : a ≠ it := fun z => by
      rw [z, hoi] at hoa
      cases hoa
      rw [hdi] at hda
      cases hda
    have hlt : i < its.toArray.size := by
      have := (List.getElem?_eq_some_iff.mp hu).1
      simpa using this
    refine wpAny_pyNext_enum_itemD (S.draws (A := X.A.in1) (show X.A.in1.handled = none from I.ok.hd hc) it a nai its.toArray) he ⟨hi, p⟩ hlt nei (by simp [nei, nae]) fun y h1 tk hP ho hs1 hT hsz hk => ⟨_, rfl, ?_⟩
    have hy : y = u := by
      have : its.toArray[i]? = some u := by simpa using hu
      rw [this] at hP
      exact (Option.some.inj hP).symm
    subst hy
    refine wpAny_letOwnedTupleGo_enum ho fun h2 he2 hs2 => ?_
    have elt : e < s.heap.objs.size := Heap.lt_size he
    have hT2 : h2.get? s.heap.objs.size = some { cls := .type "tuple", data := .seq #[.int i tk, y] } := hs2.extBut _ _ (neLt (Nat.le_refl _) elt) hT
    have kept : ∀ b ob, b ∉ [e, it] → s.heap.get? b = some ob → h2.get? b = some ob := fun b ob hb q => by
      have h1' : b ≠ e := fun z => hb (by simp [z])
      exact hs2.extBut _ _ h1' (hk b ob h1' (fun z => hb (by simp [z])) q)
    refine ⟨.ref s.heap.objs.size, upd H s.heap.objs.size (.tup [.int i, x]), ?_, rfl, ⟨_, x, I.fresh, rfl, rfl, fun ys hy => by rw [S.inj I hy hq]; exact hx⟩, ⟨⟨_, he2⟩, S.itKeep hs1.1 fun o q => hs2.extBut _ _ (Ne.symm nei) q⟩, fun b hb => ?_⟩
    · refine I.turns (t' := tk + 1) hf kept (Nat.le_refl _) ⟨(by show 2 ≤ sizeLine; decide), [.int i tk, y], .cons ⟨tk, rfl⟩ (.cons ru .nil), _, hT2, rfl, ⟨0, rfl⟩, rfl⟩
    · have lt : b < s.heap.objs.size := by
        rcases List.mem_cons.mp hb with rfl | hb
        · exact elt
        · obtain rfl := List.mem_singleton.mp hb
          exact Heap.lt_size hoi
      rw [upd_ne (ltNe lt (Nat.le_refl _))]
      exact (hf b hb).1
  done := by
    intro X hP hw hK hc i pins s σ H E I hf st hg
    subst hP hw hK
    obtain ⟨xs, hq, hx⟩ := hg
    obtain ⟨its, rv, p, hz⟩ := S.get I hq
    obtain ⟨⟨old, he⟩, hi⟩ := st
    obtain ⟨oa, na, hoa, hda⟩ := S.isSeq p
    obtain ⟨oi, hoi, hci, hdi⟩ := S.isIt hi
    have nai : a ≠ it := fun z => by
      rw [z, hoi] at hoa
      cases hoa
      rw [hdi] at hda
      cases hda
    have hsz : i = its.toArray.size := by
      have := rv.length
      simp only [List.size_toArray]
      omega
    subst hsz
    exact wpAny_pyNext_enum_endD (S.draws (A := X.A.in1) (show X.A.in1.handled = none from I.ok.hd hc) it a nai its.toArray) he ⟨hi, p⟩ fun h' hx' => ⟨rfl, I.turnsN (t' := s.toks) hf fun b ob hb q => hx' b ob (fun z => hb (by simp [z])) q⟩
  self := fun _ _ _ _ _ st h => by
    obtain ⟨⟨old, he⟩, _⟩ := st
    exact wpAny_pyIter_enum he h
section
variable {X : Cx} {elts : List Expr} {k0 : Nat} {tpos : Pos}
theorem new_enum (S : Src) (l : Addr) (its : Array Value) :
    Meets (Builtin.«enumerate.__new__» ⟨[.type "enumerate", .ref l], []⟩) (fun _ R s => S.Is s.heap l its ∧
      R (.ok (.ret (.ref (s.heap.push { cls := .type S.icls, data := .fields #[.ref l, .int 0 0] }).objs.size)))
        { s with heap := (s.heap.push { cls := .type S.icls, data := .fields #[.ref l, .int 0 0] }).push { cls := .type "enumerate", data := .fields #[.none, .bool false, .ref s.heap.objs.size, rawInt 0, .none, .none] } }) :=
  .of_wp fun prog w A R s h => by
    obtain ⟨hp, g, d, tk, os⟩ := s
    obtain ⟨hl, h⟩ := h
    have hsub := sub_enumerate
    have hL : S.Is (Shared.heap ⟨hp, g, d, tk, os⟩) l its := hl
    wp_walk
    refine wpAny_stack_any fun st => wpAny_pure ?_
    split
    · rename_i c _ _ _ _ _
      cases (c == Value.type "enumerate")
      · wp_walk using S.iter hL
        exact ⟨_, rfl, h⟩
      · wp_walk using S.iter hL
        exact ⟨_, rfl, h⟩
    · wp_walk using S.iter hL
      exact ⟨_, rfl, h⟩
theorem call_enum (S : Src) {prog : Program} {w : World} {A : Around} {E : Value → Shared → Prop} {s : Shared} {l : Addr} {its : Array Value} {Q : Value → Shared → Prop} (hL : S.Is s.heap l its)
    (h : ∀ h', IsEnum h' (s.heap.objs.size + 1) s.heap.objs.size 0 .none → S.It h' s.heap.objs.size l 0 → (∀ b o, s.heap.get? b = some o → h'.get? b = some o) → Q (.ref (s.heap.objs.size + 1)) { s with heap := h' }) :
    wpAny (model prog w) A (call (.type "enumerate") [.ref l]) Q E s := by
  refine callType_new F.called_enumerate (by decide) (F.typeCall_enumerate_1 _) (F.newCall_enumerate_1 _) (fun obj => F.args_object_init_2 obj _) F.entry_enumerate_new (new_enum S l its) ⟨hL, ?_⟩
  have hz : (s.heap.push { cls := .type S.icls, data := .fields #[.ref l, .int 0 0] }).objs.size = s.heap.objs.size + 1 := Heap.size_push ..
  show _ ∧ _
  rw [hz]
  have he := Heap.get?_push_size (s.heap.push { cls := .type S.icls, data := .fields #[.ref l, .int 0 0] }) (o := { cls := .type "enumerate", data := .fields #[.none, .bool false, .ref s.heap.objs.size, rawInt 0, .none, .none] }) rfl
  rw [hz] at he
  exact ⟨⟨_, he, rfl⟩, h _ he (S.mkI (Heap.get?_push_of_some _ (Heap.get?_push_size _ rfl)) rfl rfl) fun b o q => Heap.get?_push_of_some _ (Heap.get?_push_of_some _ q)⟩
noncomputable def iEnum (S : Src) (K : PySem.W.Frag) (ta : TA) : TI := fun σ H R => ta σ H fun vs H1 => ∃ a xs, vs = [.ref a] ∧ S.Sq K H1 a xs ∧ R (Ite S K a) H1
theorem pi_enum (S : Src) {a : Expr} {ta : TA} {p pos : Pos} (hg : Gl X "enumerate") (hm : X.mg "enumerate" = none) (hS : S.icls ≠ "enumerate") (ha : PA X [a] ta) (hs : starEach [a] X.env = [(false, eval a X.env)] := by rfl) :
    PI X (.Tuple elts k0 tpos) (.Call (.Name "enumerate" p) [a] [] pos) (iEnum S X.K ta) := by
  intro pins s σ H R I h
  refine Call_ (ld_blt I hg hm boot_enumerate (PyProof.Rows.callWith_type1 (thn (ha pos pins s σ H _ I h) fun us s1 ⟨vs, H1, I1, r1, q1⟩ => ?_) hs rfl))
  obtain ⟨l, xs, e, hq, q⟩ := q1
  subst e
  obtain ⟨u, rfl, ru⟩ := r1.one
  cases ru
  obtain ⟨its, rv, p', hz⟩ := S.get I1 hq
  refine call_enum S p' fun h' he hi kp => wpAny_pyIter_enum he ?_
  have I2 : Inv X pins σ H1 { s1 with heap := h' } := I1.kept (t' := s1.toks) kp
  refine ⟨s1.heap.objs.size + 1, [s1.heap.objs.size + 1, s1.heap.objs.size], _, _, H1, rfl, I2, turn_enum S l _ _ hS, ⟨⟨_, he⟩, hi⟩, fun b hb => ?_, q⟩
  have hb' : s1.heap.objs.size ≤ b := by
    rcases List.mem_cons.mp hb with rfl | hb
    · exact Nat.le_succ _
    · obtain rfl := List.mem_singleton.mp hb
      exact Nat.le_refl _
  exact I1.fpOk hb' (I1.hok.fresh hb')
end
end L2

end

section
-- KcOps
set_option Elab.async false
set_option linter.all false
set_option maxRecDepth 100000
set_option maxHeartbeats 4000000
namespace L2
open PySem PySem.Spec PyProof.Rows

section
variable {X : Cx}
/-! ### isinstance(x, T) for a built-in T -/
noncomputable def rIsi (K : PySem.W.Frag) : List V → Hp → VK → Prop := fun xs H Q => ∃ x T t b, xs = [x, .ty T] ∧ TyOf K H x t ∧ PySem.W.kitOne K t (.type T) = some b ∧ Q (.bl b) H
theorem call_isi : CallR X (.builtin "isinstance") (rIsi X.K) := by
  intro pins s σ H xs us Q I r h
  obtain ⟨x, T, t, b, rfl, ty, e, q⟩ := h
  obtain ⟨u, v, rfl, ru, rv⟩ := r.two
  cases (show v = Value.type T from rv)
  exact isinst_ok I ru ty e fun tk => ⟨.bl b, H, I.tok tk, rfl, q⟩
theorem kit_int_int (K : PySem.W.Frag) : PySem.W.kitOne K (.type "int") (.type "int") = some true := by unfold PySem.W.kitOne; rw [if_pos (beq_self_eq_true _)]
theorem kit_int_bool (K : PySem.W.Frag) : PySem.W.kitOne K (.type "int") (.type "bool") = some false := by show (if (Value.type "int" == Value.type "bool") = true then some true else if PySem.W.kitMeta "bool" = true then (fastBuiltinMro "int").map (·.contains (.type "bool")) else none) = some false; decide +kernel
theorem kit_lst_lst (K : PySem.W.Frag) : PySem.W.kitOne K (.type "list") (.type "list") = some true := by unfold PySem.W.kitOne; rw [if_pos (beq_self_eq_true _)]

/-! ### all of a list of truths, sum of a list of ints -/
theorem all_get : ∀ (bs : List Bool), (List.range bs.length).all (fun i => bs.getD i false) = bs.all id := by
  intro bs
  induction bs with
  | nil => rfl
  | cons b r ih =>
    rw [List.length_cons, List.range_succ_eq_map, List.all_cons, List.all_map, List.all_cons]
    show (b && _) = (b && _)
    rw [← ih]
    rfl
theorem vals_bl {bs : List Bool} {us : List Value} (r : Vals (bs.map V.bl) us) : us = bs.map Value.bool := by
  induction bs generalizing us with
  | nil => cases r; rfl
  | cons b t ih =>
    cases r with
    | cons q r' =>
      rw [List.map_cons, ← ih r', show _ = Value.bool b from q]
theorem Inv.walked {pins : List (Addr × Obj)} {σ : St} {H : Hp} {s : Shared} {h' : Heap} {tk : Nat} {o : Obj} (I : Inv X pins σ H s) (hk : ∀ b ob, b ∉ [s.heap.objs.size] → (s.heap.push o).get? b = some ob → h'.get? b = some ob) : Inv X pins σ H { s with heap := h', toks := tk } :=
  I.kept fun b ob e => hk b ob (fun z => absurd (List.mem_singleton.mp z) (Nat.ne_of_lt (Heap.lt_size e))) (Heap.get?_push_of_some _ e)
theorem call_allL (hc : X.calm = true) : CallR X (.builtin "all") (fun xs H Q => ∃ (p : Addr) (bs : List Bool), xs = [.ref p] ∧ SqL X.K H p (bs.map V.bl) ∧ Q (.bl (bs.all id)) H) := by
  intro pins s σ H xs us Q I r h
  obtain ⟨p, bs, rfl, hq, q⟩ := h
  obtain ⟨u, rfl, rx⟩ := r.one
  cases rx
  obtain ⟨its, rv, pl, hz⟩ := I.list hq
  have e := vals_bl rv
  subst e
  refine call_all_walk (wpAny_pyIter_list pl.isList ⟨s.heap.objs.size, _, _, _, _, _, fun i => bs.getD i false, rfl, Walks.list (show X.A.in1.handled = none from I.ok.hd hc) _ p (by obtain ⟨o, ho, _⟩ := pl.isList; exact Nat.ne_of_lt (Heap.lt_size ho)) (bs.map Value.bool).toArray,
    ⟨⟨_, Heap.get?_push_size _ rfl, rfl, rfl⟩, pl.isList.push _⟩, ?_, fun h' tk hk => ?_⟩)
  · intro i v s' Q' E' hP hQ
    have hP' : (bs.map Value.bool)[i]? = some v := by simpa using hP
    rw [List.getElem?_map] at hP'
    cases e : bs[i]? with
    | none => rw [e] at hP'; cases hP'
    | some b =>
      rw [e] at hP'
      cases hP'
      have : bs.getD i false = b := by rw [List.getD_eq_getElem?_getD, e]; rfl
      have hQ' : Q' (bs.getD i false) s' := hQ
      rw [this] at hQ'
      exact wpAny_truthy_bool hQ'
  · refine ⟨.bl (bs.all id), H, I.walked hk, ?_, q⟩
    show Value.bool _ = Value.bool _
    rw [← all_get]
    simp
theorem preSum_list (ns : List Int) : ∀ k, k ≤ ns.length → preSum (fun i => ns.getD i 0) k = (ns.take k).sum := by
  intro k
  induction k with
  | zero => intro _; simp [preSum]
  | succ k ih =>
    intro hk
    have hlt : k < ns.length := hk
    rw [preSum, ih (Nat.le_of_lt hlt), List.take_add_one, List.sum_append, List.getElem?_eq_getElem hlt, List.getD_eq_getElem?_getD, List.getElem?_eq_getElem hlt]
    simp
theorem call_sumL (hc : X.calm = true) : CallR X (.builtin "sum") (fun xs H Q => ∃ (p : Addr) (ns : List Int), xs = [.ref p] ∧ SqL X.K H p (ns.map V.int) ∧ Q (.int ns.sum) H) := by
  intro pins s σ H xs us Q I r h
  obtain ⟨p, ns, rfl, hq, q⟩ := h
  obtain ⟨u, rfl, rx⟩ := r.one
  cases rx
  obtain ⟨its, rv, pl, hz⟩ := I.list hq
  have hlen : ns.length = its.length := by have := rv.length; simpa using this
  have ia := intsAre_of rv
  refine call_sum_walkG (wpAny_pyIter_list pl.isList ⟨s.heap.objs.size, _, _, _, _, _, fun i => ns.getD i 0, rfl, Walks.list (show X.A.in1.handled = none from I.ok.hd hc) _ p (by obtain ⟨o, ho, _⟩ := pl.isList; exact Nat.ne_of_lt (Heap.lt_size ho)) its.toArray,
    ⟨⟨_, Heap.get?_push_size _ rfl, rfl, rfl⟩, pl.isList.push _⟩, fun b hb => ?_, ?_, fun h' tk t' hk => ?_⟩)
  · have hp : p < s.heap.objs.size := by
      obtain ⟨o, ho, _⟩ := pl.isList
      exact Heap.lt_size ho
    show b < (s.heap.push _).objs.size
    rw [Heap.size_push]
    rcases List.mem_cons.mp hb with rfl | hb
    · exact Nat.lt_succ_self _
    · obtain rfl := List.mem_singleton.mp hb
      exact Nat.lt_succ_of_lt hp
  · intro i v hP
    have hP' : its[i]? = some v := by simpa using hP
    have hlt : i < ns.length := by
      have := (List.getElem?_eq_some_iff.mp hP').1
      omega
    obtain ⟨u', hu', ru'⟩ := rv.get (x := .int ns[i]) (i := i) (by rw [List.getElem?_map, List.getElem?_eq_getElem hlt] <;> rfl)
    rw [hP'] at hu'
    cases hu'
    obtain ⟨t, e⟩ := (show ∃ t, v = Value.int ns[i] t from ru')
    refine ⟨t, ?_⟩
    show v = Value.int (ns.getD i 0) t
    rw [e, List.getD_eq_getElem?_getD, List.getElem?_eq_getElem hlt]
    rfl
  · refine ⟨.int ns.sum, H, I.walked hk, ⟨t', ?_⟩, q⟩
    rw [show its.toArray.size = ns.length by simp; omega, preSum_list ns _ (Nat.le_refl _), List.take_length]

/-! ### == and != of two lists, two tuples, item by item: flat items, or one and the same object -/
noncomputable def EqE (x y : V) (b : Bool) : Prop := (flatV x = true ∧ flatV y = true ∧ b = eqV x y) ∨ (∃ a, x = .ref a ∧ y = .ref a ∧ b = true)
theorem EqE.at {A : Around} {s : Shared} {x y : V} {b : Bool} {u v : Value} (h : EqE x y b) (ru : RelV x u) (rv : RelV y v) : SeqAt.EqAt A s u v b := by
  rcases h with ⟨f1, f2, rfl⟩ | ⟨a, rfl, rfl, rfl⟩
  · exact eqAt_V ru rv f1 f2
  · cases ru
    cases rv
    exact SeqAt.EqAt.same _
noncomputable def EqEs (xs ys : List V) (e : Nat → Bool) : Prop := ∀ j x y, xs[j]? = some x → ys[j]? = some y → EqE x y (e j)
theorem eqes_at {A : Around} {s : Shared} {xs ys : List V} {e : Nat → Bool} {us vs : List Value} (h : EqEs xs ys e) (ru : Vals xs us) (rv : Vals ys vs) :
    ∀ j (h1 : j < us.toArray.size) (h2 : j < vs.toArray.size), SeqAt.EqAt A s us.toArray[j] vs.toArray[j] (e j) := by
  intro j h1 h2
  have h1' : j < xs.length := by rw [ru.length]; simpa using h1
  have h2' : j < ys.length := by rw [rv.length]; simpa using h2
  obtain ⟨u, eu, r1⟩ := ru.get (List.getElem?_eq_getElem h1')
  obtain ⟨v, ev, r2⟩ := rv.get (List.getElem?_eq_getElem h2')
  have q := (h j _ _ (List.getElem?_eq_getElem h1') (List.getElem?_eq_getElem h2')).at (A := A) (s := s) r1 r2
  have e1 : us.toArray[j] = u := by
    have := (List.getElem?_eq_some_iff.mp eu).2
    simpa using this
  have e2 : vs.toArray[j] = v := by
    have := (List.getElem?_eq_some_iff.mp ev).2
    simpa using this
  rw [e1, e2]
  exact q
noncomputable def eqAns (xs ys : List V) (e : Nat → Bool) : Bool := (List.range (min xs.length ys.length)).all e && xs.length == ys.length
noncomputable def rEqS (Sq : Hp → Addr → List V → Prop) (neg : Bool) : R2 := fun x y H Q => ∃ a b xs ys e, x = .ref a ∧ y = .ref b ∧ Sq H a xs ∧ Sq H b ys ∧ EqEs xs ys e ∧ Q (.bl (if neg then !eqAns xs ys e else eqAns xs ys e)) H
theorem op_eqL (hu : X.A.units < cLine) : OpR X (compareOp .Eq) (rEqS (SqL X.K) false) := by
  intro pins s σ H x y v u Q I r1 r2 h
  obtain ⟨a, b, xs, ys, e, rfl, rfl, ha, hb, he, q⟩ := h
  cases r1
  cases r2
  obtain ⟨us, ru, pu, _⟩ := I.list ha
  obtain ⟨vs, rv, pv, _⟩ := I.list hb
  have h1 := ru.length
  have h2 := rv.length
  by_cases hl : xs.length = ys.length
  · refine SeqAt.eq_listAt (e := e) pu.isList pv.isList (by simp only [List.size_toArray]; omega) hu (eqes_at he ru rv) ⟨.bl (eqAns xs ys e), H, I, ?_, q⟩
    show Value.bool _ = Value.bool _
    unfold eqAns
    rw [List.size_toArray, ← h1, hl, Nat.min_self, beq_self_eq_true, Bool.and_true]
  · refine SeqAt.eq_list_lengthsAt pu.isList pv.isList (by simp only [List.size_toArray, bne_iff_ne]; omega) hu ⟨.bl (eqAns xs ys e), H, I, ?_, q⟩
    show Value.bool _ = Value.bool _
    unfold eqAns
    rw [beq_eq_false_iff_ne.mpr hl, Bool.and_false]
end
theorem eqes_ints (ns ms : List Int) : EqEs (ns.map V.int) (ms.map V.int) (fun j => decide (ns[j]? = ms[j]?)) := by
  intro j x y hx hy
  rw [List.getElem?_map] at hx hy
  cases e1 : ns[j]? with
  | none => rw [e1] at hx; cases hx
  | some n =>
    cases e2 : ms[j]? with
    | none => rw [e2] at hy; cases hy
    | some m =>
      rw [e1] at hx
      rw [e2] at hy
      cases hx
      cases hy
      refine .inl ⟨rfl, rfl, ?_⟩
      show decide (ns[j]? = ms[j]?) = (n == m)
      rw [e1, e2]
      by_cases h : n = m
      · subst h; simp
      · simp [h]
theorem eqAns_ints (ns ms : List Int) : eqAns (ns.map V.int) (ms.map V.int) (fun j => decide (ns[j]? = ms[j]?)) = decide (ns = ms) := by
  unfold eqAns
  rw [List.length_map, List.length_map]
  by_cases h : ns = ms
  · subst h
    simp
  · rw [decide_eq_false h]
    by_cases hl : ns.length = ms.length
    · rw [Bool.and_eq_false_iff]
      left
      rw [← Bool.not_eq_true, List.all_eq_true]
      intro q
      apply h
      apply List.ext_getElem? 
      intro j
      by_cases hj : j < ns.length
      · have := q j (by rw [List.mem_range]; omega)
        exact of_decide_eq_true this
      · rw [List.getElem?_eq_none (by omega), List.getElem?_eq_none (by omega)]
    · rw [beq_eq_false_iff_ne.mpr hl, Bool.and_false]
end L2

end

section
-- KcBase
set_option Elab.async false
set_option linter.all false
set_option maxRecDepth 100000
set_option maxHeartbeats 4000000
namespace L2
open PySem PySem.Spec PyProof.Rows

/-! ### an own def that is called, all that is asked of it in one -/
noncomputable def FnB (P : Program) (w : World) (K : PySem.W.Frag) (mg : Str → Option Value) (base : Heap) (k : Nat) (x : Str) (ps : List Str) (sp : Sp) : Prop :=
  ∃ f fd, FnOk P w K mg base CX0 k f fd ps sp ∧ mg x = some (.ref f) ∧ PySem.W.keepIn K (.ref f) = true ∧ Binds K fd ps []
theorem pe_callF {X : Cx} {k : Nat} {x : Str} {ps : List Str} {sp : Sp} {p pos : Pos} {e : Expr} {es : List Expr} {t : TA} (F : FnB X.prog X.w X.K X.mg X.base k x ps sp) (hr : Room k X.A) (ha : PA X (e :: es) t) (hg : Gl X x := by rfl)
    (hdb : (x == ("__debug__" : Str)) = false := by decide) (he : starEach (e :: es) X.env = (false, eval e X.env) :: starEach es X.env := by rfl) (hpl : (backTo pos (starEach es X.env)).any (·.1) = false := by rfl) :
    PE X (.Call (.Name x p) (e :: es) [] pos) (tCall sp [] E0 t) := by
  obtain ⟨f, fd, ok, m, kp, b⟩ := F
  exact pe_call ok hr hg m kp b .nil pass0 ha hdb he hpl
theorem FnB.mono {P : Program} {w : World} {K : PySem.W.Frag} {mg : Str → Option Value} {base : Heap} {j k : Nat} {x : Str} {ps : List Str} {sp : Sp} (F : FnB P w K mg base j x ps sp) (h : j ≤ k) : FnB P w K mg base k x ps sp := by
  obtain ⟨f, fd, ok, r⟩ := F
  exact ⟨f, fd, ok.mono h, r⟩
structure Def (K : PySem.W.Frag) (mg : Str → Option Value) (x : Str) (st : Stmt) (ps : List Str) (f : Addr) (fd : FuncData) : Prop where
  fn : Fun K x x st f fd
  m : mg x = some (.ref f)
  b : Binds K fd ps []
theorem Def.ok {P : Program} {w : World} {K : PySem.W.Frag} {mg : Str → Option Value} {base : Heap} {x : Str} {st : Stmt} {N ps : List Str} {f : Addr} {fd : FuncData} {k : Nat} {sp : Sp} (D : Def K mg x st ps f fd) (S : FnScope N ps (defScope st)) (len : ∀ vs H Q E, sp vs H Q E → vs.length = ps.length)
    (hbody : ∀ (cdv : Value) (A : Around) (outer : List Env) (s : Shared) (H : Hp) (vs : List V) (Q : VK) (E : XK), Room k (A.deeper (envOfC x (defScope st) s.heap.objs.size f cdv)) → sp vs H Q E →
      ∃ t, PSs (cxOf CX0 P w K mg base N x (defScope st) f cdv A outer s H E).nox (defBody st) t ∧ t { nx := fun _ H' => Q .non H', rt := Q } (start N vs) H) : FnB P w K mg base (k + 1) x ps sp :=
  ⟨f, fd, D.fn.ok S len hbody, D.m, D.fn.kp, D.b⟩

/-! ### products of ints of many figures -/
theorem op_mulB {X : Cx} : OpR X (binaryOp .Mult) (rI IntMulOk fun i j => .int (i * j)) := opI fun _ _ _ _ _ _ _ hc q => mul_int q hc

/-! ### the law's head, with the bits of the script's ints -/
theorem bits_items : ∀ (ns : List Int), ∀ n ∈ ns, Builtin.Int.intBits n ≤ PySem.W.WData.weightAll (ns.map PySem.W.WData.int)
  | [], n, h => (nomatch h)
  | m :: r, n, h => by
    rw [List.map_cons, PySem.W.WData.weightAll]
    have e : PySem.W.WData.weight (.int m) = Builtin.Int.intBits m := by
      rw [PySem.W.WData.weight]
      rfl
    rw [e]
    rcases List.mem_cons.mp h with rfl | h
    · omega
    · have := bits_items r n h
      omega
theorem bits_of_lay {ns : List Int} (h : PySem.W.WData.layableAll [PySem.W.WData.list (ns.map PySem.W.WData.int)] = true) : ∀ n ∈ ns, Builtin.Int.intBits n ≤ 1048576 := by
  intro n hn
  have h1 : PySem.W.WData.layable (PySem.W.WData.list (ns.map PySem.W.WData.int)) = true := by
    unfold PySem.W.WData.layableAll at h
    rw [List.all_cons, Bool.and_eq_true] at h
    exact h.1
  unfold PySem.W.WData.layable at h1
  rw [Bool.and_eq_true] at h1
  have h2 : PySem.W.WData.weight (PySem.W.WData.list (ns.map PySem.W.WData.int)) ≤ 2 ^ 20 := of_decide_eq_true h1.2
  rw [PySem.W.WData.weight] at h2
  have h3 := bits_items ns n hn
  have e : (2 : Nat) ^ 20 = 1048576 := by decide
  omega
noncomputable def ScriptOk (K : PySem.W.Frag) (H : Hp) (a : Addr) (ns : List Int) : Prop := SqL K H a (ns.map V.int) ∧ ns.length ≤ 63 ∧ ∀ n ∈ ns, Builtin.Int.intBits n ≤ 1048576
noncomputable def spLaw (K : PySem.W.Frag) : Sp := fun vs H Q _ => ∃ (a : Addr) (ns : List Int), vs = [.ref a] ∧ ScriptOk K H a ns ∧ ∀ H', Q (.bl true) H'
theorem walk_ofB {l : PySem.W.OpenLaw} {k : Nat} {q : Program} {loose : List Str} {XP : (Str → Option Value) → Heap → Prop} {YP : World → Heap → Prop} {d : DefRec} {K : Params → PySem.W.Frag} {x : Str}
    (hn : l.most = some 63) (hdf : d.params.defaults = []) (hr : Room k callerA) (hY : ∀ (w : World) (h : Heap), YP w h → (K w.params).In h)
    (F : ∀ (w : World) (mg : Str → Option Value) (fa : Addr) (h : Heap), (K w.params).In h → h.Ns mainGlobals mg → mg d.name = some (.ref fa) →
      ∃ fd : FuncData, (∀ (s : Shared) (u : Value), BindsTo s fd ⟨[u], []⟩ [(x, u)]) ∧
        ∀ base : Heap, (K w.params).In base → base.Ns mainGlobals mg → FnOk l.prog w (K w.params) mg base CX0 k fa fd [x] (spLaw (K w.params))) :
    PySem.W.WalkO q loose XP YP l.row.toRowW d [] (fun f vs => PySem.call f vs) := by
  intro w s₀ s₁ mg mb G Y fa o pm cd doc dV kV ho hd hcd hD hmg hg args vals as hpre hlay hrd hwl hlo
  obtain rfl : dV = .none := PySem.W.Dflts.none hD hdf
  obtain rfl : kV = .none := PySem.W.Dflts.noKw hD
  obtain ⟨a, vs, ns, rfl, rfl, hobj, hints, hlen⟩ := Att.script_of hn hpre hwl
  have hbits := bits_of_lay hlay
  have KX := hY w _ Y
  obtain ⟨fd, hb, hF⟩ := F w mg fa _ KX G.T.g hmg
  have c := law_call KX G.T.g G.T.b G.T.builtins G.T.nolimit hg hobj hints (Nat.le_trans hlen (by decide)) hr hF hb (fun H hO hS => ⟨a, ns, rfl, ⟨hS, hlen, hbits⟩, fun _ => rfl⟩) fun H e s' z => z
  refine PySem.W.enter_call (codeAny_mono c fun r s' hq => ?_)
  obtain ⟨rfl, h2, h3, h4⟩ := hq
  exact ⟨.inl ⟨.bool true, .bool true, [], rfl, fun _ => rfl, .bool true, Att.post_true l _, fun _ => ⟨List.Pairwise.nil, fun _ hm => (nomatch hm)⟩⟩, h2, h3, h4⟩

/-! ### loops over any source -/
theorem for_of {J : It} {n : Nat} {g : TG} {tb : TS} {D : Ends} {σ : St} {H : Hp} {Y : Nat → Hp → V → Hp → Prop} (Pv : Nat → St → Hp → Prop) (h0 : Pv 0 σ H) (hgo : ∀ i σ H, i < n → Pv i σ H → J.go i H) (hst : ∀ σ H, Pv n σ H → J.stop n H)
    (hy : ∀ i σ H x H1, i < n → Pv i σ H → J.yld i H x H1 → Y i H x H1) (hs : ∀ i x σ H H1, i < n → Pv i σ H → Y i H x H1 → g x σ H1 fun σ2 H2 => tb { D with nx := Pv (i + 1), ct := Pv (i + 1), bk := D.nx } σ2 H2) (hd : ∀ σ H, Pv n σ H → D.nx σ H) :
    ∃ W : Nat → Nat → St → Hp → Prop, (∃ m, W 0 m σ H) ∧ ∀ i m σ H, W i m σ H →
      (J.stop i H ∧ D.nx σ H) ∨ (J.go i H ∧ ∃ N : St → Hp → Prop, (∀ σ' H', N σ' H' → ∃ m', m' < m ∧ W (i + 1) m' σ' H') ∧ ∀ x H', J.yld i H x H' → g x σ H' fun σ2 H2 => tb { D with nx := N, ct := N, bk := D.nx } σ2 H2) := by
  refine ⟨fun i m σ H => m = n - i ∧ i ≤ n ∧ Pv i σ H, ⟨n, by simp, Nat.zero_le _, h0⟩, ?_⟩
  rintro i m σ H ⟨rfl, hi, p⟩
  by_cases hlt : i < n
  · exact .inr ⟨hgo i σ H hlt p, Pv (i + 1), fun σ' H' p' => ⟨n - (i + 1), by omega, rfl, hlt, p'⟩, fun x H' y => hs i x σ H H' hlt p (hy i σ H x H' hlt p y)⟩
  · have e : i = n := by omega
    subst e
    exact .inl ⟨hst σ H p, hd σ H p⟩
theorem for_enum {S : Src} {K : PySem.W.Frag} {a : Addr} {xs : List V} {g : TG} {tb : TS} {D : Ends} {σ : St} {H : Hp} (Pv : Nat → St → Hp → Prop) (h0 : Pv 0 σ H) (hl : ∀ i σ H, i ≤ xs.length → Pv i σ H → S.Sq K H a xs)
    (hs : ∀ i x T σ H, xs[i]? = some x → Pv i σ H → H T = none → g (.ref T) σ (upd H T (.tup [.int i, x])) fun σ2 H2 => tb { D with nx := Pv (i + 1), ct := Pv (i + 1), bk := D.nx } σ2 H2) (hd : ∀ σ H, Pv xs.length σ H → D.nx σ H) :
    ∃ W : Nat → Nat → St → Hp → Prop, (∃ m, W 0 m σ H) ∧ ∀ i m σ H, W i m σ H →
      ((Ite S K a).stop i H ∧ D.nx σ H) ∨ ((Ite S K a).go i H ∧ ∃ N : St → Hp → Prop, (∀ σ' H', N σ' H' → ∃ m', m' < m ∧ W (i + 1) m' σ' H') ∧ ∀ x H', (Ite S K a).yld i H x H' → g x σ H' fun σ2 H2 => tb { D with nx := N, ct := N, bk := D.nx } σ2 H2) :=
  for_of (J := Ite S K a) (n := xs.length) (Y := fun i H x H1 => ∃ T v, H T = none ∧ x = .ref T ∧ H1 = upd H T (.tup [.int i, v]) ∧ xs[i]? = some v) Pv h0 (fun i σ H hi w => ⟨xs, xs[i], hl i σ H (Nat.le_of_lt hi) w, by simp [hi]⟩) (fun σ H w => ⟨xs, hl _ σ H (Nat.le_refl _) w, rfl⟩)
    (fun i σ H x H1 hi w y => by
      obtain ⟨T, v, e1, e2, e3, e4⟩ := y
      exact ⟨T, v, e1, e2, e3, e4 xs (hl i σ H (Nat.le_of_lt hi) w)⟩) (fun i x σ H H1 hi w y => by
      obtain ⟨T, v, e1, rfl, rfl, e4⟩ := y
      exact hs i v T σ H e4 w e1) hd
theorem comp_enum {S : Src} {K : PySem.W.Frag} {a : Addr} {xs : List V} {g : CF TG} {tt : CF TT} {te : CF TE} {σ₀ : St} {p : Addr} {Q : VK} {H : Hp} (Pv : Nat → List V → Hp → Prop) (h0 : Pv 0 [] (upd H p (.lst []))) (hp : ∀ i acc H, i ≤ xs.length → Pv i acc H → H p = some (.lst acc) ∧ acc.length ≤ i) (hl : ∀ i acc H, i ≤ xs.length → Pv i acc H → S.Sq K H a xs) (hz : xs.length ≤ sizeLine)
    (hs : ∀ C s' H' fp, ∀ i x T acc H, xs[i]? = some x → Pv i acc H → H T = none → g C s' H' fp (.ref T) σ₀ (upd H T (.tup [.int i, x])) fun σ2 H2 => tt C s' H' fp σ2 H2 fun b H3 => if b = true then te C s' H' fp σ2 H3 fun y H4 => H4 p = some (.lst acc) ∧ Pv (i + 1) (acc ++ [y]) (upd H4 p (.lst (acc ++ [y]))) else Pv (i + 1) acc H3)
    (hd : ∀ acc H, Pv xs.length acc H → Q (.ref p) H) :
    ∃ W : Nat → Nat → List V → Hp → Prop, (∃ m, W 0 m [] (upd H p (.lst []))) ∧ ∀ C s' H' fp, CompBody (Ite S K a) (g C s' H' fp) (tt C s' H' fp) (te C s' H' fp) σ₀ p Q W :=
  comp_of (Y := fun i H x H1 => ∃ T v, H T = none ∧ x = .ref T ∧ H1 = upd H T (.tup [.int i, v]) ∧ xs[i]? = some v) Pv h0 hp hz (fun i acc H hi w => ⟨xs, xs[i], hl i acc H (Nat.le_of_lt hi) w, by simp [hi]⟩) (fun acc H w => ⟨xs, hl _ acc H (Nat.le_refl _) w, rfl⟩)
    (fun i acc H x H1 hi w y => by
      obtain ⟨T, v, e1, e2, e3, e4⟩ := y
      exact ⟨T, v, e1, e2, e3, e4 xs (hl i acc H (Nat.le_of_lt hi) w)⟩) (fun C s' H' fp i x acc H H1 hi w y => by
      obtain ⟨T, v, e1, rfl, rfl, e4⟩ := y
      exact hs C s' H' fp i v T acc H e4 w e1) hd

/-! ### two names at once -/
/-! ### heaps -/
theorem same_new {H : Hp} {p : Addr} (h : H p = none) (o : HO) : Same H (upd H p o) := fun b u q => by rw [upd_ne (ne_of_none q h)]; exact q
theorem Same.upd {H H' : Hp} {p : Addr} (s : Same H H') (h : H p = none) (o : HO) : Same H (upd H' p o) := fun b u q => by rw [upd_ne (ne_of_none q h)]; exact s b u q
theorem Same.tup {K : PySem.W.Frag} {H H' : Hp} {a : Addr} {xs : List V} (e : Same H H') (h : SqT K H a xs) : SqT K H' a xs := by
  rcases h with (h | ⟨o, h⟩) | h
  · exact .inl (.inl (e _ _ h))
  · exact .inl (.inr ⟨o, e _ _ h⟩)
  · exact .inr h
theorem small {n : Nat} (h : n ≤ 1000) : n ≤ sizeLine := Nat.le_of_lt (small1000 h)
theorem atI_ints {ns : List Int} {k : Int} (h0 : 0 ≤ k) (h1 : k < (ns.length : Int)) : atI (ns.map V.int) k = some (.int (ns.getD k.toNat 0)) := by
  have hk : k.toNat < ns.length := by omega
  have e : k = ((k.toNat : Nat) : Int) := by omega
  have q : atI (ns.map V.int) ((k.toNat : Nat) : Int) = some (.int (ns.getD k.toNat 0)) := atI_nat (by rw [List.getElem?_map, List.getElem?_eq_getElem hk, List.getD_eq_getElem?_getD, List.getElem?_eq_getElem hk] <;> rfl)
  rw [← e] at q
  exact q
theorem ite_of {c : Bool} {A B : Prop} (h1 : c = true → A) (h2 : c = false → B) : if c = true then A else B := by
  cases c with
  | true => rw [if_pos rfl]; exact h1 rfl
  | false => rw [if_neg Bool.false_ne_true]; exact h2 rfl

/-! ### the numbers out of a script: within it the cell, beyond it a draw -/
noncomputable def cellN (ns : List Int) (k : Int) : Int :=
  if k < (ns.length : Int) then ns.getD k.toNat 0 else
    let n0 := if 0 < (ns.length : Int) then ns.getD ((k * 7) % (ns.length : Int)).toNat 0 * 48271 + k * 7919 else k * 7919 + 5
    let n1 := n0 * n0 % 2147483629
    (n1 + k) * (n1 + 69621) % 2147483587
noncomputable def spCell (K : PySem.W.Frag) : Sp := fun vs H Q _ => ∃ (a : Addr) (ns : List Int) (k : Int), vs = [.ref a, .int k] ∧ ScriptOk K H a ns ∧ 0 ≤ k ∧ k ≤ 1000000 ∧ Q (.int (cellN ns k)) H
theorem ScriptOk.same {K : PySem.W.Frag} {H H' : Hp} {a : Addr} {ns : List Int} (h : ScriptOk K H a ns) (s : Same H H') : ScriptOk K H' a ns := ⟨s.seq h.1, h.2⟩
structure Blt (mg : Str → Option Value) : Prop where
  len : mg "len" = none
  range : mg "range" = none
  tuple : mg "tuple" = none
  list : mg "list" = none
  int : mg "int" = none
  bool : mg "bool" = none
  str : mg "str" = none
  dict : mg "dict" = none
  sum : mg "sum" = none
  all : mg "all" = none
  min : mg "min" = none
  max : mg "max" = none
  sorted : mg "sorted" = none
  enumerate : mg "enumerate" = none
  zip : mg "zip" = none
  isinstance : mg "isinstance" = none
theorem bits_getD {ns : List Int} (h : ∀ n ∈ ns, Builtin.Int.intBits n ≤ 1048576) (i : Nat) : Builtin.Int.intBits (ns.getD i 0) ≤ 1048576 := by
  rw [List.getD_eq_getElem?_getD]
  cases e : ns[i]? with
  | none => show Builtin.Int.intBits 0 ≤ _; decide
  | some n => exact h n (List.mem_of_getElem? e)
end L2

end

section
-- KcZip
set_option Elab.async false
set_option linter.all false
set_option maxRecDepth 100000
set_option maxHeartbeats 4000000
namespace L2
open PySem PySem.Spec PyProof.Rows

/-! ### zip of two sources, its tuples unpacked -/
structure ZApart (z TI TO j1 j2 : Addr) (fp1 fp2 : List Addr) : Prop where
  a1 : TI ≠ z
  a2 : TO ≠ z
  a3 : j1 ≠ z
  a4 : j2 ≠ z
  a5 : TI ≠ TO
  a6 : TI ≠ j1
  a7 : TI ≠ j2
  a8 : TO ≠ j1
  a9 : TO ≠ j2
  b0 : j1 ≠ j2
  b1 : z ∉ fp1
  b2 : TO ∉ fp1
  b3 : j2 ∉ fp1
  b4 : z ∉ fp2
  b5 : TO ∉ fp2
  b6 : j1 ∉ fp2
section
variable {prog : Program} {w : World} {A : Around} {E : Value → Shared → Prop} {s : Shared}
theorem _root_.PySem.Draws.but {it : Addr} {fp : List Addr} {n i : Nat} {P : Nat → Value → Prop} {St : Nat → Heap → Prop} {h h' : Heap} {c : Addr} (D : Draws prog w A it fp n P St) (hst : St i h) (hs : Heap.SameBut c h h') (hc : c ∉ fp) : St i h' :=
  D.frame i _ _ hst fun b hb o e => hs.extBut b o (fun z => hc (by rw [← z]; exact hb)) e
theorem zip_itemD {z TI TO j1 j2 : Addr} {fp1 fp2 : List Addr} {n1 n2 k : Nat} {P1 P2 : Nat → Value → Prop} {S1 S2 : Nat → Heap → Prop} {a b : Value} {Q : Value → Shared → Prop} (Z : ZApart z TI TO j1 j2 fp1 fp2)
    (D1 : Draws prog w A j1 fp1 n1 P1 S1) (D2 : Draws prog w A j2 fp2 n2 P2 S2) (hz : IsZip s.heap z TI TO .none) (hTI : IsPair s.heap TI (.ref j1) (.ref j2)) (hTO : IsPair s.heap TO a b) (h1 : S1 k s.heap) (h2 : S2 k s.heap) (l1 : k < n1) (l2 : k < n2)
    (hQ : ∀ x y h' tk, P1 k x → P2 k y → IsZip h' z TI TO (rawInt s.heap.objs.size) → (∃ a b, IsPair h' TO a b) → S1 (k + 1) h' → S2 (k + 1) h' → IsPair h' s.heap.objs.size x y →
      (∀ c o, c ∉ [z, TI, TO, j1, j2] → s.heap.get? c = some o → h'.get? c = some o) → IsPair h' TI (.ref j1) (.ref j2) → Q (.ref s.heap.objs.size) { s with heap := h', toks := tk }) :
    wpAny (model prog w) A (Builtin.«zip.__next__» ⟨[.ref z], []⟩) (fun fin s' => ∃ v, fin = .done (.ret v) ∧ Q v s') E s := by
  obtain ⟨hp, g, d, tk₀, os⟩ := s
  show wpAny _ _ (field (.ref z) 2 >>= _) _ _ _
  refine wpAny_bind (wpAny_field hz rfl (x := .bool false) rfl ?_)
  show wpAny _ _ (field (.ref z) 3 >>= _) _ _ _
  refine wpAny_bind (wpAny_field hz rfl (x := .ref TI) rfl ?_)
  refine wpAny_bind (wpAny_seqItems hTI rfl ?_)
  show wpAny _ _ (Builtin.SmallTypes.ownedTupleIsFree (.ref z) >>= _) _ _ _
  refine wpAny_bind ?_
  unfold Builtin.SmallTypes.ownedTupleIsFree
  refine wpAny_bind (wpAny_field hz rfl (x := .none) rfl (wpAny_pure ?_))
  simp only [if_true]
  refine wpAny_bind (wpAny_rule ?_)
  refine wpAny_bind (wpAny_field hz rfl (x := .ref TO) rfl ?_)
  refine wpAny_bind (wpAny_setField_rec hz (by simp) fun g1 hz1 hs1 => ?_)
  replace hz1 : IsZip g1 z TI TO .ellipsis := hz1
  replace hs1 : Heap.SameBut z hp g1 := hs1
  refine wpAny_bind ?_
  simp only [List.zipIdx_cons, List.zipIdx_nil, List.forIn_cons, List.forIn_nil]
  refine wpAny_bind (wpAny_bind (wpAny_onRaise ?_))
  show wpAny _ _ (Builtin.SmallTypes.nextOf (.ref j1) >>= _) _ _ _
  refine wpAny_bind (D1.item k ⟨g1, g, d, tk₀, os⟩ _ _ l1 (D1.but h1 hs1 Z.b1) fun x g2 tk1 px st1 hs2 => wpAny_pure ?_)
  replace hs2 : Heap.SameBut j1 g1 g2 := hs2
  have hTO2 : IsPair g2 TO a b := hs2.extBut _ _ Z.a8 (hs1.extBut _ _ Z.a2 hTO)
  refine wpAny_bind (wpAny_seqItems hTO2 rfl ?_)
  refine wpAny_bind (wpAny_updateSeq_pair hTO2 fun g3 hTO3 hs3 => ?_)
  replace hTO3 : IsPair g3 TO x b := hTO3
  replace hs3 : Heap.SameBut TO g2 g3 := hs3
  refine wpAny_bind (wpAny_letGo (wpAny_pure ?_))
  refine wpAny_bind (wpAny_bind (wpAny_onRaise ?_))
  show wpAny _ _ (Builtin.SmallTypes.nextOf (.ref j2) >>= _) _ _ _
  refine wpAny_bind (D2.item k ⟨g3, g, d, tk1, os⟩ _ _ l2 (D2.but (D2.but (D2.but h2 hs1 Z.b4) hs2 Z.b6) hs3 Z.b5) fun y g4 tk2 py st2 hs4 => wpAny_pure ?_)
  replace hs4 : Heap.SameBut j2 g3 g4 := hs4
  have hTO4 : IsPair g4 TO x b := hs4.extBut _ _ Z.a9 hTO3
  refine wpAny_bind (wpAny_seqItems hTO4 rfl ?_)
  refine wpAny_bind (wpAny_updateSeq_pair hTO4 fun g5 hTO5 hs5 => ?_)
  replace hTO5 : IsPair g5 TO x y := hTO5
  replace hs5 : Heap.SameBut TO g4 g5 := hs5
  refine wpAny_bind (wpAny_letGo (wpAny_pure (wpAny_pure ?_)))
  refine wpAny_bind (wpAny_seqItems hTO5 rfl ?_)
  refine wpAny_bind (wpAny_newTuple ?_)
  have hsz : g5.objs.size = hp.objs.size := by rw [hs5.1, hs4.1, hs3.1, hs2.1, hs1.1]
  have hz5 : IsZip g5 z TI TO .ellipsis := hs5.extBut _ _ Z.a2.symm (hs4.extBut _ _ Z.a4.symm (hs3.extBut _ _ Z.a2.symm (hs2.extBut _ _ Z.a3.symm hz1)))
  have k5 : ∀ c o, c ≠ z → c ≠ TO → c ≠ j1 → c ≠ j2 → hp.get? c = some o → g5.get? c = some o := fun c o c1 c2 c3 c4 e =>
    hs5.extBut _ _ c2 (hs4.extBut _ _ c4 (hs3.extBut _ _ c2 (hs2.extBut _ _ c3 (hs1.extBut _ _ c1 e))))
  have st15 : S1 (k + 1) g5 := D1.but (D1.but (D1.but st1 hs3 Z.b2) hs4 Z.b3) hs5 Z.b2
  have st25 : S2 (k + 1) g5 := D2.but st2 hs5 Z.b5
  have zlt : z < g5.objs.size := Heap.lt_size hz5
  show wpAny _ _ (Builtin.SmallTypes.ownedTupleHandOut (.ref z) (.ref g5.objs.size) >>= _) _ _ _
  refine wpAny_bind ?_
  unfold Builtin.SmallTypes.ownedTupleHandOut
  have hz6 : IsZip (g5.push { cls := .type "tuple", data := .seq #[x, y] }) z TI TO .ellipsis := Heap.get?_push_of_some _ hz5
  refine wpAny_bind (wpAny_setField_rec hz6 (by simp) fun g7 hz7 hs7 => ?_)
  replace hz7 : IsZip g7 z TI TO (rawInt g5.objs.size) := hz7
  refine wpAny_setField_rec hz7 (by simp) fun g8 hz8 hs8 => ?_
  replace hz8 : IsZip g8 z TI TO (rawInt g5.objs.size) := hz8
  have up : ∀ c o, c ≠ z → g5.get? c = some o → g8.get? c = some o := fun c o c1 e => hs8.extBut _ _ c1 (hs7.extBut _ _ c1 (Heap.get?_push_of_some _ e))
  have hT8 : IsPair g8 g5.objs.size x y := hs8.extBut _ _ (Nat.ne_of_gt zlt) (hs7.extBut _ _ (Nat.ne_of_gt zlt) (Heap.get?_push_size _ rfl))
  rw [hsz] at hz8 hT8
  refine wpAny_pure ⟨_, rfl, ?_⟩
  show Q (.ref g5.objs.size) _
  rw [hsz]
  exact hQ x y g8 tk2 px py hz8 ⟨x, y, up _ _ Z.a2 hTO5⟩ (D1.frame _ _ _ st15 fun c hc o e => up c o (fun q => Z.b1 (by rw [← q]; exact hc)) e) (D2.frame _ _ _ st25 fun c hc o e => up c o (fun q => Z.b4 (by rw [← q]; exact hc)) e) hT8
    (fun c o hc e => by
      simp only [List.mem_cons, List.not_mem_nil, or_false, not_or] at hc
      exact up c o hc.1 (k5 c o hc.1 hc.2.2.1 hc.2.2.2.1 hc.2.2.2.2 e)) (up _ _ Z.a1 (k5 _ _ Z.a1 Z.a5 Z.a6 Z.a7 hTI))
theorem zip_endD {z TI TO j1 j2 : Addr} {fp1 fp2 : List Addr} {n1 n2 k : Nat} {P1 P2 : Nat → Value → Prop} {S1 S2 : Nat → Heap → Prop} {a b : Value} {Q : Fin → Shared → Prop} (Z : ZApart z TI TO j1 j2 fp1 fp2)
    (D1 : Draws prog w A j1 fp1 n1 P1 S1) (D2 : Draws prog w A j2 fp2 n2 P2 S2) (hz : IsZip s.heap z TI TO .none) (hTI : IsPair s.heap TI (.ref j1) (.ref j2)) (hTO : IsPair s.heap TO a b) (h1 : S1 k s.heap) (h2 : S2 k s.heap) (l : k = min n1 n2)
    (hE : ∀ h' e tk, (∀ c o, c ∉ [z, TI, TO, j1, j2] → s.heap.get? c = some o → h'.get? c = some o) → (∃ o, h'.get? e = some o ∧ o.cls = .type "StopIteration") → E (.ref e) { s with heap := h', toks := tk }) :
    wpAny (model prog w) A (Builtin.«zip.__next__» ⟨[.ref z], []⟩) Q E s := by
  obtain ⟨hp, g, d, tk₀, os⟩ := s
  have kp : ∀ {h' : Heap}, (∀ c o, c ≠ z → c ≠ TO → c ≠ j1 → c ≠ j2 → hp.get? c = some o → h'.get? c = some o) → ∀ c o, c ∉ [z, TI, TO, j1, j2] → hp.get? c = some o → h'.get? c = some o := fun {h'} q c o hc e => by
    simp only [List.mem_cons, List.not_mem_nil, or_false, not_or] at hc
    exact q c o hc.1 hc.2.2.1 hc.2.2.2.1 hc.2.2.2.2 e
  show wpAny _ _ (field (.ref z) 2 >>= _) _ _ _
  refine wpAny_bind (wpAny_field hz rfl (x := .bool false) rfl ?_)
  show wpAny _ _ (field (.ref z) 3 >>= _) _ _ _
  refine wpAny_bind (wpAny_field hz rfl (x := .ref TI) rfl ?_)
  refine wpAny_bind (wpAny_seqItems hTI rfl ?_)
  show wpAny _ _ (Builtin.SmallTypes.ownedTupleIsFree (.ref z) >>= _) _ _ _
  refine wpAny_bind ?_
  unfold Builtin.SmallTypes.ownedTupleIsFree
  refine wpAny_bind (wpAny_field hz rfl (x := .none) rfl (wpAny_pure ?_))
  simp only [if_true]
  refine wpAny_bind (wpAny_rule ?_)
  refine wpAny_bind (wpAny_field hz rfl (x := .ref TO) rfl ?_)
  refine wpAny_bind (wpAny_setField_rec hz (by simp) fun g1 hz1 hs1 => ?_)
  replace hz1 : IsZip g1 z TI TO .ellipsis := hz1
  replace hs1 : Heap.SameBut z hp g1 := hs1
  refine wpAny_bind ?_
  simp only [List.zipIdx_cons, List.zipIdx_nil, List.forIn_cons, List.forIn_nil]
  refine wpAny_bind (wpAny_bind (wpAny_onRaise ?_))
  show wpAny _ _ (Builtin.SmallTypes.nextOf (.ref j1) >>= _) _ _ _
  by_cases hk : k = n1
  · subst hk
    refine wpAny_bind (D1.done ⟨g1, g, d, tk₀, os⟩ _ _ (D1.but h1 hs1 Z.b1) fun g2 e hs2 he => ?_)
    replace hs2 : Heap.ExtBut j1 g1 g2 := hs2
    obtain ⟨oe, hoe, hce⟩ := he
    have hz2 : IsZip g2 z TI TO .ellipsis := hs2 _ _ Z.a3.symm hz1
    have nez : e ≠ z := fun q => by
      subst q
      rw [hz2] at hoe
      cases hoe
      simp at hce
    refine wpAny_setField_rec hz2 (by simp) fun g3 _ hs3 => hE g3 e tk₀ (kp fun c o c1 _ c3 _ q => hs3.extBut _ _ c1 (hs2 _ _ c3 (hs1.extBut _ _ c1 q))) ⟨oe, hs3.extBut _ _ nez hoe, hce⟩
  · have hlt : k < n1 := by omega
    have hk2 : k = n2 := by omega
    refine wpAny_bind (D1.item k ⟨g1, g, d, tk₀, os⟩ _ _ hlt (D1.but h1 hs1 Z.b1) fun x g2 tk1 px st1 hs2 => wpAny_pure ?_)
    replace hs2 : Heap.SameBut j1 g1 g2 := hs2
    have hTO2 : IsPair g2 TO a b := hs2.extBut _ _ Z.a8 (hs1.extBut _ _ Z.a2 hTO)
    refine wpAny_bind (wpAny_seqItems hTO2 rfl ?_)
    refine wpAny_bind (wpAny_updateSeq_pair hTO2 fun g3 hTO3 hs3 => ?_)
    replace hs3 : Heap.SameBut TO g2 g3 := hs3
    refine wpAny_bind (wpAny_letGo (wpAny_pure ?_))
    refine wpAny_bind (wpAny_bind (wpAny_onRaise ?_))
    show wpAny _ _ (Builtin.SmallTypes.nextOf (.ref j2) >>= _) _ _ _
    subst hk2
    refine wpAny_bind (D2.done ⟨g3, g, d, tk1, os⟩ _ _ (D2.but (D2.but (D2.but h2 hs1 Z.b4) hs2 Z.b6) hs3 Z.b5) fun g4 e hs4 he => ?_)
    replace hs4 : Heap.ExtBut j2 g3 g4 := hs4
    obtain ⟨oe, hoe, hce⟩ := he
    have hz4 : IsZip g4 z TI TO .ellipsis := hs4 _ _ Z.a4.symm (hs3.extBut _ _ Z.a2.symm (hs2.extBut _ _ Z.a3.symm hz1))
    have nez : e ≠ z := fun q => by
      subst q
      rw [hz4] at hoe
      cases hoe
      simp at hce
    refine wpAny_setField_rec hz4 (by simp) fun g5 _ hs5 => hE g5 e tk1 (kp fun c o c1 c2 c3 c4 q => hs5.extBut _ _ c1 (hs4 _ _ c4 (hs3.extBut _ _ c2 (hs2.extBut _ _ c3 (hs1.extBut _ _ c1 q))))) ⟨oe, hs5.extBut _ _ nez hoe, hce⟩
end
noncomputable abbrev zh1 (S1 : Src) (h : Heap) (l1 : Addr) : Heap := h.push { cls := .type S1.icls, data := .fields #[.ref l1, .int 0 0] }
noncomputable abbrev zh2 (S1 S2 : Src) (h : Heap) (l1 l2 : Addr) : Heap := (zh1 S1 h l1).push { cls := .type S2.icls, data := .fields #[.ref l2, .int 0 0] }
noncomputable abbrev zh3 (S1 S2 : Src) (h : Heap) (l1 l2 : Addr) : Heap := (zh2 S1 S2 h l1 l2).push { cls := .type "tuple", data := .seq #[.ref h.objs.size, .ref (zh1 S1 h l1).objs.size] }
noncomputable abbrev zh4 (S1 S2 : Src) (h : Heap) (l1 l2 : Addr) : Heap := (zh3 S1 S2 h l1 l2).push { cls := .type "tuple", data := .seq #[.none, .none] }
noncomputable abbrev zh5 (S1 S2 : Src) (h : Heap) (l1 l2 : Addr) : Heap := (zh4 S1 S2 h l1 l2).push { cls := .type "zip", data := .fields #[.none, .bool false, .bool false, .ref (zh2 S1 S2 h l1 l2).objs.size, .ref (zh3 S1 S2 h l1 l2).objs.size] }
theorem new_zip (S1 S2 : Src) (l1 l2 : Addr) (xs ys : Array Value) :
    Meets (Builtin.«zip.__new__» ⟨[.type "zip", .ref l1, .ref l2], []⟩) (fun _ R s => S1.Is s.heap l1 xs ∧ S2.Is s.heap l2 ys ∧ R (.ok (.ret (.ref (zh4 S1 S2 s.heap l1 l2).objs.size))) { s with heap := zh5 S1 S2 s.heap l1 l2 }) :=
  .of_wp fun prog w A R s h => by
    obtain ⟨hp, g, d, tk, os⟩ := s
    obtain ⟨q1, q2, h⟩ := h
    have hsub := sub_zip
    have hL1 : S1.Is (Shared.heap ⟨hp, g, d, tk, os⟩) l1 xs := q1
    have hL2 : S2.Is (Shared.heap ⟨zh1 S1 hp l1, g, d, tk, os⟩) l2 ys := S2.isKeep q2 fun o e => Heap.get?_push_of_some _ e
    wp_walk using S1.iter hL1, S2.iter hL2
    exact ⟨_, rfl, h⟩
noncomputable def Itz (S1 S2 : Src) (K : PySem.W.Frag) (a b : Addr) : It :=
  ⟨fun i H => ∃ xs ys x y, S1.Sq K H a xs ∧ S2.Sq K H b ys ∧ xs[i]? = some x ∧ ys[i]? = some y,
   fun i H x H' => ∃ T u v, H T = none ∧ x = .ref T ∧ H' = upd H T (.tup [u, v]) ∧ ∀ xs ys, S1.Sq K H a xs → S2.Sq K H b ys → xs[i]? = some u ∧ ys[i]? = some v,
   fun i H => ∃ xs ys, S1.Sq K H a xs ∧ S2.Sq K H b ys ∧ min xs.length ys.length = i⟩
theorem zap {z TI TO j1 j2 a b : Addr} (nd : [z, TI, TO, j1, j2].Nodup) (h1 : ∀ c ∈ [z, TI, TO, j1, j2], c ≠ a) (h2 : ∀ c ∈ [z, TI, TO, j1, j2], c ≠ b) : ZApart z TI TO j1 j2 [j1, a] [j2, b] := by
  simp only [List.nodup_cons, List.mem_cons, List.not_mem_nil, or_false, not_or] at nd
  obtain ⟨⟨c1, c2, c3, c4⟩, ⟨c5, c6, c7⟩, ⟨c8, c9⟩, c10, _⟩ := nd
  have g1 := h1 z (by simp)
  have g2 := h1 TO (by simp)
  have g3 := h1 j2 (by simp)
  have g4 := h2 z (by simp)
  have g5 := h2 TO (by simp)
  have g6 := h2 j1 (by simp)
  exact ⟨Ne.symm c1, Ne.symm c2, Ne.symm c3, Ne.symm c4, c5, c6, c7, c8, c9, c10, by simp [c3, g1], by simp [c8, g2], by simp [Ne.symm c10, g3], by simp [c4, g4], by simp [c9, g5], by simp [c10, g6]⟩
section
variable {X : Cx} {elts : List Expr} {k0 : Nat} {tpos : Pos}
noncomputable def iZip (S1 S2 : Src) (K : PySem.W.Frag) (ta : TA) : TI := fun σ H R => ta σ H fun vs H1 => ∃ a b xs ys, vs = [.ref a, .ref b] ∧ S1.Sq K H1 a xs ∧ S2.Sq K H1 b ys ∧ R (Itz S1 S2 K a b) H1
end
end L2

end

section
-- KcMore
set_option Elab.async false
set_option linter.all false
set_option maxRecDepth 100000
set_option maxHeartbeats 4000000
namespace L2
open PySem PySem.Spec PyProof.Rows

section
variable {X : Cx}
/-! ### t + u, whatever is empty -/
noncomputable def rCatG (K : PySem.W.Frag) : R2 := fun x y H Q => ∃ a b xs ys, x = .ref a ∧ y = .ref b ∧ SqT K H a xs ∧ SqT K H b ys ∧ xs.length + ys.length ≤ sizeLine ∧
  (xs = [] → Q (.ref b) H) ∧ (xs ≠ [] → ys = [] → Q (.ref a) H) ∧ (xs ≠ [] → ys ≠ [] → ∀ p, H p = none → Q (.ref p) (upd H p (.tup (xs ++ ys))))
theorem op_catG : OpR X (binaryOp .Add) (rCatG X.K) := by
  intro pins s σ H x y v u Q I rx ry h
  obtain ⟨a, b, xs, ys, rfl, rfl, ha, hb, hz, q0, q1, q2⟩ := h
  by_cases hx : xs = []
  · cases rx
    cases ry
    obtain ⟨its, r1, p1, _⟩ := I.tuple ha
    obtain ⟨its2, r2, p2, _⟩ := I.tuple hb
    obtain ⟨⟨cls, dd, data, sl⟩, ho, hc, n, hd⟩ := id p1
    obtain ⟨⟨cls2, dd2, data2, sl2⟩, ho2, hc2, n2, hd2⟩ := id p2
    simp only at hc hd hc2 hd2
    subst hc hd hc2 hd2
    have e : its = [] := r1.nil_iff.mpr hx
    exact concat_meets ⟨_, ho, rfl⟩ ⟨_, ho2, rfl⟩ noFill_tuple_add seq_tuple_add PySem.F.slot_tuple_add PySem.F.entry_tuple_add (PySem.F.args_tuple_add_2 _ _)
      (tuple_addW0 a b its.toArray its2.toArray n n2 dd dd2 sl sl2 (by simp [e])) ⟨ho, ho2, ⟨.ref b, H, I, rfl, q0 hx⟩⟩
  · exact op_catT pins s σ H _ _ v u Q I rx ry ⟨a, b, xs, ys, rfl, rfl, ha, hb, hx, hz, q1 hx, q2 hx⟩

/-! ### t.count(x): flat items -/
theorem count_eqU {x : V} : ∀ {xs : List V} {us : List Value}, Vals xs us → xs.all flatV = true → us.countP (eqU x) = xs.countP fun y => eqV y x
  | _, _, .nil, _ => rfl
  | y :: xs, u :: us, .cons r t, f => by
    rw [List.all_cons, Bool.and_eq_true] at f
    rw [List.countP_cons, List.countP_cons, eqU_of r f.1, count_eqU t f.2]
noncomputable def tBT (r : V → List V → Hp → VK → Prop) (to : TE) (t : TA) : TE := fun σ H Q => to σ H fun x H1 => (∃ a xs, x = .ref a ∧ H1 a = some (.tup xs)) ∧ t σ H1 fun xs H2 => r x xs H2 Q
theorem pe_bt {o e : Expr} {es : List Expr} {to : TE} {t : TA} {name : Str} {apos cpos : Pos} {id : String} {r : V → List V → Hp → VK → Prop} (pa : PlainAttrs "tuple") (slot : Slot "tuple" name id) (hty : typeOf (.builtin id) = pure (.type "method_descriptor")) (hm : MtR X id r) (ho : PE X o to) (ha : PA X (e :: es) t)
    (hbase : attributeBase o name X.env (eval o X.env) = eval o X.env := by rfl)
    (hfew : ((backTo cpos (starEach (e :: es) X.env)).all (fun x => !x.1) && (backToKw cpos (keywordEach [] X.env)).all (fun x => x.1.isSome)
      && decide ((e :: es).length + ([] : List Keyword).length + (if ([] : List Keyword).isEmpty then 0 else 1) < 30)) = true := by rfl)
    (hline : (apos.endLine == cpos.line) = true := by rfl) (hs : starEach (e :: es) X.env = (false, eval e X.env) :: starEach es X.env := by rfl) (hplain : (backTo cpos (starEach es X.env)).any (·.1) = false := by rfl) :
    PE X (.Call (.Attribute o name apos) (e :: es) [] cpos) (tBT r to t) := by
  intro pins s σ H Q I h
  refine wpAny_Call_method_late hbase hfew hline rfl (thn (ho pins s σ H _ I h) fun v s1 ⟨x, H1, I1, r1, ty, q1⟩ => ?_)
  obtain ⟨a, xs, rfl, hx⟩ := ty
  cases r1
  obtain ⟨_, its, _, o', ho', hc', _, hd'⟩ := I1.hok a _ hx
  refine ⟨"tuple", id, pa, slot, hty, ⟨o', ho', hc'⟩, fun b e => ?_, ?_⟩
  · cases e
    exact ⟨o', ho', hd'⟩
  have hA := ha cpos pins s1 σ H1 _ I1 q1
  rw [hs] at hA ⊢
  refine Calls.callWith_builtin (by show (false || (backTo cpos (starEach es X.env)).any (·.1)) = false; rw [hplain] <;> rfl) (Calls.evalArgs_plain ?_)
  exact thn hA fun us s2 ⟨vs, H2, I2, r2, q2⟩ => hm pins s2 σ H2 (.ref a) vs (.ref a) us Q I2 rfl r2 q2
noncomputable def rCountT : V → List V → Hp → VK → Prop := fun x vs H Q => ∃ l xs y, x = .ref l ∧ vs = [y] ∧ H l = some (.tup xs) ∧ flatV y = true ∧ xs.all flatV = true ∧ Q (.int (xs.countP fun z => eqV z y : Nat)) H
theorem mt_countT : MtR X "tuple.count" rCountT := by
  intro pins s σ H x vs v us Q I rx rv h
  obtain ⟨l, xs, y, rfl, rfl, hH, fy, fx, q⟩ := h
  cases rx
  obtain ⟨u, rfl, ru⟩ := rv.one
  obtain ⟨_, its, r, ⟨cls, dd, data, sl⟩, ho, hc, ⟨n, hd⟩, hdd⟩ := I.hok l _ hH
  simp only at hc hd hdd
  subst hc hd hdd
  refine call_meets PySem.F.slot_tuple_count ⟨_, ho, rfl⟩ PySem.F.entry_tuple_count (PySem.F.args_tuple_count_2 _ _) (SeqAt.tuple_countAt l its.toArray n none sl u (eqU y)) ⟨ho, fun z hz => mem_eqAt ru fy r fx z (by simpa using hz), ?_⟩
  refine ⟨.int (xs.countP fun z => eqV z y : Nat), H, I.tok _, ⟨s.toks, ?_⟩, q⟩
  show Value.int ((its.toArray.toList.countP (eqU y) : Nat) : Int) s.toks = _
  rw [show its.toArray.toList = its from rfl, count_eqU r fx]

/-! ### max of a list of ints, xs.index(m) -/
theorem call_maxL (hc : X.calm = true) : CallR X (.builtin "max") (fun xs H Q => ∃ (p : Addr) (ns : List Int), xs = [.ref p] ∧ SqL X.K H p (ns.map V.int) ∧ ns ≠ [] ∧ ∀ M, M ∈ ns → (∀ a ∈ ns, a ≤ M) → Q (.int M) H) := by
  intro pins s σ H xs us Q I r h
  obtain ⟨p, ns, rfl, hq, hne, q⟩ := h
  obtain ⟨u, rfl, rx⟩ := r.one
  cases rx
  obtain ⟨its, rv, pl, hz⟩ := I.list hq
  have hi := intsAre_of rv
  obtain ⟨zs, ez⟩ := (hi.allInts).items
  have hl : s.heap.IsList p (intItems zs) := by rw [← ez]; exact pl.isList
  have hnum : zs.toList.map (·.1) = ns := by
    rw [← nums_intItems, ← ez]
    exact hi.numsOf
  have hsz : zs.size = ns.length := by rw [← hnum]; simp
  have hpos : 0 < zs.size := by
    rw [hsz]
    exact List.length_pos_iff.mpr hne
  refine max_intList (I.ok.hd hc) hl hpos fun v h' tk hv hk => ?_
  obtain ⟨t, rfl⟩ := intItems_at hv
  obtain ⟨h1, h2⟩ := argBest_gt (numAt zs) (zs.size - 1)
  refine ⟨.int _, H, I.kept hk, ⟨t, rfl⟩, q _ ?_ fun a ha => ?_⟩
  · rw [numAt_eq, hnum]
    exact getD_mem (by omega)
  · rw [← hnum] at ha
    obtain ⟨j, hj, rfl⟩ := mem_getD ha
    rw [List.length_map, Array.length_toList] at hj
    rw [← numAt_eq]
    exact h2 j (by omega)
noncomputable def rIndex : V → List V → Hp → VK → Prop := fun x vs H Q => ∃ (l : Addr) (ns : List Int) (m : Int) (j : Nat), x = .ref l ∧ vs = [.int m] ∧ H l = some (.lst (ns.map V.int)) ∧ ns[j]? = some m ∧ (∀ i, i < j → ns[i]? ≠ some m) ∧ j ≤ 1000 ∧ Q (.int j) H
theorem mt_index : MtR X "list.index" rIndex := by
  intro pins s σ H x vs v us Q I rx rv h
  obtain ⟨l, ns, m, j, rfl, rfl, hH, hj, hno, h1000, q⟩ := h
  cases rx
  obtain ⟨u, rfl, t, rfl⟩ := rv.one
  obtain ⟨z, its, n, r, hl, e⟩ := I.lstM hH
  have at_ : ∀ (i : Nat) (hi : i < its.toArray.size), ∃ k t', ns[i]? = some k ∧ its.toArray[i] = .int k t' := fun i hi => by
    have hi' : i < ns.length := by
      rw [List.length_map] at hl
      have : i < its.length := by simpa using hi
      omega
    obtain ⟨w', hw, rw'⟩ := r.get (i := i) (x := .int ns[i]) (by rw [List.getElem?_map, List.getElem?_eq_getElem hi'] <;> rfl)
    obtain ⟨t', e'⟩ := (show ∃ t', w' = Value.int ns[i] t' from rw')
    have := (List.getElem?_eq_some_iff.mp hw).2
    exact ⟨ns[i], t', List.getElem?_eq_getElem hi', by rw [← e']; simpa using this⟩
  have hjs : j < its.toArray.size := by
    have := (List.getElem?_eq_some_iff.mp hj).1
    rw [List.length_map] at hl
    simp only [List.size_toArray]
    omega
  refine call_meets PySem.F.slot_list_index ⟨_, e, rfl⟩ PySem.F.entry_list_index (PySem.F.args_list_index_2 _ _) (SeqAt.list_indexAt l its.toArray n none #[] (.int m t) (eqU (.int m)) j hjs (by omega) ?_ ?_) ⟨e, fun y hy => ?_, ?_⟩
  · obtain ⟨k, t', e1, e2⟩ := at_ j hjs
    rw [e2]
    rw [hj] at e1
    cases e1
    exact beq_self_eq_true m
  · intro i hi hlt
    obtain ⟨k, t', e1, e2⟩ := at_ i hi
    rw [e2]
    show (k == m) = false
    exact beq_eq_false_iff_ne.mpr fun z => hno i hlt (by rw [e1, z])
  · exact mem_eqAt (x := .int m) ⟨t, rfl⟩ rfl r (by rw [List.all_map]; simp [flatV]) y (by simpa using hy)
  · exact ⟨.int j, H, I.tok _, ⟨_, rfl⟩, q⟩
end
end L2

end

section
-- KcRd
set_option Elab.async false
set_option linter.all false
set_option maxRecDepth 100000
set_option maxHeartbeats 4000000
namespace L2
open PySem
/-! ### the reading of a term, one step a row -/
section
variable {σ : St} {H : Hp} {Q : VK} {D : Ends} {K : PySem.W.Frag}
theorem r_seq {t u : TS} (h : t { nx := u D, rt := D.rt, bk := D.bk, ct := D.ct } σ H) : tSeq t u D σ H := h
theorem r_seq_n {t u : TS} (h : ∀ NX : St → Hp → Prop, (∀ σ H, u D σ H → NX σ H) → t { nx := NX, rt := D.rt, bk := D.bk, ct := D.ct } σ H) : tSeq t u D σ H := h _ fun _ _ h => h
theorem r_next (h : D.nx σ H) : tNext D σ H := h
theorem r_asg {te : TE} {g : TG} (h : te σ H fun x H1 => g x σ H1 D.nx) : tAsg te g D σ H := h
theorem r_ret {te : TE} (h : te σ H D.rt) : tRet te D σ H := h
theorem r_retN (h : D.rt .non H) : tRetN D σ H := h
theorem r_drop {te : TE} (h : te σ H fun _ H1 => D.nx σ H1) : tDrop te D σ H := h
theorem r_ifS {c : TT} {t u : TS} (h : c σ H fun b H1 => if b = true then t D σ H1 else u D σ H1) : tIfS c t u D σ H := h
theorem r_break (h : D.bk σ H) : tBreak D σ H := h
theorem r_cont (h : D.ct σ H) : tCont D σ H := h
theorem r_name {i : Nat} {v : V} {R : St → Hp → Prop} (h : R (σ.set i (some v)) H) : gName i v σ H R := h
theorem r_gsub {to ti : TE} {t : TSet} {v : V} {R : St → Hp → Prop} (h : to σ H fun o H1 => ti σ H1 fun i H2 => t o i v H2 fun H3 => R σ H3) : gSub to ti t v σ H R := h
theorem r_setL {p : Addr} {xs : List V} {k : Int} {v : V} {R : Hp → Prop} {j : Nat} (e : H p = some (.lst xs)) (hj : ixN xs.length k = some j) (h : R (upd H p (.lst (xs.set j v)))) : rSetL (.ref p) (.int k) v H R := ⟨p, xs, k, j, rfl, rfl, e, hj, h⟩
theorem r_var {i : Nat} {v : V} (e : σ[i]? = some (some v)) (h : Q v H) : tVar i σ H Q := ⟨v, e, h⟩
theorem r_c {v : V} (h : Q v H) : tC v σ H Q := h
theorem r_op {r : R2} {ta tb : TE} (h : ta σ H fun x H1 => tb σ H1 fun y H2 => r x y H2 Q) : tOp r ta tb σ H Q := h
theorem r_un {r : V → Hp → VK → Prop} {ta : TE} (h : ta σ H fun x H1 => r x H1 Q) : tUn r ta σ H Q := h
theorem r_I0 {g : Int → Int → V} {i j : Int} (h : Q (g i j) H) : rI0 g (.int i) (.int j) H Q := ⟨i, j, rfl, rfl, h⟩
theorem r_I {C : Int → Int → Prop} {g : Int → Int → V} {i j : Int} (c : C i j) (h : Q (g i j) H) : rI C g (.int i) (.int j) H Q := ⟨i, j, rfl, rfl, c, h⟩
theorem r_U {g : Int → V} {i : Int} (h : Q (g i) H) : rU g (.int i) H Q := ⟨i, rfl, h⟩
theorem r_eqI {i j : Int} (h : Q (.bl (decide (i = j))) H) : rEq (.int i) (.int j) H Q := ⟨rfl, by rw [show decide (V.int i = V.int j) = decide (i = j) from decide_eq_decide.mpr ⟨fun e => by injection e, fun e => by rw [e]⟩]; exact h⟩
theorem r_neI {i j : Int} (h : Q (.bl (!decide (i = j))) H) : rNe (.int i) (.int j) H Q := ⟨rfl, by rw [show decide (V.int i = V.int j) = decide (i = j) from decide_eq_decide.mpr ⟨fun e => by injection e, fun e => by rw [e]⟩]; exact h⟩
theorem r_eqB {i j : Bool} (h : Q (.bl (i == j)) H) : rEq (.bl i) (.bl j) H Q := ⟨rfl, by rw [show decide (V.bl i = V.bl j) = (i == j) by cases i <;> cases j <;> rfl]; exact h⟩
theorem r_neB {i j : Bool} (h : Q (.bl (!(i == j))) H) : rNe (.bl i) (.bl j) H Q := ⟨rfl, by rw [show decide (V.bl i = V.bl j) = (i == j) by cases i <;> cases j <;> rfl]; exact h⟩
theorem r_test {t : TE} {R : Bool → Hp → Prop} (h : t σ H fun x H' => ∃ k, x = .bl k ∧ R k H') : tTest t σ H R := h
theorem r_tb {t : TE} {R : Bool → Hp → Prop} (h : t σ H fun x H' => ∃ k, x = .bl k ∧ R k H') : tB t σ H R := h
theorem r_bl {b : Bool} {R : Bool → Prop} (h : R b) : ∃ k, V.bl b = .bl k ∧ R k := ⟨b, rfl, h⟩
theorem r_and {t u : TT} {R : Bool → Hp → Prop} (h : t σ H fun c H1 => if c = true then u σ H1 R else R false H1) : tAnd t u σ H R := h
theorem r_or {t u : TT} {R : Bool → Hp → Prop} (h : t σ H fun c H1 => if c = true then R true H1 else u σ H1 R) : tOr t u σ H R := h
theorem r_not {t : TT} {R : Bool → Hp → Prop} (h : t σ H fun c H1 => R (!c) H1) : tNot t σ H R := h
theorem r_andV {ta tb : TE} (h : ta σ H fun x H1 => ∃ c, x = .bl c ∧ if c = true then tb σ H1 Q else Q (.bl false) H1) : tAndV ta tb σ H Q := h
theorem r_orV {ta tb : TE} (h : ta σ H fun x H1 => ∃ c, x = .bl c ∧ if c = true then Q (.bl true) H1 else tb σ H1 Q) : tOrV ta tb σ H Q := h
theorem r_notV {ta : TE} (h : ta σ H fun x H1 => ∃ c, x = .bl c ∧ Q (.bl (!c)) H1) : tNotV ta σ H Q := h
theorem r_if {t : TT} {ta tb : TE} (h : t σ H fun c H1 => if c = true then ta σ H1 Q else tb σ H1 Q) : tIf t ta tb σ H Q := h
theorem r_chain {r r' : R2} {ta tb tc : TE} (h : ta σ H fun x H1 => tb σ H1 fun y H2 => r x y H2 fun z H3 => ∃ k, z = .bl k ∧ (if k = true then tc σ H3 fun w' H4 => r' y w' H4 Q else Q (.bl false) H3)) : tChain r r' ta tb tc σ H Q := h
theorem r_nil {R : List V → Hp → Prop} (h : R [] H) : tNil σ H R := h
theorem r_cons {ta : TE} {tr : TA} {R : List V → Hp → Prop} (h : ta σ H fun x H1 => tr σ H1 fun xs H2 => R (x :: xs) H2) : tCons ta tr σ H R := h
theorem r_call {sp : Sp} {E : XK} {t : TA} (h : t σ H fun vs H1 => sp vs H1 Q E) : tCall sp [] E t σ H Q := by
  show t σ H fun vs H1 => sp (vs ++ []) H1 Q E
  simpa only [List.append_nil] using h
theorem r_cb {r : List V → Hp → VK → Prop} {t : TA} (h : t σ H fun vs H1 => r vs H1 Q) : tCB r t σ H Q := h
theorem r_bm {T : String} {r : V → List V → Hp → VK → Prop} {to : TE} {t : TA} (h : to σ H fun x H1 => tyV K T x H1 ∧ t σ H1 fun xs H2 => r x xs H2 Q) : tBM K T r to t σ H Q := h
theorem r_bm0 {T : String} {r : V → List V → Hp → VK → Prop} {to : TE} (h : to σ H fun x H1 => tyV K T x H1 ∧ r x [] H1 Q) : tBM0 K T r to σ H Q := h
theorem r_bt {r : V → List V → Hp → VK → Prop} {to : TE} {t : TA} (h : to σ H fun x H1 => (∃ a xs, x = .ref a ∧ H1 a = some (.tup xs)) ∧ t σ H1 fun xs H2 => r x xs H2 Q) : tBT r to t σ H Q := h
theorem r_sl {r : V → Option Int → Option Int → Hp → VK → Prop} {te : TE} {tl th : TO} (h : te σ H fun x H1 => tl σ H1 fun l H2 => th σ H2 fun u H3 => r x l u H3 Q) : tSl r te tl th σ H Q := h
theorem r_nopart {R : Option Int → Hp → Prop} (h : R none H) : tNoPart σ H R := h
theorem r_part {t : TE} {R : Option Int → Hp → Prop} (h : t σ H fun x H1 => ∃ i, x = .int i ∧ R (some i) H1) : tPart t σ H R := h
theorem r_int {i : Int} {R : Int → Prop} (h : R i) : ∃ j, V.int i = .int j ∧ R j := ⟨i, rfl, h⟩
/-! loops: their sources -/
theorem r_for {wi : TI} {g : TG} {tb : TS} (h : wi σ H fun J H1 => ∃ W : Nat → Nat → St → Hp → Prop, (∃ m, W 0 m σ H1) ∧ ∀ i m σ H, W i m σ H →
    (J.stop i H ∧ D.nx σ H) ∨ (J.go i H ∧ ∃ N : St → Hp → Prop, (∀ σ' H', N σ' H' → ∃ m', m' < m ∧ W (i + 1) m' σ' H') ∧ ∀ x H', J.yld i H x H' → g x σ H' fun σ2 H2 => tb { D with nx := N, ct := N, bk := D.nx } σ2 H2)) : tFor wi g tb D σ H := h
theorem r_comp {wi : TI} {g : CF TG} {tt : CF TT} {te : CF TE} {ix : List (Option Nat)} (h : wi σ H fun J H1 => ∀ p, H1 p = none →
    ∃ W : Nat → Nat → List V → Hp → Prop, (∃ m, W 0 m [] (upd H1 p (.lst []))) ∧ ∀ C s' H' fp, CompBody J (g C s' H' fp) (tt C s' H' fp) (te C s' H' fp) (sub ix σ) p Q W) : tComp wi g tt te ix σ H Q := h
section
variable {R : It → Hp → Prop}
theorem r_iList {tl : TE} (h : tl σ H fun x H1 => ∃ a, x = .ref a ∧ (∃ xs, SqL K H1 a xs) ∧ R (Itl K a) H1) : iList K tl σ H R := h
theorem r_iTup {tl : TE} (h : tl σ H fun x H1 => ∃ a, x = .ref a ∧ (∃ xs, SqT K H1 a xs) ∧ R (Itt K a) H1) : iTup K tl σ H R := h
theorem r_iRng1 {ta : TA} (h : ta σ H fun vs H1 => ∃ j : Int, vs = [.int j] ∧ -(2 ^ 62) ≤ j ∧ j < 2 ^ 62 ∧ R (Itr 0 j.toNat) H1) : iRng1 ta σ H R := h
theorem r_iRng2 {ta : TA} (h : ta σ H fun vs H1 => ∃ i j : Int, vs = [.int i, .int j] ∧ (-(2 ^ 62) ≤ i ∧ i < 2 ^ 62 ∧ -(2 ^ 62) ≤ j ∧ j < 2 ^ 62) ∧ R (Itr i (j - i).toNat) H1) : iRng2 ta σ H R := h
theorem r_iEnum {S : Src} {ta : TA} (h : ta σ H fun vs H1 => ∃ a xs, vs = [.ref a] ∧ S.Sq K H1 a xs ∧ R (Ite S K a) H1) : iEnum S K ta σ H R := h
theorem r_iZip {S1 S2 : Src} {ta : TA} (h : ta σ H fun vs H1 => ∃ a b xs ys, vs = [.ref a, .ref b] ∧ S1.Sq K H1 a xs ∧ S2.Sq K H1 b ys ∧ R (Itz S1 S2 K a b) H1) : iZip S1 S2 K ta σ H R := h
end
/-! the heap -/
noncomputable def Off (l : Addr) (H H' : Hp) : Prop := ∀ b, b ≠ l → H' b = H b
theorem off_upd {l : Addr} {o : HO} : Off l H (upd H l o) := fun b hb => upd_ne hb
theorem Same.off {H0 H' : Hp} {l : Addr} (s : Same H0 H) (h : H0 l = none) (o : Off l H H') : Same H0 H' := fun b u q => by rw [o b (ne_of_none q h)]; exact s b u q
noncomputable def Keep (H H' : Hp) : Prop := ∀ b xs, H b = some (.tup xs) → H' b = some (.tup xs)
theorem Keep.refl (H : Hp) : Keep H H := fun _ _ h => h
theorem Same.keep {H' : Hp} (s : Same H H') : Keep H H' := fun b _ h => s b _ h
theorem Keep.trans {H1 H2 : Hp} (a : Keep H H1) (b : Keep H1 H2) : Keep H H2 := fun c o h => b c o (a c o h)
theorem Off.keep {H' : Hp} {l : Addr} {xs : List V} (o : Off l H H') (e : H l = some (.lst xs)) : Keep H H' := fun b ys q => by
  rw [o b (ne_of q e (by intro z; cases z))]
  exact q
theorem r_tup0 {t : TA} (h : t σ H fun xs H1 => xs.length ≤ sizeLine ∧ ∀ p, H1 p = none → Q (.ref p) (upd H1 p (.tup xs))) : tTup t σ H Q := h
theorem r_lst0 {t : TA} (h : t σ H fun xs H1 => xs.length ≤ sizeLine ∧ ∀ p, H1 p = none → Q (.ref p) (upd H1 p (.lst xs))) : tLst t σ H Q := h
theorem r_append {l : Addr} {xs : List V} {y : V} (e : H l = some (.lst xs)) (hz : xs.length < sizeLine) (h : ∀ H', Off l H H' → H' l = some (.lst (xs ++ [y])) → Q .non H') : rAppend (.ref l) [y] H Q := ⟨l, xs, y, rfl, rfl, e, hz, h _ off_upd upd_same⟩
theorem r_tyL {l : Addr} {xs : List V} (e : H l = some (.lst xs)) : tyV K "list" (.ref l) H := .inl ⟨rfl, xs, SqL.of e⟩
theorem r_ixL {l : Addr} {xs : List V} {i : Int} {v : V} (e : SqL K H l xs) (hv : atI xs i = some v) (h : Q v H) : rIxL K (.ref l) (.int i) H Q := ⟨l, xs, i, v, rfl, rfl, e, hv, h⟩
theorem r_ixT {l : Addr} {xs : List V} {i : Int} {v : V} (e : SqT K H l xs) (hv : atI xs i = some v) (h : Q v H) : rIxT K (.ref l) (.int i) H Q := ⟨l, xs, i, v, rfl, rfl, e, hv, h⟩
end
/-! ### tests -/
theorem ite_dec {p A B : Prop} [Decidable p] (h1 : p → A) (h2 : ¬ p → B) : if decide p = true then A else B := by
  by_cases h : p
  · rw [if_pos (decide_eq_true h)]; exact h1 h
  · rw [if_neg (by rw [decide_eq_false h]; exact Bool.false_ne_true)]; exact h2 h
theorem iteNT {A B : Prop} (h : B) : if (!true) = true then A else B := by exact iteF h
theorem iteNF {A B : Prop} (h : A) : if (!false) = true then A else B := by exact iteT h
theorem r_always {σ : St} {H : Hp} {R : Bool → Hp → Prop} (h : R true H) : tAlways σ H R := h
theorem wh_go {B : (St → Hp → Prop) → Prop} {R : St → Hp → Prop} (h : B R) : ∃ N : St → Hp → Prop, (∀ σ' H', N σ' H' → R σ' H') ∧ B N := ⟨R, fun _ _ h => h, h⟩
theorem wh_in {c : TT} {tb : TS} {D : Ends} {σ : St} {H : Hp} (W : Nat → St → Hp → Prop) (m : Nat) (h0 : W m σ H) (h : ∀ m σ H, W m σ H → c σ H fun b H1 => if b = true then ∃ N : St → Hp → Prop, (∀ σ' H', N σ' H' → ∃ m', m' < m ∧ W m' σ' H') ∧ tb { D with nx := N, ct := N, bk := D.nx } σ H1 else D.nx σ H1) :
    tWhile c tb D σ H := ⟨W, ⟨m, h0⟩, h⟩
/-! ### the calls of built-ins, by their names -/
noncomputable def cLen (K : PySem.W.Frag) : List V → Hp → VK → Prop := fun xs H Q => ∃ p ys, xs = [.ref p] ∧ (SqL K H p ys ∨ SqT K H p ys) ∧ Q (.int ys.length) H
noncomputable def cSum (K : PySem.W.Frag) : List V → Hp → VK → Prop := fun xs H Q => ∃ (p : Addr) (ns : List Int), xs = [.ref p] ∧ SqL K H p (ns.map V.int) ∧ Q (.int ns.sum) H
noncomputable def cAll (K : PySem.W.Frag) : List V → Hp → VK → Prop := fun xs H Q => ∃ (p : Addr) (bs : List Bool), xs = [.ref p] ∧ SqL K H p (bs.map V.bl) ∧ Q (.bl (bs.all id)) H
noncomputable def cMax (K : PySem.W.Frag) : List V → Hp → VK → Prop := fun xs H Q => ∃ (p : Addr) (ns : List Int), xs = [.ref p] ∧ SqL K H p (ns.map V.int) ∧ ns ≠ [] ∧ ∀ M, M ∈ ns → (∀ a ∈ ns, a ≤ M) → Q (.int M) H
noncomputable def cMin2 : List V → Hp → VK → Prop := fun xs H Q => ∃ i j, xs = [.int i, .int j] ∧ Q (.int (if j < i then j else i)) H
noncomputable def cMax2 : List V → Hp → VK → Prop := fun xs H Q => ∃ i j, xs = [.int i, .int j] ∧ Q (.int (if j > i then j else i)) H
noncomputable def cInt : List V → Hp → VK → Prop := fun xs H Q => (∃ i, xs = [.int i] ∧ Q (.int i) H) ∨ ∃ k, xs = [.bl k] ∧ Q (.int (if k then 1 else 0)) H
noncomputable def cTuple (K : PySem.W.Frag) : List V → Hp → VK → Prop := fun xs H Q => ∃ p ys, xs = [.ref p] ∧ ((SqL K H p ys ∧ ∀ l, H l = none → Q (.ref l) (upd H l (.tup ys))) ∨ (SqT K H p ys ∧ Q (.ref p) H))
section
variable {K : PySem.W.Frag} {H : Hp} {Q : VK}
theorem r_len {l : Addr} {ys : List V} (e : SqL K H l ys) (h : Q (.int ys.length) H) : cLen K [.ref l] H Q := ⟨l, ys, rfl, .inl e, h⟩
theorem r_lenTu {l : Addr} {ys : List V} (e : SqT K H l ys) (h : Q (.int ys.length) H) : cLen K [.ref l] H Q := ⟨l, ys, rfl, .inr e, h⟩
theorem r_sum {l : Addr} {ns : List Int} (e : SqL K H l (ns.map V.int)) (h : Q (.int ns.sum) H) : cSum K [.ref l] H Q := ⟨l, ns, rfl, e, h⟩
theorem r_min2 {i j : Int} (h : Q (.int (if j < i then j else i)) H) : cMin2 [.int i, .int j] H Q := ⟨i, j, rfl, h⟩
theorem r_max2 {i j : Int} (h : Q (.int (if j > i then j else i)) H) : cMax2 [.int i, .int j] H Q := ⟨i, j, rfl, h⟩
theorem r_intI {i : Int} (h : Q (.int i) H) : cInt [.int i] H Q := .inl ⟨i, rfl, h⟩
theorem r_intB {k : Bool} (h : Q (.int (if k then 1 else 0)) H) : cInt [.bl k] H Q := .inr ⟨k, rfl, h⟩
end
/-! ### new things: any heap that has one more -/
noncomputable def New (H : Hp) (o : HO) (Q : Addr → Hp → Prop) : Prop := ∀ p H', H p = none → Same H H' → H' p = some o → Q p H'
theorem New.upd {H : Hp} {o : HO} {Q : Addr → Hp → Prop} (h : New H o Q) : ∀ p, H p = none → Q p (upd H p o) := fun p hp => h p _ hp (same_new hp _) upd_same
noncomputable def mTup (t : TA) : TE := fun σ H Q => t σ H fun xs H1 => xs.length ≤ sizeLine ∧ New H1 (.tup xs) fun p H2 => Q (.ref p) H2
noncomputable def mLst (t : TA) : TE := fun σ H Q => t σ H fun xs H1 => xs.length ≤ sizeLine ∧ New H1 (.lst xs) fun p H2 => Q (.ref p) H2
noncomputable def mCat : R2 := fun x y H Q => ∃ l b xs zs, x = .ref l ∧ y = .ref b ∧ H l = some (.lst xs) ∧ H b = some (.lst zs) ∧ xs.length + zs.length ≤ sizeLine ∧ New H (.lst (xs ++ zs)) fun p H2 => Q (.ref p) H2
noncomputable def mCList (K : PySem.W.Frag) : List V → Hp → VK → Prop := fun xs H Q => ∃ p ys, xs = [.ref p] ∧ (SqL K H p ys ∨ SqT K H p ys) ∧ New H (.lst ys) fun l H2 => Q (.ref l) H2
noncomputable def mCTuple (K : PySem.W.Frag) : List V → Hp → VK → Prop := fun xs H Q => ∃ p ys, xs = [.ref p] ∧ SqL K H p ys ∧ New H (.tup ys) fun l H2 => Q (.ref l) H2
section
variable {σ : St} {H : Hp} {Q : VK} {K : PySem.W.Frag}
theorem m_tup {t : TA} (h : t σ H fun xs H1 => xs.length ≤ sizeLine ∧ New H1 (.tup xs) fun p H2 => Q (.ref p) H2) : mTup t σ H Q := h
theorem m_lst {t : TA} (h : t σ H fun xs H1 => xs.length ≤ sizeLine ∧ New H1 (.lst xs) fun p H2 => Q (.ref p) H2) : mLst t σ H Q := h
theorem m_cat {l b : Addr} {xs zs : List V} (h1 : H l = some (.lst xs)) (h2 : H b = some (.lst zs)) (hz : xs.length + zs.length ≤ sizeLine) (h : ∀ p H', H p = none → Same H H' → H' p = some (.lst (xs ++ zs)) → Q (.ref p) H') : mCat (.ref l) (.ref b) H Q := ⟨l, b, xs, zs, rfl, rfl, h1, h2, hz, h⟩
theorem m_list {p : Addr} {ys : List V} (e : SqL K H p ys) (h : ∀ l H', H l = none → Same H H' → H' l = some (.lst ys) → Q (.ref l) H') : mCList K [.ref p] H Q := ⟨p, ys, rfl, .inl e, h⟩
theorem m_tuple {p : Addr} {ys : List V} (e : SqL K H p ys) (h : ∀ l H', H l = none → Same H H' → H' l = some (.tup ys) → Q (.ref l) H') : mCTuple K [.ref p] H Q := ⟨p, ys, rfl, e, h⟩
end
/-! ### loops, as the reading leaves them -/
section
variable {g : TG} {tb : TS} {NX : St → Hp → Prop} {RT : VK} {σ : St} {H : Hp} {K : PySem.W.Frag}
theorem lp_range {j : Int} (n : Nat) (hn : j.toNat = n) (hj : j ≤ 1000000000) (hj0 : -1000000000 ≤ j) (Pv : Nat → St → Hp → Prop) (h0 : Pv 0 σ H) (hs : ∀ i σ H, i < n → Pv i σ H → g (.int i) σ H fun σ2 H2 => tb { nx := Pv (i + 1), rt := RT, bk := NX, ct := Pv (i + 1) } σ2 H2) (hd : ∀ σ H, Pv n σ H → NX σ H) :
    ∃ j' : Int, [V.int j] = [.int j'] ∧ -(2 ^ 62) ≤ j' ∧ j' < 2 ^ 62 ∧ ∃ W : Nat → Nat → St → Hp → Prop, (∃ m, W 0 m σ H) ∧ ∀ i m σ H, W i m σ H →
      ((Itr 0 j'.toNat).stop i H ∧ NX σ H) ∨ ((Itr 0 j'.toNat).go i H ∧ ∃ N : St → Hp → Prop, (∀ σ' H', N σ' H' → ∃ m', m' < m ∧ W (i + 1) m' σ' H') ∧ ∀ x H', (Itr 0 j'.toNat).yld i H x H' → g x σ H' fun σ2 H2 => tb { nx := N, rt := RT, bk := NX, ct := N } σ2 H2) := by
  refine ⟨j, rfl, by omega, by omega, ?_⟩
  subst hn
  exact for_range (lo := 0) (D := { nx := NX, rt := RT }) Pv h0 (fun i σ H hi p => by rw [Int.zero_add]; exact hs i σ H hi p) hd
theorem lp_list {a : Addr} (xs : List V) (hx : SqL K H a xs) (Pv : Nat → St → Hp → Prop) (h0 : Pv 0 σ H) (hl : ∀ i σ H, i ≤ xs.length → Pv i σ H → SqL K H a xs) (hs : ∀ i x σ H, xs[i]? = some x → Pv i σ H → g x σ H fun σ2 H2 => tb { nx := Pv (i + 1), rt := RT, bk := NX, ct := Pv (i + 1) } σ2 H2) (hd : ∀ σ H, Pv xs.length σ H → NX σ H) :
    ∃ a', V.ref a = .ref a' ∧ (∃ xs, SqL K H a' xs) ∧ ∃ W : Nat → Nat → St → Hp → Prop, (∃ m, W 0 m σ H) ∧ ∀ i m σ H, W i m σ H →
      ((Itl K a').stop i H ∧ NX σ H) ∨ ((Itl K a').go i H ∧ ∃ N : St → Hp → Prop, (∀ σ' H', N σ' H' → ∃ m', m' < m ∧ W (i + 1) m' σ' H') ∧ ∀ x H', (Itl K a').yld i H x H' → g x σ H' fun σ2 H2 => tb { nx := N, rt := RT, bk := NX, ct := N } σ2 H2) :=
  ⟨a, rfl, ⟨xs, hx⟩, for_list (D := { nx := NX, rt := RT }) Pv h0 hl hs hd⟩
theorem lp_tup {a : Addr} (xs : List V) (hx : SqT K H a xs) (Pv : Nat → St → Hp → Prop) (h0 : Pv 0 σ H) (hl : ∀ i σ H, i ≤ xs.length → Pv i σ H → SqT K H a xs) (hs : ∀ i x σ H, xs[i]? = some x → Pv i σ H → g x σ H fun σ2 H2 => tb { nx := Pv (i + 1), rt := RT, bk := NX, ct := Pv (i + 1) } σ2 H2) (hd : ∀ σ H, Pv xs.length σ H → NX σ H) :
    ∃ a', V.ref a = .ref a' ∧ (∃ xs, SqT K H a' xs) ∧ ∃ W : Nat → Nat → St → Hp → Prop, (∃ m, W 0 m σ H) ∧ ∀ i m σ H, W i m σ H →
      ((Itt K a').stop i H ∧ NX σ H) ∨ ((Itt K a').go i H ∧ ∃ N : St → Hp → Prop, (∀ σ' H', N σ' H' → ∃ m', m' < m ∧ W (i + 1) m' σ' H') ∧ ∀ x H', (Itt K a').yld i H x H' → g x σ H' fun σ2 H2 => tb { nx := N, rt := RT, bk := NX, ct := N } σ2 H2) :=
  ⟨a, rfl, ⟨xs, hx⟩, for_tup (D := { nx := NX, rt := RT }) Pv h0 hl hs hd⟩
theorem lp_enum {S : Src} {a : Addr} (xs : List V) (hx : S.Sq K H a xs) (Pv : Nat → St → Hp → Prop) (h0 : Pv 0 σ H) (hl : ∀ i σ H, i ≤ xs.length → Pv i σ H → S.Sq K H a xs)
    (hs : ∀ i x T σ H H', xs[i]? = some x → Pv i σ H → H T = none → Same H H' → H' T = some (.tup [.int i, x]) → g (.ref T) σ H' fun σ2 H2 => tb { nx := Pv (i + 1), rt := RT, bk := NX, ct := Pv (i + 1) } σ2 H2) (hd : ∀ σ H, Pv xs.length σ H → NX σ H) :
    ∃ a' xs', [V.ref a] = [.ref a'] ∧ S.Sq K H a' xs' ∧ ∃ W : Nat → Nat → St → Hp → Prop, (∃ m, W 0 m σ H) ∧ ∀ i m σ H, W i m σ H →
      ((Ite S K a').stop i H ∧ NX σ H) ∨ ((Ite S K a').go i H ∧ ∃ N : St → Hp → Prop, (∀ σ' H', N σ' H' → ∃ m', m' < m ∧ W (i + 1) m' σ' H') ∧ ∀ x H', (Ite S K a').yld i H x H' → g x σ H' fun σ2 H2 => tb { nx := N, rt := RT, bk := NX, ct := N } σ2 H2) :=
  ⟨a, xs, rfl, hx, for_enum (D := { nx := NX, rt := RT }) Pv h0 hl (fun i x T σ H e p hT => hs i x T σ H _ e p hT (same_new hT _) upd_same) hd⟩
end
theorem first_at {α : Type} [DecidableEq α] : ∀ {xs : List α} {m : α}, m ∈ xs → ∃ j : Nat, xs[j]? = some m ∧ ∀ i : Nat, i < j → xs[i]? ≠ some m
  | x :: r, m, h => by
    by_cases e : x = m
    · exact ⟨0, by rw [e]; rfl, fun i hi => absurd hi (by omega)⟩
    · have hm : m ∈ r := by
        rcases List.mem_cons.mp h with h | h
        · exact absurd h.symm e
        · exact h
      obtain ⟨j, h1, h2⟩ := first_at hm
      refine ⟨j + 1, h1, fun i hi => ?_⟩
      cases i with
      | zero => intro z; exact e (Option.some.inj z)
      | succ i => exact h2 i (by omega)
/-! two names at once -/
theorem g_pair {K : PySem.W.Frag} {i j : Nat} {a : Addr} {x y : V} {σ : St} {H : Hp} {R : St → Hp → Prop} (e : SqT K H a [x, y]) (h : R ((σ.set i (some x)).set j (some y)) H) : gTup K 2 (gCons (gName i) (gCons (gName j) gNil)) (.ref a) σ H R :=
  ⟨a, [x, y], rfl, e, rfl, x, [y], rfl, y, [], rfl, rfl, h⟩
/-! ### comprehensions, as the reading leaves them -/
noncomputable def CInv (H : Hp) (p : Addr) (R : Nat → List V → Hp → Prop) (i : Nat) (acc : List V) (H2 : Hp) : Prop := Same H H2 ∧ H2 p = some (.lst acc) ∧ acc.length ≤ i ∧ R i acc H2
theorem CInv.put {H H4 : Hp} {p : Addr} {R : Nat → List V → Hp → Prop} {i : Nat} {acc : List V} {y : V} (hp : H p = none) (st : ∀ i acc H H', R i acc H → Keep H H' → R i acc H') (s : Same H H4) (e : H4 p = some (.lst acc)) (l : acc.length ≤ i) (r : R (i + 1) (acc ++ [y]) H4) :
    H4 p = some (.lst acc) ∧ CInv H p R (i + 1) (acc ++ [y]) (upd H4 p (.lst (acc ++ [y]))) :=
  ⟨e, s.upd hp _, upd_same, by rw [List.length_append]; exact Nat.add_le_add_right l 1, st _ _ _ _ r (off_upd.keep e)⟩
theorem CInv.skip {H H4 : Hp} {p : Addr} {R : Nat → List V → Hp → Prop} {i : Nat} {acc : List V} (s : Same H H4) (e : H4 p = some (.lst acc)) (l : acc.length ≤ i) (r : R (i + 1) acc H4) : CInv H p R (i + 1) acc H4 := ⟨s, e, by omega, r⟩
section
variable {g : CF TG} {tt : CF TT} {te : CF TE} {σ₀ : St} {Q : VK} {H : Hp} {K : PySem.W.Frag}
theorem lc_range {j : Int} (n : Nat) (hn : j.toNat = n) (hj : j ≤ 1000000) (hj0 : -1000000 ≤ j) (R : Nat → List V → Hp → Prop) (h0 : ∀ H', Same H H' → R 0 [] H')
    (hs : ∀ p, H p = none → ∀ C s' H' fp, ∀ i acc H2, i < n → CInv H p R i acc H2 → g C s' H' fp (.int i) σ₀ H2 fun σ2 H3 => tt C s' H' fp σ2 H3 fun b H4 => if b = true then te C s' H' fp σ2 H4 fun y H5 => H5 p = some (.lst acc) ∧ CInv H p R (i + 1) (acc ++ [y]) (upd H5 p (.lst (acc ++ [y]))) else CInv H p R (i + 1) acc H4)
    (hd : ∀ p acc H2, H p = none → Same H H2 → H2 p = some (.lst acc) → R n acc H2 → Q (.ref p) H2) :
    ∃ j' : Int, [V.int j] = [.int j'] ∧ -(2 ^ 62) ≤ j' ∧ j' < 2 ^ 62 ∧ ∀ p, H p = none → ∃ W : Nat → Nat → List V → Hp → Prop, (∃ m, W 0 m [] (upd H p (.lst []))) ∧ ∀ C s' H' fp, CompBody (Itr 0 j'.toNat) (g C s' H' fp) (tt C s' H' fp) (te C s' H' fp) σ₀ p Q W := by
  refine ⟨j, rfl, by omega, by omega, fun p hp => ?_⟩
  subst hn
  exact comp_range (lo := 0) (CInv H p R) ⟨same_new hp _, upd_same, Nat.le_refl _, h0 _ (same_new hp _)⟩ (fun i acc H2 _ c => ⟨c.2.1, c.2.2.1⟩) (by rw [sizeLine_eq]; omega) (fun C s' H' fp i acc H2 hi c => by rw [Int.zero_add]; exact hs p hp C s' H' fp i acc H2 hi c) fun acc H2 c => hd p acc H2 hp c.1 c.2.1 c.2.2.2
theorem lc_list {a : Addr} (xs : List V) (hx : SqL K H a xs) (hz : xs.length ≤ 1000000) (R : Nat → List V → Hp → Prop) (h0 : ∀ H', Same H H' → R 0 [] H')
    (hs : ∀ p, H p = none → ∀ C s' H' fp, ∀ i x acc H2, xs[i]? = some x → CInv H p R i acc H2 → g C s' H' fp x σ₀ H2 fun σ2 H3 => tt C s' H' fp σ2 H3 fun b H4 => if b = true then te C s' H' fp σ2 H4 fun y H5 => H5 p = some (.lst acc) ∧ CInv H p R (i + 1) (acc ++ [y]) (upd H5 p (.lst (acc ++ [y]))) else CInv H p R (i + 1) acc H4)
    (hd : ∀ p acc H2, H p = none → Same H H2 → H2 p = some (.lst acc) → R xs.length acc H2 → Q (.ref p) H2) :
    ∃ a', V.ref a = .ref a' ∧ (∃ xs, SqL K H a' xs) ∧ ∀ p, H p = none → ∃ W : Nat → Nat → List V → Hp → Prop, (∃ m, W 0 m [] (upd H p (.lst []))) ∧ ∀ C s' H' fp, CompBody (Itl K a') (g C s' H' fp) (tt C s' H' fp) (te C s' H' fp) σ₀ p Q W :=
  ⟨a, rfl, ⟨xs, hx⟩, fun p hp => comp_list (CInv H p R) ⟨same_new hp _, upd_same, Nat.le_refl _, h0 _ (same_new hp _)⟩ (fun i acc H2 _ c => ⟨c.2.1, c.2.2.1⟩) (fun i acc H2 _ c => c.1.seq hx) (by rw [sizeLine_eq]; omega) (fun C s' H' fp i x acc H2 hi c => hs p hp C s' H' fp i x acc H2 hi c) fun acc H2 c => hd p acc H2 hp c.1 c.2.1 c.2.2.2⟩
end
/-! ### zip -/
section
variable {g : TG} {tb : TS} {NX : St → Hp → Prop} {RT : VK} {σ : St} {H : Hp} {K : PySem.W.Frag}
end
/-! ### lists of ints compared -/
section
variable {K : PySem.W.Frag} {H : Hp} {Q : VK} {a b : Addr} {ns ms : List Int}
theorem r_eqL (h1 : SqL K H a (ns.map V.int)) (h2 : SqL K H b (ms.map V.int)) (h : Q (.bl (decide (ns = ms))) H) : rEqS (SqL K) false (.ref a) (.ref b) H Q := ⟨a, b, _, _, _, rfl, rfl, h1, h2, eqes_ints ns ms, by rw [eqAns_ints]; exact h⟩
theorem r_isi {x : V} {T : String} {t : Value} {c : Bool} (ty : TyOf K H x t) (e : PySem.W.kitOne K t (.type T) = some c) (h : Q (.bl c) H) : rIsi K [x, .ty T] H Q := ⟨x, T, t, c, rfl, ty, e, h⟩
end
/-! ### comprehensions over pairs; slices of tuples; texts -/
section
variable {g : CF TG} {tt : CF TT} {te : CF TE} {σ₀ : St} {Q : VK} {H : Hp} {K : PySem.W.Frag}
theorem r_eqS {x y : Str} (h : Q (.bl (decide (x = y))) H) : rEq (.str x) (.str y) H Q := ⟨rfl, by rw [show decide (V.str x = V.str y) = decide (x = y) from decide_eq_decide.mpr ⟨fun e => by injection e, fun e => by rw [e]⟩]; exact h⟩
theorem r_neS {x y : Str} (h : Q (.bl (!decide (x = y))) H) : rNe (.str x) (.str y) H Q := ⟨rfl, by rw [show decide (V.str x = V.str y) = decide (x = y) from decide_eq_decide.mpr ⟨fun e => by injection e, fun e => by rw [e]⟩]; exact h⟩
end
/-! ### pop, extend; three names at once -/
section
variable {H : Hp} {Q : VK} {K : PySem.W.Frag}
end
/-! ### is not, of truths; != of one thing and itself -/
noncomputable def rIsnB : R2 := fun x y H Q => ∃ a b, x = .bl a ∧ y = .bl b ∧ Q (.bl (!(a == b))) H
theorem r_isnB {a b : Bool} {H : Hp} {Q : VK} (h : Q (.bl (!(a == b))) H) : rIsnB (.bl a) (.bl b) H Q := ⟨a, b, rfl, rfl, h⟩
end L2

end
local macro_rules | `(tactic| walk_at "rb1") => `(tactic| first
  | ((with_reducible refine' L2.r_var (v := ?v) ?e ?h); (case e => exact rfl))
  | (with_reducible first | refine L2.r_next ?_ | refine L2.r_asg ?_ | refine L2.r_ret ?_ | refine L2.r_retN ?_ | refine L2.r_drop ?_ | refine L2.r_break ?_ | refine L2.r_cont ?_ | refine L2.r_name ?_ | refine L2.r_gsub ?_ | refine L2.r_c ?_ | refine L2.r_op ?_ | refine L2.r_un ?_ | refine L2.r_I0 ?_ | refine L2.r_U ?_ | refine L2.r_eqI ?_ | refine L2.r_neI ?_ | refine L2.r_eqS ?_ | refine L2.r_neS ?_ | refine L2.r_eqB ?_ | refine L2.r_neB ?_ | refine L2.r_isnB ?_ | refine L2.r_test ?_ | refine L2.r_tb ?_ | refine L2.r_bl ?_ | refine L2.r_int ?_ | refine L2.r_and ?_ | refine L2.r_or ?_ | refine L2.r_not ?_ | refine L2.r_andV ?_ | refine L2.r_orV ?_ | refine L2.r_notV ?_ | refine L2.r_if ?_ | refine L2.r_chain ?_ | refine L2.r_nil ?_ | refine L2.r_cons ?_ | refine L2.r_call ?_ | refine L2.r_cb ?_ | refine L2.r_bm ?_ | refine L2.r_bm0 ?_ | refine L2.r_bt ?_ | refine L2.r_sl ?_ | refine L2.r_nopart ?_ | refine L2.r_part ?_ | refine L2.r_for ?_ | refine L2.r_comp ?_ | refine L2.r_iList ?_ | refine L2.r_iTup ?_ | refine L2.r_iRng1 ?_ | refine L2.r_iRng2 ?_ | refine L2.r_iEnum ?_ | refine L2.r_iZip ?_ | refine L2.r_tup0 ?_ | refine L2.r_lst0 ?_ | refine L2.m_tup ?_ | refine L2.m_lst ?_ | refine L2.r_min2 ?_ | refine L2.r_max2 ?_ | refine L2.r_intI ?_ | refine L2.r_intB ?_ | refine L2.iteT ?_ | refine L2.iteF ?_ | refine L2.iteNT ?_ | refine L2.iteNF ?_ | refine L2.r_always ?_)
  | ((with_reducible refine L2.r_I ?_ ?_); (first | (show (0 : Int) < _; omega) | (show (0 : Int) < _; decide) | exact ⟨by decide, by decide, by decide⟩ | exact And.intro (by omega) (by omega) | exact (PySem.IntMulOk.of_right (PySem.intBits_le_64 (by omega) (by omega))) | exact (PySem.IntMulOk.of_left (PySem.intBits_le_64 (by omega) (by omega)))))
  | ((with_reducible refine' L2.r_len (ys := ?y) ?e ?h); (case e => first | assumption | exact L2.SqL.of (by assumption)))
  | ((with_reducible refine' L2.r_lenTu (ys := ?y) ?e ?h); (case e => first | assumption | exact L2.SqT.of (by assumption)))
  | dsimp only [List.set_cons_zero, List.set_cons_succ, L2.sub, List.map_cons, List.map_nil, List.getElem?_cons_zero, List.getElem?_cons_succ])
local macro_rules | `(tactic| walk_at "rd") => `(tactic| repeat (first | (with_reducible first | refine L2.r_seq ?_ | refine L2.r_ifS ?_) | walk_at "rb1"))
local macro_rules | `(tactic| walk_at "rs") => `(tactic| repeat (first | (with_reducible refine L2.r_ifS ?_) | walk_at "rb1"))
local macro_rules | `(tactic| walk_at "ra") => `(tactic| repeat (walk_at "rb1"))

section
-- KcMapK
set_option Elab.async false
set_option linter.all false
set_option maxRecDepth 100000
set_option maxHeartbeats 4000000
namespace L2
open PySem PyProof.Rows
/-! ### keys: None, truths and whole numbers; tuples of these; tuples that have such tuples in them -/
noncomputable abbrev IA := Option Int
noncomputable abbrev IK := Sum IA (List IA)
noncomputable abbrev MK := Sum IA (List IK)
noncomputable def iaV : V → Option IA
  | .non => some none
  | .bl b => some (some (if b then 1 else 0))
  | .int i => some (some i)
  | _ => none
noncomputable def ItemV (H : Hp) (x : V) : IK → Prop
  | .inl a => iaV x = some a
  | .inr as => ∃ c ys, x = .ref c ∧ H c = some (.tup ys) ∧ ys.map iaV = as.map some
noncomputable def KeyV (H : Hp) (x : V) : MK → Prop
  | .inl a => iaV x = some a
  | .inr is => ∃ c xs, x = .ref c ∧ H c = some (.tup xs) ∧ Paired (ItemV H) xs is
noncomputable def kSort : MK → Bool
  | .inl _ => false
  | .inr _ => true
theorem ItemV.keep {H H' : Hp} {x : V} {k : IK} (h : ItemV H x k) (kp : Keep H H') : ItemV H' x k := by
  cases k with
  | inl a => exact h
  | inr as => obtain ⟨c, ys, e, q, r⟩ := h; exact ⟨c, ys, e, kp _ _ q, r⟩
theorem KeyV.keep {H H' : Hp} {x : V} {k : MK} (h : KeyV H x k) (kp : Keep H H') : KeyV H' x k := by
  cases k with
  | inl a => exact h
  | inr as => obtain ⟨c, xs, e, q, r⟩ := h; exact ⟨c, xs, e, kp _ _ q, Paired.mapP r fun _ _ z => ItemV.keep z kp⟩
theorem keys_keep {H H' : Hp} {xs : List V} {ks : List MK} (h : Paired (KeyV H) xs ks) (kp : Keep H H') : Paired (KeyV H') xs ks := Paired.mapP h fun _ _ z => KeyV.keep z kp
theorem paired_at {α β : Type} {F : α → β → Prop} : ∀ {xs : List α} {ys : List β} {i : Nat} {x : α}, Paired F xs ys → xs[i]? = some x → ∃ y, ys[i]? = some y ∧ F x y
  | _, _, _, _, .nil, e => by simp at e
  | _, _, 0, _, .cons r _, e => by simp at e; subst e; exact ⟨_, rfl, r⟩
  | _, _, i + 1, x, .cons _ t, e => by
    obtain ⟨u, h1, h2⟩ := paired_at (i := i) (x := x) t (by simpa using e)
    exact ⟨u, by simpa using h1, h2⟩
theorem items_ints (H : Hp) : ∀ ns : List Int, Paired (ItemV H) (ns.map V.int) (ns.map fun n => (Sum.inl (some n) : IK))
  | [] => .nil
  | n :: r => .cons rfl (items_ints H r)
theorem key_tup {H : Hp} {c : Addr} {ns : List Int} (e : H c = some (.tup (ns.map V.int))) : KeyV H (.ref c) (.inr (ns.map fun n => (Sum.inl (some n) : IK))) := ⟨c, _, rfl, e, items_ints H ns⟩
theorem Off.keepD {H H' : Hp} {l : Addr} (o : Off l H H') (h : ∀ xs, H l ≠ some (.tup xs)) : Keep H H' := fun b ys q => by
  rw [o b (fun z => by subst z; exact h _ q)]
  exact q
noncomputable def leastOf {α : Type} [DecidableEq α] (ks : List α) : List Nat := ks.map fun k => ks.idxOf k
theorem length_leastOf {α : Type} [DecidableEq α] (ks : List α) : (leastOf ks).length = ks.length := List.length_map _
theorem idxOf_new {α : Type} [DecidableEq α] {ks : List α} {i : Nat} {k : α} (hk : ks[i]? = some k) (h : k ∉ ks.take i) : ks.idxOf k = i := by
  obtain ⟨hi, e⟩ := List.getElem?_eq_some_iff.mp hk
  have e1 : ks = ks.take i ++ (k :: ks.drop (i + 1)) := by
    rw [← e, List.getElem_cons_drop, List.take_append_drop]
  have := List.idxOf_append (l₁ := ks.take i) (l₂ := k :: ks.drop (i + 1)) (a := k)
  rw [← e1, if_neg h, List.idxOf_cons_self, List.length_take] at this
  omega
theorem take_snoc {α : Type} {ks : List α} {i : Nat} {k : α} (hk : ks[i]? = some k) : ks.take (i + 1) = ks.take i ++ [k] := by
  rw [List.take_add_one, hk]; rfl
theorem leastOf_map {α β : Type} [DecidableEq α] [DecidableEq β] {f : α → β} (inj : ∀ a b, f a = f b → a = b) (ks : List α) : leastOf (ks.map f) = leastOf ks := by
  unfold leastOf
  rw [List.map_map]
  refine List.map_congr_left fun k hk => ?_
  show (ks.map f).idxOf (f k) = ks.idxOf k
  clear hk
  induction ks with
  | nil => rfl
  | cons a r ih =>
    rw [List.map_cons, List.idxOf_cons, List.idxOf_cons, ih]
    by_cases e : a = k
    · rw [e, beq_self_eq_true, beq_self_eq_true]
    · rw [beq_eq_false_iff_ne.mpr e, beq_eq_false_iff_ne.mpr (fun z => e (inj _ _ z))]
end L2

end

section
-- KcDict
set_option Elab.async false
set_option linter.all false
set_option maxRecDepth 100000
set_option maxHeartbeats 4000000
namespace L2
open PySem PySem.Spec PyProof.Rows

/-! ### lists of pairs as tables -/
section
variable {κ : Type} [DecidableEq κ]
noncomputable def valV (kvs : List (κ × V)) (k : κ) : Option V := (kvs.find? fun kv => decide (kv.1 = k)).map (·.2)
noncomputable def putK (kvs : List (κ × V)) (k : κ) (v : V) : List (κ × V) :=
  if (kvs.any fun kv => decide (kv.1 = k)) = true then kvs.map (fun kv => if kv.1 = k then (kv.1, v) else kv) else kvs ++ [(k, v)]
noncomputable def dropK (kvs : List (κ × V)) (k : κ) : List (κ × V) := kvs.filter fun kv => decide (kv.1 ≠ k)

theorem valV_pos {p : κ × V} {r : List (κ × V)} {k : κ} (e : p.1 = k) : valV (p :: r) k = some p.2 := by simp [valV, List.find?_cons, e]
theorem valV_neg {p : κ × V} {r : List (κ × V)} {k : κ} (e : ¬ p.1 = k) : valV (p :: r) k = valV r k := by simp [valV, List.find?_cons, e]
theorem valV_any (k : κ) : ∀ kvs : List (κ × V), (kvs.any fun kv => decide (kv.1 = k)) = (valV kvs k).isSome
  | [] => rfl
  | p :: r => by
    rw [List.any_cons]
    by_cases e : p.1 = k
    · simp only [valV_pos e, decide_eq_true e, Bool.true_or, Option.isSome_some]
    · rw [valV_neg e, decide_eq_false e, Bool.false_or]; exact valV_any k r
theorem valV_map (k j : κ) (y : V) : ∀ kvs : List (κ × V), valV (kvs.map fun kv => if kv.1 = k then (kv.1, y) else kv) j = (valV kvs j).map fun x => if j = k then y else x
  | [] => rfl
  | p :: r => by
    have ih := valV_map k j y r
    rw [List.map_cons]
    by_cases h : p.1 = k
    · rw [if_pos h]
      by_cases e : p.1 = j
      · rw [valV_pos (p := (p.1, y)) e, valV_pos e, Option.map_some, if_pos (e.symm.trans h)]
      · rw [valV_neg (p := (p.1, y)) e, valV_neg e, ih]
    · rw [if_neg h]
      by_cases e : p.1 = j
      · rw [valV_pos (p := p) e, valV_pos e, Option.map_some, if_neg (fun z => h (e.trans z))]
      · rw [valV_neg (p := p) e, valV_neg e, ih]
theorem valV_snoc (k j : κ) (y : V) : ∀ kvs : List (κ × V), valV kvs k = none → valV (kvs ++ [(k, y)]) j = if j = k then some y else valV kvs j
  | [], _ => by
    by_cases e : k = j
    · rw [if_pos e.symm]; exact valV_pos (p := (k, y)) e
    · rw [if_neg (fun z => e z.symm)]; exact valV_neg (p := (k, y)) e
  | p :: r, hn => by
    rw [List.cons_append]
    have hk : ¬ p.1 = k := fun z => by rw [valV_pos z] at hn; cases hn
    rw [valV_neg hk] at hn
    have ih := valV_snoc k j y r hn
    by_cases e : p.1 = j
    · rw [valV_pos e, valV_pos e, if_neg (fun z => hk (e.trans z))]
    · rw [valV_neg e, valV_neg e, ih]
theorem valV_put (kvs : List (κ × V)) (k j : κ) (y : V) : valV (putK kvs k y) j = if j = k then some y else valV kvs j := by
  unfold putK
  by_cases a : (kvs.any fun kv => decide (kv.1 = k)) = true
  · rw [if_pos a, valV_map]
    rw [valV_any] at a
    by_cases e : j = k
    · obtain ⟨x, hx⟩ := Option.isSome_iff_exists.mp a
      rw [if_pos e, e, hx, Option.map_some, if_pos rfl]
    · rw [if_neg e]
      cases valV kvs j with
      | none => rfl
      | some x => rw [Option.map_some, if_neg e]
  · rw [if_neg a]
    refine valV_snoc k j y kvs ?_
    rw [valV_any] at a
    cases q : valV kvs k with
    | none => rfl
    | some x => rw [q] at a; exact (a rfl).elim
theorem length_putK (kvs : List (κ × V)) (k : κ) (v : V) : (putK kvs k v).length ≤ kvs.length + 1 := by
  unfold putK
  split
  · rw [List.length_map]; omega
  · rw [List.length_append, List.length_cons, List.length_nil]; omega
theorem RelO.isSome_eq {o : Option V} {u : Option Value} (r : RelO o u) : o.isSome = u.isSome := by
  cases o with
  | none => cases u with
    | none => rfl
    | some _ => exact (show False from r).elim
  | some _ => cases u with
    | none => exact (show False from r).elim
    | some _ => rfl
theorem RelO.getD {o : Option V} {u : Option Value} {d : V} {d' : Value} (r : RelO o u) (rd : RelV d d') : RelV (o.getD d) (u.getD d') := by
  cases o with
  | none => cases u with
    | none => exact rd
    | some _ => exact (show False from r).elim
  | some _ => cases u with
    | none => exact (show False from r).elim
    | some _ => exact r

theorem KV.val {kvs : List (κ × V)} {vs : List (κ × Value)} (r : KV kvs vs) (k : κ) : RelO (valV kvs k) (valueAt vs k) := by
  unfold KV at r
  induction r with
  | nil => exact True.intro
  | @cons p q ps qs h t ih =>
    obtain ⟨h1, h2⟩ := h
    by_cases e : p.1 = k
    · have e' : q.1 = k := h1.symm.trans e
      have b : valueAt (q :: qs) k = some q.2 := by simp [valueAt, List.find?_cons, e']
      rw [valV_pos e, b]; exact h2
    · have e' : ¬ q.1 = k := fun z => e (h1.trans z)
      have b : valueAt (q :: qs) k = valueAt qs k := by simp [valueAt, List.find?_cons, e']
      rw [valV_neg e, b]; exact ih
theorem KV.any {kvs : List (κ × V)} {vs : List (κ × Value)} (r : KV kvs vs) (k : κ) : (kvs.any fun kv => decide (kv.1 = k)) = vs.any fun kv => decide (kv.1 = k) := by
  unfold KV at r
  induction r with
  | nil => rfl
  | cons h t ih => rw [List.any_cons, List.any_cons, ih, h.1]
theorem KV.repl {kvs : List (κ × V)} {vs : List (κ × Value)} (r : KV kvs vs) (k : κ) {y : V} {u : Value} (ry : RelV y u) :
    KV (kvs.map fun kv => if kv.1 = k then (kv.1, y) else kv) (vs.map fun kv => if kv.1 = k then (kv.1, u) else kv) := by
  unfold KV at r ⊢
  induction r with
  | nil => exact .nil
  | @cons p q ps qs h t ih =>
    rw [List.map_cons, List.map_cons]
    refine .cons ?_ ih
    obtain ⟨h1, h2⟩ := h
    by_cases e : p.1 = k
    · rw [if_pos e, if_pos (h1.symm.trans e)]; exact ⟨h1, ry⟩
    · rw [if_neg e, if_neg (fun z => e (h1.trans z))]; exact ⟨h1, h2⟩
theorem KV.put {kvs : List (κ × V)} {vs : List (κ × Value)} (r : KV kvs vs) (k : κ) {y : V} {u : Value} (ry : RelV y u) : KV (putK kvs k y) (stored vs k u) := by
  unfold putK stored
  rw [r.any k]
  by_cases e : (vs.any fun kv => decide (kv.1 = k)) = true
  · rw [if_pos e, if_pos e]; exact r.repl k ry
  · rw [if_neg e, if_neg e]; exact Paired.snoc r ⟨rfl, ry⟩
theorem KV.drop {kvs : List (κ × V)} {vs : List (κ × Value)} (r : KV kvs vs) (k : κ) : KV (dropK kvs k) (without vs k) := by
  unfold KV at r ⊢
  unfold dropK without
  induction r with
  | nil => exact .nil
  | @cons p q ps qs h t ih =>
    obtain ⟨h1, h2⟩ := h
    rw [List.filter_cons, List.filter_cons]
    by_cases e : p.1 = k
    · have a : ¬ decide (p.1 ≠ k) = true := by simp [e]
      have b : ¬ decide (q.1 ≠ k) = true := by simp [h1.symm.trans e]
      rw [if_neg a, if_neg b]; exact ih
    · have e' : ¬ q.1 = k := fun z => e (h1.trans z)
      have a : decide (p.1 ≠ k) = true := by simp [e]
      have b : decide (q.1 ≠ k) = true := by simp [e']
      rw [if_pos a, if_pos b]; exact .cons ⟨h1, h2⟩ ih
theorem KV.keys {kvs : List (κ × V)} {vs : List (κ × Value)} (r : KV kvs vs) : kvs.map (·.1) = vs.map (·.1) := by
  unfold KV at r
  induction r with
  | nil => rfl
  | cons h t ih => rw [List.map_cons, List.map_cons, ih, h.1]
theorem KV.length {kvs : List (κ × V)} {vs : List (κ × Value)} (r : KV kvs vs) : kvs.length = vs.length := Paired.length r
end


/-! ### a tracked dict, its keys ints and texts or tuples of these -/
noncomputable abbrev KT (H : Hp) : List (List Key × V) → List (List Key × Addr × Value) → Prop := Paired fun p q => p.1 = q.1 ∧ H q.2.1 = some (.tup (p.1.map kV)) ∧ RelV p.2 q.2.2
theorem KT.val {H : Hp} {kvs : List (List Key × V)} {xs : List (List Key × Addr × Value)} (r : KT H kvs xs) (k : List Key) : RelO (valV kvs k) ((atKey xs k).map (·.2)) := by
  induction r with
  | nil => exact True.intro
  | @cons p q ps qs h t ih =>
    obtain ⟨h1, _, h2⟩ := h
    by_cases e : p.1 = k
    · have e' : q.1 = k := h1.symm.trans e
      have b : atKey (q :: qs) k = some q.2 := by simp [atKey, List.find?_cons, e']
      rw [valV_pos e, b]; exact h2
    · have e' : ¬ q.1 = k := fun z => e (h1.trans z)
      have b : atKey (q :: qs) k = atKey qs k := by simp [atKey, List.find?_cons, e']
      rw [valV_neg e, b]; exact ih
theorem KT.repl {H : Hp} {kvs : List (List Key × V)} {xs : List (List Key × Addr × Value)} (r : KT H kvs xs) (k : List Key) {y : V} {u : Value} (ry : RelV y u) :
    KT H (kvs.map fun kv => if kv.1 = k then (kv.1, y) else kv) (xs.map (putAt k u)) := by
  induction r with
  | nil => exact .nil
  | @cons p q ps qs h t ih =>
    rw [List.map_cons, List.map_cons]
    refine .cons ?_ ih
    obtain ⟨h1, h2, h3⟩ := h
    unfold putAt
    by_cases e : p.1 = k
    · rw [if_pos e, if_pos (h1.symm.trans e)]; exact ⟨h1, h2, ry⟩
    · rw [if_neg e, if_neg (fun z => e (h1.trans z))]; exact ⟨h1, h2, h3⟩
theorem KT.put {H : Hp} {kvs : List (List Key × V)} {xs : List (List Key × Addr × Value)} (r : KT H kvs xs) (k : List Key) {b : Addr} {y : V} {u : Value} (hb : H b = some (.tup (k.map kV))) (ry : RelV y u) :
    KT H (putK kvs k y) (storedH xs k b u) := by
  have e : (kvs.any fun kv => decide (kv.1 = k)) = (atKey xs k).isSome := by
    rw [valV_any, (r.val k).isSome_eq, Option.isSome_map]
  unfold putK storedH
  rw [e]
  by_cases q : (atKey xs k).isSome = true
  · rw [if_pos q, if_pos q]; exact r.repl k ry
  · rw [if_neg q, if_neg q]; exact Paired.snoc r ⟨rfl, hb, ry⟩
theorem KT.keeps {H H' : Hp} {kvs : List (List Key × V)} {xs : List (List Key × Addr × Value)} (r : KT H kvs xs) (ht : ∀ b ys, H b = some (.tup ys) → H' b = some (.tup ys)) : KT H' kvs xs :=
  Paired.mapP r fun _ _ z => ⟨z.1, ht _ _ z.2.1, z.2.2⟩

section
variable {P : Program} {w : World} {H : Hp} {h : Heap} {a : Addr}
end

noncomputable def DGet (H : Hp) (a : Addr) (y : V) (r : Option V) : Prop :=
  (∃ kvs k, Rd H a (.dK kvs) ∧ y = kV k ∧ r = valV kvs k) ∨ ∃ kvs k b, Rd H a (.dT kvs) ∧ y = .ref b ∧ H b = some (.tup (k.map kV)) ∧ r = valV kvs k
noncomputable def DPut (H : Hp) (a : Addr) (y v : V) (H' : Hp) : Prop :=
  (∃ kvs k, H a = some (.dK kvs) ∧ y = kV k ∧ kvs.length < sizeLine ∧ H' = upd H a (.dK (putK kvs k v))) ∨
  ∃ kvs k b, H a = some (.dT kvs) ∧ y = .ref b ∧ H b = some (.tup (k.map kV)) ∧ kvs.length < sizeLine ∧ H' = upd H a (.dT (putK kvs k v))
theorem DGet.k {H : Hp} {a : Addr} {kvs : List (Key × V)} {k : Key} (e : H a = some (.dK kvs)) : DGet H a (kV k) (valV kvs k) := .inl ⟨kvs, k, .inl e, rfl, rfl⟩
theorem DGet.t {H : Hp} {a b : Addr} {kvs : List (List Key × V)} {k : List Key} (e : H a = some (.dT kvs)) (eb : H b = some (.tup (k.map kV))) : DGet H a (.ref b) (valV kvs k) := .inr ⟨kvs, k, b, .inl e, rfl, eb, rfl⟩
theorem DPut.k {H : Hp} {a : Addr} {kvs : List (Key × V)} {k : Key} {v : V} (e : H a = some (.dK kvs)) (hl : kvs.length < sizeLine) : DPut H a (kV k) v (upd H a (.dK (putK kvs k v))) := .inl ⟨kvs, k, e, rfl, hl, rfl⟩
theorem DPut.t {H : Hp} {a b : Addr} {kvs : List (List Key × V)} {k : List Key} {v : V} (e : H a = some (.dT kvs)) (eb : H b = some (.tup (k.map kV))) (hl : kvs.length < sizeLine) :
    DPut H a (.ref b) v (upd H a (.dT (putK kvs k v))) := .inr ⟨kvs, k, b, e, rfl, eb, hl, rfl⟩


section
variable {X : Cx} {pins : List (Addr × Obj)} {σ : St} {H : Hp} {s : Shared} {a : Addr} {y v : V} {u r : Value} {o : Option V} {A : Around} {E : Value → Shared → Prop}

theorem Inv.big (I : Inv X pins σ H s) : sysModules < s.heap.objs.size := by
  have h : mainGlobals < s.heap.objs.size := (I.mod.glob.keeps I.bk).lt
  exact Nat.lt_trans (by decide) h

theorem d_write {h' : Heap} {t' : Nat} {ob : HO} (I : Inv X pins σ H s) (mu : Mut (H a)) (hs : Heap.SameBut a s.heap h') (he : ∃ q, h'.get? a = some q) (new : ObjOk X.prog X.w (upd H a ob) h' a ob) :
    Inv X pins σ (upd H a ob) { s with heap := h', toks := t' } :=
  I.write (x := a) (e := a) mu (.inl rfl) (fun b q hb z => (hs.2 b hb).trans z) he new
end

section
variable {X : Cx} {pins : List (Addr × Obj)} {σ : St} {H : Hp} {s : Shared} {a : Addr} {kvs : List (Key × V)} {k : Key} {u : Value} {A : Around} {E : Value → Shared → Prop}
end


/-! ### readings and rules -/
noncomputable def NoSl (i : Expr) : Prop := ∀ ov iv, subscripted i false ov iv = operate [ov, iv] (getItem ov iv)
theorem subD_of {prog : Program} {w : World} {A : Around} {E : Value → Shared → Prop} {s : Shared} {env : Env} {value slice : Expr} {pos : Pos} {T id : String} {Q : Value → Shared → Prop}
    (hl : typeLookup (.type T) "__getitem__" = pure (some (.builtin id))) (hs : NoSl slice)
    (h : wpAny (model prog w) A (eval value env) (fun o s₁ => wpAny (model prog w) A (eval slice env) (fun i s₂ => s₂.TypeIs o T ∧ wpAny (model prog w) A (getItem o i) Q E s₂) E s₁) E s) :
    wpAny (model prog w) A (eval (.Subscript value slice pos) env) Q E s := by
  refine Subscript_ (wpAny_mono h (fun o s₁ h₁ => wpAny_mono h₁ (fun i s₂ h₂ => ?_) fun _ _ x => x) fun _ _ x => x)
  obtain ⟨hT, h₂⟩ := h₂
  unfold subscriptTail
  refine wpAny_bind ?_
  rw [getitemInPython_of_ne hT.not_modules]
  refine wpAny_bind (wpAny_specialOf hT hl ?_)
  have fin : wpAny (model prog w) A (subscripted slice false o i) (fun r s₃ => wpAny (model prog w) A (letTemporaryGo value o r >>= fun _ => pure r) Q E s₃) E s₂ := by
    rw [hs o i]
    exact wpAny_operating (wpAny_mono h₂ (fun r s₃ h₃ => wpAny_bind (wpAny_letTemporaryGo (wpAny_pure h₃))) fun _ _ x => x)
  first
    | exact wpAny_pure (wpAny_bind fin)
    | exact wpAny_bind (wpAny_pure (wpAny_bind fin))
    | exact wpAny_bind fin

section
variable {X : Cx} {o i e value : Expr} {pos pos' tpos : Pos} {td ty tv : TE}
end


/-! ### displays -/
section
variable {X : Cx} {pos : Pos}
end

/-! ### methods -/
structure M1 (X : Cx) (o : Expr) (m : Str) (apos : Pos) (e : Expr) (cpos : Pos) : Prop where
  base : attributeBase o m X.env (eval o X.env) = eval o X.env
  few : ((backTo cpos (starEach [e] X.env)).all (fun x => !x.1) && (backToKw cpos (keywordEach [] X.env)).all (fun x => x.1.isSome)
    && decide (([e] : List Expr).length + ([] : List Keyword).length + (if ([] : List Keyword).isEmpty then 0 else 1) < 30)) = true
  line : (apos.endLine == cpos.line) = true
  trees : backTo cpos (starEach [e] X.env) = [(false, eval e X.env)]
structure M2 (X : Cx) (o : Expr) (m : Str) (apos : Pos) (e f : Expr) (cpos : Pos) : Prop where
  base : attributeBase o m X.env (eval o X.env) = eval o X.env
  few : ((backTo cpos (starEach [e, f] X.env)).all (fun x => !x.1) && (backToKw cpos (keywordEach [] X.env)).all (fun x => x.1.isSome)
    && decide (([e, f] : List Expr).length + ([] : List Keyword).length + (if ([] : List Keyword).isEmpty then 0 else 1) < 30)) = true
  line : (apos.endLine == cpos.line) = true
  trees : backTo cpos (starEach [e, f] X.env) = [(false, eval e X.env), (false, eval f X.env)]

section
variable {X : Cx} {pins : List (Addr × Obj)} {σ : St} {H : Hp} {s : Shared} {a : Addr} {y d : V} {u r : Value} {o : Option V} {A : Around} {E : Value → Shared → Prop}
end

section
variable {X : Cx} {o e f : Expr} {apos cpos : Pos} {td ty tx : TE}
end

/-! ### dict(d): a copy -/
section
variable {X : Cx} {pins : List (Addr × Obj)} {σ : St} {H : Hp} {s : Shared} {a : Addr} {kvs : List (Key × V)} {A : Around} {E : Value → Shared → Prop}
end


section
variable {X : Cx} {pins : List (Addr × Obj)} {σ : St} {H : Hp} {s : Shared} {a : Addr} {y : V} {u : Value} {A : Around} {E : Value → Shared → Prop}
end
end L2

end

section
-- KcMapD
set_option Elab.async false
set_option linter.all false
set_option maxRecDepth 100000
set_option maxHeartbeats 4000000
namespace L2
open PySem PySem.Spec PyProof.Rows
section
variable {prog : Program} {w : World} {A : Around} {E : Value → Shared → Prop} {s : Shared}
theorem wpAny_pyHash_bool {b : Bool} {Q : Int → Shared → Prop} (h : Q (hashInt (if b then 1 else 0)) { s with toks := s.toks + 1 }) : wpAny (model prog w) A (pyHash (.bool b)) Q E s := by
  have hr := rawHash_range (if b then 1 else 0)
  unfold pyHash
  have hv : [Value.bool b].any Value.onHeap = false := rfl
  refine wpAny_bind ?_
  rw [cRoomFor, if_neg (by rw [hv]; exact Bool.false_ne_true)]; refine wpAny_pure ?_
  have hT : s.TypeIs (.bool b) "bool" := rfl
  refine wpAny_bind (wpAny_specialOf hT PySem.F.slot_bool_hash.lookup ?_)
  show wpAny _ _ (if (some (Value.builtin "int.__hash__") == some Value.none) = true then _ else _) Q E s
  rw [if_neg (by rw [beq_builtin_none]; exact Bool.false_ne_true)]
  refine wpAny_bind (wpAny_specialOf hT PySem.F.slot_bool_hash.lookup ?_)
  show wpAny _ _ (callSpecialIfBoundUnlessNone? (.bool b) "__hash__" _ >>= _) Q E s
  refine wpAny_bind (wpAny_callSpecialIfBoundUnlessNone?_slot hT PySem.F.slot_bool_hash (wpAny_call_entry PySem.F.slot_bool_hash hT entry_int_hash ?_ (args_int_hash _)))
  cases b with
  | true =>
    refine (show wpAny _ _ (do ret (← mkInt (rawHash 1))) _ _ s from wpAny_ret_mkInt ?_)
    show wpAny _ _ (if (decide (-(2 : Int) ^ 63 ≤ rawHash 1) && decide (rawHash 1 < 2 ^ 63)) = true then _ else _) Q E _
    rw [if_pos (by decide)]
    exact wpAny_pure h
  | false =>
    refine (show wpAny _ _ (do ret (← mkInt (rawHash 0))) _ _ s from wpAny_ret_mkInt ?_)
    show wpAny _ _ (if (decide (-(2 : Int) ^ 63 ≤ rawHash 0) && decide (rawHash 0 < 2 ^ 63)) = true then _ else _) Q E _
    rw [if_pos (by decide)]
    exact wpAny_pure h
theorem wpAny_pyHash_none {Q : Int → Shared → Prop} (h : Q 4238894112 { s with toks := s.toks + 1 }) : wpAny (model prog w) A (pyHash .none) Q E s := by
  unfold pyHash
  have hv : [Value.none].any Value.onHeap = false := rfl
  refine wpAny_bind ?_
  rw [cRoomFor, if_neg (by rw [hv]; exact Bool.false_ne_true)]; refine wpAny_pure ?_
  have hT : s.TypeIs .none "NoneType" := rfl
  refine wpAny_bind (wpAny_specialOf hT PySem.F.slot_NoneType_hash.lookup ?_)
  show wpAny _ _ (if (some (Value.builtin "NoneType.__hash__") == some Value.none) = true then _ else _) Q E s
  rw [if_neg (by rw [beq_builtin_none]; exact Bool.false_ne_true)]
  refine wpAny_bind (wpAny_specialOf hT PySem.F.slot_NoneType_hash.lookup ?_)
  show wpAny _ _ (callSpecialIfBoundUnlessNone? .none "__hash__" _ >>= _) Q E s
  refine wpAny_bind (wpAny_callSpecialIfBoundUnlessNone?_slot hT PySem.F.slot_NoneType_hash (wpAny_call_entry PySem.F.slot_NoneType_hash hT PySem.F.entry_NoneType_hash ?_ (PySem.F.args_NoneType_hash_1 _)))
  refine (show wpAny _ _ (do ret (← mkInt 4238894112)) _ _ s from wpAny_ret_mkInt ?_)
  show wpAny _ _ (if (decide (-(2 : Int) ^ 63 ≤ 4238894112) && decide ((4238894112 : Int) < 2 ^ 63)) = true then _ else _) Q E _
  rw [if_pos (by decide)]
  exact wpAny_pure h
end
/-! ### keys that are None, truths, whole numbers -/
noncomputable def hashIA : IA → Int
  | none => 4238894112
  | some i => hashInt i
noncomputable def iaIs : IA → Value → Bool
  | none, .none => true
  | some i, .int j _ => i == j
  | some i, .bool b => i == (if b then 1 else 0)
  | _, _ => false
theorem ia_shape {k : IA} {v : Value} (h : iaIs k v = true) : (k = none ∧ v = .none) ∨ (∃ i t, k = some i ∧ v = .int i t) ∨ ∃ b, k = some (if b then 1 else 0) ∧ v = .bool b := by
  rcases k with _ | i <;> cases v <;> (delta iaIs at h; simp at h)
  · exact .inl ⟨rfl, rfl⟩
  · subst h; exact .inr (.inr ⟨_, rfl, rfl⟩)
  · subst h; exact .inr (.inl ⟨_, _, rfl, rfl⟩)
noncomputable def iaKind (prog : Program) (w : World) : PySem.KeyKind prog w IA where
  is := iaIs
  hash := hashIA
  inj := fun v a b ha hb => by
    rcases ia_shape ha with ⟨rfl, rfl⟩ | ⟨i, t, rfl, rfl⟩ | ⟨c, rfl, rfl⟩ <;> rcases ia_shape hb with ⟨rfl, e⟩ | ⟨j, u, rfl, e⟩ | ⟨d, rfl, e⟩ <;> first | rfl | (cases e; rfl) | cases e
  byValue := fun k v h => by
    rcases ia_shape h with ⟨rfl, rfl⟩ | ⟨i, t, rfl, rfl⟩ | ⟨c, rfl, rfl⟩ <;> rfl
  pyHash := fun hv h => by
    rcases ia_shape hv with ⟨rfl, rfl⟩ | ⟨i, t, rfl, rfl⟩ | ⟨c, rfl, rfl⟩
    · exact wpAny_pyHash_none h
    · exact wpAny_pyHash_int h
    · exact wpAny_pyHash_bool h
  eqBool := fun {A E s a b u v Q} hu hv h => by
    rcases ia_shape hu with ⟨rfl, rfl⟩ | ⟨i, t, rfl, rfl⟩ | ⟨c, rfl, rfl⟩ <;> rcases ia_shape hv with ⟨rfl, rfl⟩ | ⟨j, u, rfl, rfl⟩ | ⟨d, rfl, rfl⟩
    · exact SeqAt.EqAt.same _ _ _ _ _ (by simpa using h)
    · exact SeqAt.EqAt.none_int _ _ _ _ _ _ (by simpa using h)
    · exact SeqAt.EqAt.none_bool _ _ _ _ _ (by simpa using h)
    · exact SeqAt.EqAt.int_none _ _ _ _ _ _ (by simpa using h)
    · exact SeqAt.EqAt.int_int _ _ _ _ _ _ _ _ (by simpa [Bool.beq_eq_decide_eq] using h)
    · exact SeqAt.EqAt.int_bool _ _ _ _ _ _ _ (by simpa [Bool.beq_eq_decide_eq] using h)
    · exact SeqAt.EqAt.bool_none _ _ _ _ _ (by simpa using h)
    · exact SeqAt.EqAt.bool_int _ _ _ _ _ _ _ (by simpa [Bool.beq_eq_decide_eq] using h)
    · refine SeqAt.EqAt.bool_bool _ _ _ _ _ _ ?_
      cases c <;> cases d <;> simpa using h
  «strs» := fun k x t v h => by
    rcases ia_shape h with ⟨rfl, e⟩ | ⟨i, u, rfl, e⟩ | ⟨c, rfl, e⟩ <;> cases e
/-! ### tuples of these, and of tuples of these -/
noncomputable def hashIK : IK → Int
  | .inl a => hashIA a
  | .inr as => reduceHash (Builtin.Tuple.tupleHashOf (as.map hashIA))
noncomputable def hashT (is : List IK) : Int := reduceHash (Builtin.Tuple.tupleHashOf (is.map hashIK))
noncomputable def drawsK : IK → Nat
  | .inl _ => 1
  | .inr as => as.length + 1
section
variable (prog : Program) (w : World)
noncomputable def ItemIs (h : Heap) : IK → Value → Prop
  | .inl a, v => iaIs a v = true
  | .inr as, v => ∃ b, v = .ref b ∧ IsTupleKey (iaKind prog w) h as b
noncomputable def IsTk (h : Heap) (is : List IK) (a : Addr) : Prop := ∃ o items n, h.get? a = some o ∧ o.cls = .type "tuple" ∧ o.data = .seq items n ∧ Paired (ItemIs prog w h) is items.toList
end
section
variable {prog : Program} {w : World}
theorem ItemIs.inj {h : Heap} {x y : IK} {v : Value} (hx : ItemIs prog w h x v) (hy : ItemIs prog w h y v) : x = y := by
  cases x with
  | inl a => cases y with
    | inl b => rw [(iaKind prog w).inj v a b hx hy]
    | inr bs =>
      obtain ⟨c, rfl, _⟩ := hy
      rcases ia_shape hx with ⟨_, e⟩ | ⟨_, _, _, e⟩ | ⟨_, _, e⟩ <;> cases e
  | inr as => cases y with
    | inl b =>
      obtain ⟨c, rfl, _⟩ := hx
      rcases ia_shape hy with ⟨_, e⟩ | ⟨_, _, _, e⟩ | ⟨_, _, e⟩ <;> cases e
    | inr bs =>
      obtain ⟨c, rfl, h1⟩ := hx
      obtain ⟨d, e, h2⟩ := hy
      cases e
      rw [h1.inj h2]
theorem items_inj {h : Heap} {xs ys : List IK} {vs : List Value} (p : Paired (ItemIs prog w h) xs vs) : Paired (ItemIs prog w h) ys vs → xs = ys := by
  induction p generalizing ys with
  | nil => intro q; cases q; rfl
  | cons a t ih => intro q; cases q with
    | cons b u => rw [a.inj b, ih u]
theorem IsTk.inj {h : Heap} {a : Addr} {x y : List IK} (hx : IsTk prog w h x a) (hy : IsTk prog w h y a) : x = y := by
  obtain ⟨o, items, n, ho, _, hd, hi⟩ := hx
  obtain ⟨o', items', n', ho', _, hd', hi'⟩ := hy
  obtain rfl : o = o' := Option.some.inj (ho.symm.trans ho')
  rw [hd] at hd'
  injection hd' with h1 _
  subst h1
  exact items_inj hi hi'
theorem ItemIs.keeps {h h' : Heap} {k : IK} {v : Value} {d : Addr} {o : Obj} {es ep} (x : ItemIs prog w h k v) (ho : h.get? d = some o) (hd : o.data = .dict es ep) (hs : Heap.SameBut d h h') : ItemIs prog w h' k v := by
  cases k with
  | inl a => exact x
  | inr as => obtain ⟨b, e, q⟩ := x; exact ⟨b, e, q.keeps ho hd hs⟩
theorem IsTk.keeps {h h' : Heap} {ks : List IK} {a d : Addr} {o : Obj} {es ep} (x : IsTk prog w h ks a) (ho : h.get? d = some o) (hd : o.data = .dict es ep) (hs : Heap.SameBut d h h') : IsTk prog w h' ks a := by
  obtain ⟨o', items, n, ho', hc, hd', hi⟩ := x
  have hne : a ≠ d := by
    rintro rfl
    obtain rfl : o' = o := Option.some.inj (ho'.symm.trans ho)
    rw [hd] at hd'; exact nomatch hd'
  exact ⟨o', items, n, (hs.2 a hne).trans ho', hc, hd', Paired.mapP hi fun _ _ z => z.keeps ho hd hs⟩
theorem IsTk.typeIs {s : Shared} {ks : List IK} {a : Addr} (x : IsTk prog w s.heap ks a) : s.TypeIs (.ref a) "tuple" := let ⟨o, _, _, ho, hc, _⟩ := x; ⟨o, ho, hc⟩
theorem tk_isTuple {h : Heap} {ks : List IA} {a : Addr} (x : IsTupleKey (iaKind prog w) h ks a) : ∃ items, h.IsTuple a items := let ⟨o, items, n, h1, h2, h3, _⟩ := x; ⟨items, o, h1, h2, n, h3⟩
variable {A : Around} {E : Value → Shared → Prop} {s : Shared}
theorem item_hash {k : IK} {v : Value} {Q : Int → Shared → Prop} (hu : A.units < cLine) (hk : ItemIs prog w s.heap k v) (h : Q (hashIK k) { s with toks := s.toks + drawsK k }) : wpAny (model prog w) A (pyHash v) Q E s := by
  cases k with
  | inl a => exact (iaKind prog w).pyHash (k := a) hk h
  | inr as =>
    obtain ⟨b, rfl, q⟩ := hk
    exact wpAny_pyHash_tuple (knd := iaKind prog w) hu q h
theorem ia_tuple {a : IA} {v : Value} {b : Addr} {items : Array Value} {Q : Bool → Shared → Prop} (hu : A.units < cLine) (hk : iaIs a v = true) (ht : s.heap.IsTuple b items) (h : Q false s) : wpAny (model prog w) A (PySem.eqBool v (.ref b)) Q E s := by
  rcases ia_shape hk with ⟨rfl, rfl⟩ | ⟨i, t, rfl, rfl⟩ | ⟨c, rfl, rfl⟩
  · exact SeqAt.EqAt.none_tuple ht hu _ _ _ _ h
  · exact SeqAt.EqAt.int_tuple _ _ ht hu _ _ _ _ h
  · exact SeqAt.EqAt.bool_tuple _ ht hu _ _ _ _ h
theorem tuple_ia {a : IA} {v : Value} {b : Addr} {items : Array Value} {Q : Bool → Shared → Prop} (hu : A.units < cLine) (hk : iaIs a v = true) (ht : s.heap.IsTuple b items) (h : Q false s) : wpAny (model prog w) A (PySem.eqBool (.ref b) v) Q E s := by
  rcases ia_shape hk with ⟨rfl, rfl⟩ | ⟨i, t, rfl, rfl⟩ | ⟨c, rfl, rfl⟩
  · exact SeqAt.EqAt.tuple_none ht hu _ _ _ _ h
  · exact SeqAt.EqAt.tuple_int _ _ ht hu _ _ _ _ h
  · exact SeqAt.EqAt.tuple_bool _ ht hu _ _ _ _ h
theorem item_eq {x y : IK} {u v : Value} {Q : Bool → Shared → Prop} (hu : A.units < cLine) (hx : ItemIs prog w s.heap x u) (hy : ItemIs prog w s.heap y v) (h : Q (decide (x = y)) s) : wpAny (model prog w) A (PySem.eqBool u v) Q E s := by
  cases x with
  | inl a => cases y with
    | inl b =>
      refine (iaKind prog w).eqBool (a := a) (b := b) hx hy ?_
      rw [show decide (a = b) = decide ((Sum.inl a : IK) = Sum.inl b) from decide_eq_decide.mpr ⟨fun e => by rw [e], fun e => Sum.inl.inj e⟩]
      exact h
    | inr bs =>
      obtain ⟨c, rfl, q⟩ := hy
      obtain ⟨items, ht⟩ := tk_isTuple q
      refine ia_tuple hu hx ht ?_
      rw [decide_eq_false (fun e => nomatch e)] at h
      exact h
  | inr as => cases y with
    | inl b =>
      obtain ⟨c, rfl, q⟩ := hx
      obtain ⟨items, ht⟩ := tk_isTuple q
      refine tuple_ia hu hy ht ?_
      rw [decide_eq_false (fun e => nomatch e)] at h
      exact h
    | inr bs =>
      obtain ⟨c, rfl, q⟩ := hx
      obtain ⟨d, rfl, q'⟩ := hy
      refine wpAny_eqBool_tuple (knd := iaKind prog w) hu q q' ?_
      rw [show decide (as = bs) = decide ((Sum.inr as : IK) = Sum.inr bs) from decide_eq_decide.mpr ⟨fun e => by rw [e], fun e => Sum.inr.inj e⟩]
      exact h
noncomputable def drawsT (ks : List IK) : Nat := (ks.map drawsK).sum + 1
theorem tk_pyHash {ks : List IK} {a : Addr} {Q : Int → Shared → Prop} (hu : A.units + 1 < cLine) (hk : IsTk prog w s.heap ks a) (h : Q (hashT ks) { s with toks := s.toks + drawsT ks }) :
    wpAny (model prog w) A (pyHash (.ref a)) Q E s := by
  have hT := hk.typeIs
  obtain ⟨o, items, n, ho, _, hd, hi⟩ := hk
  have hu0 : A.units < cLine := by omega
  unfold pyHash
  first | unfold pyHashByItsType | skip
  first | refine wpAny_bind (wpAny_cRoomFor_or (.inr hu0) ?_) | skip
  refine wpAny_bind (wpAny_specialOf hT F.slot_tuple_hash.lookup ?_)
  show wpAny _ _ (if (some (Value.builtin "tuple.__hash__") == some Value.none) = true then _ else _) Q E s
  rw [if_neg (by rw [beq_builtin_none]; exact Bool.false_ne_true)]
  refine wpAny_bind (wpAny_specialOf hT F.slot_tuple_hash.lookup ?_)
  show wpAny _ _ (callSpecialIfBoundUnlessNone? (.ref a) "__hash__" _ >>= _) Q E s
  refine wpAny_bind (wpAny_callSpecialIfBoundUnlessNone?_slot hT F.slot_tuple_hash (wpAny_call_entry F.slot_tuple_hash hT F.entry_tuple_hash ?_ (F.args_tuple_hash_1 _)))
  show wpAny _ _ (Builtin.Tuple.tupleItemsOf (.ref a) >>= _) _ _ s
  refine wpAny_bind (wpAny_tupleItemsOf ho hd ?_)
  refine wpAny_bind ?_
  rw [← Array.forIn_toList]
  refine wpAny_forIn_list _
    (fun rest (b : Array Int) s' => ∃ done left, ks = done ++ left ∧ Paired (ItemIs prog w s.heap) left rest ∧ b.toList = done.map hashIK ∧ s' = { s with toks := s.toks + (done.map drawsK).sum })
    _ ?_ ?_ _ _ ⟨[], ks, rfl, hi, rfl, rfl⟩
  · rintro x rest b s' ⟨done, left, rfl, hl, hb, rfl⟩
    cases hl with
    | @cons k _ ks' _ h1 hl' =>
      refine wpAny_bind (item_hash (k := k) hu h1 ?_)
      have e : (done.map drawsK).sum + drawsK k = ((done ++ [k]).map drawsK).sum := by simp
      first
        | exact wpAny_pure ⟨done ++ [k], ks', by simp, hl', by simp [hb], by rw [← e]; simp [Nat.add_assoc]⟩
        | exact wpAny_bind (wpAny_pure (wpAny_pure ⟨done ++ [k], ks', by simp, hl', by simp [hb], by rw [← e]; simp [Nat.add_assoc]⟩))
  · rintro b s' ⟨done, left, rfl, hl, hb, rfl⟩
    cases hl
    rw [List.append_nil] at h
    show wpAny _ _ (retInt (Builtin.Tuple.tupleHashOf b.toList)) _ _ _
    rw [hb]
    refine wpAny_ret_mkInt ?_
    show wpAny _ _ (if (decide (-(2 : Int) ^ 63 ≤ Builtin.Tuple.tupleHashOf (done.map hashIK)) && decide (Builtin.Tuple.tupleHashOf (done.map hashIK) < 2 ^ 63)) = true then _ else _) Q E _
    unfold hashT reduceHash drawsT at h
    by_cases hr : (decide (-(2 : Int) ^ 63 ≤ Builtin.Tuple.tupleHashOf (done.map hashIK)) && decide (Builtin.Tuple.tupleHashOf (done.map hashIK) < 2 ^ 63)) = true
    · rw [if_pos hr]
      rw [if_pos hr] at h
      exact wpAny_pure (by simpa [Nat.add_assoc] using h)
    · rw [if_neg hr]
      rw [if_neg hr] at h
      exact wpAny_bind (wpAny_rule (wpAny_pure (by simpa [Nat.add_assoc] using h)))
theorem tk_eq_tree {x y : List IK} {a b : Addr} {P : Fin → Shared → Prop} (hu : A.units < cLine) (hx : IsTk prog w s.heap x a) (hy : IsTk prog w s.heap y b) (h : P (.done (.ret (.bool (decide (x = y))))) s) :
    wpAny (model prog w) A (Builtin.«tuple.__eq__» ⟨[.ref a, .ref b], []⟩) P E s := by
  have hTb := hy.typeIs
  obtain ⟨oa, xs, na, hoa, _, hda, hia⟩ := hx
  obtain ⟨ob, ys, nb, hob, _, hdb, hib⟩ := hy
  show wpAny _ _ (isInstance (.ref b) (.type "tuple") >>= _) _ _ s
  refine wpAny_bind (wpAny_isInstance hTb isSubtype_tuple_tuple ?_)
  simp only [Bool.not_true, Bool.false_eq_true, if_false]
  refine wpAny_bind (wpAny_tupleItemsOf hoa hda ?_)
  refine wpAny_bind (wpAny_tupleItemsOf hob hdb ?_)
  refine wpAny_bind ?_
  refine wpAny_forIn_list _
    (fun rest r s' => r.1 = none ∧ s' = s ∧ ∃ x' y' xs' ys', rest = List.zip xs' ys' ∧ Paired (ItemIs prog w s.heap) x' xs' ∧ Paired (ItemIs prog w s.heap) y' ys' ∧ decide (x' = y') = decide (x = y) ∧ (xs'.length == ys'.length) = (xs.size == ys.size))
    _ ?_ ?_ _ _ ⟨rfl, rfl, x, y, xs.toList, ys.toList, rfl, hia, hib, rfl, by simp⟩
  · rintro ⟨u, v⟩ rest r s' ⟨hr, rfl, x', y', xs', ys', hz, hx', hy', hdec, hlen⟩
    cases hx' with
    | nil => simp at hz
    | @cons k1 u' x'' xs'' h1 hx'' =>
      cases hy' with
      | nil => simp at hz
      | @cons k2 v' y'' ys'' h2 hy'' =>
        simp only [List.zip_cons_cons, List.cons.injEq, Prod.mk.injEq] at hz
        obtain ⟨⟨rfl, rfl⟩, rfl⟩ := hz
        refine wpAny_bind (item_eq (x := k1) (y := k2) hu h1 h2 ?_)
        by_cases hk : k1 = k2
        · subst hk
          rw [decide_eq_true rfl]
          simp only [Bool.not_true, Bool.false_eq_true, if_false]
          refine wpAny_pure ⟨rfl, rfl, x'', y'', xs'', ys'', rfl, hx'', hy'', ?_, by simpa using hlen⟩
          rw [← hdec]
          by_cases hxy : x'' = y''
          · simp [hxy]
          · simp [hxy]
        · rw [decide_eq_false hk]
          simp only [Bool.not_false, if_true]
          have hf : decide (x = y) = false := by rw [← hdec]; simp [hk]
          rw [hf] at h
          exact wpAny_bind (wpAny_pure (wpAny_pure (wpAny_pure h)))
  · rintro ⟨r1, r2⟩ s' ⟨hr, rfl, x', y', xs', ys', hz, hx', hy', hdec, hlen⟩
    simp only at hr
    subst hr
    refine wpAny_pure ?_
    have hfin : (xs.size == ys.size) = decide (x = y) := by
      rw [← hdec, ← hlen]
      cases hx' with
      | nil =>
        cases hy' with
        | nil => simp
        | cons _ _ => simp
      | cons _ _ =>
        cases hy' with
        | nil => simp
        | cons _ _ => simp at hz
    show P (.done (.ret (.bool (xs.size == ys.size)))) s'
    rw [hfin]; exact h
theorem tk_eqBool {x y : List IK} {a b : Addr} {Q : Bool → Shared → Prop} (hu : A.units + 1 < cLine) (hx : IsTk prog w s.heap x a) (hy : IsTk prog w s.heap y b) (h : Q (decide (x = y)) s) :
    wpAny (model prog w) A (eqBool (.ref a) (.ref b)) Q E s := by
  unfold eqBool
  try with_reducible refine wpAny_holding ?_
  show wpAny _ _ (if (Value.ref a == Value.ref b) = true then _ else _) Q E s
  by_cases hab : (Value.ref a == Value.ref b) = true
  · rw [if_pos hab]
    have e : a = b := by have := eq_of_beq hab; injection this
    subst e
    obtain rfl := hx.inj hy
    exact wpAny_bind (wpAny_rule (wpAny_pure (by simpa using h)))
  · rw [if_neg hab]
    exact wpAny_bind (wpAny_richCompare_same_room (op := .Eq) hx.typeIs hy.typeIs F.slot_tuple_eq
      (wpAny_call_entry F.slot_tuple_eq hx.typeIs F.entry_tuple_eq (tk_eq_tree hu hx hy ⟨_, rfl, (fun e => nomatch e), wpAny_truthy_bool h⟩) (F.args_tuple_eq_2 _ _)) (by omega))
theorem quiet_tuple {n : Nat} {ks : List IA} {a : Addr} {Q : Bool → Shared → Prop} (hk : IsTupleKey (iaKind prog w) s.heap ks a) (h : Q true s) : wpAny (model prog w) A (eqIsQuiet (n + 1) (.ref a)) Q E s := by
  have hT := hk.typeIs
  obtain ⟨o, items, _, ho, _, hd, hi⟩ := hk
  unfold eqIsQuiet
  refine wpAny_bind (wpAny_specialOf hT F.slot_tuple_eq.lookup ?_)
  show wpAny _ _ (isInstance (.ref a) (.type "tuple") >>= _) _ _ s
  refine wpAny_bind (wpAny_isInstance hT isSubtype_tuple_tuple ?_)
  simp only [Bool.not_true, Bool.false_eq_true, if_false]
  refine wpAny_bind (wpAny_seqItems ho hd ?_)
  refine wpAny_bind ?_
  show wpAny _ _ (forIn items _ _) _ _ s
  rw [← Array.forIn_toList]
  refine wpAny_forIn_list _ (fun rest r s' => r.1 = none ∧ s' = s ∧ ∀ v ∈ rest, carriedByValue v = true) _ ?_ ?_ _ _ ⟨rfl, rfl, hi.byValue⟩
  · rintro v rest r s' ⟨hr, rfl, hall⟩
    rw [eqIsQuiet_byValue _ (hall v List.mem_cons_self)]
    refine wpAny_bind (wpAny_pure ?_)
    simp only [Bool.not_true, Bool.false_eq_true, if_false]
    exact wpAny_pure ⟨rfl, rfl, fun u hu' => hall u (List.mem_cons_of_mem _ hu')⟩
  · rintro ⟨r1, r2⟩ s' ⟨hr, rfl, _⟩
    simp only at hr
    subst hr
    exact wpAny_pure h
theorem tk_quiet {ks : List IK} {a : Addr} {Q : Bool → Shared → Prop} (hk : IsTk prog w s.heap ks a) (h : Q true s) : wpAny (model prog w) A (eqIsQuiet 8 (.ref a)) Q E s := by
  have hT := hk.typeIs
  obtain ⟨o, items, n, ho, _, hd, hi⟩ := hk
  unfold eqIsQuiet
  refine wpAny_bind (wpAny_specialOf hT F.slot_tuple_eq.lookup ?_)
  show wpAny _ _ (isInstance (.ref a) (.type "tuple") >>= _) _ _ s
  refine wpAny_bind (wpAny_isInstance hT isSubtype_tuple_tuple ?_)
  simp only [Bool.not_true, Bool.false_eq_true, if_false]
  refine wpAny_bind (wpAny_seqItems ho hd ?_)
  refine wpAny_bind ?_
  show wpAny _ _ (forIn items _ _) _ _ s
  rw [← Array.forIn_toList]
  refine wpAny_forIn_list _ (fun rest r s' => r.1 = none ∧ s' = s ∧ ∃ ks, Paired (ItemIs prog w s.heap) ks rest) _ ?_ ?_ _ _ ⟨rfl, rfl, ks, hi⟩
  · rintro v rest r s' ⟨hr, rfl, ks, hall⟩
    cases hall with
    | @cons k _ ks' _ h1 hl =>
      refine wpAny_bind ?_
      have fin : wpAny (model prog w) A (eqIsQuiet 7 v) (fun b s2 => b = true ∧ s2 = s') E s' := by
        cases k with
        | inl a' => rw [eqIsQuiet_byValue _ ((iaKind prog w).byValue _ _ h1)]; exact wpAny_pure ⟨rfl, rfl⟩
        | inr as => obtain ⟨b, rfl, q⟩ := h1; exact quiet_tuple (n := 6) q ⟨rfl, rfl⟩
      refine wpAny_mono fin (fun b s2 ⟨e1, e2⟩ => ?_) fun _ _ x => x
      subst e1 e2
      simp only [Bool.not_true, Bool.false_eq_true, if_false]
      exact wpAny_pure ⟨rfl, rfl, ks', hl⟩
  · rintro ⟨r1, r2⟩ s' ⟨hr, rfl, _⟩
    simp only at hr
    subst hr
    exact wpAny_pure h
end
noncomputable def tkKind (prog : Program) (w : World) : HeapKind prog w (List IK) where
  is := IsTk prog w
  hash := hashT
  draws := drawsT
  room := fun A => A.units + 1 < cLine
  inj := fun hx hy => hx.inj hy
  keeps := fun x ho hd hs => x.keeps ho hd hs
  pyHash := fun hu hk h => tk_pyHash hu hk h
  eqBool := fun hu hx hy h => tk_eqBool hu hx hy h
  quiet := fun hk h => tk_quiet hk h
/-! ### a dict with such keys -/
noncomputable def DA (a : Addr) (kvs : List (IA × V)) (h : Heap) : Prop := kvs.length ≤ sizeLine ∧ (a == sysModules) = false ∧ ∃ (P : Program) (w : World) (vs : List (IA × Value)), KV kvs vs ∧ h.DictOf (iaKind P w) a vs
noncomputable def ZX : List (List IK × Addr × V) → List (List IK × Addr × Value) → Prop := Paired fun z x => z.1 = x.1 ∧ z.2.1 = x.2.1 ∧ RelV z.2.2 x.2.2
noncomputable def DB (a : Addr) (zs : List (List IK × Addr × V)) (h : Heap) : Prop := zs.length ≤ sizeLine ∧ (a == sysModules) = false ∧ ∃ xs : List (List IK × Addr × Value), ZX zs xs ∧
  ∃ o es ep, h.get? a = some o ∧ o.ExactDict ∧ o.data = .dict es ep ∧ es.toList = xs.map (fun x => ⟨hashT x.1, .ref x.2.1, x.2.2⟩) ∧ (xs.map (·.1)).Nodup
noncomputable def dA (a : Addr) (kvs : List (IA × V)) : HO := .ext (DA a kvs)
noncomputable def dB (a : Addr) (zs : List (List IK × Addr × V)) : HO := .ext (DB a zs)
noncomputable def atZ (zs : List (List IK × Addr × V)) (k : List IK) : Option V := (zs.find? fun p => decide (p.1 = k)).map (·.2.2)
noncomputable def Dx (H : Hp) (a : Addr) (s : Bool) (f : MK → Option V) (n : Nat) : Prop :=
  (s = false ∧ ∃ kvs, H a = some (dA a kvs) ∧ (∀ k, valV kvs k = f (.inl k)) ∧ kvs.length ≤ n) ∨
  (s = true ∧ ∃ zs, H a = some (dB a zs) ∧ (∀ z ∈ zs, KeyV H (.ref z.2.1) (.inr z.1)) ∧ (∀ k, atZ zs k = f (.inr k)) ∧ zs.length ≤ n)
section
variable {H H' : Hp} {a b : Addr} {s : Bool} {f g : MK → Option V} {n m : Nat}
theorem Dx.ext (h : Dx H a s f n) : ∃ φ, H a = some (.ext φ) := by
  rcases h with ⟨_, kvs, e, _⟩ | ⟨_, zs, e, _⟩
  · exact ⟨_, e⟩
  · exact ⟨_, e⟩
theorem Dx.keep (h : Dx H a s f n) (e : H' a = H a) (kp : Keep H H') : Dx H' a s f n := by
  rcases h with ⟨hs, kvs, h1, h2⟩ | ⟨hs, zs, h1, h2, h3⟩
  · exact .inl ⟨hs, kvs, e.trans h1, h2⟩
  · exact .inr ⟨hs, zs, e.trans h1, fun z hz => (h2 z hz).keep kp, h3⟩
theorem Dx.same (h : Dx H a s f n) (q : Same H H') : Dx H' a s f n := by
  obtain ⟨φ, h1⟩ := h.ext
  exact h.keep ((q _ _ h1).trans h1.symm) q.keep
theorem Dx.ne_lst {xs : List V} (h : Dx H a s f n) (e : H b = some (.lst xs)) : b ≠ a := by
  obtain ⟨φ, h1⟩ := h.ext
  exact ne_of e h1 (fun z => nomatch z)
theorem Dx.ne_tup {xs : List V} (h : Dx H a s f n) (e : H b = some (.tup xs)) : b ≠ a := by
  obtain ⟨φ, h1⟩ := h.ext
  exact ne_of e h1 (fun z => nomatch z)
theorem Dx.le (h : Dx H a s f n) (e : n ≤ m) : Dx H a s f m := by
  rcases h with ⟨hs, kvs, h1, h2, h3⟩ | ⟨hs, zs, h1, h2, h3, h4⟩
  · exact .inl ⟨hs, kvs, h1, h2, Nat.le_trans h3 e⟩
  · exact .inr ⟨hs, zs, h1, h2, h3, Nat.le_trans h4 e⟩
theorem Dx.congr (h : Dx H a s f n) (e : ∀ k, f k = g k) : Dx H a s g n := by
  rcases h with ⟨hs, kvs, h1, h2, h3⟩ | ⟨hs, zs, h1, h2, h3, h4⟩
  · exact .inl ⟨hs, kvs, h1, fun k => (h2 k).trans (e _), h3⟩
  · exact .inr ⟨hs, zs, h1, h2, fun k => (h3 k).trans (e _), h4⟩
end
end L2

end

section
-- KcMapR
set_option Elab.async false
set_option linter.all false
set_option maxRecDepth 100000
set_option maxHeartbeats 4000000
namespace L2
open PySem PyProof.Rows
theorem Dx.off {H H' : Hp} {a l : Addr} {s : Bool} {f : MK → Option V} {n : Nat} {xs : List V} (h : Dx H a s f n) (e : H l = some (.lst xs)) (o : Off l H H') : Dx H' a s f n :=
  h.keep (o a (h.ne_lst e).symm) (o.keep e)
theorem Dx.offK {H H' : Hp} {a : Addr} {s : Bool} {f : MK → Option V} {n : Nat} (h : Dx H a s f n) (o : Off a H H') : Keep H H' := o.keepD fun xs e => h.ne_tup e rfl
noncomputable def mDnewX : TE := fun _ H Q => ∃ s, ∀ p H', H p = none → Same H H' → Dx H' p s (fun _ => none) 0 → Q (.ref p) H'
theorem m_dnewX {σ : St} {H : Hp} {Q : VK} (s : Bool) (h : ∀ p H', H p = none → Same H H' → Dx H' p s (fun _ => none) 0 → Q (.ref p) H') : mDnewX σ H Q := ⟨s, h⟩
noncomputable def rXIn (neg : Bool) : R2 := fun y x H Q => ∃ a s f n k, x = .ref a ∧ Dx H a s f n ∧ KeyV H y k ∧ kSort k = s ∧ Q (.bl (if neg then (f k).isNone else (f k).isSome)) H
noncomputable def rXGet : R2 := fun x y H Q => ∃ a s f n k v, x = .ref a ∧ Dx H a s f n ∧ KeyV H y k ∧ kSort k = s ∧ f k = some v ∧ Q v H
noncomputable def putF_ (f : MK → Option V) (k : MK) (v : V) : MK → Option V := fun j => if j = k then some v else f j
noncomputable def rXSet : TSet := fun o i v H R => ∃ a s f n k, o = .ref a ∧ Dx H a s f n ∧ KeyV H i k ∧ kSort k = s ∧ n < sizeLine ∧ ∀ H', Off a H H' → Dx H' a s (putF_ f k v) (n + 1) → R H'
noncomputable def rXSetd : V → List V → Hp → VK → Prop := fun x ys H Q => ∃ a s f n k y v, x = .ref a ∧ ys = [y, v] ∧ Dx H a s f n ∧ KeyV H y k ∧ kSort k = s ∧ n < sizeLine ∧ (∀ u, f k = some u → Q u H) ∧
  (f k = none → ∀ H', Off a H H' → Dx H' a s (putF_ f k v) (n + 1) → Q v H')
noncomputable def tXM (r : V → List V → Hp → VK → Prop) (to : TE) (t : TA) : TE := fun σ H Q => to σ H fun x H1 => (∃ a s f n, x = .ref a ∧ Dx H1 a s f n) ∧ t σ H1 fun ys H2 => r x ys H2 Q
section
variable {σ : St} {H : Hp} {Q : VK} {a : Addr} {s : Bool} {f : MK → Option V} {n : Nat} {k : MK} {y v : V}
theorem r_xnotin (d : Dx H a s f n) (hk : KeyV H y k) (hs : kSort k = s) (h : Q (.bl (f k).isNone) H) : rXIn true y (.ref a) H Q := ⟨a, s, f, n, k, rfl, d, hk, hs, h⟩
theorem r_xget (d : Dx H a s f n) (hk : KeyV H y k) (hs : kSort k = s) (e : f k = some v) (h : Q v H) : rXGet (.ref a) y H Q := ⟨a, s, f, n, k, v, rfl, d, hk, hs, e, h⟩
theorem r_xset {R : Hp → Prop} (d : Dx H a s f n) (hk : KeyV H y k) (hs : kSort k = s) (hn : n < sizeLine) (h : ∀ H', Off a H H' → Dx H' a s (putF_ f k v) (n + 1) → R H') : rXSet (.ref a) y v H R := ⟨a, s, f, n, k, rfl, d, hk, hs, hn, h⟩
theorem r_xsetd (d : Dx H a s f n) (hk : KeyV H y k) (hs : kSort k = s) (hn : n < sizeLine) (h1 : ∀ u, f k = some u → Q u H) (h2 : f k = none → ∀ H', Off a H H' → Dx H' a s (putF_ f k v) (n + 1) → Q v H') : rXSetd (.ref a) [y, v] H Q := ⟨a, s, f, n, k, y, v, rfl, rfl, d, hk, hs, hn, h1, h2⟩
theorem r_xm {r : V → List V → Hp → VK → Prop} {to : TE} {t : TA} (h : to σ H fun x H1 => (∃ a s f n, x = .ref a ∧ Dx H1 a s f n) ∧ t σ H1 fun ys H2 => r x ys H2 Q) : tXM r to t σ H Q := h
end
/-! what the firsts are behind i of the keys -/
section
variable {α : Type} [DecidableEq α] {ks : List α} {i : Nat} {k : α}
noncomputable def firsts (ks : List α) (i : Nat) : α → Option V := fun k => if k ∈ ks.take i then some (.int (ks.idxOf k : Nat)) else none
theorem firsts_old (hk : ks[i]? = some k) (h : k ∈ ks.take i) (j : α) : firsts ks i j = firsts ks (i + 1) j := by
  unfold firsts
  rw [take_snoc hk]
  by_cases q : j ∈ ks.take i
  · rw [if_pos q, if_pos (List.mem_append_left _ q)]
  · rw [if_neg q, if_neg]
    intro z
    rcases List.mem_append.mp z with z | z
    · exact q z
    · rw [List.mem_singleton.mp z] at q; exact q h
theorem firsts_new (hk : ks[i]? = some k) (h : k ∉ ks.take i) (j : α) : (if j = k then some (V.int (i : Nat)) else firsts ks i j) = firsts ks (i + 1) j := by
  unfold firsts
  rw [take_snoc hk]
  by_cases q : j = k
  · subst q
    rw [if_pos rfl, if_pos (by simp), idxOf_new hk h]
  · rw [if_neg q]
    by_cases z : j ∈ ks.take i
    · rw [if_pos z, if_pos (List.mem_append_left _ z)]
    · rw [if_neg z, if_neg]
      intro w
      rcases List.mem_append.mp w with w | w
      · exact z w
      · exact q (List.mem_singleton.mp w)
theorem firsts_at (h : k ∈ ks.take i) : firsts ks i k = some (.int (ks.idxOf k : Nat)) := if_pos h
theorem firsts_none (h : k ∉ ks.take i) : firsts ks i k = none := if_neg h
theorem mem_take_at (hk : ks[i]? = some k) : k ∈ ks.take (i + 1) := by rw [take_snoc hk]; simp
theorem firsts_zero (k : α) : none = firsts ks 0 k := (if_neg (by simp)).symm
theorem leastOf_snoc (hk : ks[i]? = some k) : (leastOf ks).take (i + 1) = (leastOf ks).take i ++ [ks.idxOf k] := take_snoc (by unfold leastOf; rw [List.getElem?_map, hk]; rfl)
end
end L2

end

section
-- KcMath
set_option linter.all false
namespace KM
noncomputable def fact : Nat → Nat
  | 0 => 1
  | n + 1 => fact n * (n + 1)
noncomputable def choose : Nat → Nat → Nat
  | _, 0 => 1
  | 0, _ + 1 => 0
  | n + 1, k + 1 => choose n k + choose n (k + 1)
theorem fact_pos : ∀ n, 0 < fact n
  | 0 => by decide
  | n + 1 => Nat.mul_pos (fact_pos n) (Nat.succ_pos n)
theorem choose_zero (n : Nat) : choose n 0 = 1 := by cases n <;> rfl
theorem choose_gt : ∀ (n k : Nat), n < k → choose n k = 0
  | _, 0, h => absurd h (Nat.not_lt_zero _)
  | 0, _ + 1, _ => rfl
  | n + 1, k + 1, h => by rw [choose, choose_gt n k (by omega), choose_gt n (k + 1) (by omega)]
theorem choose_self : ∀ n, choose n n = 1
  | 0 => rfl
  | n + 1 => by rw [choose, choose_self n, choose_gt n (n + 1) (by omega)]
theorem choose_fact : ∀ (n k : Nat), k ≤ n → choose n k * (fact k * fact (n - k)) = fact n
  | n, 0, _ => by rw [choose_zero, fact, Nat.sub_zero, Nat.one_mul, Nat.one_mul]
  | 0, _ + 1, h => absurd h (by omega)
  | n + 1, k + 1, h => by
    rw [choose, Nat.add_mul]
    by_cases hk : k = n
    · subst hk
      rw [choose_self, choose_gt k (k + 1) (by omega), Nat.sub_self]
      simp [fact]
    · have hk' : k + 1 ≤ n := by omega
      have e1 := choose_fact n k (by omega)
      have e2 := choose_fact n (k + 1) hk'
      have s1 : n + 1 - (k + 1) = n - k := by omega
      have s2 : n - k = (n - (k + 1)) + 1 := by omega
      rw [s1]
      have a1 : choose n k * (fact (k + 1) * fact (n - k)) = (k + 1) * fact n := by
        rw [← e1, fact]
        simp only [Nat.mul_assoc, Nat.mul_comm, Nat.mul_left_comm]
      have a2 : choose n (k + 1) * (fact (k + 1) * fact (n - k)) = (n - k) * fact n := by
        have s3 : fact (n - k) = fact (n - (k + 1)) * (n - k) := by
          rw [s2, fact, ← s2]
        rw [← e2, s3]
        simp only [Nat.mul_assoc, Nat.mul_comm, Nat.mul_left_comm]
      rw [a1, a2, ← Nat.add_mul, fact, Nat.mul_comm]
      congr 1
      omega
theorem choose_step (n k : Nat) (h : k + 1 ≤ n) : choose n k * (n - k) / (k + 1) = choose n (k + 1) := by
  have e1 := choose_fact n k (by omega)
  have e2 := choose_fact n (k + 1) h
  have s2 : n - k = (n - (k + 1)) + 1 := by omega
  have p : 0 < fact k * fact (n - (k + 1)) := Nat.mul_pos (fact_pos _) (fact_pos _)
  have q : choose n k * (n - k) = choose n (k + 1) * (k + 1) := by
    have : choose n k * (n - k) * (fact k * fact (n - (k + 1))) = choose n (k + 1) * (k + 1) * (fact k * fact (n - (k + 1))) := by
      have l : choose n k * (n - k) * (fact k * fact (n - (k + 1))) = fact n := by
        rw [← e1, show fact (n - k) = fact (n - (k + 1)) * (n - k) by rw [s2, fact, ← s2]]
        simp only [Nat.mul_assoc, Nat.mul_comm, Nat.mul_left_comm]
      have r : choose n (k + 1) * (k + 1) * (fact k * fact (n - (k + 1))) = fact n := by
        rw [← e2, fact]
        simp only [Nat.mul_assoc, Nat.mul_comm, Nat.mul_left_comm]
      rw [l, r]
    exact Nat.eq_of_mul_eq_mul_right p this
  rw [q, Nat.mul_div_cancel _ (Nat.succ_pos k)]
noncomputable def multi : Nat → List Nat → Nat
  | _, [] => 1
  | n, s :: r => choose n s * multi (n - s) r
theorem multi_fact : ∀ (ss : List Nat) (n : Nat), ss.sum ≤ n → multi n ss * ((ss.map fact).foldr (· * ·) 1 * fact (n - ss.sum)) = fact n
  | [], n, _ => by simp [multi]
  | s :: r, n, h => by
    rw [List.sum_cons] at h
    have ih := multi_fact r (n - s) (by omega)
    have c := choose_fact n s (by omega)
    rw [multi, List.map_cons, List.foldr_cons, List.sum_cons, ← c, ← ih, Nat.sub_sub]
    simp only [Nat.mul_assoc, Nat.mul_comm, Nat.mul_left_comm]
end KM

end

section
-- KcDeal
set_option linter.all false
namespace KM
/-! ### deals, built card by card -/
noncomputable def nexts (room : List Nat) (w : List Nat) : List Nat := (List.range room.length).filter fun j => decide (w.count j < room.getD j 0)
noncomputable def grow (room : List Nat) (ws : List (List Nat)) : List (List Nat) := ws.flatMap fun w => (nexts room w).map fun j => w ++ [j]
noncomputable def level (room : List Nat) : Nat → List (List Nat)
  | 0 => [[]]
  | i + 1 => grow room (level room i)
noncomputable def words : Nat → List Nat → Nat
  | 0, _ => 1
  | n + 1, r => (((List.range r.length).filter fun j => decide (0 < r.getD j 0)).map fun j => words n (r.set j (r.getD j 0 - 1))).sum
noncomputable def left (room w : List Nat) : List Nat := (List.range room.length).map fun j => room.getD j 0 - w.count j
theorem left_len (room w : List Nat) : (left room w).length = room.length := by unfold left; rw [List.length_map, List.length_range]
theorem left_get (room w : List Nat) (j : Nat) (h : j < room.length) : (left room w).getD j 0 = room.getD j 0 - w.count j := by
  unfold left
  rw [List.getD_eq_getElem?_getD, List.getElem?_map, List.getElem?_range h]
  rfl
theorem left_snoc (room w : List Nat) (j : Nat) (h : j < room.length) : left room (w ++ [j]) = (left room w).set j ((left room w).getD j 0 - 1) := by
  apply List.ext_getElem?
  intro k
  by_cases hk : k < room.length
  · have e1 : (left room (w ++ [j]))[k]? = some (room.getD k 0 - (w ++ [j]).count k) := by
      unfold left
      rw [List.getElem?_map, List.getElem?_range hk]
      rfl
    rw [e1, List.getElem?_set, left_get room w j h, left_len]
    by_cases hjk : j = k
    · subst hjk
      rw [if_pos rfl, if_pos h, List.count_append]
      simp
      omega
    · rw [if_neg hjk]
      unfold left
      rw [List.getElem?_map, List.getElem?_range hk, List.count_append]
      simp [List.count_cons, hjk]
  · rw [List.getElem?_eq_none (by rw [left_len]; omega), List.getElem?_eq_none (by rw [List.length_set, left_len]; omega)]
theorem nexts_left (room w : List Nat) : nexts room w = (List.range (left room w).length).filter fun j => decide (0 < (left room w).getD j 0) := by
  unfold nexts
  rw [left_len]
  apply List.filter_congr
  intro j hj
  rw [List.mem_range] at hj
  rw [left_get room w j hj]
  by_cases h : w.count j < room.getD j 0
  · simp [h]
    omega
  · simp [h]
    omega
noncomputable def growN (room : List Nat) : Nat → List (List Nat) → List (List Nat)
  | 0, ws => ws
  | n + 1, ws => growN room n (grow room ws)
theorem growN_level (room : List Nat) : ∀ n i, growN room n (level room i) = level room (i + n)
  | 0, i => rfl
  | n + 1, i => by
    rw [growN, show grow room (level room i) = level room (i + 1) from rfl, growN_level room n (i + 1)]
    congr 1
    omega
theorem sum_flatMap_len (f : List Nat → Nat) (room : List Nat) : ∀ ws : List (List Nat), ((grow room ws).map f).sum = (ws.map fun w => ((nexts room w).map fun j => f (w ++ [j])).sum).sum
  | [] => rfl
  | w :: r => by
    have ih := sum_flatMap_len f room r
    unfold grow at ih ⊢
    rw [List.flatMap_cons, List.map_append, List.sum_append, ih, List.map_cons, List.sum_cons, List.map_map]
    rfl
theorem growN_len (room : List Nat) : ∀ (n : Nat) (ws : List (List Nat)), (growN room n ws).length = (ws.map fun w => words n (left room w)).sum
  | 0, ws => by
    rw [growN]
    induction ws with
    | nil => rfl
    | cons w r ih => rw [List.length_cons, ih, List.map_cons, List.sum_cons, words]; omega
  | n + 1, ws => by
    rw [growN, growN_len room n, sum_flatMap_len]
    congr 1
    apply List.map_congr_left
    intro w _
    rw [words, nexts_left]
    congr 1
    apply List.map_congr_left
    intro j hj
    have hj' := List.mem_filter.mp hj
    rw [List.mem_range, left_len] at hj'
    rw [left_snoc room w j hj'.1]
/-! the words are counted by the factorials -/
noncomputable def prodF (r : List Nat) : Nat := (r.map fact).foldr (· * ·) 1
theorem prodF_cons (a : Nat) (r : List Nat) : prodF (a :: r) = fact a * prodF r := rfl
theorem prodF_pos : ∀ r, 0 < prodF r
  | [] => by decide
  | a :: r => Nat.mul_pos (fact_pos a) (prodF_pos r)
theorem prodF_set : ∀ (r : List Nat) (j : Nat), j < r.length → 0 < r.getD j 0 → prodF r = prodF (r.set j (r.getD j 0 - 1)) * r.getD j 0
  | [], j, h, _ => absurd h (by simp)
  | a :: r, 0, _, h => by
    have h' : 0 < a := h
    show prodF (a :: r) = prodF ((a - 1) :: r) * a
    rw [prodF_cons, prodF_cons]
    obtain ⟨b, rfl⟩ : ∃ b, a = b + 1 := ⟨a - 1, by omega⟩
    rw [show b + 1 - 1 = b by omega, fact]
    simp only [Nat.mul_assoc, Nat.mul_comm, Nat.mul_left_comm]
  | a :: r, j + 1, h, hp => by
    have ih := prodF_set r j (by simpa using h) hp
    show prodF (a :: r) = prodF (a :: r.set j (r.getD j 0 - 1)) * r.getD j 0
    rw [prodF_cons, prodF_cons, ih]
    simp only [Nat.mul_assoc, Nat.mul_comm, Nat.mul_left_comm]
theorem sum_set : ∀ (r : List Nat) (j : Nat), j < r.length → 0 < r.getD j 0 → (r.set j (r.getD j 0 - 1)).sum + 1 = r.sum
  | [], j, h, _ => absurd h (by simp)
  | a :: r, 0, _, h => by
    have h' : 0 < a := h
    show ((a - 1) :: r).sum + 1 = (a :: r).sum
    rw [List.sum_cons, List.sum_cons]
    omega
  | a :: r, j + 1, h, hp => by
    have ih := sum_set r j (by simpa using h) hp
    show (a :: r.set j (r.getD j 0 - 1)).sum + 1 = (a :: r).sum
    rw [List.sum_cons, List.sum_cons]
    omega
theorem sum_mul (c : Nat) (f : Nat → Nat) : ∀ l : List Nat, (l.map f).sum * c = (l.map fun j => f j * c).sum
  | [] => by simp
  | a :: r => by rw [List.map_cons, List.sum_cons, Nat.add_mul, sum_mul c f r, List.map_cons, List.sum_cons]
theorem sum_pos_only (r : List Nat) : (((List.range r.length).filter fun j => decide (0 < r.getD j 0)).map fun j => r.getD j 0).sum = r.sum := by
  have go : ∀ (l : List Nat) (g : Nat → Nat), ((l.filter fun j => decide (0 < g j)).map g).sum = (l.map g).sum := by
    intro l g
    induction l with
    | nil => rfl
    | cons a t ih =>
      rw [List.filter_cons]
      by_cases h : 0 < g a
      · rw [if_pos (by simpa using h), List.map_cons, List.sum_cons, ih, List.map_cons, List.sum_cons]
      · rw [if_neg (by simpa using h), ih, List.map_cons, List.sum_cons]
        omega
  rw [go]
  congr 1
  apply List.ext_getElem?
  intro k
  rw [List.getElem?_map]
  by_cases hk : k < r.length
  · rw [List.getElem?_range hk, List.getElem?_eq_getElem hk]
    show some (r.getD k 0) = some r[k]
    rw [List.getD_eq_getElem?_getD, List.getElem?_eq_getElem hk]
    rfl
  · rw [List.getElem?_eq_none (by simpa using hk), List.getElem?_eq_none (by simpa using hk)]
    rfl
theorem words_fact : ∀ (n : Nat) (r : List Nat), r.sum = n → words n r * prodF r = fact n
  | 0, r, h => by
    have : prodF r = 1 := by
      induction r with
      | nil => rfl
      | cons a t ih =>
        rw [List.sum_cons] at h
        have ha : a = 0 := by omega
        subst ha
        rw [prodF_cons, ih (by omega)]
        rfl
    rw [words, this]
    rfl
  | n + 1, r, h => by
    rw [words, sum_mul]
    have e : ((List.range r.length).filter fun j => decide (0 < r.getD j 0)).map (fun j => words n (r.set j (r.getD j 0 - 1)) * prodF r) = ((List.range r.length).filter fun j => decide (0 < r.getD j 0)).map (fun j => r.getD j 0 * fact n) := by
      apply List.map_congr_left
      intro j hj
      have hj' := List.mem_filter.mp hj
      rw [List.mem_range] at hj'
      have hp : 0 < r.getD j 0 := of_decide_eq_true hj'.2
      rw [prodF_set r j hj'.1 hp, ← Nat.mul_assoc, words_fact n _ (by have := sum_set r j hj'.1 hp; omega), Nat.mul_comm]
    rw [e, ← sum_mul, sum_pos_only, h, fact, Nat.mul_comm]
theorem left_nil (room : List Nat) : left room [] = room := by
  apply List.ext_getElem?
  intro k
  unfold left
  rw [List.getElem?_map]
  by_cases hk : k < room.length
  · rw [List.getElem?_range hk, List.getElem?_eq_getElem hk]
    show some (room.getD k 0 - ([] : List Nat).count k) = some room[k]
    rw [List.getD_eq_getElem?_getD, List.getElem?_eq_getElem hk]
    simp
  · rw [List.getElem?_eq_none (by simpa using hk), List.getElem?_eq_none (by simpa using hk)]
    rfl
theorem level_len (room : List Nat) : (level room room.sum).length * prodF room = fact room.sum := by
  have e := growN_level room room.sum 0
  rw [Nat.zero_add] at e
  rw [← e, growN_len]
  show (List.map (fun w => words room.sum (left room w)) [[]]).sum * prodF room = fact room.sum
  rw [List.map_cons, List.map_nil, List.sum_cons, List.sum_nil, left_nil, Nat.add_zero]
  exact words_fact _ _ rfl
/-! ### what holds of each beginning -/
structure Begun (room : List Nat) (i : Nat) (w : List Nat) : Prop where
  len : w.length = i
  all : ∀ j ∈ w, j < room.length
  cnt : ∀ j, j < room.length → w.count j ≤ room.getD j 0
theorem level_begun (room : List Nat) : ∀ i, ∀ w ∈ level room i, Begun room i w
  | 0, w, h => by
    have : w = [] := by simpa [level] using h
    subst this
    exact ⟨rfl, fun _ h => (nomatch h), fun j _ => by simp⟩
  | i + 1, w, h => by
    rw [level, grow, List.mem_flatMap] at h
    obtain ⟨v, hv, h⟩ := h
    obtain ⟨j, hj, rfl⟩ := List.mem_map.mp h
    have b := level_begun room i v hv
    have hj' := List.mem_filter.mp hj
    rw [List.mem_range] at hj'
    have hc : v.count j < room.getD j 0 := of_decide_eq_true hj'.2
    refine ⟨by rw [List.length_append, b.len]; rfl, fun k hk => ?_, fun k hk => ?_⟩
    · rcases List.mem_append.mp hk with hk | hk
      · exact b.all k hk
      · rw [List.mem_singleton] at hk
        omega
    · rw [List.count_append]
      by_cases e : j = k
      · subst e
        rw [List.count_singleton_self]
        omega
      · have := b.cnt k hk
        rw [List.count_singleton, if_neg (by simpa using e)]
        omega
theorem sum_counts : ∀ (n : Nat) (w : List Nat), (∀ j ∈ w, j < n) → ((List.range n).map fun j => w.count j).sum = w.length
  | n, [] , _ => by
    have : ((List.range n).map fun j => ([] : List Nat).count j) = (List.range n).map fun _ => 0 := by simp
    rw [this]
    have go : ∀ m, ((List.range m).map fun _ => 0).sum = 0 := by
      intro m
      induction m with
      | zero => rfl
      | succ m ih => rw [List.range_succ, List.map_append, List.sum_append, ih]; rfl
    exact go n
  | n, a :: w, h => by
    have ih := sum_counts n w fun j hj => h j (List.mem_cons_of_mem _ hj)
    have ha : a < n := h a List.mem_cons_self
    rw [List.length_cons, ← ih]
    clear ih h
    have go : ∀ m, ((List.range m).map fun j => (a :: w).count j).sum = ((List.range m).map fun j => w.count j).sum + (if a < m then 1 else 0) := by
      intro m
      induction m with
      | zero => simp
      | succ m ih =>
        rw [List.range_succ, List.map_append, List.sum_append, List.map_append, List.sum_append, ih]
        simp only [List.map_cons, List.map_nil, List.sum_cons, List.sum_nil, List.count_cons]
        by_cases e : a = m
        · subst e
          rw [if_neg (Nat.lt_irrefl a), if_pos (Nat.lt_succ_self a), if_pos (beq_self_eq_true a)]
          omega
        · rw [if_neg (show ¬ (a == m) = true by simpa using e)]
          by_cases hl : a < m
          · rw [if_pos hl, if_pos (show a < m + 1 by omega)]
            omega
          · rw [if_neg hl, if_neg (show ¬ a < m + 1 by omega)]
            omega
    rw [go, if_pos ha]
theorem range_getD (room : List Nat) : (List.range room.length).map (fun j => room.getD j 0) = room := by
  apply List.ext_getElem?
  intro k
  rw [List.getElem?_map]
  by_cases hk : k < room.length
  · rw [List.getElem?_range hk, List.getElem?_eq_getElem hk]
    show some (room.getD k 0) = some room[k]
    rw [List.getD_eq_getElem?_getD, List.getElem?_eq_getElem hk]
    rfl
  · rw [List.getElem?_eq_none (by simpa using hk), List.getElem?_eq_none (by simpa using hk)]
    rfl
/-! ### their order -/
end KM

end

section
-- KcNum
set_option linter.all false
namespace KM
theorem choose_le (n k : Nat) : choose n k ≤ 2 ^ n := by
  induction n generalizing k with
  | zero => cases k <;> simp [choose]
  | succ n ih =>
    cases k with
    | zero => rw [choose_zero]; exact Nat.one_le_two_pow
    | succ k =>
      rw [choose, Nat.pow_succ]
      have := ih k
      have := ih (k + 1)
      omega
theorem choose_stepZ {n i : Nat} (h : i + 1 ≤ n) : ((choose n i : Nat) : Int) * ((n : Int) - (0 + (i : Int))) / (0 + (i : Int) + 1) = ((choose n (i + 1) : Nat) : Int) := by
  have e1 : (n : Int) - (0 + (i : Int)) = ((n - i : Nat) : Int) := by omega
  have e2 : (0 + (i : Int) + 1) = ((i + 1 : Nat) : Int) := by omega
  rw [e1, e2, ← Int.natCast_mul, ← Int.natCast_ediv, choose_step n i h]
theorem prodF_multi (n : Nat) (ss : List Nat) (h : ss.sum ≤ n) : multi n ss * prodF (ss ++ [n - ss.sum]) = fact n := by
  have e : prodF (ss ++ [n - ss.sum]) = (ss.map fact).foldr (· * ·) 1 * fact (n - ss.sum) := by
    generalize n - ss.sum = k
    induction ss with
    | nil => simp [prodF]
    | cons a r ih =>
      have hr : r.sum ≤ n := by rw [List.sum_cons] at h; omega
      show fact a * prodF (r ++ [k]) = fact a * (r.map fact).foldr (· * ·) 1 * fact k
      rw [ih hr, Nat.mul_assoc]
  rw [e]
  exact multi_fact ss n h
theorem level_multi {n : Nat} {ss : List Nat} (h : ss.sum ≤ n) : (level (ss ++ [n - ss.sum]) n).length = multi n ss := by
  have e1 := prodF_multi n ss h
  have hs : (ss ++ [n - ss.sum]).sum = n := by
    rw [List.sum_append, List.sum_cons, List.sum_nil]
    omega
  have e2 := level_len (ss ++ [n - ss.sum])
  rw [hs] at e2
  exact Nat.eq_of_mul_eq_mul_right (prodF_pos _) (e2.trans e1.symm)
theorem words_pos (n : Nat) (r : List Nat) (h : r.sum = n) : 0 < words n r := by
  have e := words_fact n r h
  have f := fact_pos n
  rcases Nat.eq_zero_or_pos (words n r) with z | z
  · rw [z, Nat.zero_mul] at e
    omega
  · exact z
theorem left_sum {room w : List Nat} {i : Nat} (h : Begun room i w) : (left room w).sum + i = room.sum := by
  have go : ∀ m, m ≤ room.length → ((List.range m).map fun j => room.getD j 0 - w.count j).sum + ((List.range m).map fun j => w.count j).sum = ((List.range m).map fun j => room.getD j 0).sum := by
    intro m
    induction m with
    | zero => intro _; rfl
    | succ m ih =>
      intro hm
      have := ih (by omega)
      have := h.cnt m (by omega)
      simp only [List.range_succ, List.map_append, List.sum_append, List.map_cons, List.map_nil, List.sum_cons, List.sum_nil] at *
      omega
  have e := go room.length (Nat.le_refl _)
  rw [sum_counts room.length w h.all, range_getD, h.len] at e
  exact e
theorem level_le {room : List Nat} {i : Nat} (h : i ≤ room.sum) : (level room i).length ≤ (level room room.sum).length := by
  have e := growN_level room (room.sum - i) i
  rw [show i + (room.sum - i) = room.sum by omega] at e
  rw [← e, growN_len]
  have hb := level_begun room i
  generalize level room i = ws at hb
  induction ws with
  | nil => exact Nat.zero_le _
  | cons w r ih =>
    rw [List.map_cons, List.sum_cons, List.length_cons]
    have := ih fun v hv => hb v (List.mem_cons_of_mem _ hv)
    have := words_pos (room.sum - i) (left room w) (by have := left_sum (hb w List.mem_cons_self); omega)
    omega
theorem divs : ∀ (rs : List Nat) (m : Nat), rs.foldl (fun f s => f / fact s) (m * prodF rs) = m
  | [], m => by simp [prodF]
  | a :: r, m => by
    rw [List.foldl_cons, prodF_cons]
    have e : m * (fact a * prodF r) / fact a = m * prodF r := by
      rw [← Nat.mul_assoc, Nat.mul_comm m, Nat.mul_assoc, Nat.mul_div_cancel_left _ (fact_pos a)]
    rw [e]
    exact divs r m
noncomputable def nextsTo (room w : List Nat) (k : Nat) : List Nat := (List.range k).filter fun j => decide (w.count j < room.getD j 0)
theorem nextsTo_all (room w : List Nat) : nextsTo room w room.length = nexts room w := rfl
theorem nextsTo_succ (room w : List Nat) (k : Nat) : nextsTo room w (k + 1) = nextsTo room w k ++ (if w.count k < room.getD k 0 then [k] else []) := by
  unfold nextsTo
  rw [List.range_succ, List.filter_append]
  by_cases h : w.count k < room.getD k 0
  · rw [if_pos h, List.filter_cons_of_pos (by simpa using h)]
    rfl
  · rw [if_neg h, List.filter_cons_of_neg (by simpa using h)]
    rfl
theorem grow_take (room : List Nat) (ws : List (List Nat)) (i : Nat) (w : List Nat) (h : ws[i]? = some w) : grow room (ws.take (i + 1)) = grow room (ws.take i) ++ (nexts room w).map fun j => w ++ [j] := by
  unfold grow
  rw [List.take_add_one, h, List.flatMap_append]
  simp
theorem grow_take_le (room : List Nat) (ws : List (List Nat)) (i : Nat) : (grow room (ws.take i)).length ≤ (grow room ws).length := by
  have : grow room ws = grow room (ws.take i) ++ grow room (ws.drop i) := by
    unfold grow
    rw [← List.flatMap_append, List.take_append_drop]
  rw [this, List.length_append]
  omega
end KM

end

section
-- KcPack
set_option Elab.async false
set_option linter.all false
set_option maxRecDepth 100000
set_option maxHeartbeats 4000000
namespace L2
open PySem PyProof.Rows
/-! ### things of whatever kind -/
noncomputable def wholeV : V → Bool
  | .int _ => true
  | _ => false
noncomputable def withinV : V → Int → Int → Bool
  | .int i, lo, hi => decide (lo ≤ i) && decide (i ≤ hi)
  | _, _, _ => false
noncomputable def Plain (K : PySem.W.Frag) (H : Hp) (x : V) : Prop := ∃ t b1 b2, TyOf K H x t ∧ PySem.W.kitOne K t (.type "int") = some b1 ∧ PySem.W.kitOne K t (.type "bool") = some b2 ∧ (b1 && !b2) = wholeV x
theorem Plain.int {K : PySem.W.Frag} {H : Hp} (i : Int) : Plain K H (.int i) := ⟨_, _, _, .int i, kit_int_int K, kit_int_bool K, rfl⟩
theorem tyOf_same {K : PySem.W.Frag} {H H' : Hp} {x : V} {t : Value} (h : TyOf K H x t) (s : Same H H') : TyOf K H' x t := by
  cases h with
  | non => exact .non
  | bl b => exact .bl b
  | int i => exact .int i
  | str x => exact .str x
  | flt x => exact .flt x
  | lst e => exact .lst (s _ _ e)
  | frz e => exact .frz (s _ _ e)
  | tup e => exact .tup (s _ _ e)
  | dK e => exact .dK (s _ _ e)
  | dT e => exact .dT (s _ _ e)
  | ins e cl ha hn htk hm => exact .ins (s _ _ e) cl ha hn htk hm
theorem Plain.same {K : PySem.W.Frag} {H H' : Hp} {x : V} (h : Plain K H x) (s : Same H H') : Plain K H' x := by
  obtain ⟨t, b1, b2, ty, r⟩ := h
  exact ⟨t, b1, b2, tyOf_same ty s, r⟩
noncomputable def spWhole (K : PySem.W.Frag) : Sp := fun vs H Q _ => ∃ x, vs = [x] ∧ Plain K H x ∧ Q (.bl (wholeV x)) H
noncomputable abbrev sp_is_whole (K : PySem.W.Frag) : Sp := spWhole K
noncomputable def t_is_whole (K : PySem.W.Frag) : TS := (tRet (tAndV (tCB (rIsi K) (tCons (tVar 0) (tCons (tC (.ty "int")) tNil))) (tNotV (tCB (rIsi K) (tCons (tVar 0) (tCons (tC (.ty "bool")) tNil))))))
theorem len_is_whole {K : PySem.W.Frag} {vs : List V} {H : Hp} {Q : VK} {E : XK} (h : sp_is_whole K vs H Q E) : vs.length = 1 := by
  obtain ⟨x, rfl, _⟩ := h
  rfl
theorem rd_is_whole {K : PySem.W.Frag} {vs : List V} {H : Hp} {Q : VK} {E : XK} (h : sp_is_whole K vs H Q E) : t_is_whole K { nx := fun _ H' => Q .non H', rt := Q } (start ["thing"] vs) H := by
  obtain ⟨x, rfl, ⟨t, b1, b2, ty, k1, k2, e⟩, q⟩ := h
  refine ⟨_, rfl, _, _, _, _, rfl, ty, k1, _, rfl, ite_of (fun c => ?_) (fun c => ?_)⟩
  · subst c
    refine ⟨_, rfl, _, _, _, _, rfl, ty, k2, _, rfl, ?_⟩
    rw [← e, Bool.true_and] at q
    exact q
  · subst c
    rw [← e, Bool.false_and] at q
    exact q
noncomputable def spWithin (K : PySem.W.Frag) : Sp := fun vs H Q _ => ∃ x lo hi, vs = [x, .int lo, .int hi] ∧ Plain K H x ∧ Q (.bl (withinV x lo hi)) H
noncomputable abbrev sp_is_within (K : PySem.W.Frag) : Sp := spWithin K
noncomputable def t_is_within (K : PySem.W.Frag) : TS := (tRet (tAndV (tCall (sp_is_whole K) [] E0 (tCons (tVar 0) tNil)) (tChain (rI0 fun i j => .bl (decide (i ≤ j))) (rI0 fun i j => .bl (decide (i ≤ j))) (tVar 1) (tVar 0) (tVar 2))))
theorem len_is_within {K : PySem.W.Frag} {vs : List V} {H : Hp} {Q : VK} {E : XK} (h : sp_is_within K vs H Q E) : vs.length = 3 := by
  obtain ⟨x, lo, hi, rfl, _⟩ := h
  rfl
theorem rd_is_within {K : PySem.W.Frag} {vs : List V} {H : Hp} {Q : VK} {E : XK} (h : sp_is_within K vs H Q E) : t_is_within K { nx := fun _ H' => Q .non H', rt := Q } (start ["thing", "least", "most"] vs) H := by
  obtain ⟨x, lo, hi, rfl, pl, q⟩ := h
  refine ⟨_, rfl, x, rfl, pl, _, rfl, ite_of (fun c => ?_) (fun c => ?_)⟩
  · cases x with
    | int i =>
      refine ⟨_, rfl, _, rfl, _, _, rfl, rfl, _, rfl, ite_of (fun d => ?_) (fun d => ?_)⟩
      · refine ⟨_, rfl, _, _, rfl, rfl, ?_⟩
        have q' : Q (.bl (decide (lo ≤ i) && decide (i ≤ hi))) H := q
        rw [d, Bool.true_and] at q'
        exact q'
      · have q' : Q (.bl (decide (lo ≤ i) && decide (i ≤ hi))) H := q
        rw [d, Bool.false_and] at q'
        exact q'
    | _ => cases c
  · cases x with
    | int i => cases c
    | _ => exact q
/-! ### what is a pack -/
noncomputable def sumV (zs : List V) : Int := (zs.map fun z => match z with | .int i => i | _ => 0).sum
noncomputable def packV (x : V) (zs : List V) : Bool := match x with
  | .int c => (decide (0 ≤ c) && decide (c ≤ 12)) && (decide (1 ≤ zs.length) && decide (zs.length ≤ 5)) && zs.all (fun z => withinV z 0 c) && decide (sumV zs ≤ c)
  | _ => false
theorem ints_of_within {zs : List V} {lo hi : Int} (h : zs.all (fun z => withinV z lo hi) = true) : ∃ ns : List Int, zs = ns.map V.int ∧ sumV zs = ns.sum := by
  induction zs with
  | nil => exact ⟨[], rfl, rfl⟩
  | cons z r ih =>
    rw [List.all_cons, Bool.and_eq_true] at h
    obtain ⟨ns, e, es⟩ := ih h.2
    cases z with
    | int i =>
      refine ⟨i :: ns, by rw [e]; rfl, ?_⟩
      show i + sumV r = (i :: ns).sum
      rw [es, List.sum_cons]
    | _ => exact absurd h.1 Bool.false_ne_true
noncomputable def Sizes (K : PySem.W.Frag) (H : Hp) (y : V) (zs : Option (List V)) : Prop := match zs with
  | some zs => ∃ a, y = .ref a ∧ (H a = some (.lst zs) ∨ ∃ o, H a = some (.frz o (.lst zs))) ∧ zs.length ≤ 1000 ∧ ∀ z ∈ zs, Plain K H z
  | none => ∃ t, TyOf K H y t ∧ PySem.W.kitOne K t (.type "list") = some false
noncomputable def packO (x : V) : Option (List V) → Bool
  | some zs => packV x zs
  | none => false
noncomputable def spPack (K : PySem.W.Frag) : Sp := fun vs H Q _ => ∃ x y zs, vs = [x, y] ∧ Plain K H x ∧ Sizes K H y zs ∧ ∀ H', Same H H' → Q (.bl (packO x zs)) H'
noncomputable abbrev sp_is_pack (K : PySem.W.Frag) : Sp := spPack K
noncomputable def t_is_pack (K : PySem.W.Frag) : TS := (tSeq (tIfS (tNot (tB (tCall (sp_is_within K) [] E0 (tCons (tVar 0) (tCons (tC (.int 0)) (tCons (tC (.int 12)) tNil)))))) (tRet (tC (.bl false))) tNext)
  (tSeq (tIfS (tOr (tNot (tB (tCB (rIsi K) (tCons (tVar 1) (tCons (tC (.ty "list")) tNil))))) (tNot (tB (tCall (sp_is_within K) [] E0 (tCons (tCB (cLen K) (tCons (tVar 1) tNil)) (tCons (tC (.int 1)) (tCons (tC (.int 5)) tNil))))))) (tRet (tC (.bl false))) tNext)
  (tRet (tAndV (tCB (cAll K) (tCons (tComp (iList K (tVar 1)) (fun _ _ _ _ => (gName 0)) (fun _ _ _ _ => tAlways) (fun _ _ _ _ => (tCall (sp_is_within K) [] E0 (tCons (tVar 0) (tCons (tC (.int 0)) (tCons (tVar 1) tNil))))) [none, some 0]) tNil)) (tOp (rI0 fun i j => .bl (decide (i ≤ j))) (tCB (cSum K) (tCons (tVar 1) tNil)) (tVar 0))))))
theorem len_is_pack {K : PySem.W.Frag} {vs : List V} {H : Hp} {Q : VK} {E : XK} (h : sp_is_pack K vs H Q E) : vs.length = 2 := by
  obtain ⟨x, y, zs, rfl, _⟩ := h
  rfl
theorem rd_is_pack {K : PySem.W.Frag} {vs : List V} {H : Hp} {Q : VK} {E : XK} (h : sp_is_pack K vs H Q E) : t_is_pack K { nx := fun _ H' => Q .non H', rt := Q } (start ["cards", "sizes"] vs) H := by
  obtain ⟨x, y, zs, rfl, px, hz, q⟩ := h
  refine ⟨_, rfl, x, 0, 12, rfl, px, _, rfl, ite_of (fun c => ?_) (fun c => ?_)⟩
  · -- no count of cards
    have e : packO x zs = false := by
      have c' : withinV x 0 12 = false := by simpa using c
      cases zs with
      | none => rfl
      | some zs =>
        cases x with
        | int i =>
          show ((decide (0 ≤ i) && decide (i ≤ 12)) && (decide (1 ≤ zs.length) && decide (zs.length ≤ 5)) && zs.all (fun z => withinV z 0 i) && decide (sumV zs ≤ i)) = false
          rw [show (decide (0 ≤ i) && decide (i ≤ 12)) = false from c']
          rfl
        | _ => rfl
    have := q H (Same.refl H)
    rw [e] at this
    exact this
  · have c' : withinV x 0 12 = true := by simpa using c
    cases x with
    | int i =>
      cases zs with
      | none =>
        obtain ⟨t, ty, k⟩ := hz
        refine ⟨_, rfl, _, _, _, _, rfl, ty, k, _, rfl, iteT (iteT ?_)⟩
        exact q H (Same.refl H)
      | some zs =>
        obtain ⟨a, rfl, ha, hlen, hp⟩ := hz
        have hS : SqL K H a zs := ha.elim (fun h => .inl (.inl h)) (fun h => .inl (.inr h))
        have ty : TyOf K H (.ref a) (.type "list") := ha.elim (fun h => .lst h) (fun ⟨o, h⟩ => .frz h)
        refine ⟨_, rfl, _, _, _, _, rfl, ty, kit_lst_lst K, _, rfl, iteF ?_⟩
        refine ⟨_, rfl, a, _, rfl, .inl hS, _, 1, 5, rfl, Plain.int _, _, rfl, ite_of (fun d => ?_) (fun d => ?_)⟩
        · have e : packO (.int i) (some zs) = false := by
            have d0 : withinV (.int (zs.length : Int)) 1 5 = false := by simpa using d
            have d' : (decide ((1 : Int) ≤ (zs.length : Int)) && decide ((zs.length : Int) ≤ 5)) = false := d0
            show ((decide (0 ≤ i) && decide (i ≤ 12)) && (decide (1 ≤ zs.length) && decide (zs.length ≤ 5)) && zs.all (fun z => withinV z 0 i) && decide (sumV zs ≤ i)) = false
            have e1 : decide (1 ≤ zs.length) = decide ((1 : Int) ≤ (zs.length : Int)) := decide_eq_decide.mpr (by omega)
            have e2 : decide (zs.length ≤ 5) = decide ((zs.length : Int) ≤ 5) := decide_eq_decide.mpr (by omega)
            rw [e1, e2, d', Bool.and_false]
            rfl
          have := q H (Same.refl H)
          rw [e] at this
          exact this
        · have d0 : withinV (.int (zs.length : Int)) 1 5 = true := by simpa using d
          have d' : (decide ((1 : Int) ≤ (zs.length : Int)) && decide ((zs.length : Int) ≤ 5)) = true := d0
          have e0 : packO (.int i) (some zs) = (zs.all (fun z => withinV z 0 i) && decide (sumV zs ≤ i)) := by
            show ((decide (0 ≤ i) && decide (i ≤ 12)) && (decide (1 ≤ zs.length) && decide (zs.length ≤ 5)) && zs.all (fun z => withinV z 0 i) && decide (sumV zs ≤ i)) = _
            have e1 : decide (1 ≤ zs.length) = decide ((1 : Int) ≤ (zs.length : Int)) := decide_eq_decide.mpr (by omega)
            have e2 : decide (zs.length ≤ 5) = decide ((zs.length : Int) ≤ 5) := decide_eq_decide.mpr (by omega)
            rw [e1, e2, d', show (decide (0 ≤ i) && decide (i ≤ 12)) = true from c', Bool.true_and, Bool.true_and]
          rw [e0] at q
          refine ⟨_, rfl, a, rfl, ⟨_, hS⟩, fun p hp' => comp_list (K := K) (a := a) (xs := zs) (fun k acc H2 => acc = ((zs.take k).map fun z => withinV z 0 i).map V.bl ∧ Same H H2 ∧ H2 p = some (.lst acc)) ⟨rfl, same_new hp' _, upd_same⟩ ?_ ?_ (small hlen) ?_ ?_⟩
          · rintro k acc H2 hk ⟨rfl, s2, e2⟩
            exact ⟨e2, by rw [List.length_map, List.length_map, List.length_take]; omega⟩
          · rintro k acc H2 hk ⟨rfl, s2, e2⟩
            exact s2.seq hS
          · rintro _ _ _ _ k z acc H2 hzk ⟨rfl, s2, e2⟩
            refine ⟨_, rfl, _, rfl, z, 0, i, rfl, (hp z (List.mem_of_getElem? hzk)).same s2, e2, ?_, s2.upd hp' _, upd_same⟩
            rw [List.take_add_one, hzk, List.map_append, List.map_append]
            rfl
          · rintro acc H2 ⟨rfl, s2, e2⟩
            rw [List.take_length] at e2
            refine ⟨p, _, rfl, SqL.of e2, _, rfl, ?_⟩
            have ea : (zs.map fun z => withinV z 0 i).all id = zs.all fun z => withinV z 0 i := by
              rw [List.all_map]
              rfl
            rw [ea]
            refine ite_of (fun g => ?_) (fun g => ?_)
            · obtain ⟨ns, en, es⟩ := ints_of_within g
              rw [g, Bool.true_and, es] at q
              refine ⟨_, rfl, a, ns, rfl, by rw [← en]; exact s2.seq hS, _, rfl, _, _, rfl, rfl, ?_⟩
              exact q H2 s2
            · rw [g, Bool.false_and] at q
              exact q H2 s2
    | _ => exact absurd c' Bool.false_ne_true

/-! ### how many -/
noncomputable def spChoices : Sp := fun vs H Q _ => ∃ n k : Nat, vs = [.int n, .int k] ∧ k ≤ n ∧ n ≤ 50 ∧ Q (.int (KM.choose n k : Nat)) H
noncomputable abbrev sp_choices (K : PySem.W.Frag) : Sp := spChoices
noncomputable def t_choices (K : PySem.W.Frag) : TS := (tSeq (tAsg (tC (.int 1)) (gName 2))
  (tSeq (tFor (iRng1 (tCons (tVar 1) tNil)) (gName 3) (tAsg (tOp (rI CDiv fun i j => .int (i / j)) (tOp (rI IntMulOk fun i j => .int (i * j)) (tVar 2) (tOp (rI0 fun i j => .int (i - j)) (tVar 0) (tVar 3))) (tOp (rI0 fun i j => .int (i + j)) (tVar 3) (tC (.int 1)))) (gName 2)))
  (tRet (tVar 2))))
theorem len_choices {K : PySem.W.Frag} {vs : List V} {H : Hp} {Q : VK} {E : XK} (h : sp_choices K vs H Q E) : vs.length = 2 := by
  obtain ⟨n, k, rfl, _⟩ := h
  rfl
theorem rd_choices {K : PySem.W.Frag} {vs : List V} {H : Hp} {Q : VK} {E : XK} (h : sp_choices K vs H Q E) : t_choices K { nx := fun _ H' => Q .non H', rt := Q } (start ["many", "taken", "ways", "step"] vs) H := by
  obtain ⟨n, k, rfl, hk, hn, q⟩ := h
  refine ⟨_, rfl, _, rfl, by omega, by omega, for_range (lo := 0) (n := ((k : Nat) : Int).toNat) (fun i σ H2 => ∃ st, σ = [some (.int n), some (.int k), some (.int (KM.choose n i : Nat)), st] ∧ H2 = H) ⟨none, by rw [KM.choose_zero]; rfl, rfl⟩ ?_ ?_⟩
  · rintro i σ H2 hi ⟨st, rfl, rfl⟩
    have hi' : i + 1 ≤ n := by omega
    refine ⟨_, rfl, _, rfl, _, rfl, _, _, rfl, rfl, _, _, rfl, rfl, .of_right (intBits_le_64 (by omega) (by omega)), _, rfl, _, _, rfl, rfl, _, _, rfl, rfl, ⟨by omega, by omega⟩, ?_⟩
    dsimp only
    rw [KM.choose_stepZ hi']
    exact ⟨_, rfl, rfl⟩
  · rintro σ H2 ⟨st, rfl, rfl⟩
    refine ⟨_, rfl, ?_⟩
    rw [show ((k : Nat) : Int).toNat = k by omega]
    exact q
structure Pack (c : Nat) (ss : List Nat) : Prop where
  c12 : c ≤ 12
  l1 : 1 ≤ ss.length
  l5 : ss.length ≤ 5
  sum : ss.sum ≤ c
noncomputable def natV (ss : List Nat) : List V := ss.map fun (s : Nat) => V.int ((s : Nat) : Int)
theorem natV_ints (ss : List Nat) : natV ss = (ss.map fun (s : Nat) => ((s : Nat) : Int)).map V.int := by unfold natV; rw [List.map_map]; rfl
theorem natV_len (ss : List Nat) : (natV ss).length = ss.length := List.length_map _
theorem sum_cast : ∀ ss : List Nat, (ss.map fun (s : Nat) => ((s : Nat) : Int)).sum = ((ss.sum : Nat) : Int)
  | [] => rfl
  | a :: r => by rw [List.map_cons, List.sum_cons, List.sum_cons, sum_cast r]; omega
theorem mem_le_sum : ∀ {ss : List Nat} {s : Nat}, s ∈ ss → s ≤ ss.sum
  | a :: r, s, h => by
    rw [List.sum_cons]
    rcases List.mem_cons.mp h with rfl | h
    · omega
    · have := mem_le_sum h
      omega
theorem packV_of {c : Nat} {ss : List Nat} (p : Pack c ss) : packV (.int c) (natV ss) = true := by
  have h1 := p.c12
  have h2 := p.l1
  have h3 := p.l5
  have h4 := p.sum
  show ((decide ((0 : Int) ≤ (c : Int)) && decide ((c : Int) ≤ 12)) && (decide (1 ≤ (natV ss).length) && decide ((natV ss).length ≤ 5)) && (natV ss).all (fun z => withinV z 0 c) && decide (sumV (natV ss) ≤ c)) = true
  have e1 : (natV ss).all (fun z => withinV z 0 c) = true := by
    unfold natV
    rw [List.all_map, List.all_eq_true]
    intro s hs
    have := mem_le_sum hs
    show (decide ((0 : Int) ≤ (s : Int)) && decide ((s : Int) ≤ (c : Int))) = true
    rw [decide_eq_true (by omega), decide_eq_true (by omega)]
    rfl
  have e2 : sumV (natV ss) = ((ss.sum : Nat) : Int) := by
    rw [← sum_cast]
    unfold sumV natV
    rw [List.map_map]
    rfl
  rw [e1, e2, natV_len, decide_eq_true (by omega), decide_eq_true (by omega), decide_eq_true h2, decide_eq_true h3, decide_eq_true (by omega)]
  rfl
theorem sizes_of {K : PySem.W.Frag} {H : Hp} {a : Addr} {ss : List Nat} (h : H a = some (.lst (natV ss))) (hl : ss.length ≤ 1000) : Sizes K H (.ref a) (some (natV ss)) :=
  ⟨a, rfl, .inl h, by rw [natV_len]; exact hl, fun z hz => by
    obtain ⟨s, _, rfl⟩ := List.mem_map.mp hz
    exact Plain.int _⟩
noncomputable def spHow (K : PySem.W.Frag) : Sp := fun vs H Q _ => ∃ (c : Nat) (a : Addr) (ss : List Nat), vs = [.int c, .ref a] ∧ H a = some (.lst (natV ss)) ∧ Pack c ss ∧ ∀ H', Same H H' → Q (.int (KM.multi c ss : Nat)) H'
noncomputable abbrev sp_how_many (K : PySem.W.Frag) : Sp := spHow K
noncomputable def t_how_many (K : PySem.W.Frag) : TS := (tSeq (tIfS (tNot (tB (tCall (sp_is_pack K) [] E0 (tCons (tVar 0) (tCons (tVar 1) tNil))))) tNever tNext)
  (tSeq (tAsg (tC (.int 1)) (gName 2))
  (tSeq (tAsg (tVar 0) (gName 3))
  (tSeq (tFor (iList K (tVar 1)) (gName 4) (tSeq (tAsg (tOp (rI IntMulOk fun i j => .int (i * j)) (tVar 2) (tCall (sp_choices K) [] E0 (tCons (tVar 3) (tCons (tVar 4) tNil)))) (gName 2))
  (tAsg (tOp (rI0 fun i j => .int (i - j)) (tVar 3) (tVar 4)) (gName 3))))
  (tRet (tVar 2))))))
theorem len_how_many {K : PySem.W.Frag} {vs : List V} {H : Hp} {Q : VK} {E : XK} (h : sp_how_many K vs H Q E) : vs.length = 2 := by
  obtain ⟨c, a, ss, rfl, _⟩ := h
  rfl
theorem rd_how_many {K : PySem.W.Frag} {vs : List V} {H : Hp} {Q : VK} {E : XK} (h : sp_how_many K vs H Q E) : t_how_many K { nx := fun _ H' => Q .non H', rt := Q } (start ["cards", "sizes", "many", "left", "size"] vs) H := by
  obtain ⟨c, a, ss, rfl, ha, p, q⟩ := h
  have h12 := p.c12
  have h5 := p.l5
  refine ⟨_, rfl, _, rfl, _, _, some (natV ss), rfl, Plain.int _, sizes_of ha (by omega), fun H1 s1 => ⟨_, rfl, ?_⟩⟩
  rw [show packO (.int c) (some (natV ss)) = true from packV_of p]
  refine iteF ?_
  refine ⟨_, rfl, ?_⟩
  refine ⟨_, rfl, a, rfl, ⟨_, SqL.of (s1 _ _ ha)⟩, for_list (K := K) (a := a) (xs := natV ss) (fun i σ H2 => ∃ (m l : Nat) (st : Option V), σ = [some (.int c), some (.ref a), some (.int m), some (.int l), st] ∧ H2 = H1 ∧ m * KM.multi l (ss.drop i) = KM.multi c ss ∧ (ss.drop i).sum ≤ l ∧ l ≤ 12)
    ⟨1, c, none, rfl, rfl, by rw [Nat.one_mul]; rfl, p.sum, h12⟩ (fun i σ H2 _ ⟨_, _, _, _, e, _⟩ => by subst e; exact SqL.of (s1 _ _ ha)) ?_ ?_⟩
  · rintro i x σ H2 hx ⟨m, l, st, rfl, rfl, hm, hs, hl⟩
    obtain ⟨z, hz, rfl⟩ : ∃ z : Nat, ss[i]? = some z ∧ x = .int (z : Int) := by
      unfold natV at hx
      rw [List.getElem?_map] at hx
      cases e : ss[i]? with
      | none => rw [e] at hx; cases hx
      | some z => rw [e] at hx; exact ⟨z, rfl, (Option.some.inj hx).symm⟩
    have hd : ss.drop i = z :: ss.drop (i + 1) := by
      obtain ⟨h1, h2⟩ := List.getElem?_eq_some_iff.mp hz
      rw [List.drop_eq_getElem_cons h1, h2]
    rw [hd, List.sum_cons] at hs
    rw [hd, KM.multi] at hm
    have hle := KM.choose_le l z
    have h2 : (2 : Nat) ^ l ≤ 2 ^ 12 := Nat.pow_le_pow_right (by decide) hl
    refine ⟨_, rfl, _, rfl, _, rfl, l, z, rfl, by omega, by omega, _, _, rfl, rfl, .of_right (intBits_le_64 (by omega) (by omega)), ?_⟩
    refine ⟨_, rfl, _, rfl, _, _, rfl, rfl, m * KM.choose l z, l - z, some (.int (z : Int)), ?_, rfl, by rw [Nat.mul_assoc]; exact hm, by omega, by omega⟩
    have e1 : ((m : Nat) : Int) * ((KM.choose l z : Nat) : Int) = ((m * KM.choose l z : Nat) : Int) := (Int.natCast_mul _ _).symm
    have e2 : ((l : Nat) : Int) - ((z : Nat) : Int) = ((l - z : Nat) : Int) := by omega
    dsimp only
    rw [e1, e2]
    rfl
  · rintro σ H2 ⟨m, l, st, rfl, rfl, hm, hs, hl⟩
    refine ⟨_, rfl, ?_⟩
    rw [natV_len, List.drop_length, KM.multi, Nat.mul_one] at hm
    rw [hm]
    exact q _ s1
/-! ### deals, one more card -/
noncomputable def DealsAt (H : Hp) (p : Addr) (ws : List (List Nat)) : Prop := ∃ rs : List Addr, H p = some (.lst (rs.map V.ref)) ∧ Paired (fun (a : Addr) (w : List Nat) => H a = some (.tup (natV w))) rs ws
theorem paired_same {H H' : Hp} {rs : List Addr} {ws : List (List Nat)} (h : Paired (fun (a : Addr) (w : List Nat) => H a = some (.tup (natV w))) rs ws) (s : ∀ a xs, H a = some (.tup xs) → H' a = some (.tup xs)) : Paired (fun (a : Addr) (w : List Nat) => H' a = some (.tup (natV w))) rs ws :=
  Paired.mapP h fun a w e => s _ _ e
theorem paired_get {α β : Type} {F : α → β → Prop} : ∀ {l : List α} {m : List β} {i : Nat} {a : α}, Paired F l m → l[i]? = some a → ∃ b, m[i]? = some b ∧ F a b
  | _, _, _, _, .nil, h => by simp at h
  | _, _, 0, _, .cons r _, h => by simp at h; subst h; exact ⟨_, rfl, r⟩
  | _, _, i + 1, a, .cons _ t, h => by
    obtain ⟨b, h1, h2⟩ := paired_get (i := i) (a := a) t (by simpa using h)
    exact ⟨b, by simpa using h1, h2⟩
theorem paired_app {α β : Type} {F : α → β → Prop} : ∀ {l : List α} {m : List β} {l' : List α} {m' : List β}, Paired F l m → Paired F l' m' → Paired F (l ++ l') (m ++ m')
  | _, _, _, _, .nil, h => h
  | _, _, _, _, .cons r t, h => .cons r (paired_app t h)
theorem count_natV (w : List Nat) (j : Nat) : (natV w).countP (fun z => eqV z (.int (j : Int))) = w.count j := by
  unfold natV
  rw [List.countP_map, List.count_eq_countP]
  congr 1
  funext k
  show ((k : Int) == (j : Int)) = (k == j)
  by_cases h : k = j
  · subst h; simp
  · rw [beq_eq_false_iff_ne.mpr h, beq_eq_false_iff_ne.mpr (by omega)]
theorem flat_natV (w : List Nat) : (natV w).all flatV = true := by unfold natV; rw [List.all_map]; simp [flatV]
noncomputable def spMore (K : PySem.W.Frag) : Sp := fun vs H Q _ => ∃ (b r : Addr) (ws : List (List Nat)) (room : List Nat), vs = [.ref b, .ref r] ∧ DealsAt H b ws ∧ H r = some (.lst (natV room)) ∧ room.length ≤ 6 ∧ (KM.grow room ws).length ≤ 2000 ∧ (∀ w ∈ ws, w.length ≤ 12) ∧
  ∀ (p : Addr) (H' : Hp), Same H H' → H p = none → DealsAt H' p (KM.grow room ws) → Q (.ref p) H'
noncomputable abbrev sp_with_one_more (K : PySem.W.Frag) : Sp := spMore K
noncomputable def t_with_one_more (K : PySem.W.Frag) : TS := (tSeq (tAsg (tLst tNil) (gName 2))
  (tSeq (tFor (iList K (tVar 0)) (gName 3) (tFor (iEnum srcL K (tCons (tVar 1) tNil)) (gTup K 2 (gCons (gName 4) (gCons (gName 5) gNil))) (tIfS (tTest (tOp (rI0 fun i j => .bl (decide (i < j))) (tBT rCountT (tVar 3) (tCons (tVar 4) tNil)) (tVar 5))) (tDrop (tBM K "list" rAppend (tVar 2) (tCons (tOp (rCatG K) (tVar 3) (tTup (tCons (tVar 4) tNil))) tNil))) tNext)))
  (tRet (tVar 2))))
theorem len_with_one_more {K : PySem.W.Frag} {vs : List V} {H : Hp} {Q : VK} {E : XK} (h : sp_with_one_more K vs H Q E) : vs.length = 2 := by
  obtain ⟨b, r, ws, room, rfl, _⟩ := h
  rfl
theorem rd_with_one_more {K : PySem.W.Frag} {vs : List V} {H : Hp} {Q : VK} {E : XK} (h : sp_with_one_more K vs H Q E) : t_with_one_more K { nx := fun _ H' => Q .non H', rt := Q } (start ["begun", "room", "longer", "deal", "who", "most"] vs) H := by
  obtain ⟨b, r, ws, room, rfl, ⟨rs, hb, hp⟩, hrm, h6, h2000, h12, q⟩ := h
  refine ⟨(by show 0 ≤ sizeLine; decide), fun l hl => ?_⟩
  have sl : Same H (upd H l (.lst [])) := same_new hl _
  have hrl : ws.length = rs.length := hp.length.symm
  refine ⟨_, rfl, b, rfl, ⟨_, SqL.of (sl _ _ hb)⟩, for_list (K := K) (a := b) (xs := rs.map V.ref)
    (fun i σ H2 => ∃ d wh mo : Option V, σ = [some (.ref b), some (.ref r), some (.ref l), d, wh, mo] ∧ Same H H2 ∧ DealsAt H2 l (KM.grow room (ws.take i)))
    ⟨none, none, none, rfl, sl, [], by rw [upd_same]; rfl, .nil⟩ (fun i σ H2 _ ⟨_, _, _, _, s2, _⟩ => SqL.of (s2 _ _ hb)) ?_ ?_⟩
  · rintro i x σ H2 hx ⟨d, wh, mo, rfl, s2, D2⟩
    obtain ⟨a, ea, rfl⟩ : ∃ a, rs[i]? = some a ∧ x = .ref a := by
      rw [List.getElem?_map] at hx
      cases e : rs[i]? with
      | none => rw [e] at hx; cases hx
      | some a => rw [e] at hx; exact ⟨a, rfl, (Option.some.inj hx).symm⟩
    obtain ⟨u, hu, ha⟩ := paired_get hp ea
    have hu12 := h12 u (List.mem_of_getElem? hu)
    have gt := KM.grow_take room ws i u hu
    have gle := KM.grow_take_le room ws (i + 1)
    refine ⟨_, rfl, r, _, rfl, SqL.of (s2 _ _ hrm), for_enum (S := srcL) (K := K) (a := r) (xs := natV room)
      (fun j σ H3 => ∃ wh mo : Option V, σ = [some (.ref b), some (.ref r), some (.ref l), some (.ref a), wh, mo] ∧ Same H H3 ∧ DealsAt H3 l (KM.grow room (ws.take i) ++ (KM.nextsTo room u j).map fun k => u ++ [k]))
      ⟨wh, mo, rfl, s2, by simpa [KM.nextsTo] using D2⟩ (fun j σ H3 _ ⟨_, _, _, s3, _⟩ => SqL.of (s3 _ _ hrm)) ?_ ?_⟩
    · rintro j x T σ H3 hxj ⟨wh', mo', rfl, s3, qs, hq, pq⟩ hT
      obtain ⟨m, hm, rfl⟩ : ∃ m : Nat, room[j]? = some m ∧ x = .int (m : Int) := by
        unfold natV at hxj
        rw [List.getElem?_map] at hxj
        cases e : room[j]? with
        | none => rw [e] at hxj; cases hxj
        | some z => rw [e] at hxj; exact ⟨z, rfl, (Option.some.inj hxj).symm⟩
      have hmD : room.getD j 0 = m := by rw [List.getD_eq_getElem?_getD, hm]; rfl
      have hjl : j < room.length := (List.getElem?_eq_some_iff.mp hm).1
      have nT : H T = none := s3.free hT
      have s4 : Same H (upd H3 T (.tup [.int (j : Int), .int (m : Int)])) := s3.upd nT _
      have a4 : (upd H3 T (.tup [.int (j : Int), .int (m : Int)])) a = some (.tup (natV u)) := s4 _ _ ha
      have nlT : l ≠ T := ne_of_none hq hT
      have q4 : (upd H3 T (.tup [.int (j : Int), .int (m : Int)])) l = some (.lst (qs.map V.ref)) := by rw [upd_ne nlT]; exact hq
      have p4 : Paired (fun (a : Addr) (w : List Nat) => (upd H3 T (.tup [.int (j : Int), .int (m : Int)])) a = some (.tup (natV w))) qs (KM.grow room (ws.take i) ++ (KM.nextsTo room u j).map fun k => u ++ [k]) :=
        paired_same pq fun a xs e => by rw [upd_ne (ne_of_none e hT)]; exact e
      have hqlen : qs.length ≤ 2000 := by
        have e1 := pq.length
        rw [List.length_append, List.length_map] at e1
        rw [gt, List.length_append, List.length_map, ← KM.nextsTo_all] at gle
        have e3 : (KM.nextsTo room u j).length ≤ (KM.nextsTo room u room.length).length := by
          unfold KM.nextsTo
          have : (List.range j).Sublist (List.range room.length) := List.range_sublist.mpr (by omega)
          exact (this.filter _).length_le
        omega
      have t4 : (upd H3 T (.tup [.int (j : Int), .int (m : Int)])) T = some (.tup [.int (j : Int), .int (m : Int)]) := upd_same
      generalize upd H3 T (.tup [.int (j : Int), .int (m : Int)]) = H4 at s4 a4 q4 p4 t4
      have ns := KM.nextsTo_succ room u j
      rw [hmD] at ns
      refine ⟨T, _, rfl, SqT.of t4, rfl, _, _, rfl, _, _, rfl, rfl, ?_⟩
      refine ⟨_, rfl, ⟨a, _, rfl, a4⟩, _, rfl, a, _, _, rfl, rfl, a4, rfl, flat_natV u, _, rfl, _, _, rfl, rfl, _, rfl, ?_⟩
      rw [count_natV]
      refine ite_of (fun c => ?_) (fun c => ?_)
      · have c' : u.count j < m := by have := of_decide_eq_true c; omega
        rw [if_pos c'] at ns
        have fin : ∀ (d : Addr) (H5 : Hp), Same H4 H5 → H5 d = some (.tup (natV (u ++ [j]))) → ∃ (l' : Addr) (xs : List V) (y : V), V.ref l = .ref l' ∧ [V.ref d] = [y] ∧ H5 l' = some (.lst xs) ∧ xs.length < sizeLine ∧
            ∃ wh mo : Option V, ([some (.ref b), some (.ref r), some (.ref l), some (.ref a), some (.int (j : Int)), some (.int (m : Int))] : L2.St) = [some (.ref b), some (.ref r), some (.ref l), some (.ref a), wh, mo] ∧ Same H (upd H5 l' (.lst (xs ++ [y]))) ∧
              DealsAt (upd H5 l' (.lst (xs ++ [y]))) l (KM.grow room (ws.take i) ++ (KM.nextsTo room u (j + 1)).map fun k => u ++ [k]) := by
          intro d H5 s5 e5
          refine ⟨l, _, _, rfl, rfl, s5 _ _ q4, Nat.lt_of_le_of_lt (by rw [List.length_map]; exact hqlen) (by decide), _, _, rfl, (s4.trans s5).upd hl _, qs ++ [d], by rw [upd_same, List.map_append]; rfl, ?_⟩
          have keep : ∀ (c : Addr) (xs : List V), H5 c = some (.tup xs) → upd H5 l (.lst (qs.map V.ref ++ [V.ref d])) c = some (.tup xs) := fun c xs e => by
            rw [upd_ne (ne_of e (s5 _ _ q4) (by intro z; cases z))]
            exact e
          rw [ns, List.map_append, ← List.append_assoc]
          exact paired_app (paired_same (paired_same p4 fun c xs e => s5 _ _ e) keep) (.cons (keep _ _ e5) .nil)
        refine ⟨_, rfl, .inl ⟨rfl, _, SqL.of q4⟩, _, rfl, _, rfl, (by show 1 ≤ sizeLine; decide), fun t ht => ?_⟩
        have st : Same H4 (upd H4 t (.tup [.int (j : Int)])) := same_new ht _
        have ej : natV (u ++ [j]) = natV u ++ [.int (j : Int)] := by unfold natV; rw [List.map_append]; rfl
        refine ⟨a, t, natV u, [.int (j : Int)], rfl, rfl, SqT.of (st _ _ a4), SqT.of upd_same, small (by rw [natV_len]; show u.length + 1 ≤ 1000; omega), fun e0 => ?_, fun _ e0 => (nomatch e0), fun _ _ p hp' => ?_⟩
        · exact fin t _ st (by rw [upd_same, ej, e0]; rfl)
        · exact fin p _ (st.trans (same_new hp' _)) (by rw [upd_same, ej])
      · have c' : ¬ u.count j < m := by have := of_decide_eq_false c; omega
        rw [if_neg c', List.append_nil] at ns
        exact ⟨_, _, rfl, s4, qs, q4, by rw [ns]; exact p4⟩
    · rintro σ H3 ⟨wh', mo', rfl, s3, D3⟩
      rw [natV_len, KM.nextsTo_all, ← gt] at D3
      exact ⟨_, _, _, rfl, s3, D3⟩
  · rintro σ H2 ⟨d, wh, mo, rfl, s2, D2⟩
    refine ⟨_, rfl, ?_⟩
    rw [List.length_map, ← hrl, List.take_length] at D2
    exact q l H2 s2 hl D2
/-! ### the deals -/
noncomputable def spDeals (K : PySem.W.Frag) : Sp := fun vs H Q _ => ∃ (c : Nat) (a : Addr) (ss : List Nat), vs = [.int c, .ref a] ∧ H a = some (.lst (natV ss)) ∧ Pack c ss ∧ KM.multi c ss ≤ 2000 ∧
  ∀ (p : Addr) (H' : Hp), Same H H' → H p = none → DealsAt H' p (KM.level (ss ++ [c - ss.sum]) c) → Q (.ref p) H'
theorem natV_snoc (ss : List Nat) (c : Nat) : natV ss ++ [.int (c : Int)] = natV (ss ++ [c]) := by unfold natV; rw [List.map_append]; rfl
noncomputable abbrev sp_deals_of (K : PySem.W.Frag) : Sp := spDeals K
noncomputable def t_deals_of (K : PySem.W.Frag) : TS := (tSeq (tIfS (tTest (tOp (rI0 fun i j => .bl (decide (j < i))) (tCall (sp_how_many K) [] E0 (tCons (tVar 0) (tCons (tVar 1) tNil))) (tC (.int 2000)))) tNever tNext)
  (tSeq (tAsg (tOp rCat (tVar 1) (tLst (tCons (tOp (rI0 fun i j => .int (i - j)) (tVar 0) (tCB (cSum K) (tCons (tVar 1) tNil))) tNil))) (gName 2))
  (tSeq (tAsg (tLst (tCons (tTup tNil) tNil)) (gName 3))
  (tSeq (tFor (iRng1 (tCons (tVar 0) tNil)) (gName 4) (tAsg (tCall (sp_with_one_more K) [] E0 (tCons (tVar 3) (tCons (tVar 2) tNil))) (gName 3)))
  (tRet (tVar 3))))))
theorem len_deals_of {K : PySem.W.Frag} {vs : List V} {H : Hp} {Q : VK} {E : XK} (h : sp_deals_of K vs H Q E) : vs.length = 2 := by
  obtain ⟨c, a, ss, rfl, _⟩ := h
  rfl
theorem rd_deals_of {K : PySem.W.Frag} {vs : List V} {H : Hp} {Q : VK} {E : XK} (h : sp_deals_of K vs H Q E) : t_deals_of K { nx := fun _ H' => Q .non H', rt := Q } (start ["cards", "sizes", "room", "begun", "card"] vs) H := by
  obtain ⟨c, a, ss, rfl, ha, p, hm, q⟩ := h
  have h12 := p.c12
  have h5 := p.l5
  have hsum := p.sum
  refine ⟨_, rfl, _, rfl, c, a, ss, rfl, ha, p, fun H1 s1 => ?_⟩
  refine ⟨_, _, rfl, rfl, _, rfl, ite_of (fun k => ?_) (fun _ => ?_)⟩
  · have k' : (2000 : Int) < ((KM.multi c ss : Nat) : Int) := of_decide_eq_true k
    omega
  have a1 := s1 _ _ ha
  refine ⟨_, rfl, _, rfl, _, rfl, a, _, rfl, by rw [← natV_ints]; exact SqL.of a1, _, _, rfl, rfl, (by show 1 ≤ sizeLine; decide), fun l hl => ?_⟩
  have s2 : Same H (upd H1 l (.lst [.int ((c : Int) - (ss.map fun (s : Nat) => ((s : Nat) : Int)).sum)])) := s1.trans (same_new hl _)
  have e2 : (upd H1 l (.lst [.int ((c : Int) - (ss.map fun (s : Nat) => ((s : Nat) : Int)).sum)])) l = some (.lst [.int ((c : Int) - (ss.map fun (s : Nat) => ((s : Nat) : Int)).sum)]) := upd_same
  rw [show (c : Int) - (ss.map fun (s : Nat) => ((s : Nat) : Int)).sum = ((c - ss.sum : Nat) : Int) by rw [sum_cast]; omega] at s2 e2
  dsimp only
  rw [show (c : Int) - (ss.map fun (s : Nat) => ((s : Nat) : Int)).sum = ((c - ss.sum : Nat) : Int) by rw [sum_cast]; omega]
  generalize upd H1 l (.lst [.int ((c - ss.sum : Nat) : Int)]) = H2 at s2 e2
  refine ⟨a, l, _, _, rfl, rfl, s2 _ _ ha, e2, small (by rw [natV_len]; show ss.length + 1 ≤ 1000; omega), fun rm hrm => ?_⟩
  rw [natV_snoc]
  have hRs : (ss ++ [c - ss.sum]).sum = c := by rw [List.sum_append, List.sum_cons, List.sum_nil]; omega
  have hRl : (ss ++ [c - ss.sum]).length ≤ 6 := by rw [List.length_append]; show ss.length + 1 ≤ 6; omega
  have hlev := KM.level_multi hsum
  have s3 : Same H (upd H2 rm (.lst (natV (ss ++ [c - ss.sum])))) := s2.trans (same_new hrm _)
  have e3 : (upd H2 rm (.lst (natV (ss ++ [c - ss.sum])))) rm = some (.lst (natV (ss ++ [c - ss.sum]))) := upd_same
  generalize ss ++ [c - ss.sum] = R at *
  generalize upd H2 rm (.lst (natV R)) = H3 at s3 e3
  refine ⟨(by show 0 ≤ sizeLine; decide), fun t ht => ⟨(by show 1 ≤ sizeLine; decide), fun b hb => ?_⟩⟩
  have s4 : Same H3 (upd (upd H3 t (.tup [])) b (.lst [.ref t])) := (same_new ht _).trans (same_new hb _)
  have D4 : DealsAt (upd (upd H3 t (.tup [])) b (.lst [.ref t])) b (KM.level R 0) := ⟨[t], upd_same, .cons (by rw [upd_ne (ne_of_none (upd_same (o := HO.tup [])) hb)]; exact upd_same) .nil⟩
  have f4 : H b = none := by
    have : H3 b = none := (same_new ht _).free hb
    exact s3.free this
  generalize upd (upd H3 t (.tup [])) b (.lst [.ref t]) = H4 at s4 D4
  refine ⟨_, rfl, _, rfl, by omega, by omega, for_range (lo := 0) (n := ((c : Nat) : Int).toNat) (fun i σ H5 => ∃ (b : Addr) (st : Option V), σ = [some (.int c), some (.ref a), some (.ref rm), some (.ref b), st] ∧ Same H3 H5 ∧ H b = none ∧ DealsAt H5 b (KM.level R i)) ⟨b, none, rfl, s4, f4, D4⟩ ?_ ?_⟩
  · rintro i σ H5 hi ⟨b', st, rfl, s5, f5, D5⟩
    have hi' : i + 1 ≤ c := by omega
    refine ⟨_, rfl, _, rfl, b', rm, _, R, rfl, D5, s5 _ _ e3, hRl, ?_, fun u hu => ?_, fun p' H6 s6 f6 D6 => ?_⟩
    · have h1 := KM.level_le (room := R) (i := i + 1) (by omega)
      rw [hRs, hlev] at h1
      exact Nat.le_trans h1 hm
    · have := (KM.level_begun R i u hu).len
      omega
    · exact ⟨p', _, rfl, s5.trans s6, (s3.trans s5).free f6, D6⟩
  · rintro σ H5 ⟨b', st, rfl, s5, f5, D5⟩
    refine ⟨_, rfl, ?_⟩
    rw [show ((c : Nat) : Int).toNat = c by omega] at D5
    exact q b' H5 (s3.trans s5) f5 D5

noncomputable def upto (xs : List Int) (w : Int) (i : Nat) : List Int := ((List.range i).filter fun j => decide (xs[j]? = some w)).map fun (j : Nat) => ((j : Nat) : Int)
theorem upto_succ (xs : List Int) (w : Int) (i : Nat) : upto xs w (i + 1) = upto xs w i ++ (if xs[i]? = some w then [(i : Int)] else []) := by
  unfold upto
  rw [List.range_succ, List.filter_append, List.map_append]
  by_cases h : xs[i]? = some w
  · rw [if_pos h, List.filter_cons_of_pos (by simpa using h)]
    rfl
  · rw [if_neg h, List.filter_cons_of_neg (by simpa using h)]
    rfl
theorem upto_len (xs : List Int) (w : Int) (i : Nat) : (upto xs w i).length ≤ i := by
  unfold upto
  rw [List.length_map]
  have h := List.length_filter_le (fun j => decide (xs[j]? = some w)) (List.range i)
  rw [List.length_range] at h
  exact h

/-! ### the cards of a holder -/
noncomputable def spCards (K : PySem.W.Frag) : Sp := fun vs H Q _ => ∃ (d : Addr) (xs : List Int) (v : Int), vs = [.ref d, .int v] ∧ SqT K H d (xs.map V.int) ∧ xs.length ≤ 1000 ∧
  ∀ (r : Addr) (H' : Hp), Same H H' → H' r = some (.tup ((upto xs v xs.length).map V.int)) → Q (.ref r) H'
theorem int_at {xs : List Int} {i : Nat} {x : V} (h : (xs.map V.int)[i]? = some x) : ∃ z, xs[i]? = some z ∧ x = .int z := by
  rw [List.getElem?_map] at h
  cases e : xs[i]? with
  | none => rw [e] at h; cases h
  | some z => rw [e] at h; exact ⟨z, rfl, (Option.some.inj h).symm⟩
noncomputable abbrev sp_cards_of (K : PySem.W.Frag) : Sp := spCards K
noncomputable def t_cards_of (K : PySem.W.Frag) : TS := (tRet (tCB (cTuple K) (tCons (tComp (iEnum srcT K (tCons (tVar 0) tNil)) (fun _ _ _ _ => (gTup K 2 (gCons (gName 0) (gCons (gName 1) gNil)))) (fun _ _ _ _ => (tTest (tOp rEq (tVar 1) (tVar 2)))) (fun _ _ _ _ => (tVar 0)) [none, none, some 1]) tNil)))
theorem len_cards_of {K : PySem.W.Frag} {vs : List V} {H : Hp} {Q : VK} {E : XK} (h : sp_cards_of K vs H Q E) : vs.length = 2 := by
  obtain ⟨d, xs, v, rfl, _⟩ := h
  rfl
theorem rd_cards_of {K : PySem.W.Frag} {vs : List V} {H : Hp} {Q : VK} {E : XK} (h : sp_cards_of K vs H Q E) : t_cards_of K { nx := fun _ H' => Q .non H', rt := Q } (start ["deal", "who"] vs) H := by
  obtain ⟨d, xs, v, rfl, hd, hlen, q⟩ := h
  have hl : (xs.map V.int).length = xs.length := List.length_map _
  refine ⟨_, rfl, d, _, rfl, hd, fun p hp => comp_enum (S := srcT) (K := K) (a := d) (xs := xs.map V.int) (fun i acc H2 => acc = (upto xs v i).map V.int ∧ Same H H2 ∧ H2 p = some (.lst acc)) ⟨rfl, same_new hp _, upd_same⟩ ?_ ?_ ?_ ?_ ?_⟩
  · rintro i acc H2 hi ⟨rfl, s2, e2⟩
    exact ⟨e2, by rw [List.length_map]; exact upto_len _ _ _⟩
  · rintro i acc H2 hi ⟨rfl, s2, e2⟩
    exact s2.tup hd
  · rw [hl]
    exact small hlen
  · rintro _ _ _ _ i x T acc H2 hx ⟨rfl, s2, e2⟩ hT
    obtain ⟨z, hz, rfl⟩ := int_at hx
    have nTp : p ≠ T := ne_of_none e2 hT
    have nT : H T = none := s2.free hT
    refine ⟨T, _, rfl, SqT.of upd_same, rfl, _, _, rfl, _, _, rfl, rfl, _, rfl, _, rfl, rfl, _, rfl, ?_⟩
    have eu := upto_succ xs v i
    refine ite_of (fun c => ?_) (fun c => ?_)
    · have c' : z = v := by
        have := of_decide_eq_true c
        injection this
      subst c'
      rw [if_pos hz] at eu
      refine ⟨_, rfl, by rw [upd_ne nTp]; exact e2, ?_, (s2.upd nT _).upd hp _, upd_same⟩
      rw [eu, List.map_append]
      rfl
    · have c' : ¬ xs[i]? = some v := by
        rw [hz]
        intro e
        have := of_decide_eq_false c
        exact this (by rw [Option.some.inj e])
      rw [if_neg c', List.append_nil] at eu
      exact ⟨by rw [eu], s2.upd nT _, by rw [upd_ne nTp]; exact e2⟩
  · rintro acc H2 ⟨rfl, s2, e2⟩
    rw [hl] at e2
    exact ⟨p, _, rfl, .inl ⟨SqL.of e2, fun t ht => q t _ (s2.trans (same_new ht _)) upd_same⟩⟩


theorem natV_at {ss : List Nat} {i : Nat} {x : V} (hx : (natV ss)[i]? = some x) : ∃ z : Nat, ss[i]? = some z ∧ x = .int (z : Int) := by
  unfold natV at hx
  rw [List.getElem?_map] at hx
  cases e : ss[i]? with
  | none => rw [e] at hx; cases hx
  | some z => rw [e] at hx; exact ⟨z, rfl, (Option.some.inj hx).symm⟩

end L2

end

section
-- KcLawC
set_option Elab.async false
set_option linter.all false
set_option maxRecDepth 100000
set_option maxHeartbeats 4000000
namespace L2
open PySem PyProof.Rows

/-! ### the numbers out of a script -/
noncomputable abbrev sp__law_cell (K : PySem.W.Frag) : Sp := spCell K
noncomputable def t__law_cell (K : PySem.W.Frag) : TS := (tSeq (tIfS (tTest (tOp (rI0 fun i j => .bl (decide (i < j))) (tVar 1) (tCB (cLen K) (tCons (tVar 0) tNil)))) (tRet (tOp (rIxL K) (tVar 0) (tVar 1))) tNext)
  (tSeq (tAsg (tOp (rI0 fun i j => .int (i + j)) (tOp (rI IntMulOk fun i j => .int (i * j)) (tVar 1) (tC (.int 7919))) (tC (.int 5))) (gName 2))
  (tSeq (tIfS (tTest (tOp (rI0 fun i j => .bl (decide (j < i))) (tCB (cLen K) (tCons (tVar 0) tNil)) (tC (.int 0)))) (tAsg (tOp (rI0 fun i j => .int (i + j)) (tOp (rI IntMulOk fun i j => .int (i * j)) (tOp (rIxL K) (tVar 0) (tOp (rI (fun _ j => 0 < j) fun i j => .int (i % j)) (tOp (rI IntMulOk fun i j => .int (i * j)) (tVar 1) (tC (.int 7))) (tCB (cLen K) (tCons (tVar 0) tNil)))) (tC (.int 48271))) (tOp (rI IntMulOk fun i j => .int (i * j)) (tVar 1) (tC (.int 7919)))) (gName 2)) tNext)
  (tSeq (tAsg (tOp (rI (fun _ j => 0 < j) fun i j => .int (i % j)) (tOp (rI IntMulOk fun i j => .int (i * j)) (tVar 2) (tVar 2)) (tC (.int 2147483629))) (gName 2))
  (tRet (tOp (rI (fun _ j => 0 < j) fun i j => .int (i % j)) (tOp (rI IntMulOk fun i j => .int (i * j)) (tOp (rI0 fun i j => .int (i + j)) (tVar 2) (tVar 1)) (tOp (rI0 fun i j => .int (i + j)) (tVar 2) (tC (.int 69621)))) (tC (.int 2147483587))))))))
theorem len__law_cell {K : PySem.W.Frag} {vs : List V} {H : Hp} {Q : VK} {E : XK} (h : sp__law_cell K vs H Q E) : vs.length = 2 := by
  obtain ⟨a, ns, k, rfl, ⟨hS, h63, hbits⟩, h0, h1, q⟩ := h
  rfl
theorem rd__law_cell {K : PySem.W.Frag} {vs : List V} {H : Hp} {Q : VK} {E : XK} (h : sp__law_cell K vs H Q E) : t__law_cell K { nx := fun _ H' => Q .non H', rt := Q } (start ["_law_script", "_law_k", "_law_number"] vs) H := by
  obtain ⟨a, ns, k, rfl, ⟨hS, h63, hbits⟩, h0, h1, q⟩ := h
  show t__law_cell K _ [some _, some _, none] _
  unfold t__law_cell
  have hl : (ns.map V.int).length = ns.length := List.length_map _
  walk_at "rd"
  rw [hl]
  refine ite_dec (fun c => ?_) (fun c => ?_)
  · walk_at "rd"
    refine r_ixL hS (atI_ints h0 c) ?_
    have e : cellN ns k = ns.getD k.toNat 0 := by unfold cellN; rw [if_pos c]
    rw [e] at q
    exact q
  · refine r_next ?_
    dsimp only
    refine r_seq ?_
    walk_at "rs"
    refine r_seq_n fun NX hNX => ?_
    have last : ∀ n0 : Int, Builtin.Int.intBits n0 ≤ 1048600 → cellN ns k = ((n0 * n0 % 2147483629) + k) * ((n0 * n0 % 2147483629) + 69621) % 2147483587 → NX [some (.ref a), some (.int k), some (.int n0)] H := by
      intro n0 hb e
      refine hNX _ _ ?_
      have z1 : 0 ≤ n0 * n0 % 2147483629 := Int.emod_nonneg _ (by decide)
      have z2 : n0 * n0 % 2147483629 < 2147483629 := Int.emod_lt_of_pos _ (by decide)
      refine r_seq ?_
      refine r_asg ?_
      refine r_op ?_
      refine r_op ?_
      refine r_var rfl ?_
      refine r_var rfl ?_
      refine r_I (.of_le hb hb (by decide)) ?_
      walk_at "rd"
      rw [e] at q
      exact q
    walk_at "rs"
    rw [hl]
    refine ite_dec (fun d => ?_) (fun d => ?_)
    · have m1 : 0 ≤ k * 7 % (ns.length : Int) := Int.emod_nonneg _ (by omega)
      have m2 : k * 7 % (ns.length : Int) < (ns.length : Int) := Int.emod_lt_of_pos _ d
      walk_at "rs"
      rw [hl]
      refine r_ixL hS (atI_ints m1 m2) ?_
      walk_at "rs"
      refine last _ ?_ ?_
      · have b1 := bits_getD hbits (k * 7 % (ns.length : Int)).toNat
        have b2 : Builtin.Int.intBits (48271 : Int) ≤ 16 := by decide
        have b3 : Builtin.Int.intBits k ≤ 20 := intBits_le_iff.mpr (by have : (2 : Nat) ^ 20 = 1048576 := by decide
                                                                       omega)
        have b4 : Builtin.Int.intBits (7919 : Int) ≤ 13 := by decide
        exact Nat.le_trans (intBits_add_le (intBits_mul_le b1 b2) (intBits_mul_le b3 b4)) (by decide)
      · unfold cellN
        rw [if_neg c, if_pos d]
    · walk_at "rs"
      refine last _ ?_ ?_
      · have b3 : Builtin.Int.intBits k ≤ 20 := intBits_le_iff.mpr (by have : (2 : Nat) ^ 20 = 1048576 := by decide
                                                                       omega)
        have b4 : Builtin.Int.intBits (7919 : Int) ≤ 13 := by decide
        have b5 : Builtin.Int.intBits (5 : Int) ≤ 3 := by decide
        exact Nat.le_trans (intBits_add_le (intBits_mul_le b3 b4) b5) (by decide)
      · unfold cellN
        rw [if_neg c, if_neg d]
/-! ### products -/
noncomputable def sp__law_product (_ : PySem.W.Frag) : Sp := fun vs H Q _ => ∃ n : Nat, vs = [.int n] ∧ n ≤ 12 ∧ Q (.int (KM.fact n : Nat)) H
noncomputable def t__law_product (K : PySem.W.Frag) : TS := (tSeq (tAsg (tC (.int 1)) (gName 1))
  (tSeq (tFor (iRng1 (tCons (tVar 0) tNil)) (gName 2) (tAsg (tOp (rI IntMulOk fun i j => .int (i * j)) (tVar 1) (tOp (rI0 fun i j => .int (i + j)) (tVar 2) (tC (.int 1)))) (gName 1)))
  (tRet (tVar 1))))
theorem KM.fact_le {n m : Nat} (h : n ≤ m) : KM.fact n ≤ KM.fact m := by
  induction m with
  | zero => have : n = 0 := by omega
            subst this; exact Nat.le_refl _
  | succ m ih =>
    by_cases e : n = m + 1
    · subst e; exact Nat.le_refl _
    · have := ih (by omega)
      rw [KM.fact]
      exact Nat.le_trans this (Nat.le_mul_of_pos_right _ (Nat.succ_pos m))
theorem fact12 {n : Nat} (h : n ≤ 12) : KM.fact n ≤ 479001600 := Nat.le_trans (KM.fact_le h) (by decide)
theorem len__law_product {K : PySem.W.Frag} {vs : List V} {H : Hp} {Q : VK} {E : XK} (h : sp__law_product K vs H Q E) : vs.length = 1 := by
  obtain ⟨n, rfl, hn, q⟩ := h
  rfl
theorem rd__law_product {K : PySem.W.Frag} {vs : List V} {H : Hp} {Q : VK} {E : XK} (h : sp__law_product K vs H Q E) : t__law_product K { nx := fun _ H' => Q .non H', rt := Q } (start ["_law_many", "_law_found", "_law_k"] vs) H := by
  obtain ⟨n, rfl, hn, q⟩ := h
  show t__law_product K _ [some _, none, none] _
  unfold t__law_product
  walk_at "rd"
  refine lp_range n (by omega) (by omega) (by omega) (fun i σ H2 => ∃ st, σ = [some (.int n), some (.int (KM.fact i : Nat)), st] ∧ H2 = H) ⟨none, rfl, rfl⟩ ?_ ?_
  · rintro i σ H2 hi ⟨st, rfl, rfl⟩
    have := fact12 (n := i) (by omega)
    walk_at "rd"
    refine ⟨some (.int i), ?_, rfl⟩
    rw [KM.fact, Int.natCast_mul, show ((i : Int) + 1) = ((i + 1 : Nat) : Int) by omega]
  · rintro σ H2 ⟨st, rfl, rfl⟩
    walk_at "rd"
    exact q
/-! ### the count of deals by factorials -/
noncomputable def sp__law_count (_ : PySem.W.Frag) : Sp := fun vs H Q _ => ∃ (c : Nat) (a : Addr) (ss : List Nat), vs = [.int c, .ref a] ∧ H a = some (.lst (natV ss)) ∧ ss.sum ≤ c ∧ c ≤ 12 ∧ ss.length ≤ 100 ∧ ∀ H', Same H H' → Q (.int (KM.multi c ss : Nat)) H'
noncomputable def t__law_count (K : PySem.W.Frag) : TS := (tSeq (tAsg (tCall (sp__law_product K) [] E0 (tCons (tVar 0) tNil)) (gName 2))
  (tSeq (tFor (iList K (tOp mCat (tVar 1) (mLst (tCons (tOp (rI0 fun i j => .int (i - j)) (tVar 0) (tCB (cSum K) (tCons (tVar 1) tNil))) tNil)))) (gName 3) (tAsg (tOp (rI CDiv fun i j => .int (i / j)) (tVar 2) (tCall (sp__law_product K) [] E0 (tCons (tVar 3) tNil))) (gName 2)))
  (tRet (tVar 2))))
theorem len__law_count {K : PySem.W.Frag} {vs : List V} {H : Hp} {Q : VK} {E : XK} (h : sp__law_count K vs H Q E) : vs.length = 2 := by
  obtain ⟨c, a, ss, rfl, ha, hs, hc, hl, q⟩ := h
  rfl
theorem rd__law_count {K : PySem.W.Frag} {vs : List V} {H : Hp} {Q : VK} {E : XK} (h : sp__law_count K vs H Q E) : t__law_count K { nx := fun _ H' => Q .non H', rt := Q } (start ["_law_cards", "_law_sizes", "_law_found", "_law_many"] vs) H := by
  obtain ⟨c, a, ss, rfl, ha, hs, hc, hl, q⟩ := h
  show t__law_count K _ [some _, some _, none, none] _
  unfold t__law_count
  walk_at "rd"
  refine ⟨c, rfl, hc, ?_⟩
  walk_at "rd"
  refine r_sum (ns := ss.map fun (s : Nat) => ((s : Nat) : Int)) (SqL.of (by rw [← natV_ints]; exact ha)) ?_
  walk_at "rd"
  rw [sum_cast, show (c : Int) - ((ss.sum : Nat) : Int) = ((c - ss.sum : Nat) : Int) by omega]
  refine ⟨by simp [sizeLine_eq], fun b H1 hb s1 e1 => m_cat (s1 _ _ ha) e1 (by rw [natV_len, sizeLine_eq]; simp; omega) fun p H2 hp s2 e2 => ?_⟩
  rw [natV_snoc] at e2
  generalize hR : ss ++ [c - ss.sum] = R at e2
  have hRs : R.sum = c := by rw [← hR, List.sum_append, List.sum_cons, List.sum_nil]; omega
  have hpf : KM.multi c ss * KM.prodF R = KM.fact c := by rw [← hR]; exact KM.prodF_multi c ss hs
  have hdv : R.foldl (fun f s => f / KM.fact s) (KM.fact c) = KM.multi c ss := by rw [← hpf]; exact KM.divs R _
  have s12 := s1.trans s2
  refine lp_list (natV R) (SqL.of e2) (fun i σ H3 => ∃ st, σ = [some (.int c), some (.ref a), some (.int (((R.take i).foldl (fun f s => f / KM.fact s) (KM.fact c) : Nat) : Int)), st] ∧ H3 = H2) ⟨none, rfl, rfl⟩ (fun i σ H3 _ ⟨_, _, e⟩ => by subst e; exact SqL.of e2) ?_ ?_
  · rintro i x σ H3 hx ⟨st, rfl, rfl⟩
    obtain ⟨z, hz, rfl⟩ := natV_at hx
    have hz12 : z ≤ 12 := by
      have := mem_le_sum (List.mem_of_getElem? hz)
      omega
    walk_at "rd"
    refine ⟨z, rfl, hz12, ?_⟩
    have h1 := KM.fact_pos z
    have h2 := fact12 hz12
    walk_at "rd"
    refine ⟨some (.int z), ?_, rfl⟩
    rw [List.take_add_one, hz, List.foldl_append, ← Int.natCast_ediv]
    rfl
  · rintro σ H3 ⟨st, rfl, rfl⟩
    walk_at "rd"
    rw [natV_len, List.take_length, hdv]
    exact q _ s12

/-! ### the pack -/
noncomputable def sp__law_pack (K : PySem.W.Frag) : Sp := fun vs H Q _ => ∃ (a : Addr) (ns : List Int) (at_ most : Int), vs = [.ref a, .int at_, .int most] ∧ ScriptOk K H a ns ∧ 0 ≤ at_ ∧ at_ ≤ 1000 ∧ 1 ≤ most ∧
  ∀ (c : Nat) (ss : List Nat) (p q : Addr) (H' : Hp), Same H H' → H p = none → H q = none → H' p = some (.tup [.int c, .ref q]) → H' q = some (.lst (natV ss)) → Pack c ss → ((KM.multi c ss : Nat) : Int) ≤ most → Q (.ref p) H'
theorem multi_zero : ∀ ss : List Nat, ss.sum ≤ 0 → KM.multi 0 ss = 1
  | [], _ => rfl
  | a :: r, h => by
    rw [List.sum_cons] at h
    have ha : a = 0 := by omega
    subst ha
    rw [KM.multi, KM.choose_zero, multi_zero r (by omega)]
theorem natV_set (ss : List Nat) (j m : Nat) : (natV ss).set j (.int (m : Int)) = natV (ss.set j m) := by
  unfold natV
  rw [List.map_set]
theorem mem_cast {ss : List Nat} {M : Int} (h : M ∈ ss.map fun (s : Nat) => ((s : Nat) : Int)) : ∃ m : Nat, m ∈ ss ∧ M = (m : Int) := by
  obtain ⟨m, hm, e⟩ := List.mem_map.mp h
  exact ⟨m, hm, e.symm⟩
theorem sum_set' {ss : List Nat} {j m : Nat} (h : ss[j]? = some m) (hm : 0 < m) : (ss.set j (m - 1)).sum + 1 = ss.sum := by
  obtain ⟨h1, h2⟩ := List.getElem?_eq_some_iff.mp h
  have e : ss.getD j 0 = m := by rw [List.getD_eq_getElem?_getD, h]; rfl
  have := KM.sum_set ss j h1 (by rw [e]; exact hm)
  rw [e] at this
  exact this
noncomputable def tShrink (K : PySem.W.Frag) : TS := (tSeq (tWhile (tTest (tOp (rI0 fun i j => .bl (decide (j < i))) (tCall (sp__law_count K) [] E0 (tCons (tVar 3) (tCons (tVar 4) tNil))) (tVar 2))) (tSeq (tIfS (tTest (tOp (rI0 fun i j => .bl (decide (j < i))) (tCB (cMax K) (tCons (tVar 4) tNil)) (tOp (rI0 fun i j => .int (i - j)) (tVar 3) (tCB (cSum K) (tCons (tVar 4) tNil))))) (tAsg (tOp (rI0 fun i j => .int (i - j)) (tCB (cMax K) (tCons (tVar 4) tNil)) (tC (.int 1))) (gSub (tVar 4) (tBM K "list" rIndex (tVar 4) (tCons (tCB (cMax K) (tCons (tVar 4) tNil)) tNil)) rSetL)) tNext)
  (tAsg (tOp (rI0 fun i j => .int (i - j)) (tVar 3) (tC (.int 1))) (gName 3))))
  (tRet (mTup (tCons (tVar 3) (tCons (tVar 4) tNil)))))
theorem rd_shrink {K : PySem.W.Frag} {H0 H : Hp} {Q : VK} {NX : St → Hp → Prop} {x y : V} {most : Int} {c : Nat} {q : Addr} {ss : List Nat} {rest : St} (s0 : Same H0 H) (hq0 : H0 q = none) (hq : H q = some (.lst (natV ss))) (h1 : 1 ≤ ss.length) (h5 : ss.length ≤ 5) (hs : ss.sum ≤ c) (hc : c ≤ 12) (hm : 1 ≤ most)
    (g : ∀ (c : Nat) (ss : List Nat) (p q : Addr) (H' : Hp), Same H0 H' → H0 p = none → H0 q = none → H' p = some (.tup [.int c, .ref q]) → H' q = some (.lst (natV ss)) → Pack c ss → ((KM.multi c ss : Nat) : Int) ≤ most → Q (.ref p) H') :
    tShrink K { nx := NX, rt := Q } (some x :: some y :: some (.int most) :: some (.int c) :: some (.ref q) :: rest) H := by
  unfold tShrink
  refine r_seq ?_
  refine wh_in (fun m σ H2 => ∃ (c : Nat) (ss : List Nat), σ = (some x :: some y :: some (.int most) :: some (.int c) :: some (.ref q) :: rest) ∧ Same H0 H2 ∧ H2 q = some (.lst (natV ss)) ∧ 1 ≤ ss.length ∧ ss.length ≤ 5 ∧ ss.sum ≤ c ∧ c ≤ 12 ∧ m = c) c ⟨c, ss, rfl, s0, hq, h1, h5, hs, hc, rfl⟩ ?_
  clear s0 hq h1 h5 hs hc
  rintro m σ H2 ⟨c, ss, rfl, s0, hq, h1, h5, hs, hc, hmc⟩
  have hmc' := hmc.symm
  subst hmc'
  walk_at "rd"
  refine ⟨c, q, ss, rfl, hq, hs, hc, by omega, fun H3 s3 => ?_⟩
  have s3' := s0.trans s3
  have hq3 := s3 _ _ hq
  have hS : SqL K H3 q ((ss.map fun (s : Nat) => ((s : Nat) : Int)).map V.int) := by rw [← natV_ints]; exact SqL.of hq3
  walk_at "rd"
  refine ite_dec (fun hgt => ?_) (fun hle => ?_)
  · have hc1 : 1 ≤ c := by
      rcases Nat.eq_zero_or_pos c with z | z
      · subst z
        rw [multi_zero ss hs] at hgt
        omega
      · exact z
    refine wh_go ?_
    walk_at "rd"
    have hne : (ss.map fun (s : Nat) => ((s : Nat) : Int)) ≠ [] := by
      intro z
      have := congrArg List.length z
      rw [List.length_map] at this
      simp at this
      subst this
      simp at h1
    refine ⟨q, _, rfl, hS, hne, fun M hM hmax => ?_⟩
    obtain ⟨mx, hmx, rfl⟩ := mem_cast hM
    have hle := mem_le_sum hmx
    walk_at "rd"
    refine r_sum hS ?_
    walk_at "rd"
    rw [sum_cast]
    refine ite_dec (fun hbig => ?_) (fun hsm => ?_)
    · walk_at "rd"
      refine ⟨q, _, rfl, hS, hne, fun M2 hM2 hmax2 => ?_⟩
      obtain rfl : M2 = ((mx : Nat) : Int) := Int.le_antisymm (hmax M2 hM2) (hmax2 _ hM)
      walk_at "rd"
      refine ⟨r_tyL hq3, ?_⟩
      walk_at "rd"
      refine ⟨q, _, rfl, hS, hne, fun M3 hM3 hmax3 => ?_⟩
      obtain rfl : M3 = ((mx : Nat) : Int) := Int.le_antisymm (hmax M3 hM3) (hmax3 _ hM)
      obtain ⟨j, hj, hfirst⟩ := first_at hM
      have hj' : ss[j]? = some mx := by
        rw [List.getElem?_map] at hj
        cases e : ss[j]? with
        | none => rw [e] at hj; cases hj
        | some z => rw [e] at hj; have hzz : ((z : Nat) : Int) = (mx : Int) := Option.some.inj hj; rw [show z = mx by omega]
      have hjl : j < ss.length := (List.getElem?_eq_some_iff.mp hj').1
      walk_at "rd"
      refine ⟨q, _, _, j, rfl, rfl, by rw [← natV_ints]; exact hq3, hj, hfirst, by omega, ?_⟩
      walk_at "rd"
      refine r_setL hq3 (j := j) (by unfold ixN; rw [natV_len, if_pos (by omega), if_pos (by omega)]; simp) ?_
      walk_at "rd"
      have hss := sum_set' hj' (by omega)
      refine ⟨c - 1, by omega, c - 1, ss.set j (mx - 1), ?_, s3'.upd hq0 _, ?_, by rw [List.length_set]; exact h1, by rw [List.length_set]; exact h5, by omega, by omega, rfl⟩
      · rw [show (c : Int) - 1 = ((c - 1 : Nat) : Int) by omega]
      · rw [upd_same, show ((mx : Nat) : Int) - 1 = ((mx - 1 : Nat) : Int) by omega, natV_set]
    · walk_at "rd"
      refine ⟨c - 1, by omega, c - 1, ss, ?_, s3', hq3, h1, h5, ?_, by omega, rfl⟩
      · rw [show (c : Int) - 1 = ((c - 1 : Nat) : Int) by omega]
      · by_cases e : ss.sum = c
        · have z : mx = 0 := by omega
          have all0 : ∀ s ∈ ss, s = 0 := fun s hs' => by
            have := hmax _ (List.mem_map_of_mem (f := fun (s : Nat) => ((s : Nat) : Int)) hs')
            have : (s : Int) ≤ (mx : Int) := this
            omega
          have : ss.sum = 0 := by
            clear hmax hM hq hq3 hS hne hgt hsm hmx hle h1 h5 hs e
            induction ss with
            | nil => rfl
            | cons b r ih => rw [List.sum_cons, all0 b List.mem_cons_self, ih fun s hs => all0 s (List.mem_cons_of_mem _ hs)]
          omega
        · omega
  · walk_at "rd"
    exact ⟨by simp [sizeLine_eq], fun p H4 hp s4 e4 => g c ss p q H4 (s3'.trans s4) (s3'.free hp) hq0 e4 (s4 _ _ hq3) ⟨hc, h1, h5, hs⟩ (by omega)⟩

end L2

end

section
-- KcLawV
set_option Elab.async false
set_option linter.all false
set_option maxRecDepth 100000
set_option maxHeartbeats 4000000
namespace L2
open PySem PyProof.Rows

/-! ### drawn numbers; lists of whole numbers -/
end L2

end

section
-- KcLawL
set_option Elab.async false
set_option linter.all false
set_option maxRecDepth 100000
set_option maxHeartbeats 4000000
namespace L2
open PySem PyProof.Rows

/-! ### for each thing the least one with the same sign -/
noncomputable def sp__law_least (K : PySem.W.Frag) : Sp := fun vs H Q _ => ∃ (a : Addr) (xs : List V) (ks : List MK) (s : Bool), vs = [.ref a] ∧ H a = some (.lst xs) ∧ Paired (KeyV H) xs ks ∧ (∀ k ∈ ks, kSort k = s) ∧ ks.length ≤ 100000 ∧
  ∀ p H', H p = none → Same H H' → H' p = some (.lst (natV (leastOf ks))) → Q (.ref p) H'
noncomputable def t__law_least (K : PySem.W.Frag) : TS := (tSeq (tAsg mDnewX (gName 1))
  (tSeq (tAsg (mLst tNil) (gName 2))
  (tSeq (tFor (iEnum srcL K (tCons (tVar 0) tNil)) (gTup K 2 (gCons (gName 3) (gCons (gName 4) gNil))) (tSeq (tIfS (tTest (tOp (rXIn true) (tVar 4) (tVar 1))) (tAsg (tVar 3) (gSub (tVar 1) (tVar 4) rXSet)) tNext)
  (tDrop (tBM K "list" rAppend (tVar 2) (tCons (tOp rXGet (tVar 1) (tVar 4)) tNil)))))
  (tRet (tVar 2)))))
theorem len__law_least {K : PySem.W.Frag} {vs : List V} {H : Hp} {Q : VK} {E : XK} (h : sp__law_least K vs H Q E) : vs.length = 1 := by
  obtain ⟨a, xs, ks, s, rfl, e, hk, hs, hl, q⟩ := h
  rfl
theorem rd__law_least {K : PySem.W.Frag} {vs : List V} {H : Hp} {Q : VK} {E : XK} (h : sp__law_least K vs H Q E) : t__law_least K { nx := fun _ H' => Q .non H', rt := Q } (start ["_law_signs", "_law_first", "_law_found", "_law_place", "_law_sign"] vs) H := by
  obtain ⟨a, xs, ks, s, rfl, e, hk, hs, hl, q⟩ := h
  show t__law_least K _ [some _, none, none, none, none] _
  unfold t__law_least
  have hlen : xs.length = ks.length := Paired.length hk
  walk_at "rd"
  refine m_dnewX s fun d H1 hd s1 dx1 => ?_
  walk_at "rd"
  refine ⟨by simp [sizeLine_eq], fun f H2 hf s2 e2 => ?_⟩
  walk_at "rd"
  refine lp_enum (S := srcL) xs (SqL.of (s2 _ _ (s1 _ _ e))) (fun i σ H3 => ∃ (u v : Option V), σ = [some (.ref a), some (.ref d), some (.ref f), u, v] ∧ Same H H3 ∧ Dx H3 d s (firsts ks i) i ∧ H3 f = some (.lst (natV ((leastOf ks).take i)))) ?_ ?_ ?_ ?_
  · exact ⟨none, none, rfl, s1.trans s2, (dx1.congr firsts_zero).same s2, e2⟩
  · rintro i σ H3 hi ⟨u, v, rfl, s3, dx3, e3⟩
    exact SqL.of (s3 _ _ e)
  · rintro i x T σ H3 H4 hx ⟨u, v, rfl, s3, dx3, e3⟩ hT s4 eT
    obtain ⟨k, hki, hkv⟩ := paired_at hk hx
    have hks := hs k (List.mem_of_getElem? hki)
    have hi : i < ks.length := (List.getElem?_eq_some_iff.mp hki).1
    refine g_pair (SqT.of eT) ?_
    have hkv4 := hkv.keep (s3.trans s4).keep
    have dx4 := dx3.same s4
    have e4 := s4 _ _ e3
    have s34 := s3.trans s4
    have hfd := dx4.ne_lst e4
    have hdH : H d = none := hd
    have hfH : H f = none := s1.free hf
    refine r_seq_n fun NX hNX => ?_
    have key : ∀ H5, Same H H5 → Dx H5 d s (firsts ks (i + 1)) (i + 1) → H5 f = some (.lst (natV ((leastOf ks).take i))) → KeyV H5 x k → NX [some (.ref a), some (.ref d), some (.ref f), some (.int (i : Nat)), some x] H5 := by
      intro H5 s5 dx5 e5 hk5
      refine hNX _ _ ?_
      walk_at "rd"
      refine ⟨r_tyL e5, ?_⟩
      walk_at "rd"
      refine r_xget dx5 hk5 hks (firsts_at (mem_take_at hki)) ?_
      walk_at "rd"
      refine r_append e5 (by rw [natV_len, List.length_take, length_leastOf, sizeLine_eq]; omega) fun H6 o6 e6 => ?_
      refine ⟨_, _, rfl, s5.off hfH o6, dx5.off e5 o6, ?_⟩
      rw [e6, leastOf_snoc hki, natV_snoc]
    walk_at "rd"
    refine r_xnotin dx4 hkv4 hks ?_
    walk_at "rd"
    by_cases hm : k ∈ ks.take i
    · rw [firsts_at hm]
      refine iteF ?_
      exact key H4 s34 ((dx4.congr (firsts_old hki hm)).le (Nat.le_succ i)) e4 hkv4
    · rw [firsts_none hm]
      refine iteT ?_
      walk_at "rd"
      refine r_xset dx4 hkv4 hks (by rw [sizeLine_eq]; omega) fun H5 o5 dx5 => ?_
      have kp := dx4.offK o5
      exact key H5 (s34.off hdH o5) (dx5.congr (firsts_new hki hm)) (by rw [o5 _ hfd]; exact e4) (hkv4.keep kp)
  · rintro σ H3 ⟨u, v, rfl, s3, dx3, e3⟩
    walk_at "rd"
    refine q _ _ (s1.free hf) s3 ?_
    rw [e3, List.take_of_length_le (by rw [length_leastOf, hlen]; exact Nat.le_refl _)]

end L2

end

section
-- KcLawW
set_option Elab.async false
set_option linter.all false
set_option maxRecDepth 100000
set_option maxHeartbeats 4000000
namespace L2
open PySem PyProof.Rows

/-! ### a drawn view -/
end L2

end

section
-- KcSameD
set_option Elab.async false
set_option linter.all false
set_option maxRecDepth 100000
set_option maxHeartbeats 4000000
namespace L2
open PySem PyProof.Rows
/-! ### one and the same data, lists and tuples to any depth -/
noncomputable def flatD : V → Bool
  | .non => true
  | .bl _ => true
  | .int _ => true
  | _ => false
inductive SameD (K : PySem.W.Frag) (H : Hp) : Nat → V → V → Prop where
  | flat {n : Nat} {x : V} (h : flatD x = true) : SameD K H n x x
  | lst {n : Nat} {a b : Addr} {xs ys : List V} (e1 : SqL K H a xs) (e2 : SqL K H b ys) (hl : xs.length = ys.length) (h : ∀ (i : Nat) (x y : V), xs[i]? = some x → ys[i]? = some y → SameD K H n x y) : SameD K H (n + 1) (.ref a) (.ref b)
  | tup {n : Nat} {a b : Addr} {xs ys : List V} (e1 : SqT K H a xs) (e2 : SqT K H b ys) (hl : xs.length = ys.length) (h : ∀ (i : Nat) (x y : V), xs[i]? = some x → ys[i]? = some y → SameD K H n x y) : SameD K H (n + 1) (.ref a) (.ref b)
noncomputable def rSameD (K : PySem.W.Frag) (neg : Bool) : R2 := fun x y H Q => ∃ n, n ≤ 30 ∧ SameD K H n x y ∧ Q (.bl (!neg)) H
section
variable {K : PySem.W.Frag} {H : Hp} {Q : VK}
theorem r_sameN {x y : V} (n : Nat) (hn : n ≤ 30) (h : SameD K H n x y) (q : Q (.bl false) H) : rSameD K true x y H Q := ⟨n, hn, h, q⟩
theorem same_flatL {a b : Addr} {xs : List V} (e1 : SqL K H a xs) (e2 : SqL K H b xs) (hf : ∀ x ∈ xs, flatD x = true) : SameD K H 1 (.ref a) (.ref b) :=
  .lst e1 e2 rfl fun i x y hx hy => by
    rw [hx] at hy
    cases hy
    exact .flat (hf x (List.mem_of_getElem? hx))
theorem SameD.up {n m : Nat} {x y : V} (h : SameD K H n x y) (hm : n ≤ m) : SameD K H m x y := by
  induction h generalizing m with
  | flat h => exact .flat h
  | lst e1 e2 hl _ ih =>
    obtain ⟨k, rfl⟩ : ∃ k, m = k + 1 := ⟨m - 1, by omega⟩
    exact .lst e1 e2 hl fun i x y hx hy => ih i x y hx hy (by omega)
  | tup e1 e2 hl _ ih =>
    obtain ⟨k, rfl⟩ : ∃ k, m = k + 1 := ⟨m - 1, by omega⟩
    exact .tup e1 e2 hl fun i x y hx hy => ih i x y hx hy (by omega)
theorem flat_ints (ns : List Int) : ∀ x ∈ ns.map V.int, flatD x = true := fun x hx => by obtain ⟨n, _, rfl⟩ := List.mem_map.mp hx; rfl
end
/-! ### a comprehension over enumerate -/
section
variable {g : CF TG} {tt : CF TT} {te : CF TE} {σ₀ : St} {Q : VK} {H : Hp} {K : PySem.W.Frag}
theorem lc_enum {S : Src} {a : Addr} (xs : List V) (hx : S.Sq K H a xs) (kx : ∀ H', Same H H' → S.Sq K H' a xs) (hz : xs.length ≤ 1000000) (R : Nat → List V → Hp → Prop) (h0 : ∀ H', Same H H' → R 0 [] H')
    (hs : ∀ p, H p = none → ∀ C s' H' fp, ∀ i x T acc H2 H3, xs[i]? = some x → CInv H p R i acc H2 → H2 T = none → Same H2 H3 → H3 T = some (.tup [.int i, x]) → H3 p = some (.lst acc) → g C s' H' fp (.ref T) σ₀ H3 fun σ2 H4 => tt C s' H' fp σ2 H4 fun b H5 => if b = true then te C s' H' fp σ2 H5 fun y H6 => H6 p = some (.lst acc) ∧ CInv H p R (i + 1) (acc ++ [y]) (upd H6 p (.lst (acc ++ [y]))) else CInv H p R (i + 1) acc H5)
    (hd : ∀ p acc H2, H p = none → Same H H2 → H2 p = some (.lst acc) → R xs.length acc H2 → Q (.ref p) H2) :
    ∃ a' xs', [V.ref a] = [.ref a'] ∧ S.Sq K H a' xs' ∧ ∀ p, H p = none → ∃ W : Nat → Nat → List V → Hp → Prop, (∃ m, W 0 m [] (upd H p (.lst []))) ∧ ∀ C s' H' fp, CompBody (Ite S K a') (g C s' H' fp) (tt C s' H' fp) (te C s' H' fp) σ₀ p Q W :=
  ⟨a, xs, rfl, hx, fun p hp => comp_enum (CInv H p R) ⟨same_new hp _, upd_same, Nat.le_refl _, h0 _ (same_new hp _)⟩ (fun i acc H2 _ c => ⟨c.2.1, c.2.2.1⟩) (fun i acc H2 _ c => kx _ c.1) (by rw [sizeLine_eq]; omega)
    (fun C s' H' fp i x T acc H2 hi c hT => hs p hp C s' H' fp i x T acc H2 _ hi c hT (same_new hT _) upd_same (by rw [upd_ne (ne_of_none c.2.1 hT)]; exact c.2.1)) fun acc H2 c => hd p acc H2 hp c.1 c.2.1 c.2.2.2⟩
end
end L2

end

section
-- KcView
set_option Elab.async false
set_option linter.all false
set_option maxRecDepth 100000
set_option maxHeartbeats 4000000
namespace L2
open PySem PyProof.Rows

/-! ### for each thing the least one with the same mark -/
noncomputable def sp_least_with_same (K : PySem.W.Frag) : Sp := fun vs H Q _ => ∃ (a : Addr) (xs : List V) (ks : List MK) (s : Bool), vs = [.ref a] ∧ H a = some (.lst xs) ∧ Paired (KeyV H) xs ks ∧ (∀ k ∈ ks, kSort k = s) ∧ ks.length ≤ 100000 ∧
  ∀ p H', H p = none → Same H H' → H' p = some (.lst (natV (leastOf ks))) → Q (.ref p) H'
noncomputable def t_least_with_same (K : PySem.W.Frag) : TS := (tSeq (tAsg mDnewX (gName 1))
  (tSeq (tFor (iEnum srcL K (tCons (tVar 0) tNil)) (gTup K 2 (gCons (gName 2) (gCons (gName 3) gNil))) (tDrop (tXM rXSetd (tVar 1) (tCons (tVar 3) (tCons (tVar 2) tNil)))))
  (tRet (tComp (iList K (tVar 0)) (fun _ _ _ _ => (gName 0)) (fun _ _ _ _ => tAlways) (fun _ _ _ _ => (tOp rXGet (tVar 1) (tVar 0))) [none, some 1]))))
theorem len_least_with_same {K : PySem.W.Frag} {vs : List V} {H : Hp} {Q : VK} {E : XK} (h : sp_least_with_same K vs H Q E) : vs.length = 1 := by
  obtain ⟨a, xs, ks, s, rfl, e, hk, hs, hl, q⟩ := h
  rfl
theorem rd_least_with_same {K : PySem.W.Frag} {vs : List V} {H : Hp} {Q : VK} {E : XK} (h : sp_least_with_same K vs H Q E) : t_least_with_same K { nx := fun _ H' => Q .non H', rt := Q } (start ["marks", "firsts", "thing", "mark"] vs) H := by
  obtain ⟨a, xs, ks, s, rfl, e, hk, hs, hl, q⟩ := h
  show t_least_with_same K _ [some _, none, none, none] _
  unfold t_least_with_same
  have hlen : xs.length = ks.length := Paired.length hk
  walk_at "rd"
  refine m_dnewX s fun d H1 hd s1 dx1 => ?_
  walk_at "rd"
  refine lp_enum (S := srcL) xs (SqL.of (s1 _ _ e)) (fun i σ H3 => ∃ (u v : Option V), σ = [some (.ref a), some (.ref d), u, v] ∧ Same H H3 ∧ Dx H3 d s (firsts ks i) i) ?_ ?_ ?_ ?_
  · exact ⟨none, none, rfl, s1, dx1.congr firsts_zero⟩
  · rintro i σ H3 hi ⟨u, v, rfl, s3, dx3⟩
    exact SqL.of (s3 _ _ e)
  · rintro i x T σ H3 H4 hx ⟨u, v, rfl, s3, dx3⟩ hT s4 eT
    obtain ⟨k, hki, hkv⟩ := paired_at hk hx
    have hks := hs k (List.mem_of_getElem? hki)
    have hi : i < ks.length := (List.getElem?_eq_some_iff.mp hki).1
    refine g_pair (SqT.of eT) ?_
    have s34 := s3.trans s4
    have hkv4 := hkv.keep s34.keep
    have dx4 := dx3.same s4
    walk_at "rd"
    refine r_xm ?_
    walk_at "rd"
    refine ⟨⟨d, s, _, _, rfl, dx4⟩, ?_⟩
    walk_at "rd"
    refine r_xsetd dx4 hkv4 hks (by rw [sizeLine_eq]; omega) (fun w hw => ?_) (fun hn H5 o5 dx5 => ?_)
    · have hm : k ∈ ks.take i := by
        by_cases q : k ∈ ks.take i
        · exact q
        · rw [firsts_none q] at hw; cases hw
      exact ⟨_, _, rfl, s34, (dx4.congr (firsts_old hki hm)).le (Nat.le_succ i)⟩
    · have hm : k ∉ ks.take i := fun q => by rw [firsts_at q] at hn; cases hn
      exact ⟨_, _, rfl, s34.off hd o5, dx5.congr (firsts_new hki hm)⟩
  · rintro σ H3 ⟨u, v, rfl, s3, dx3⟩
    walk_at "rd"
    refine lc_list xs (SqL.of (s3 _ _ e)) (by omega) (fun i acc _ => acc = natV ((leastOf ks).take i)) (fun H' _ => rfl) ?_ ?_
    · rintro p hp C s' H' fp i x acc H4 hx ⟨s4, e4, l4, rfl⟩
      obtain ⟨k, hki, hkv⟩ := paired_at hk hx
      have hks := hs k (List.mem_of_getElem? hki)
      have hi : i < ks.length := (List.getElem?_eq_some_iff.mp hki).1
      walk_at "rd"
      refine r_xget (dx3.same s4) (hkv.keep (s3.trans s4).keep) hks (firsts_at (by rw [hlen, List.take_length]; exact List.mem_of_getElem? hki)) ?_
      refine CInv.put hp (fun _ _ _ _ r _ => r) s4 e4 l4 ?_
      rw [leastOf_snoc hki, natV_snoc]
    · rintro p acc H4 hp s4 e4 rfl
      refine q _ _ (s3.free hp) (s3.trans s4) ?_
      rw [e4, List.take_of_length_le (by rw [length_leastOf, hlen]; exact Nat.le_refl _)]
/-! ### the first view of a hand -/
noncomputable def heldI (w : List Nat) (h : Int) : List Int := upto (w.map fun (s : Nat) => ((s : Nat) : Int)) h w.length
noncomputable def keyI (ns : List Int) : MK := .inr (ns.map fun n => (Sum.inl (some n) : IK))
theorem keyI_inj (a b : List Int) (e : keyI a = keyI b) : a = b := by
  have h : a.map (fun n => (Sum.inl (some n) : IK)) = b.map (fun n => (Sum.inl (some n) : IK)) := Sum.inr.inj e
  clear e
  induction a generalizing b with
  | nil => cases b with
    | nil => rfl
    | cons _ _ => simp at h
  | cons x r ih => cases b with
    | nil => simp at h
    | cons y t =>
      rw [List.map_cons, List.map_cons] at h
      injection h with h1 h2
      injection h1 with h1
      injection h1 with h1
      rw [h1, ih t h2]
noncomputable def firstL (ws : List (List Nat)) (h : Int) : List Nat := leastOf (ws.map fun w => heldI w h)
theorem firstL_keys (ws : List (List Nat)) (h : Int) : leastOf (ws.map fun w => keyI (heldI w h)) = firstL ws h := by
  unfold firstL
  rw [← leastOf_map (f := keyI) keyI_inj, List.map_map]
  rfl
theorem firstL_len (ws : List (List Nat)) (h : Int) : (firstL ws h).length = ws.length := by unfold firstL; rw [length_leastOf, List.length_map]
theorem DealsAt.to' {H H' : Hp} {p : Addr} {ws : List (List Nat)} (d : DealsAt H p ws) (k : Keep H H') (e : ∀ rs : List Addr, H p = some (.lst (rs.map V.ref)) → H' p = some (.lst (rs.map V.ref))) : DealsAt H' p ws := by
  obtain ⟨rs, h1, h2⟩ := d
  exact ⟨rs, e rs h1, paired_same h2 fun a xs e => k _ _ e⟩
theorem DealsAt.same' {H H' : Hp} {p : Addr} {ws : List (List Nat)} (d : DealsAt H p ws) (s : Same H H') : DealsAt H' p ws := d.to' s.keep fun rs e => s _ _ e
theorem ref_at {rs : List Addr} {i : Nat} {x : V} (hx : (rs.map V.ref)[i]? = some x) : ∃ a, rs[i]? = some a ∧ x = .ref a := by
  rw [List.getElem?_map] at hx
  cases e : rs[i]? with
  | none => rw [e] at hx; cases hx
  | some z => rw [e] at hx; exact ⟨z, rfl, (Option.some.inj hx).symm⟩
noncomputable def sp_first_view (K : PySem.W.Frag) : Sp := fun vs H Q _ => ∃ (a : Addr) (ws : List (List Nat)) (h : Int), vs = [.ref a, .int h] ∧ DealsAt H a ws ∧ (∀ w ∈ ws, w.length ≤ 1000) ∧ ws.length ≤ 100000 ∧
  ∀ p H', H p = none → Same H H' → H' p = some (.lst (natV (firstL ws h))) → Q (.ref p) H'
theorem keys_snoc {H : Hp} {xs : List V} {ks : List MK} {x : V} {k : MK} (h : Paired (KeyV H) xs ks) (q : KeyV H x k) : Paired (KeyV H) (xs ++ [x]) (ks ++ [k]) := by
  induction h with
  | nil => exact .cons q .nil
  | cons r _ ih => exact .cons r ih
noncomputable def t_first_view (K : PySem.W.Frag) : TS := (tRet (tCall (sp_least_with_same K) [] E0 (tCons (tComp (iList K (tVar 0)) (fun _ _ _ _ => (gName 0)) (fun _ _ _ _ => tAlways) (fun _ _ _ _ => (tCall (sp_cards_of K) [] E0 (tCons (tVar 0) (tCons (tVar 1) tNil)))) [none, some 1]) tNil)))
theorem len_first_view {K : PySem.W.Frag} {vs : List V} {H : Hp} {Q : VK} {E : XK} (h : sp_first_view K vs H Q E) : vs.length = 2 := by
  obtain ⟨a, ws, h, rfl, hD, hw, hl, q⟩ := h
  rfl
theorem rd_first_view {K : PySem.W.Frag} {vs : List V} {H : Hp} {Q : VK} {E : XK} (h : sp_first_view K vs H Q E) : t_first_view K { nx := fun _ H' => Q .non H', rt := Q } (start ["deals", "hand"] vs) H := by
  obtain ⟨a, ws, h, rfl, hD, hw, hl, q⟩ := h
  show t_first_view K _ [some _, some _] _
  unfold t_first_view
  obtain ⟨rs, e, hr⟩ := id hD
  have hlr : rs.length = ws.length := Paired.length hr
  walk_at "rd"
  refine lc_list (rs.map V.ref) (SqL.of e) (by rw [List.length_map]; omega) (fun i acc H' => Paired (KeyV H') acc ((ws.take i).map fun w => keyI (heldI w h))) (fun H' _ => .nil) ?_ ?_
  · rintro p hp C s' H' fp i x acc H2 hx ⟨s2, e2, l2, r2⟩
    obtain ⟨b, hb, rfl⟩ := ref_at hx
    obtain ⟨w, hwi, ew⟩ := paired_at hr hb
    walk_at "rd"
    refine ⟨b, w.map fun (s : Nat) => ((s : Nat) : Int), h, rfl, by rw [← natV_ints]; exact SqT.of (s2 _ _ ew), by rw [List.length_map]; exact hw w (List.mem_of_getElem? hwi), fun r H3 s3 e3 => ?_⟩
    rw [List.length_map] at e3
    refine CInv.put hp (fun _ _ _ _ r k => keys_keep r k) (s2.trans s3) (s3 _ _ e2) l2 ?_
    rw [take_snoc hwi, List.map_append]
    exact keys_snoc (keys_keep r2 s3.keep) (key_tup (ns := heldI w h) e3)
  · rintro p acc H2 hp s2 e2 r2
    rw [List.length_map, hlr, List.take_length] at r2
    walk_at "rd"
    refine ⟨p, acc, _, true, rfl, e2, r2, ?_, by rw [List.length_map]; omega, fun p3 H3 hp3 s3 e3 => ?_⟩
    · intro k hk
      obtain ⟨w, _, rfl⟩ := List.mem_map.mp hk
      rfl
    · rw [firstL_keys] at e3
      exact q _ _ (s2.free hp3) (s2.trans s3) e3

end L2

end

section
-- KcLawQ
set_option Elab.async false
set_option linter.all false
set_option maxRecDepth 100000
set_option maxHeartbeats 4000000
namespace L2
open PySem PyProof.Rows

noncomputable def t__law_pack (K : PySem.W.Frag) : TS := (tSeq (tAsg (tOp (rI (fun _ j => 0 < j) fun i j => .int (i % j)) (tCall (sp__law_cell K) [] E0 (tCons (tVar 0) (tCons (tVar 1) tNil))) (tC (.int 8))) (gName 3))
  (tSeq (tIfS (tTest (tOp rEq (tOp (rI (fun _ j => 0 < j) fun i j => .int (i % j)) (tOp (rI CDiv fun i j => .int (i / j)) (tCall (sp__law_cell K) [] E0 (tCons (tVar 0) (tCons (tVar 1) tNil))) (tC (.int 8))) (tC (.int 16))) (tC (.int 5)))) (tAsg (tOp (rI0 fun i j => .int (i + j)) (tC (.int 8)) (tOp (rI (fun _ j => 0 < j) fun i j => .int (i % j)) (tOp (rI CDiv fun i j => .int (i / j)) (tCall (sp__law_cell K) [] E0 (tCons (tVar 0) (tCons (tVar 1) tNil))) (tC (.int 128))) (tC (.int 5)))) (gName 3)) tNext)
  (tSeq (tAsg (mLst tNil) (gName 4))
  (tSeq (tFor (iRng1 (tCons (tOp (rI0 fun i j => .int (i + j)) (tC (.int 1)) (tOp (rI (fun _ j => 0 < j) fun i j => .int (i % j)) (tCall (sp__law_cell K) [] E0 (tCons (tVar 0) (tCons (tOp (rI0 fun i j => .int (i + j)) (tVar 1) (tC (.int 1))) tNil))) (tC (.int 5)))) tNil)) (gName 5) (tDrop (tBM K "list" rAppend (tVar 4) (tCons (tOp (rI (fun _ j => 0 < j) fun i j => .int (i % j)) (tCall (sp__law_cell K) [] E0 (tCons (tVar 0) (tCons (tOp (rI0 fun i j => .int (i + j)) (tOp (rI0 fun i j => .int (i + j)) (tVar 1) (tC (.int 2))) (tVar 5)) tNil))) (tOp (rI0 fun i j => .int (i + j)) (tCB cMin2 (tCons (tC (.int 4)) (tCons (tOp (rI0 fun i j => .int (i - j)) (tVar 3) (tCB (cSum K) (tCons (tVar 4) tNil))) tNil))) (tC (.int 1)))) tNil))))
  (tSeq (tWhile (tTest (tOp (rI0 fun i j => .bl (decide (j < i))) (tCall (sp__law_count K) [] E0 (tCons (tVar 3) (tCons (tVar 4) tNil))) (tVar 2))) (tSeq (tIfS (tTest (tOp (rI0 fun i j => .bl (decide (j < i))) (tCB (cMax K) (tCons (tVar 4) tNil)) (tOp (rI0 fun i j => .int (i - j)) (tVar 3) (tCB (cSum K) (tCons (tVar 4) tNil))))) (tAsg (tOp (rI0 fun i j => .int (i - j)) (tCB (cMax K) (tCons (tVar 4) tNil)) (tC (.int 1))) (gSub (tVar 4) (tBM K "list" rIndex (tVar 4) (tCons (tCB (cMax K) (tCons (tVar 4) tNil)) tNil)) rSetL)) tNext)
  (tAsg (tOp (rI0 fun i j => .int (i - j)) (tVar 3) (tC (.int 1))) (gName 3))))
  (tRet (mTup (tCons (tVar 3) (tCons (tVar 4) tNil)))))))))
theorem len__law_pack {K : PySem.W.Frag} {vs : List V} {H : Hp} {Q : VK} {E : XK} (h : sp__law_pack K vs H Q E) : vs.length = 3 := by
  obtain ⟨a, ns, at_, most, rfl, hSc, ha0, ha1, hm, g⟩ := h
  rfl
theorem rd__law_pack {K : PySem.W.Frag} {vs : List V} {H : Hp} {Q : VK} {E : XK} (h : sp__law_pack K vs H Q E) : t__law_pack K { nx := fun _ H' => Q .non H', rt := Q } (start ["_law_script", "_law_at", "_law_most", "_law_cards", "_law_sizes", "_law_k"] vs) H := by
  obtain ⟨a, ns, at_, most, rfl, hSc, ha0, ha1, hm, g⟩ := h
  show t__law_pack K _ [some _, some _, some _, none, none, none] _
  unfold t__law_pack
  refine r_seq ?_
  walk_at "rs"
  refine ⟨a, ns, at_, rfl, hSc, ha0, by omega, ?_⟩
  walk_at "rs"
  refine r_seq_n fun NX hNX => ?_
  have key : ∀ c : Nat, c ≤ 12 → NX [some (.ref a), some (.int at_), some (.int most), some (.int c), none, none] H := by
    intro c hc
    refine hNX _ _ ?_
    refine r_seq ?_
    walk_at "rs"
    refine ⟨by simp [sizeLine_eq], fun q H1 hq s1 e1 => ?_⟩
    walk_at "rs"
    refine r_seq_n fun NX hNX => ?_
    have hSc1 := hSc.same s1
    walk_at "rs"
    refine ⟨a, ns, at_ + 1, rfl, hSc1, by omega, by omega, ?_⟩
    walk_at "rs"
    refine lp_range (1 + cellN ns (at_ + 1) % 5).toNat rfl (by omega) (by omega) (fun i σ H2 => ∃ (ss : List Nat) (st : Option V), σ = [some (.ref a), some (.int at_), some (.int most), some (.int c), some (.ref q), st] ∧ Same H H2 ∧ H2 q = some (.lst (natV ss)) ∧ ss.length = i ∧ ss.sum ≤ c) ⟨[], none, rfl, s1, e1, rfl, Nat.zero_le _⟩ ?_ ?_
    · rintro i σ H2 hi ⟨ss, st, rfl, s2, e2, hl, hs⟩
      have hSc2 := hSc.same s2
      walk_at "rd"
      refine ⟨r_tyL e2, ?_⟩
      walk_at "rd"
      refine ⟨a, ns, at_ + 2 + (i : Int), rfl, hSc2, by omega, by omega, ?_⟩
      walk_at "rd"
      refine r_sum (ns := ss.map fun (s : Nat) => ((s : Nat) : Int)) (by rw [← natV_ints]; exact SqL.of e2) ?_
      walk_at "rd"
      rw [sum_cast]
      obtain ⟨lst, hlst, hlst2⟩ : ∃ l : Nat, (if (c : Int) - ((ss.sum : Nat) : Int) < 4 then (c : Int) - ((ss.sum : Nat) : Int) else 4) = (l : Int) ∧ l ≤ c - ss.sum := by
        by_cases h : (c : Int) - ((ss.sum : Nat) : Int) < 4
        · exact ⟨c - ss.sum, by rw [if_pos h]; omega, Nat.le_refl _⟩
        · exact ⟨4, by rw [if_neg h]; rfl, by omega⟩
      rw [hlst]
      walk_at "rd"
      obtain ⟨z, hz, hz2⟩ : ∃ z : Nat, cellN ns (at_ + 2 + (i : Int)) % ((lst : Int) + 1) = (z : Int) ∧ z ≤ lst := by
        have m1 := Int.emod_nonneg (cellN ns (at_ + 2 + (i : Int))) (b := (lst : Int) + 1) (by omega)
        have m2 := Int.emod_lt_of_pos (cellN ns (at_ + 2 + (i : Int))) (b := (lst : Int) + 1) (by omega)
        exact ⟨(cellN ns (at_ + 2 + (i : Int)) % ((lst : Int) + 1)).toNat, by omega, by omega⟩
      rw [hz]
      refine r_append e2 (by rw [natV_len, sizeLine_eq]; omega) fun H4 o4 e4 => ?_
      rw [natV_snoc] at e4
      refine ⟨ss ++ [z], _, rfl, s2.off hq o4, e4, by rw [List.length_append, hl]; rfl, ?_⟩
      rw [List.sum_append, List.sum_cons, List.sum_nil]
      omega
    · rintro σ H2 ⟨ss, st, rfl, s2, e2, hl, hs⟩
      exact hNX _ _ (rd_shrink s2 hq e2 (by omega) (by omega) hs hc hm g)
  walk_at "rs"
  refine ⟨a, ns, at_, rfl, hSc, ha0, by omega, ?_⟩
  walk_at "rs"
  refine ite_dec (fun hb => ?_) (fun hb => ?_)
  · walk_at "rs"
    refine ⟨a, ns, at_, rfl, hSc, ha0, by omega, ?_⟩
    walk_at "rs"
    have := key (8 + cellN ns at_ / 128 % 5).toNat (by omega)
    rw [show (((8 + cellN ns at_ / 128 % 5).toNat : Nat) : Int) = 8 + cellN ns at_ / 128 % 5 by omega] at this
    exact this
  · walk_at "rs"
    have := key (cellN ns at_ % 8).toNat (by omega)
    rw [show (((cellN ns at_ % 8).toNat : Nat) : Int) = cellN ns at_ % 8 by omega] at this
    exact this

end L2

end

section
-- KcRdW
set_option Elab.async false
set_option linter.all false
set_option maxRecDepth 100000
set_option maxHeartbeats 4000000
namespace L2
open PySem PyProof.Rows
theorem CInv.putW {H H4 : Hp} {p : Addr} {R : Nat → List V → Hp → Prop} {i : Nat} {acc : List V} {y : V} (hp : H p = none) (s : Same H H4) (e : H4 p = some (.lst acc)) (l : acc.length ≤ i) (r : ∀ H6, Off p H4 H6 → R (i + 1) (acc ++ [y]) H6) :
    H4 p = some (.lst acc) ∧ CInv H p R (i + 1) (acc ++ [y]) (upd H4 p (.lst (acc ++ [y]))) :=
  ⟨e, s.upd hp _, upd_same, by rw [List.length_append]; exact Nat.add_le_add_right l 1, r _ off_upd⟩
section
variable {g : CF TG} {tt : CF TT} {te : CF TE} {σ₀ : St} {Q : VK} {H : Hp} {K : PySem.W.Frag}
theorem lc_rangeW {j : Int} (n : Nat) (hn : j.toNat = n) (hj : j ≤ 1000000) (hj0 : -1000000 ≤ j) (R : Addr → Nat → List V → Hp → Prop) (h0 : ∀ p H', Same H H' → R p 0 [] H')
    (hs : ∀ p, H p = none → ∀ C s' H' fp, ∀ i acc H2, i < n → CInv H p (R p) i acc H2 → g C s' H' fp (.int i) σ₀ H2 fun σ2 H3 => tt C s' H' fp σ2 H3 fun b H4 => if b = true then te C s' H' fp σ2 H4 fun y H5 => H5 p = some (.lst acc) ∧ CInv H p (R p) (i + 1) (acc ++ [y]) (upd H5 p (.lst (acc ++ [y]))) else CInv H p (R p) (i + 1) acc H4)
    (hd : ∀ p acc H2, H p = none → Same H H2 → H2 p = some (.lst acc) → R p n acc H2 → Q (.ref p) H2) :
    ∃ j' : Int, [V.int j] = [.int j'] ∧ -(2 ^ 62) ≤ j' ∧ j' < 2 ^ 62 ∧ ∀ p, H p = none → ∃ W : Nat → Nat → List V → Hp → Prop, (∃ m, W 0 m [] (upd H p (.lst []))) ∧ ∀ C s' H' fp, CompBody (Itr 0 j'.toNat) (g C s' H' fp) (tt C s' H' fp) (te C s' H' fp) σ₀ p Q W := by
  refine ⟨j, rfl, by omega, by omega, fun p hp => ?_⟩
  subst hn
  exact comp_range (lo := 0) (CInv H p (R p)) ⟨same_new hp _, upd_same, Nat.le_refl _, h0 _ _ (same_new hp _)⟩ (fun i acc H2 _ c => ⟨c.2.1, c.2.2.1⟩) (by rw [sizeLine_eq]; omega) (fun C s' H' fp i acc H2 hi c => by rw [Int.zero_add]; exact hs p hp C s' H' fp i acc H2 hi c) fun acc H2 c => hd p acc H2 hp c.1 c.2.1 c.2.2.2
end
end L2

end

section
-- KcListR
set_option Elab.async false
set_option linter.all false
set_option maxRecDepth 100000
set_option maxHeartbeats 4000000
namespace L2
open PySem PyProof.Rows
/-! ### list(range(n)), list(zip(a, b)), list(reversed(a)) -/
noncomputable def PairsAt (H : Hp) (ts : List Addr) (ps : List (V × V)) : Prop := Paired (fun (t : Addr) (p : V × V) => H t = some (.tup [p.1, p.2])) ts ps
noncomputable def mLZip (S1 S2 : Src) (K : PySem.W.Frag) (ta : TA) : TE := fun σ H Q => ta σ H fun vs H1 => ∃ a b xs ys, vs = [.ref a, .ref b] ∧ S1.Sq K H1 a xs ∧ S2.Sq K H1 b ys ∧ xs.length ≤ 1000000 ∧
  ∀ p H', H1 p = none → Same H1 H' → (∃ ts : List Addr, H' p = some (.lst (ts.map V.ref)) ∧ PairsAt H' ts (xs.zip ys)) → Q (.ref p) H'
section
variable {σ : St} {H : Hp} {Q : VK} {K : PySem.W.Frag}
theorem m_lzip {S1 S2 : Src} {ta : TA} (h : ta σ H fun vs H1 => ∃ a b xs ys, vs = [.ref a, .ref b] ∧ S1.Sq K H1 a xs ∧ S2.Sq K H1 b ys ∧ xs.length ≤ 1000000 ∧
  ∀ p H', H1 p = none → Same H1 H' → (∃ ts : List Addr, H' p = some (.lst (ts.map V.ref)) ∧ PairsAt H' ts (xs.zip ys)) → Q (.ref p) H') : mLZip S1 S2 K ta σ H Q := h
end
end L2

end

section
-- KcSplit
set_option Elab.async false
set_option linter.all false
set_option maxRecDepth 100000
set_option maxHeartbeats 4000000
namespace L2
open PySem PyProof.Rows

/-! ### a view split by values -/
noncomputable def splitL (v : List Nat) (as : List IA) : List Nat := leastOf (v.zip as)
noncomputable def keyP (p : Nat × IA) : MK := .inr [.inl (some ((p.1 : Nat) : Int)), .inl p.2]
theorem keyP_inj (a b : Nat × IA) (e : keyP a = keyP b) : a = b := by
  have h := Sum.inr.inj e
  injection h with h1 h2
  injection h1 with h1
  injection h1 with h1
  injection h2 with h2 _
  injection h2 with h2
  obtain ⟨a1, a2⟩ := a
  obtain ⟨b1, b2⟩ := b
  simp only at h1 h2
  rw [show a1 = b1 by omega, h2]
theorem splitL_keys (v : List Nat) (as : List IA) : leastOf ((v.zip as).map keyP) = splitL v as := leastOf_map (f := keyP) keyP_inj _
theorem splitL_len {v : List Nat} {as : List IA} (h : v.length = as.length) : (splitL v as).length = v.length := by unfold splitL; rw [length_leastOf, List.length_zip]; omega
noncomputable def sp_split (_ : PySem.W.Frag) : Sp := fun vs H Q _ => ∃ (a b : Addr) (v : List Nat) (ys : List V) (as : List IA), vs = [.ref a, .ref b] ∧ H a = some (.lst (natV v)) ∧ H b = some (.lst ys) ∧ ys.map iaV = as.map some ∧ v.length = as.length ∧ v.length ≤ 100000 ∧
  ∀ p H', H p = none → Same H H' → H' p = some (.lst (natV (splitL v as))) → Q (.ref p) H'
theorem zip_keys {H : Hp} : ∀ {ts : List Addr} {v : List Nat} {ys : List V} {as : List IA}, PairsAt H ts ((natV v).zip ys) → ys.map iaV = as.map some → Paired (KeyV H) (ts.map V.ref) ((v.zip as).map keyP)
  | ts, [], ys, as, h, _ => by
    have e : (natV []).zip ys = [] := rfl
    rw [e] at h
    cases h
    rw [show ([] : List Nat).zip as = [] from rfl]
    exact .nil
  | ts, x :: v, [], as, h, e => by
    have z : (natV (x :: v)).zip ([] : List V) = [] := by simp
    rw [z] at h
    cases h
    have : as = [] := by
      cases as with
      | nil => rfl
      | cons _ _ => simp at e
    rw [this]
    simp only [List.zip_nil_right]
    exact .nil
  | ts, x :: v, y :: ys, as, h, e => by
    cases as with
    | nil => simp at e
    | cons a as =>
      rw [List.map_cons, List.map_cons] at e
      injection e with e1 e2
      have z : (natV (x :: v)).zip (y :: ys) = (.int (x : Int), y) :: (natV v).zip ys := rfl
      rw [z] at h
      cases h with
      | cons h t =>
        rw [List.zip_cons_cons, List.map_cons, List.map_cons]
        exact .cons ⟨_, _, rfl, h, .cons rfl (.cons e1 .nil)⟩ (zip_keys t e2)
noncomputable def t_split (K : PySem.W.Frag) : TS := (tRet (tCall (sp_least_with_same K) [] E0 (tCons (mLZip srcL srcL K (tCons (tVar 0) (tCons (tVar 1) tNil))) tNil)))
theorem len_split {K : PySem.W.Frag} {vs : List V} {H : Hp} {Q : VK} {E : XK} (h : sp_split K vs H Q E) : vs.length = 2 := by
  obtain ⟨a, b, v, ys, as, rfl, ea, eb, hi, hl, hn, q⟩ := h
  rfl
theorem rd_split {K : PySem.W.Frag} {vs : List V} {H : Hp} {Q : VK} {E : XK} (h : sp_split K vs H Q E) : t_split K { nx := fun _ H' => Q .non H', rt := Q } (start ["view", "values"] vs) H := by
  obtain ⟨a, b, v, ys, as, rfl, ea, eb, hi, hl, hn, q⟩ := h
  show t_split K _ [some _, some _] _
  unfold t_split
  walk_at "rd"
  refine m_lzip ?_
  walk_at "rd"
  refine ⟨a, b, natV v, ys, rfl, SqL.of ea, SqL.of eb, by rw [natV_len]; omega, fun p H1 hp s1 ⟨ts, e1, pt⟩ => ?_⟩
  walk_at "rd"
  refine ⟨p, _, _, true, rfl, e1, zip_keys pt hi, ?_, by rw [List.length_map, List.length_zip]; omega, fun p2 H2 hp2 s2 e2 => ?_⟩
  · intro k hk
    obtain ⟨w, _, rfl⟩ := List.mem_map.mp hk
    rfl
  · rw [splitL_keys] at e2
    exact q _ _ (s1.free hp2) (s1.trans s2) e2

end L2

end

section
-- KcSrtR
set_option Elab.async false
set_option linter.all false
set_option maxRecDepth 100000
set_option maxHeartbeats 4000000
namespace L2
open PySem
/-! ### sorted(xs) of whole numbers, fewer than 64; xs[::-1] -/
/-! ### != of what fails tells, twice the same -/
end L2

end

section
-- KcSsR
set_option Elab.async false
set_option linter.all false
set_option maxRecDepth 100000
set_option maxHeartbeats 4000000
namespace L2
open PySem
/-! ### sorted(set(xs)) of whole numbers, fewer than 64 -/
noncomputable def mSortSet (K : PySem.W.Frag) (t : TA) : TE := fun σ H Q => t σ H fun xs H1 => ∃ (p : Addr) (ns : List Int), xs = [.ref p] ∧ SqL K H1 p (ns.map V.int) ∧ ns.length < 64 ∧
  ∀ (q : Addr) (H' : Hp) (ms : List Int), H1 q = none → Same H1 H' → H' q = some (.lst (ms.map V.int)) → ms.Pairwise (· < ·) → (∀ y, y ∈ ms ↔ y ∈ ns) → Q (.ref q) H'
theorem m_sortSet {K : PySem.W.Frag} {t : TA} {σ : St} {H : Hp} {Q : VK} (h : t σ H fun xs H1 => ∃ (p : Addr) (ns : List Int), xs = [.ref p] ∧ SqL K H1 p (ns.map V.int) ∧ ns.length < 64 ∧
  ∀ (q : Addr) (H' : Hp) (ms : List Int), H1 q = none → Same H1 H' → H' q = some (.lst (ms.map V.int)) → ms.Pairwise (· < ·) → (∀ y, y ∈ ms ↔ y ∈ ns) → Q (.ref q) H') : mSortSet K t σ H Q := h
theorem nd_le' {α : Type} [DecidableEq α] : ∀ {l m : List α}, l.Nodup → (∀ x ∈ l, x ∈ m) → l.length ≤ m.length
  | [], m, _, _ => Nat.zero_le _
  | x :: l, m, nd, h => by
    have hx : x ∈ m := h x List.mem_cons_self
    obtain ⟨n1, n2⟩ := List.nodup_cons.mp nd
    have := nd_le' (m := m.erase x) n2 fun y hy => (List.mem_erase_of_ne (fun e : y = x => n1 (e ▸ hy))).mpr (h y (List.mem_cons_of_mem _ hy))
    rw [List.length_erase_of_mem hx] at this
    have := List.length_pos_of_mem hx
    rw [List.length_cons]
    omega
end L2

end

section
-- KcIsR
set_option Elab.async false
set_option linter.all false
set_option maxRecDepth 100000
set_option maxHeartbeats 4000000
namespace L2
open PySem PyProof.Rows
/-! ### is None, is not None -/
noncomputable def isN : V → Bool
  | .non => true
  | _ => false
noncomputable def rIsNone : R2 := fun x y H Q => y = .non ∧ Q (.bl (isN x)) H
noncomputable def rIsnNone : R2 := fun x y H Q => y = .non ∧ Q (.bl (!isN x)) H
theorem r_isNone {x : V} {H : Hp} {Q : VK} (h : Q (.bl (isN x)) H) : rIsNone x .non H Q := ⟨rfl, h⟩
theorem r_isnNone {x : V} {H : Hp} {Q : VK} (h : Q (.bl (!isN x)) H) : rIsnNone x .non H Q := ⟨rfl, h⟩
/-! ### (x,) * n -/
/-! ### len(set(xs)), min(xs), min(xs, default=None), of whole numbers -/
/-! ### range(a, -1, -1) -/
end L2

end

section
-- KcShow
set_option Elab.async false
set_option linter.all false
set_option maxRecDepth 100000
set_option maxHeartbeats 4000000
namespace L2
open PySem PyProof.Rows

/-! ### the least card that the holder has -/
noncomputable def iaR : IA → V
  | none => .non
  | some c => .int c
theorem iaV_R (a : IA) : iaV (iaR a) = some a := by cases a <;> rfl
noncomputable def wAt (w : List Nat) (c : Int) : Int := (w.getD c.toNat 0 : Nat)
noncomputable def LeastH (w : List Nat) (h : Int) (cs : List Int) (a : IA) : Prop :=
  (a = none ∧ ∀ c ∈ cs, wAt w c ≠ h) ∨ ∃ c, a = some c ∧ c ∈ cs ∧ wAt w c = h ∧ ∀ d ∈ cs, wAt w d = h → c ≤ d
theorem LeastH.uniq {w : List Nat} {h : Int} {cs ds : List Int} (m : ∀ y, y ∈ cs ↔ y ∈ ds) {a b : IA} (x : LeastH w h cs a) (y : LeastH w h ds b) : a = b := by
  rcases x with ⟨rfl, x⟩ | ⟨c, rfl, x1, x2, x3⟩
  · rcases y with ⟨rfl, _⟩ | ⟨d, rfl, y1, y2, _⟩
    · rfl
    · exact absurd y2 (x d ((m d).mpr y1))
  · rcases y with ⟨rfl, y⟩ | ⟨d, rfl, y1, y2, y3⟩
    · exact absurd x2 (y c ((m c).mp x1))
    · have h1 := x3 d ((m d).mpr y1) y2
      have h2 := y3 c ((m c).mp x1) x2
      rw [show c = d by omega]
theorem LeastH.skip {w : List Nat} {h c : Int} {cs : List Int} {a : IA} (x : LeastH w h cs a) (e : wAt w c ≠ h) : LeastH w h (cs ++ [c]) a := by
  rcases x with ⟨rfl, x⟩ | ⟨d, rfl, x1, x2, x3⟩
  · refine .inl ⟨rfl, fun y hy => ?_⟩
    rcases List.mem_append.mp hy with z | z
    · exact x y z
    · rw [List.mem_singleton.mp z]
      exact e
  · refine .inr ⟨d, rfl, List.mem_append_left _ x1, x2, fun y hy hz => ?_⟩
    rcases List.mem_append.mp hy with z | z
    · exact x3 y z hz
    · rw [List.mem_singleton.mp z] at hz
      exact absurd hz e
theorem LeastH.put {w : List Nat} {h c : Int} {cs : List Int} {a : IA} (x : LeastH w h cs a) (e : wAt w c = h) (lt : ∀ d, a = some d → c < d) : LeastH w h (cs ++ [c]) (some c) := by
  refine .inr ⟨c, rfl, List.mem_append_right _ (List.mem_singleton.mpr rfl), e, fun y hy hz => ?_⟩
  rcases List.mem_append.mp hy with z | z
  · rcases x with ⟨rfl, x⟩ | ⟨d, rfl, x1, x2, x3⟩
    · exact absurd hz (x y z)
    · have := lt d rfl
      have := x3 y z hz
      omega
  · rw [List.mem_singleton.mp z]
    exact Int.le_refl _
theorem LeastH.stay {w : List Nat} {h c d : Int} {cs : List Int} (x : LeastH w h cs (some d)) (e : ¬ c < d) : LeastH w h (cs ++ [c]) (some d) := by
  rcases x with ⟨z, _⟩ | ⟨d', z, x1, x2, x3⟩
  · cases z
  · cases z
    refine .inr ⟨d, rfl, List.mem_append_left _ x1, x2, fun y hy hz => ?_⟩
    rcases List.mem_append.mp hy with z | z
    · exact x3 y z hz
    · rw [List.mem_singleton.mp z]
      omega
theorem natV_atI {w : List Nat} {c : Int} (h0 : 0 ≤ c) (h1 : c < w.length) : atI (natV w) c = some (.int (wAt w c)) := by
  obtain ⟨n, rfl⟩ : ∃ n : Nat, c = (n : Int) := ⟨c.toNat, by omega⟩
  have hn : n < w.length := by omega
  refine atI_nat ?_
  unfold wAt natV
  rw [List.getElem?_map, List.getElem?_eq_getElem hn]
  simp [List.getD_eq_getElem?_getD, List.getElem?_eq_getElem hn]
noncomputable def sp_least_held (_ : PySem.W.Frag) : Sp := fun vs H Q _ => ∃ (t p : Addr) (w : List Nat) (h : Int) (ms : List Int), vs = [.ref t, .int h, .ref p] ∧ H t = some (.tup (natV w)) ∧ H p = some (.lst (ms.map V.int)) ∧ ms.Pairwise (· < ·) ∧ (∀ c ∈ ms, 0 ≤ c ∧ c < w.length) ∧
  ∀ a, LeastH w h ms a → Q (iaR a) H
noncomputable def t_least_held (K : PySem.W.Frag) : TS := (tSeq (tFor (iList K (tVar 2)) (gName 3) (tIfS (tTest (tOp rEq (tOp (rIxT K) (tVar 0) (tVar 3)) (tVar 1))) (tRet (tVar 3)) tNext))
  (tRet (tC .non)))
theorem len_least_held {K : PySem.W.Frag} {vs : List V} {H : Hp} {Q : VK} {E : XK} (h : sp_least_held K vs H Q E) : vs.length = 3 := by
  obtain ⟨t, p, w, h, ms, rfl, et, ep, pw, hb, q⟩ := h
  rfl
theorem rd_least_held {K : PySem.W.Frag} {vs : List V} {H : Hp} {Q : VK} {E : XK} (h : sp_least_held K vs H Q E) : t_least_held K { nx := fun _ H' => Q .non H', rt := Q } (start ["deal", "holder", "rising", "card"] vs) H := by
  obtain ⟨t, p, w, h, ms, rfl, et, ep, pw, hb, q⟩ := h
  show t_least_held K _ [some _, some _, some _, none] _
  unfold t_least_held
  walk_at "rd"
  refine lp_list (ms.map V.int) (SqL.of ep) (fun i σ' H2 => ∃ u : Option V, σ' = [some (.ref t), some (.int h), some (.ref p), u] ∧ H2 = H ∧ ∀ c ∈ ms.take i, wAt w c ≠ h) ⟨none, rfl, rfl, fun c hc => by simp at hc⟩ ?_ ?_ ?_
  · rintro i σ' H2 hi ⟨u, rfl, rfl, _⟩
    exact SqL.of ep
  · rintro i x σ' H2 hx ⟨u, rfl, rfl, hn⟩
    rw [List.getElem?_map] at hx
    obtain ⟨c, hc, rfl⟩ := Option.map_eq_some_iff.mp hx
    have hm : c ∈ ms := List.mem_of_getElem? hc
    walk_at "rd"
    refine r_ixT (SqT.of et) (natV_atI (hb c hm).1 (hb c hm).2) ?_
    walk_at "rd"
    by_cases e : wAt w c = h
    · rw [if_pos (decide_eq_true e)]
      walk_at "rd"
      refine q (some c) (.inr ⟨c, rfl, hm, e, fun d hd he => ?_⟩)
      obtain ⟨j, hj⟩ := List.getElem?_of_mem hd
      obtain ⟨hi1, hi2⟩ := List.getElem?_eq_some_iff.mp hc
      obtain ⟨hj1, hj2⟩ := List.getElem?_eq_some_iff.mp hj
      rcases Nat.lt_trichotomy j i with z | z | z
      · exact absurd he (hn d (List.mem_iff_getElem?.mpr ⟨j, by rw [List.getElem?_take_of_lt z]; exact hj⟩))
      · subst z
        rw [← hi2, ← hj2]
        exact Int.le_refl _
      · have := List.pairwise_iff_getElem.mp pw i j hi1 hj1 z
        rw [hi2, hj2] at this
        omega
    · rw [if_neg (by rw [decide_eq_false e]; exact Bool.false_ne_true)]
      walk_at "rd"
      refine ⟨_, rfl, rfl, fun d hd => ?_⟩
      rw [List.take_add_one, hc] at hd
      rcases List.mem_append.mp hd with z | z
      · exact hn d z
      · rw [List.mem_singleton.mp z]
        exact e
  · rintro σ' H2 ⟨u, rfl, rfl, hn⟩
    walk_at "rd"
    rw [List.length_map, List.take_length] at hn
    exact q none (.inl ⟨rfl, hn⟩)
noncomputable def sp_is_below (_ : PySem.W.Frag) : Sp := fun vs H Q _ => ∃ (i b : Int), vs = [.int i, .int b] ∧ Q (.bl (decide (0 ≤ i) && decide (i ≤ b - 1))) H
noncomputable def t_is_below (K : PySem.W.Frag) : TS := (tRet (tCall (sp_is_within K) [] E0 (tCons (tVar 0) (tCons (tC (.int 0)) (tCons (tOp (rI0 fun i j => .int (i - j)) (tVar 1) (tC (.int 1))) tNil)))))
theorem len_is_below {K : PySem.W.Frag} {vs : List V} {H : Hp} {Q : VK} {E : XK} (h : sp_is_below K vs H Q E) : vs.length = 2 := by
  obtain ⟨i, b, rfl, q⟩ := h
  rfl
theorem rd_is_below {K : PySem.W.Frag} {vs : List V} {H : Hp} {Q : VK} {E : XK} (h : sp_is_below K vs H Q E) : t_is_below K { nx := fun _ H' => Q .non H', rt := Q } (start ["thing", "bound"] vs) H := by
  obtain ⟨i, b, rfl, q⟩ := h
  show t_is_below K _ [some _, some _] _
  unfold t_is_below
  walk_at "rd"
  exact ⟨.int i, 0, b - 1, rfl, Plain.int _, q⟩
noncomputable def sp_refuse_unless (_ : PySem.W.Frag) : Sp := fun vs H Q _ => ∃ z : Str, vs = [.bl true, .str z] ∧ Q .non H
noncomputable def t_refuse_unless (K : PySem.W.Frag) : TS := (tIfS (tNot (tB (tVar 0))) tNever tNext)
theorem len_refuse_unless {K : PySem.W.Frag} {vs : List V} {H : Hp} {Q : VK} {E : XK} (h : sp_refuse_unless K vs H Q E) : vs.length = 2 := by
  obtain ⟨z, rfl, q⟩ := h
  rfl
theorem rd_refuse_unless {K : PySem.W.Frag} {vs : List V} {H : Hp} {Q : VK} {E : XK} (h : sp_refuse_unless K vs H Q E) : t_refuse_unless K { nx := fun _ H' => Q .non H', rt := Q } (start ["fit", "reason"] vs) H := by
  obtain ⟨z, rfl, q⟩ := h
  show t_refuse_unless K _ [some _, some _] _
  unfold t_refuse_unless
  walk_at "rd"
  exact q
noncomputable def sp_are_cards (_ : PySem.W.Frag) : Sp := fun vs H Q _ => ∃ (p : Addr) (ns : List Int) (c : Int), vs = [.ref p, .int c] ∧ H p = some (.lst (ns.map V.int)) ∧ ns.length ≤ 1000 ∧ (∀ n ∈ ns, 0 ≤ n ∧ n < c) ∧ ∀ H', Same H H' → Q (.bl true) H'
noncomputable def t_are_cards (K : PySem.W.Frag) : TS := (tRet (tAndV (tCB (rIsi K) (tCons (tVar 0) (tCons (tC (.ty "list")) tNil))) (tCB (cAll K) (tCons (tComp (iList K (tVar 0)) (fun _ _ _ _ => (gName 0)) (fun _ _ _ _ => tAlways) (fun _ _ _ _ => (tCall (sp_is_below K) [] E0 (tCons (tVar 0) (tCons (tVar 1) tNil)))) [none, some 1]) tNil))))
theorem len_are_cards {K : PySem.W.Frag} {vs : List V} {H : Hp} {Q : VK} {E : XK} (h : sp_are_cards K vs H Q E) : vs.length = 2 := by
  obtain ⟨p, ns, c, rfl, ep, hl, hb, q⟩ := h
  rfl
theorem rd_are_cards {K : PySem.W.Frag} {vs : List V} {H : Hp} {Q : VK} {E : XK} (h : sp_are_cards K vs H Q E) : t_are_cards K { nx := fun _ H' => Q .non H', rt := Q } (start ["thing", "cards"] vs) H := by
  obtain ⟨p, ns, c, rfl, ep, hl, hb, q⟩ := h
  show t_are_cards K _ [some _, some _] _
  unfold t_are_cards
  walk_at "rd"
  refine r_isi (.lst ep) (kit_lst_lst K) ?_
  walk_at "rd"
  refine lc_list (ns.map V.int) (SqL.of ep) (by rw [List.length_map]; omega) (fun i acc _ => acc = (List.replicate i true).map V.bl) (fun _ _ => rfl) ?_ ?_
  · rintro p' hp' C s' H' fp i x acc H2 hx ⟨s2, e2, l2, rfl⟩
    obtain ⟨z, hz, rfl⟩ := int_at hx
    have ⟨b1, b2⟩ := hb z (List.mem_of_getElem? hz)
    walk_at "rd"
    refine ⟨z, c, rfl, ?_⟩
    rw [decide_eq_true b1, decide_eq_true (show z ≤ c - 1 by omega)]
    exact CInv.put hp' (fun i acc H H' r k => r) s2 e2 l2 (by rw [List.replicate_succ', List.map_append]; rfl)
  · rintro p' acc H2 hp' s2 e2 rfl
    walk_at "rd"
    refine ⟨p', List.replicate ns.length true, rfl, SqL.of (by rw [e2, List.length_map]), ?_⟩
    have ha : (List.replicate ns.length true).all id = true := by simp
    rw [ha]
    exact q H2 s2
noncomputable def sp__law_shown (_ : PySem.W.Frag) : Sp := fun vs H Q _ => ∃ (t p : Addr) (w : List Nat) (h : Int) (ns : List Int), vs = [.ref t, .int h, .ref p] ∧ H t = some (.tup (natV w)) ∧ H p = some (.lst (ns.map V.int)) ∧ (∀ c ∈ ns, 0 ≤ c ∧ c < w.length) ∧
  ∀ a, LeastH w h ns a → Q (iaR a) H
noncomputable def t__law_shown (K : PySem.W.Frag) : TS := (tSeq (tAsg (tC .non) (gName 3))
  (tSeq (tFor (iList K (tVar 2)) (gName 4) (tIfS (tAnd (tTest (tOp rEq (tOp (rIxT K) (tVar 0) (tVar 4)) (tVar 1))) (tOr (tTest (tOp rIsNone (tVar 3) (tC .non))) (tTest (tOp (rI0 fun i j => .bl (decide (i < j))) (tVar 4) (tVar 3))))) (tAsg (tVar 4) (gName 3)) tNext))
  (tRet (tVar 3))))
theorem len__law_shown {K : PySem.W.Frag} {vs : List V} {H : Hp} {Q : VK} {E : XK} (h : sp__law_shown K vs H Q E) : vs.length = 3 := by
  obtain ⟨t, p, w, h, ns, rfl, et, ep, hb, q⟩ := h
  rfl
theorem rd__law_shown {K : PySem.W.Frag} {vs : List V} {H : Hp} {Q : VK} {E : XK} (h : sp__law_shown K vs H Q E) : t__law_shown K { nx := fun _ H' => Q .non H', rt := Q } (start ["_law_deal", "_law_holder", "_law_some", "_law_found", "_law_card"] vs) H := by
  obtain ⟨t, p, w, h, ns, rfl, et, ep, hb, q⟩ := h
  show t__law_shown K _ [some _, some _, some _, none, none] _
  unfold t__law_shown
  walk_at "rd"
  refine lp_list (ns.map V.int) (SqL.of ep) (fun i σ' H2 => ∃ (a : IA) (u : Option V), σ' = [some (.ref t), some (.int h), some (.ref p), some (iaR a), u] ∧ H2 = H ∧ LeastH w h (ns.take i) a) ⟨none, none, rfl, rfl, .inl ⟨rfl, fun c hc => by simp at hc⟩⟩ ?_ ?_ ?_
  · rintro i σ' H2 hi ⟨a, u, rfl, rfl, _⟩
    exact SqL.of ep
  · rintro i x σ' H2 hx ⟨a, u, rfl, rfl, hn⟩
    rw [List.getElem?_map] at hx
    obtain ⟨c, hc, rfl⟩ := Option.map_eq_some_iff.mp hx
    have hm : c ∈ ns := List.mem_of_getElem? hc
    walk_at "rd"
    refine r_ixT (SqT.of et) (natV_atI (hb c hm).1 (hb c hm).2) ?_
    walk_at "rd"
    have tk : ns.take (i + 1) = ns.take i ++ [c] := by rw [List.take_add_one, hc]; rfl
    by_cases e : wAt w c = h
    · rw [if_pos (decide_eq_true e)]
      walk_at "rd"
      refine r_isNone ?_
      cases a with
      | none =>
        walk_at "rd"
        rw [if_pos (show isN (iaR none) = true from rfl), if_pos rfl]
        walk_at "rd"
        refine ⟨some c, some (.int c), rfl, rfl, ?_⟩
        rw [tk]
        exact hn.put e fun d z => nomatch z
      | some d =>
        walk_at "rd"
        rw [if_neg (show ¬ isN (iaR (some d)) = true from Bool.false_ne_true)]
        walk_at "rd"
        show rI0 _ (V.int c) (V.int d) H2 _
        walk_at "rd"
        by_cases l : c < d
        · rw [if_pos (decide_eq_true l)]
          walk_at "rd"
          refine ⟨some c, some (.int c), rfl, rfl, ?_⟩
          rw [tk]
          exact hn.put e fun d' z => by cases z; exact l
        · rw [if_neg (by rw [decide_eq_false l]; exact Bool.false_ne_true)]
          walk_at "rd"
          refine ⟨some d, some (.int c), rfl, rfl, ?_⟩
          rw [tk]
          exact hn.stay l
    · rw [if_neg (by rw [decide_eq_false e]; exact Bool.false_ne_true)]
      walk_at "rd"
      refine ⟨a, _, rfl, rfl, ?_⟩
      rw [tk]
      exact hn.skip e
  · rintro σ' H2 ⟨a, u, rfl, rfl, hn⟩
    walk_at "rd"
    rw [List.length_map, List.take_length] at hn
    exact q a hn
noncomputable def sp__law_kinds (_ : PySem.W.Frag) : Sp := fun vs H Q _ => ∃ (p : Addr) (as : List IA), vs = [.ref p] ∧ H p = some (.lst (as.map iaR)) ∧ as.length ≤ 100000 ∧ ∀ H', Same H H' → Q (.bl true) H'
noncomputable def t__law_kinds (K : PySem.W.Frag) : TS := (tRet (tOp (rEqS (SqL K) false) (tComp (iList K (tVar 0)) (fun _ _ _ _ => (gName 0)) (fun _ _ _ _ => (tAnd (tTest (tOp rIsnNone (tVar 0) (tC .non))) (tOr (tB (tCB (rIsi K) (tCons (tVar 0) (tCons (tC (.ty "bool")) tNil)))) (tNot (tB (tCB (rIsi K) (tCons (tVar 0) (tCons (tC (.ty "int")) tNil)))))))) (fun _ _ _ _ => (tVar 0)) [none]) (mLst tNil)))
theorem len__law_kinds {K : PySem.W.Frag} {vs : List V} {H : Hp} {Q : VK} {E : XK} (h : sp__law_kinds K vs H Q E) : vs.length = 1 := by
  obtain ⟨p, as, rfl, e, hn, q⟩ := h
  rfl
theorem rd__law_kinds {K : PySem.W.Frag} {vs : List V} {H : Hp} {Q : VK} {E : XK} (h : sp__law_kinds K vs H Q E) : t__law_kinds K { nx := fun _ H' => Q .non H', rt := Q } (start ["_law_found"] vs) H := by
  obtain ⟨p, as, rfl, e, hn, q⟩ := h
  show t__law_kinds K _ [some _] _
  unfold t__law_kinds
  walk_at "rd"
  refine lc_list (as.map iaR) (SqL.of e) (by rw [List.length_map]; omega) (fun i acc _ => acc = []) (fun _ _ => rfl) ?_ ?_
  · rintro p' hp' C s' H' fp i x acc H2 hx ⟨s2, e2, l2, rfl⟩
    rw [List.getElem?_map] at hx
    obtain ⟨a, ha, rfl⟩ := Option.map_eq_some_iff.mp hx
    cases a with
    | none =>
      walk_at "rd"
      refine r_isnNone ?_
      walk_at "rd"
      rw [if_neg (show ¬ (!isN (iaR none)) = true from Bool.false_ne_true), if_neg Bool.false_ne_true]
      exact CInv.skip s2 e2 l2 rfl
    | some c =>
      walk_at "rd"
      refine r_isnNone ?_
      walk_at "rd"
      rw [if_pos (show (!isN (iaR (some c))) = true from rfl)]
      walk_at "rd"
      refine r_isi (.int _) (kit_int_bool K) ?_
      walk_at "rd"
      refine r_isi (.int _) (kit_int_int K) ?_
      walk_at "rd"
      exact CInv.skip s2 e2 l2 rfl
  · rintro p' acc H2 hp' s2 e2 rfl
    walk_at "rd"
    refine ⟨by simp [sizeLine_eq], fun p3 H3 hp3 s3 e3 => ?_⟩
    refine r_eqL (ns := []) (ms := []) (SqL.of (s3 _ _ e2)) (SqL.of e3) ?_
    walk_at "rd"
    exact q H3 (s2.trans s3)

end L2

end

section
-- KcNew
set_option Elab.async false
set_option linter.all false
set_option maxRecDepth 100000
set_option maxHeartbeats 4000000
namespace L2
open PySem PySem.Spec PyProof.Rows
theorem Room.units64 {k : Nat} {A : Around} (r : Room k A) : A.units + 64 < cLine := by have := r.un; omega
section
variable {X : Cx}
theorem OpR.weak {f : Value → Value → Sem Value} {r r' : R2} (h : OpR X f r) (w : ∀ x y H Q, r' x y H Q → r x y H Q) : OpR X f r' := fun pins s σ H x y v u Q I rx ry q => h pins s σ H x y v u Q I rx ry (w x y H Q q)
theorem CallR.weak {f : Value} {r r' : List V → Hp → VK → Prop} (h : CallR X f r) (w : ∀ xs H Q, r' xs H Q → r xs H Q) : CallR X f r' := fun pins s σ H xs us Q I rx q => h pins s σ H xs us Q I rx (w xs H Q q)
theorem om_cat : OpR X (binaryOp .Add) mCat := op_cat.weak fun _ _ _ _ ⟨l, b, xs, zs, e1, e2, h1, h2, hz, q⟩ => ⟨l, b, xs, zs, e1, e2, h1, h2, hz, q.upd⟩
theorem cm_list : CallR X (.type "list") (mCList X.K) := call_list_of.weak fun _ _ _ ⟨p, ys, e, h, q⟩ => ⟨p, ys, e, h, q.upd⟩
theorem cm_tuple : CallR X (.type "tuple") (mCTuple X.K) := call_tuple_of.weak fun _ _ _ ⟨p, ys, e, h, q⟩ => ⟨p, ys, e, .inl ⟨h, q.upd⟩⟩
end
section
variable {X : Cx} {es : List Expr} {t : TA} {pos : Pos}
theorem pm_tup {x1} (h : PA X es t) : PE X (.Tuple es x1 pos) (mTup t) := by
  intro pins s σ H Q I hq
  refine wpAny_Tuple_spliced (thn (h pos pins s σ H _ I hq) fun us s1 ⟨xs, H1, I1, r, z, q⟩ => ⟨by rw [← r.length]; exact z, ?_⟩)
  have hf : H1 s1.heap.objs.size = none := I1.hok.fresh (Nat.le_refl _)
  refine ⟨.ref s1.heap.objs.size, upd H1 s1.heap.objs.size (.tup xs), I1.laid (t' := s1.toks) (fun b u e => Heap.get?_push_of_some _ e) (Nat.le_refl _) ?_, rfl, q.upd _ hf⟩
  exact ⟨z, us, r, IsTupD.new _ _⟩
theorem pm_lst (h : PA X es t) : PE X (.List es pos) (mLst t) := by
  intro pins s σ H Q I hq
  refine wpAny_List_spliced (thn (h pos pins s σ H _ I hq) fun us s1 ⟨xs, H1, I1, r, z, q⟩ => ⟨by rw [← r.length]; exact z, ?_⟩)
  have hf : H1 s1.heap.objs.size = none := I1.hok.fresh (Nat.le_refl _)
  refine ⟨.ref s1.heap.objs.size, upd H1 s1.heap.objs.size (.lst xs), I1.laid (t' := s1.toks) (fun b u e => Heap.get?_push_of_some _ e) (Nat.le_refl _) ?_, rfl, q.upd _ hf⟩
  exact ⟨z, us, 0, r, Heap.get?_push_size _ rfl⟩
end
/-! ### arguments, names: what is read off the text once -/
section
variable {X : Cx} {es : List Expr} {te : TE} {t : TA}
theorem pac_Constant {v : Const} {j : Nat} {p : Pos} (ha : PE X (.Constant v j p) te) (hr : PA X es t) : PA X (.Constant v j p :: es) (tCons te t) := pa_cons ha hr rfl
theorem pac_Name {x : Str} {p : Pos} (ha : PE X (.Name x p) te) (hr : PA X es t) : PA X (.Name x p :: es) (tCons te t) := pa_cons ha hr rfl
theorem pac_BinOp {a b : Expr} {o : Operator} {p : Pos} (ha : PE X (.BinOp a o b p) te) (hr : PA X es t) : PA X (.BinOp a o b p :: es) (tCons te t) := pa_cons ha hr rfl
theorem pac_Call {f : Expr} {as : List Expr} {ks : List Keyword} {p : Pos} (ha : PE X (.Call f as ks p) te) (hr : PA X es t) : PA X (.Call f as ks p :: es) (tCons te t) := pa_cons ha hr rfl
theorem pac_Tuple {as : List Expr} {k : Nat} {p : Pos} (ha : PE X (.Tuple as k p) te) (hr : PA X es t) : PA X (.Tuple as k p :: es) (tCons te t) := pa_cons ha hr rfl
theorem pac_Subscript {a b : Expr} {p : Pos} (ha : PE X (.Subscript a b p) te) (hr : PA X es t) : PA X (.Subscript a b p :: es) (tCons te t) := pa_cons ha hr rfl
theorem pac_ListComp {e : Expr} (ha : PE X e te) (hr : PA X es t) (hs : starEach (e :: es) X.env = (false, eval e X.env) :: starEach es X.env := by rfl) : PA X (e :: es) (tCons te t) := pa_cons ha hr hs
structure VarAt (N : List Str) (sc : Scope) (i : Nat) (x : Str) : Prop where
  n : N[i]? = some x
  v : Vis sc x
  d : (x == ("__debug__" : Str)) = false
  c : (x == ("__classdict__" : Str)) = false
theorem pvQ {N : List Str} {sc : Scope} {i : Nat} {x : Str} {pos : Pos} (h : VarAt N sc i x) (hN : X.N = N) (hS : X.env.scope = sc) : PE X (.Name x pos) (tVar i) := by
  subst hN hS
  exact pe_var h.n h.v h.d h.c
end
end L2

end

section
-- KcForms
set_option Elab.async false
set_option linter.all false
set_option maxRecDepth 100000
set_option maxHeartbeats 4000000
namespace L2
open PySem PySem.Spec PyProof.Rows
/-! ### a dict of the module's own -/
noncomputable def KDict (P : Program) (w : World) (K : PySem.W.Frag) (a : Addr) (kvs : List (Str × V)) : Prop :=
  (a == sysModules) = false ∧ ∃ (o : Obj) (es : Array DictEntry) (ep : Nat) (vs : List (Key × Value)), K.lookup a = some o ∧ o.ExactDict ∧ o.data = .dict es ep ∧ KeysOf (mixKind P w) es ∧ Pairs (mixKind P w) es.toList vs ∧ (vs.map (·.1)).Nodup ∧
    Paired (fun (p : Str × V) (q : Key × Value) => q.1 = .inr p.1 ∧ RelV p.2 q.2) kvs vs
section
variable {X : Cx} {o i : Expr} {pos : Pos} {td ty : TE} {a : Addr} {kvs : List (Str × V)}
theorem KDict.of {pins : List (Addr × Obj)} {σ : St} {H : Hp} {s : Shared} (D : KDict X.prog X.w X.K a kvs) (I : Inv X pins σ H s) : ∃ vs, s.heap.DictOf (mixKind X.prog X.w) a vs ∧ Paired (fun (p : Str × V) (q : Key × Value) => q.1 = .inr p.1 ∧ RelV p.2 q.2) kvs vs := by
  obtain ⟨_, o, es, ep, vs, lk, ex, hd, hk, hp, nd, rel⟩ := D
  exact ⟨vs, ⟨o, es, ep, I.kIn a o lk, ex, hd, hk, hp, nd⟩, rel⟩
end
end L2

end

section
-- KcRaise
set_option Elab.async false
set_option linter.all false
set_option maxRecDepth 100000
set_option maxHeartbeats 4000000
namespace L2
open PySem PySem.Spec PyProof.Rows
/-! ### an exception of a class of the text, on its way out -/
noncomputable def CX1 (P : Program) (w : World) : CXT := fun outer H s E e s' =>
  ∃ (a C : Addr) (a0 : Value) (H' : Hp) (B : Heap), e = .ref a ∧ s'.os = s.os ∧ AllBare s'.gens ∧ Un (frs outer) [] H H' s.heap s'.heap ∧ HOk P w H' s'.heap ∧
    Heap.FlyingW B outer a (.ref C) a0 s'.heap ∧ (∀ b o, s.heap.get? b = some o → H b = none → b ∉ frs outer → B.get? b = some o) ∧
    (∀ b o, s.heap.get? b = some o → b ∉ frs outer → ∃ o', B.get? b = some o') ∧ (∀ b u o, H' b = some u → s'.heap.get? b = some o → B.get? b = some o) ∧ H' a = none ∧ E (.ref C) (some a) H'
theorem ObjOk.there {P : Program} {w : World} {H : Hp} {h : Heap} {a : Addr} {o : HO} (x : ObjOk P w H h a o) : ∃ ob, h.get? a = some ob := by
  cases o with
  | lst xs => obtain ⟨_, _, _, _, e⟩ := x; exact ⟨_, e⟩
  | tup xs => obtain ⟨_, _, _, _, e, _⟩ := x; exact ⟨_, e⟩
  | dK kvs => obtain ⟨_, _, _, _, o, _, _, e, _⟩ := x; exact ⟨_, e⟩
  | dT kvs => obtain ⟨_, _, _, _, o, _, _, e, _⟩ := x; exact ⟨_, e⟩
  | set S n => obtain ⟨o, _, _, _, e, _⟩ := x; exact ⟨_, e⟩
  | ins C dx fs => obtain ⟨_, _, _, e, _⟩ := x; exact ⟨_, e⟩
  | own y => exact x
  | xd fs => obtain ⟨_, ⟨_, _, _, e, _⟩, _⟩ := x; exact ⟨_, e⟩
  | rng lo hi => obtain ⟨_, _, _, e⟩ := x; exact ⟨_, e⟩
  | frz ob u => obtain ⟨e, _⟩ := x; exact ⟨_, e⟩
  | tbl ps => exact ⟨_, x⟩
  | met f y => exact ⟨_, x⟩
  | ext φ => obtain ⟨_, e, _⟩ := x; exact e
theorem HOk.on {P : Program} {w : World} {H : Hp} {h h' : Heap} (x : HOk P w H h) (k : ∀ b u o, H b = some u → h.get? b = some o → h'.get? b = some o) : HOk P w H h' := fun a o e =>
  (x a o e).stay (fun b u hb q => by
    rcases hb with rfl | hb
    · exact k _ _ _ e q
    · exact k _ _ _ hb q) (fun _ q => q) fun _ _ q => q
section
variable {P : Program} {w : World} {K : PySem.W.Frag} {mg : Str → Option Value} {base : Heap} {N : List Str} {qual : Str} {scope : Scope} {f : Addr} {cd : Value} {A : Around} {outer : List Env} {s : Shared} {H : Hp} {E : XK}
end

noncomputable def ExCls (K : PySem.W.Frag) (C : Addr) : Prop := ∃ (Bn newId inN B nid initId : String) (bmN bmB : List Value), ExcBaseFacts Bn newId inN bmN ∧ bmB.contains (.type Bn) = true ∧ ExcBaseFacts B nid initId bmB ∧
  ∀ h, K.In h → ∃ nm q N bs bm hdct sn sub ab col dd k0 k1 k2 k3 k5, ∃ mN : Str → Option Value, bm.contains (.type "BaseException") = true ∧ mN "__init__" = none ∧
    h.get? C = some (excClassObj nm q C N bs bm hdct sn sub ab col dd k0 k1 k2 k3 k5 newId) ∧ h.Ns N mN ∧ OwnTail h bmB bm
end L2

end

section
-- KcTry
set_option Elab.async false
set_option linter.all false
set_option maxRecDepth 100000
set_option maxHeartbeats 4000000
namespace L2
open PySem PySem.Spec PyProof.Rows
/-! ### what a flight leaves alone: B holds all that the body's facts lean on, but for the frames -/
structure Held (X : Cx) (pins : List (Addr × Obj)) (H : Hp) (B : Heap) : Prop where
  s0 : ∀ b o, X.s₀.heap.get? b = some o → b ∉ frs X.stack → ∃ o', B.get? b = some o'
  ce : ∀ x c, X.env.cells.lookup x = some c → ∃ o, B.get? c = some o
  pi : ∀ p ∈ X.pn ++ pins, B.get? p.1 = some p.2
  tr : ∀ b u, H b = some u → ∃ o, B.get? b = some o
section
variable {X : Cx} {pins : List (Addr × Obj)} {σ : St} {H : Hp} {s : Shared} {B h' : Heap}
end
section
variable {X : Cx} {pins pn pins' : List (Addr × Obj)} {σ : St} {H : Hp} {s : Shared} {B : Heap} {E : Value → Shared → Prop} {a : Addr}
end
end L2

end

section
-- KcExI
set_option Elab.async false
set_option linter.all false
set_option maxRecDepth 100000
set_option maxHeartbeats 4000000
namespace L2
open PySem PySem.Spec PySem.W PyProof.Rows
/-! ### isinstance of an own exception's object -/
structure ExI (K : Frag) (C : Addr) : Prop where
  ga : findIn K (.ref C) "__getattribute__" = some (some (.builtin "BaseException.__getattribute__"))
  gt : findIn K (.ref C) "__getattr__" = some none
  cl : findIn K (.ref C) "__class__" = some (some (.builtin "object.__class__"))
  mo : mroIn K C (.type "object") = some true
  mb : mroIn K C (.type "BaseException") = some true
section
variable {prog : Program} {w : World} {A : Around} {E : Value → Shared → Prop} {h : Heap} {g : Array GenState} {d : Drawn} {t : Nat} {os : OsState} {a : Addr} {o : Obj} {C : Addr} {K : Frag}
end
end L2

end

section
-- KcTryN
set_option Elab.async false
set_option linter.all false
set_option maxRecDepth 100000
set_option maxHeartbeats 4000000
namespace L2
open PySem PySem.Spec PySem.W PyProof.Rows
/-! ### a def that may raise -/
noncomputable def FnX (P : Program) (w : World) (K : Frag) (mg : Str → Option Value) (base : Heap) (k : Nat) (x : Str) (ps : List Str) (sp : Sp) : Prop :=
  ∃ f fd, FnOk P w K mg base (CX1 P w) k f fd ps sp ∧ mg x = some (.ref f) ∧ keepIn K (.ref f) = true ∧ Binds K fd ps []
theorem FnX.mono {P : Program} {w : World} {K : Frag} {mg : Str → Option Value} {base : Heap} {j k : Nat} {x : Str} {ps : List Str} {sp : Sp} (F : FnX P w K mg base j x ps sp) (h : j ≤ k) : FnX P w K mg base k x ps sp := by
  obtain ⟨f, fd, ok, r⟩ := F
  exact ⟨f, fd, ok.mono h, r⟩
/-! ### isinstance of the exception at a, of the class at C -/
noncomputable def IsCls (K : Frag) (C : Addr) : Prop := ∃ c' d' cd' sl', K.lookup C = some ⟨c', d', .cls cd', sl'⟩
end L2

end

section
-- KcKit
set_option Elab.async false
set_option linter.all false
set_option maxRecDepth 100000
set_option maxHeartbeats 4000000
namespace L2
open PySem
end L2

end

section
-- KcErrs
set_option Elab.async false
set_option linter.all false
set_option maxRecDepth 100000
set_option maxHeartbeats 4000000
namespace L2
open PySem PySem.Spec PySem.W PyProof.Rows
/-! ### the text's own errors -/
structure Errs where
  CardError : Addr
  NoPack : Addr
  TooMany : Addr
  NoHand : Addr
  NoRow : Addr
  NoSaying : Addr
structure ErrK (K : Frag) (G : Errs) : Prop where
  exm : exmOne K (.ref G.NoPack) (.ref G.CardError) = some true
  xi : ExI K G.NoPack
  ic : IsCls K G.NoPack
  k1 : kitOne K (.ref G.NoPack) (.ref G.NoPack) = some true
  k2 : kitOne K (.ref G.NoPack) (.type "ValueError") = some true
  k3 : kitAny K (.ref G.NoPack) [.ref G.NoHand, .ref G.NoRow, .ref G.NoSaying, .ref G.TooMany] = some false
structure ErrsOk (P : Program) (w : World) (K : Frag) (mg : Str → Option Value) (G : Errs) : Prop where
  ok : ErrK K G
  m_CardError : mg "CardError" = some (.ref G.CardError)
  m_NoPack : mg "NoPack" = some (.ref G.NoPack)
  m_TooMany : mg "TooMany" = some (.ref G.TooMany)
  m_NoHand : mg "NoHand" = some (.ref G.NoHand)
  m_NoRow : mg "NoRow" = some (.ref G.NoRow)
  m_NoSaying : mg "NoSaying" = some (.ref G.NoSaying)
  ex_NoPack : ExCls K G.NoPack
end L2

end

section
-- KcFs
set_option Elab.async false
set_option linter.all false
set_option maxRecDepth 100000
set_option maxHeartbeats 4000000
namespace L2
open PySem PySem.Spec PySem.W PyProof.Rows
/-! ### two promises of one def; a calm one is a raising one -/
section
variable {P : Program} {w : World} {K : Frag} {mg : Str → Option Value} {base : Heap} {k : Nat} {f : Addr} {fd : FuncData} {ps : List Str}
theorem FnOk.up {sp : Sp} (F : FnOk P w K mg base CX0 k f fd ps sp) : FnOk P w K mg base (CX1 P w) k f fd ps sp :=
  ⟨F.len, fun A outer s H args us vs Q E hr he hb hv hs => codeAny_mono (F.run A outer s H args us vs Q E hr he hb hv hs) fun r s' h => by
    cases r with
    | ok fl => cases fl <;> exact h
    | error e => exact (show False from h).elim⟩
theorem FnOk.or {CX : CXT} {sp sp' : Sp} (F : FnOk P w K mg base CX k f fd ps sp) (G : FnOk P w K mg base CX k f fd ps sp') : FnOk P w K mg base CX k f fd ps (fun vs H Q E => sp vs H Q E ∨ sp' vs H Q E) :=
  ⟨fun vs H Q E h => h.elim (F.len vs H Q E) (G.len vs H Q E), fun A outer s H args us vs Q E hr he hb hv hs => hs.elim (F.run A outer s H args us vs Q E hr he hb hv) (G.run A outer s H args us vs Q E hr he hb hv)⟩
end
/-! ### f"a {i} b" -/
end L2

end

section
-- KcErr4
set_option Elab.async false
set_option linter.all false
set_option maxRecDepth 100000
set_option maxHeartbeats 4000000
namespace L2
open PySem PySem.Spec PySem.W PyProof.Rows
structure Err1 (K : Frag) (G : Errs) (C : Addr) (b1 b2 : Bool) : Prop where
  exm : exmOne K (.ref C) (.ref G.CardError) = some true
  xi : ExI K C
  ic : IsCls K C
  k1 : kitOne K (.ref C) (.ref G.NoPack) = some b1
  k2 : kitOne K (.ref C) (.ref G.TooMany) = some b2
  k3 : kitOne K (.ref C) (.type "ValueError") = some true
  k4 : kitAny K (.ref C) [.ref G.NoHand, .ref G.NoRow, .ref G.NoSaying] = some false
structure ErrK4 (K : Frag) (G : Errs) : Prop where
  np : Err1 K G G.NoPack true false
  tm : Err1 K G G.TooMany false true
structure ErrsOk4 (P : Program) (w : World) (K : Frag) (mg : Str → Option Value) (G : Errs) : Prop where
  ok : ErrK4 K G
  m_CardError : mg "CardError" = some (.ref G.CardError)
  m_NoPack : mg "NoPack" = some (.ref G.NoPack)
  m_TooMany : mg "TooMany" = some (.ref G.TooMany)
  m_NoHand : mg "NoHand" = some (.ref G.NoHand)
  m_NoRow : mg "NoRow" = some (.ref G.NoRow)
  m_NoSaying : mg "NoSaying" = some (.ref G.NoSaying)
  ex_NoPack : ExCls K G.NoPack
  ex_TooMany : ExCls K G.TooMany
end L2

end

section
-- KcCls
set_option Elab.async false
set_option linter.all false
set_option maxRecDepth 100000
set_option maxHeartbeats 4000000
/-! classes of the text: methods, making -/
namespace L2
open PySem PySem.Spec PySem.W PyProof.Rows
section
variable {P : Program} {w : World} {K : Frag} {mg : Str → Option Value} {base : Heap}
noncomputable def FnM (P : Program) (w : World) (K : Frag) (mg : Str → Option Value) (base : Heap) (k : Nat) (C : Addr) (m : Str) (ps : List Str) (sp : Sp) : Prop :=
  ∃ f fd, FnOk P w K mg base CX0 k f fd ps sp ∧ Meth K C m f ∧ Binds K fd ps []
theorem FnM.mono {j k : Nat} {C : Addr} {m : Str} {ps : List Str} {sp : Sp} (F : FnM P w K mg base j C m ps sp) (h : j ≤ k) : FnM P w K mg base k C m ps sp := by
  obtain ⟨f, fd, ok, r⟩ := F
  exact ⟨f, fd, ok.mono h, r⟩
structure DefM (K : Frag) (C : Addr) (m qual : Str) (st : Stmt) (ps : List Str) (f : Addr) (fd : FuncData) : Prop where
  fn : Fun K m qual st f fd
  mt : Meth K C m f
  b : Binds K fd ps []
theorem DefM.ok {C : Addr} {m qual : Str} {st : Stmt} {N ps : List Str} {f : Addr} {fd : FuncData} {k : Nat} {sp : Sp} (D : DefM K C m qual st ps f fd) (S : FnScope N ps (defScope st)) (len : ∀ vs H Q E, sp vs H Q E → vs.length = ps.length)
    (hbody : ∀ (cdv : Value) (A : Around) (outer : List Env) (s : Shared) (H : Hp) (vs : List V) (Q : VK) (E : XK), Room k (A.deeper (envOfC qual (defScope st) s.heap.objs.size f cdv)) → sp vs H Q E →
      ∃ t, PSs (cxOf CX0 P w K mg base N qual (defScope st) f cdv A outer s H E).nox (defBody st) t ∧ t { nx := fun _ H' => Q .non H', rt := Q } (start N vs) H) : FnM P w K mg base (k + 1) C m ps sp :=
  ⟨f, fd, D.fn.ok S len hbody, D.mt, D.b⟩
noncomputable def FnI (P : Program) (w : World) (K : Frag) (mg : Str → Option Value) (base : Heap) (k : Nat) (C : Addr) (ps : List Str) (sp : Sp) : Prop :=
  ∃ f fd, FnOk P w K mg base CX0 k f fd ps sp ∧ Mk K C f ∧ Binds K fd ps []
structure DefI (K : Frag) (C : Addr) (qual : Str) (st : Stmt) (ps : List Str) (f : Addr) (fd : FuncData) : Prop where
  fn : Fun K "__init__" qual st f fd
  made : Mk K C f
  b : Binds K fd ps []
theorem DefI.ok {C : Addr} {qual : Str} {st : Stmt} {N ps : List Str} {f : Addr} {fd : FuncData} {k : Nat} {sp : Sp} (D : DefI K C qual st ps f fd) (S : FnScope N ps (defScope st)) (len : ∀ vs H Q E, sp vs H Q E → vs.length = ps.length)
    (hbody : ∀ (cdv : Value) (A : Around) (outer : List Env) (s : Shared) (H : Hp) (vs : List V) (Q : VK) (E : XK), Room k (A.deeper (envOfC qual (defScope st) s.heap.objs.size f cdv)) → sp vs H Q E →
      ∃ t, PSs (cxOf CX0 P w K mg base N qual (defScope st) f cdv A outer s H E).nox (defBody st) t ∧ t { nx := fun _ H' => Q .non H', rt := Q } (start N vs) H) : FnI P w K mg base (k + 1) C ps sp :=
  ⟨f, fd, D.fn.ok S len hbody, D.made, D.b⟩
end
section
variable {X : Cx} {k : Nat} {C : Addr} {m : Str} {ps : List Str} {sp : Sp} {p pos apos : Pos} {o e : Expr} {es : List Expr} {ta : TE} {t : TA}
theorem pac_Attribute {a : Expr} {f : Str} {p : Pos} {te : TE} (ha : PE X (.Attribute a f p) te) (hr : PA X es t) : PA X (.Attribute a f p :: es) (tCons te t) := pa_cons ha hr rfl
theorem pe_methF {pl : Sem Bool} (F : FnM X.prog X.w X.K X.mg X.base k C m ps sp) (hr : Room k X.A) (c : Cls X.K C) (he : PE X o ta) (ha : PA X (e :: es) t)
    (hst : starEach (e :: es) X.env = (false, eval e X.env) :: starEach es X.env := by rfl) (hpl : (backTo pos (starEach es X.env)).any (·.1) = false := by rfl)
    (ht : eval (.Call (.Attribute o m apos) (e :: es) [] pos) X.env = (do
      let ov ← eval o X.env
      standAt apos.atName
      let (f, first) ← holding [ov] (getMethod ov m pl)
      callWith pos f first (backTo pos (starEach (e :: es) X.env)) (backToKw pos (keywordEach [] X.env))) := by rfl) :
    PE X (.Call (.Attribute o m apos) (e :: es) [] pos) (tMeth C m sp [] E0 ta t) := by
  obtain ⟨f, fd, ok, mt, b⟩ := F
  exact pe_meth he c mt ok hr b .nil pass0 ha hst hpl ht
theorem pe_makeF {x : Str} (F : FnI X.prog X.w X.K X.mg X.base k C ps sp) (hr : Room (k + 1) X.A) (hm : X.mg x = some (.ref C)) (ha : PA X (e :: es) t) (hg : Gl X x := by rfl)
    (hdb : (x == ("__debug__" : Str)) = false := by decide) (he : starEach (e :: es) X.env = (false, eval e X.env) :: starEach es X.env := by rfl) (hpl : (backTo pos (starEach es X.env)).any (·.1) = false := by rfl) :
    PE X (.Call (.Name x p) (e :: es) [] pos) (tMake C sp [] E0 t) := by
  obtain ⟨f, fd, ok, mk, b⟩ := F
  exact pe_make mk ok hr hg hm b .nil pass0 ha hdb he hpl
end
end L2

end

section
-- KcGT
set_option Elab.async false
set_option linter.all false
set_option maxRecDepth 100000
set_option maxHeartbeats 4000000
namespace L2
open PySem PySem.Spec PySem.W PyProof.Rows
structure GT extends Errs where
  Table : Addr
structure TabsT (P : Program) (w : World) (K : Frag) (mg : Str → Option Value) (G : GT) : Prop extends ErrsOk4 P w K mg G.toErrs where
  m_Table : mg "Table" = some (.ref G.Table)
  cl_Table : Cls K G.Table
  n1 : NoAttr K G.Table "dealt"
  n2 : NoAttr K G.Table "cards"
  n3 : NoAttr K G.Table "sizes"
  n4 : NoAttr K G.Table "hands"
  n5 : NoAttr K G.Table "views"
  n6 : NoAttr K G.Table "deeds"
structure ClsT (K : Frag) (C : Addr) : Prop where
  cl : Cls K C
  n1 : NoAttr K C "dealt"
  n2 : NoAttr K C "cards"
  n3 : NoAttr K C "sizes"
  n4 : NoAttr K C "hands"
  n5 : NoAttr K C "views"
  n6 : NoAttr K C "deeds"
theorem TabsT.ct {P : Program} {w : World} {K : Frag} {mg : Str → Option Value} {G : GT} (T : TabsT P w K mg G) : ClsT K G.Table := ⟨T.cl_Table, T.n1, T.n2, T.n3, T.n4, T.n5, T.n6⟩
end L2

end

section
-- KcGC
set_option Elab.async false
set_option linter.all false
set_option maxRecDepth 100000
set_option maxHeartbeats 4000000
namespace L2
open PySem PySem.Spec PySem.W PyProof.Rows
structure GC where
  Table : Addr
structure TabsC (P : Program) (w : World) (K : Frag) (mg : Str → Option Value) (G : GC) : Prop where
  m_Table : mg "Table" = some (.ref G.Table)
  ct : ClsT K G.Table
theorem TabsC.cl_Table {P : Program} {w : World} {K : Frag} {mg : Str → Option Value} {G : GC} (T : TabsC P w K mg G) : Cls K G.Table := T.ct.cl
theorem tabsC_mk {P : Program} {w : World} {K : Frag} {mg : Str → Option Value} {aT : Addr} (m : mg "Table" = some (.ref aT)) (pg : plainGet K aT Str.empty = true) (hd : hasDictIn K aT = true) (po : plainOver K aT = true) (sa : findIn K (.ref aT) "__setattr__" = some (some (.builtin "object.__setattr__")))
    (n1 : findIn K (.ref aT) "dealt" = some none) (n2 : findIn K (.ref aT) "cards" = some none) (n3 : findIn K (.ref aT) "sizes" = some none) (n4 : findIn K (.ref aT) "hands" = some none) (n5 : findIn K (.ref aT) "views" = some none) (n6 : findIn K (.ref aT) "deeds" = some none) : TabsC P w K mg ⟨aT⟩ :=
  ⟨m, ⟨⟨pg, hd, po, sa⟩, n1, n2, n3, n4, n5, n6⟩⟩
end L2

end

section
-- KcTabC
set_option Elab.async false
set_option linter.all false
set_option maxRecDepth 100000
set_option maxHeartbeats 4000000
namespace L2
open PySem PyProof.Rows

theorem r_sFld {K : PySem.W.Frag} {ta tv : TE} {f : Str} {D : Ends} {σ : St} {H : Hp} (h : tv σ H fun y H1 => ta σ H1 fun x H2 => ∃ a C dx fs, x = .ref a ∧ H2 a = some (.ins C dx fs) ∧ Cls K C ∧ NoAttr K C f ∧ fs.length < 1000 ∧ D.nx σ (upd H2 a (.ins C dx (putF f y fs)))) : sFld K ta tv f D σ H := h
theorem r_fld {K : PySem.W.Frag} {ta : TE} {f : Str} {σ : St} {H : Hp} {Q : VK} (h : ta σ H fun x H1 => ∃ a C dx fs v, x = .ref a ∧ H1 a = some (.ins C dx fs) ∧ Cls K C ∧ NoAttr K C f ∧ fs.lookup f = some v ∧ Q v H1) : tFld K ta f σ H Q := h
theorem r_make {C : Addr} {sp : Sp} {dvs : List V} {E : XK} {t : TA} {σ : St} {H : Hp} {Q : VK} (h : t σ H fun vs H1 => ∀ x dx, H1 x = none → H1 dx = none → dx ≠ x → sp (.ref x :: (vs ++ dvs)) (upd (upd H1 dx (.own x)) x (.ins C dx [])) (fun v H2 => v = .non ∧ Q (.ref x) H2) E) : tMake C sp dvs E t σ H Q := h
theorem r_meth {C : Addr} {m : Str} {sp : Sp} {dvs : List V} {E : XK} {ta : TE} {t : TA} {σ : St} {H : Hp} {Q : VK} (h : ta σ H fun x H1 => ∃ a dx fs, x = .ref a ∧ H1 a = some (.ins C dx fs) ∧ fs.lookup m = none ∧ t σ H1 fun vs H2 => sp (x :: (vs ++ dvs)) H2 Q E) : tMeth C m sp dvs E ta t σ H Q := h
noncomputable def Kx (x : Addr) (H H' : Hp) : Prop := ∀ b o, b ≠ x → H b = some o → H' b = some o
theorem Kx.refl (x : Addr) (H : Hp) : Kx x H H := fun _ _ _ e => e
theorem Kx.same {x : Addr} {H H1 H2 : Hp} (k : Kx x H H1) (s : Same H1 H2) : Kx x H H2 := fun b o n e => s _ _ (k b o n e)
theorem Kx.upd {x : Addr} {H H1 : Hp} {u : HO} (k : Kx x H H1) : Kx x H (L2.upd H1 x u) := fun b o n e => by rw [upd_ne n]; exact k b o n e

theorem ne_ins {H : Hp} {x b : Addr} {C dx : Addr} {fs : List (Str × V)} {xs : List V} (hx : H x = some (.ins C dx fs)) (e : H b = some (.lst xs)) : b ≠ x := fun z => by rw [z, hx] at e; cases e
noncomputable def LstAt (H : Hp) (q : Addr) (v : List Nat) : Prop := H q = some (.lst (natV v))
noncomputable def TbC (G : GC) (H : Hp) (x : Addr) (c k : Nat) (ws vw : List (List Nat)) (pd pv pe : Addr) (qs : List Addr) (ds : List V) : Prop :=
  ∃ (dx ps : Addr), H x = some (.ins G.Table dx [("dealt", .ref pd), ("cards", .int c), ("sizes", .ref ps), ("hands", .int k), ("views", .ref pv), ("deeds", .ref pe)]) ∧ DealsAt H pd ws ∧ H pv = some (.lst (qs.map V.ref)) ∧ Paired (LstAt H) qs vw ∧ vw.length = k ∧ H pe = some (.lst ds) ∧
    pd ≠ pv ∧ pd ≠ pe ∧ pv ≠ pe ∧ pv ∉ qs ∧ pe ∉ qs
theorem paired_up {α β : Type} {F F' : α → β → Prop} {l : List α} {m : List β} (h : Paired F l m) (f : ∀ a ∈ l, ∀ b, F a b → F' a b) : Paired F' l m := by
  induction h with
  | nil => exact .nil
  | cons r _ ih => exact .cons (f _ List.mem_cons_self _ r) (ih fun a ha => f a (List.mem_cons_of_mem _ ha))
theorem ixN_c {n j : Nat} (h : j < n) : ixN n (j : Int) = some j := by
  unfold ixN
  rw [if_pos (by omega), if_pos (by omega)]
  simp
theorem paired_set {α β : Type} {F : α → β → Prop} {l : List α} {m : List β} (h : Paired F l m) {a : α} {b : β} (r : F a b) : ∀ i : Nat, Paired F (l.set i a) (m.set i b) := by
  induction h with
  | nil => exact fun i => .nil
  | cons r' t ih =>
    intro i
    cases i with
    | zero => exact .cons r t
    | succ i => exact .cons r' (ih i)
noncomputable def Free (H H' : Hp) (ks : List Addr) : Prop := ∀ b o, b ∉ ks → H b = some o → H' b = some o
theorem TbC.off {G : GC} {H H' : Hp} {x : Addr} {c k : Nat} {ws vw : List (List Nat)} {pd pv pe : Addr} {qs : List Addr} {ds : List V} {ks : List Addr} (t : TbC G H x c k ws vw pd pv pe qs ds) (kl : ∀ b ∈ ks, ∃ xs, H b = some (.lst xs)) (f : Free H H' ks) (n1 : pd ∉ ks) (n2 : pv ∉ ks) (n3 : pe ∉ ks) (n4 : ∀ q ∈ qs, q ∉ ks) : TbC G H' x c k ws vw pd pv pe qs ds := by
  obtain ⟨dx, ps, h1, ⟨rs, d1, d2⟩, h3, h4, h5, h6, r⟩ := t
  refine ⟨dx, ps, f _ _ (fun z => ?_) h1, ⟨rs, f _ _ n1 d1, Paired.mapP d2 fun a w e => f _ _ (fun z => ?_) e⟩, f _ _ n2 h3, ?_, h5, f _ _ n3 h6, r⟩
  · obtain ⟨xs, e⟩ := kl _ z
    rw [h1] at e
    cases e
  · obtain ⟨xs, e'⟩ := kl _ z
    rw [e] at e'
    cases e'
  · exact paired_up h4 fun a ha b e => f _ _ (n4 a ha) e
noncomputable def sp_Table_view (_ : PySem.W.Frag) (G : GC) : Sp := fun vs H Q _ => ∃ (x : Addr) (c k i : Nat) (ws vw : List (List Nat)) (v : List Nat) (pd pv pe : Addr) (qs : List Addr) (ds : List V), vs = [.ref x, .int i] ∧ TbC G H x c k ws vw pd pv pe qs ds ∧ vw[i]? = some v ∧ ∀ (p : Addr) (H' : Hp), H p = none → Same H H' → H' p = some (.lst (natV v)) → Q (.ref p) H'
noncomputable def t_Table_view (K : PySem.W.Frag) (G : GC) : TS := (tSeq (tDrop (tCall (sp_refuse_unless K) [] E0 (tCons (tCall (sp_is_below K) [] E0 (tCons (tVar 1) (tCons (tFld K (tVar 0) "hands") tNil))) (tCons (tC (.str "this is no hand")) tNil))))
  (tRet (tCB (mCList K) (tCons (tOp (rIxL K) (tFld K (tVar 0) "views") (tVar 1)) tNil))))
noncomputable abbrev N_Table_view : List Str := ["self", "hand"]
theorem len_Table_view {K : PySem.W.Frag} {G : GC} {vs : List V} {H : Hp} {Q : VK} {E : XK} (h : sp_Table_view K G vs H Q E) : vs.length = 2 := by
  obtain ⟨x, c, k, i, ws, vw, v, pd, pv, pe, qs, ds, rfl, _⟩ := h
  rfl
theorem rd_Table_view {K : PySem.W.Frag} {G : GC} (ct : ClsT K G.Table) {vs : List V} {H : Hp} {Q : VK} {E : XK} (h : sp_Table_view K G vs H Q E) : t_Table_view K G { nx := fun _ H' => Q .non H', rt := Q } (start N_Table_view vs) H := by
  obtain ⟨x, c, k, i, ws, vw, v, pd, pv, pe, qs, ds, rfl, ⟨dx, ps, hx, D, ev, hv, lv, ee, _⟩, hi, q⟩ := h
  have hk : i < k := by rw [← lv]; exact (List.getElem?_eq_some_iff.mp hi).1
  show t_Table_view K G _ [some _, some _] _
  unfold t_Table_view
  walk_at "rd"
  refine r_fld ?_
  walk_at "rd"
  refine ⟨x, G.Table, dx, _, _, rfl, hx, ct.cl, ct.n4, rfl, ?_⟩
  walk_at "rd"
  refine ⟨(i : Int), (k : Int), rfl, ?_⟩
  walk_at "rd"
  rw [decide_eq_true (show (0 : Int) ≤ (i : Int) by omega), decide_eq_true (show (i : Int) ≤ (k : Int) - 1 by omega)]
  refine ⟨_, rfl, ?_⟩
  walk_at "rd"
  refine r_fld ?_
  walk_at "rd"
  refine ⟨x, G.Table, dx, _, _, rfl, hx, ct.cl, ct.n5, rfl, ?_⟩
  walk_at "rd"
  have lq : qs.length = vw.length := Paired.length hv
  have hq : qs[i]? = some (qs[i]'(by omega)) := List.getElem?_eq_getElem _
  generalize qs[i]'(by omega) = qi at hq
  obtain ⟨v', hv', h2⟩ := paired_at hv hq
  rw [hi] at hv'
  cases hv'
  refine r_ixL (SqL.of ev) (atI_nat (v := .ref qi) (by rw [List.getElem?_map, hq]; rfl)) ?_
  walk_at "rd"
  refine m_list (SqL.of h2) fun p H1 hp s1 e1 => ?_
  exact q p H1 hp s1 e1
noncomputable def sp_Table_learn (_ : PySem.W.Frag) (G : GC) : Sp := fun vs H Q _ => ∃ (x tp vp : Addr) (c k i : Nat) (ws vw : List (List Nat)) (v : List Nat) (as : List IA) (pd pv pe : Addr) (qs : List Addr) (ds : List V), vs = [.ref x, .ref tp, .ref vp] ∧ H tp = some (.tup [.int i]) ∧ H vp = some (.lst (as.map iaR)) ∧ TbC G H x c k ws vw pd pv pe qs ds ∧ vw[i]? = some v ∧
  v.length = as.length ∧ v.length ≤ 100000 ∧ ds.length < 1000 ∧ vp ≠ pv ∧ vp ≠ pe ∧
  ∀ (p q : Addr) (d : V) (H' : Hp), H p = none → H q = none → p ≠ q → Free H H' [pv, pe] → H' p = some (.lst (as.map iaR)) → TbC G H' x c k ws (vw.set i (splitL v as)) pd pv pe (qs.set i q) (ds ++ [d]) → Q (.ref p) H'
noncomputable def t_Table_learn (K : PySem.W.Frag) (G : GC) : TS := (tSeq (tFor (iTup K (tVar 1)) (gName 3) (tAsg (tCall (sp_split K) [] E0 (tCons (tOp (rIxL K) (tFld K (tVar 0) "views") (tVar 3)) (tCons (tVar 2) tNil))) (gSub (tFld K (tVar 0) "views") (tVar 3) rSetL)))
  (tSeq (tDrop (tBM K "list" rAppend (tFld K (tVar 0) "deeds") (tCons (mTup (tCons (tVar 1) (tCons (tVar 2) tNil))) tNil)))
  (tRet (tCB (mCList K) (tCons (tVar 2) tNil)))))
noncomputable abbrev N_Table_learn : List Str := ["self", "hands", "values", "hand"]
theorem rd_Table_learn {K : PySem.W.Frag} {G : GC} (ct : ClsT K G.Table) {vs : List V} {H : Hp} {Q : VK} {E : XK} (h : sp_Table_learn K G vs H Q E) : t_Table_learn K G { nx := fun _ H' => Q .non H', rt := Q } (start N_Table_learn vs) H := by
  obtain ⟨x, tp, vp, c, k, i, ws, vw, v, as, pd, pv, pe, qs, ds, rfl, et, evp, ⟨dx, ps, hx, D, ev, hv, lv, ee, n1, n2, n3, n4, n5⟩, hi, hl, hn, hd, n6, n7, q⟩ := h
  show t_Table_learn K G _ [some _, some _, some _, none] _
  unfold t_Table_learn
  walk_at "rd"
  have lq : qs.length = vw.length := Paired.length hv
  have hiv : i < vw.length := (List.getElem?_eq_some_iff.mp hi).1
  have hq : qs[i]? = some (qs[i]'(by omega)) := List.getElem?_eq_getElem _
  generalize qs[i]'(by omega) = qi at hq
  obtain ⟨v', hv', h2⟩ := paired_at hv hq
  rw [hi] at hv'
  cases hv'
  have ntp : tp ≠ pv := fun z => by rw [z, ev] at et; cases et
  have nx1 : x ≠ pv := Ne.symm (ne_ins hx ev)
  refine lp_tup [.int i] (SqT.of et) (fun j σ' H2 => ∃ u : Option V, σ' = [some (.ref x), some (.ref tp), some (.ref vp), u] ∧ ((j = 0 ∧ H2 = H) ∨ (j = 1 ∧ ∃ q', H q' = none ∧ H2 q' = some (.lst (natV (splitL v as))) ∧ Free H H2 [pv] ∧ H2 pv = some (.lst ((qs.set i q').map V.ref))))) ⟨none, rfl, .inl ⟨rfl, rfl⟩⟩ ?_ ?_ ?_
  · rintro j σ' H2 hj ⟨u, rfl, h⟩
    rcases h with ⟨_, rfl⟩ | ⟨_, q', _, _, f1, _⟩
    · exact SqT.of et
    · exact SqT.of (f1 _ _ (fun z => ntp (List.mem_singleton.mp z)) et)
  · rintro j y σ' H2 hy ⟨u, rfl, ⟨rfl, rfl⟩ | ⟨rfl, _⟩⟩
    · obtain rfl : V.int i = y := Option.some.inj hy
      walk_at "rd"
      refine r_fld ?_
      walk_at "rd"
      refine ⟨x, G.Table, dx, _, _, rfl, hx, ct.cl, ct.n5, rfl, ?_⟩
      walk_at "rd"
      refine r_ixL (SqL.of ev) (atI_nat (v := .ref qi) (by rw [List.getElem?_map, hq]; rfl)) ?_
      walk_at "rd"
      refine ⟨qi, vp, v, as.map iaR, as, rfl, h2, evp, by rw [List.map_map]; exact List.map_congr_left fun a _ => iaV_R a, hl, hn, fun q' H1 hq' s1 e1 => ?_⟩
      walk_at "rd"
      refine r_fld ?_
      walk_at "rd"
      refine ⟨x, G.Table, dx, _, _, rfl, s1 _ _ hx, ct.cl, ct.n5, rfl, ?_⟩
      walk_at "rd"
      refine r_setL (s1 _ _ ev) (ixN_c (by rw [List.length_map]; omega)) ?_
      have nq : q' ≠ pv := fun z => by rw [z, ev] at hq'; cases hq'
      refine ⟨_, rfl, .inr ⟨rfl, q', hq', by rw [upd_ne nq]; exact e1, fun b o nb e => ?_, by rw [upd_same, List.map_set]⟩⟩
      rw [upd_ne (fun z => nb (List.mem_singleton.mpr z))]
      exact s1 _ _ e
    · cases hy
  · rintro σ' H2 ⟨u, rfl, ⟨z, _⟩ | ⟨_, q', hq', e1, f1, e2⟩⟩
    · cases z
    · have hx2 := f1 _ _ (fun z => nx1 (List.mem_singleton.mp z)) hx
      have ee2 := f1 _ _ (fun z => n3 (List.mem_singleton.mp z).symm) ee
      walk_at "rd"
      refine r_fld ?_
      walk_at "rd"
      refine ⟨x, G.Table, dx, _, _, rfl, hx2, ct.cl, ct.n6, rfl, ?_⟩
      refine ⟨.inl ⟨rfl, _, SqL.of ee2⟩, ?_⟩
      walk_at "rd"
      refine ⟨by simp [sizeLine_eq], fun p3 H3 hp3 s3 e3 => ?_⟩
      walk_at "rd"
      refine r_append (s3 _ _ ee2) (by rw [sizeLine_eq]; omega) fun H4 o4 e4 => ?_
      have F4 : Free H H4 [pv, pe] := fun b o nb e => by
        have b1 : b ∉ [pv] := fun z => nb (by rw [List.mem_singleton.mp z]; exact List.mem_cons_self)
        have b2 : b ≠ pe := fun z => nb (by rw [z]; exact List.mem_cons_of_mem _ List.mem_cons_self)
        exact (o4 b b2).trans (s3 _ _ (f1 b o b1 e))
      have v4 : H4 pv = some (.lst ((qs.set i q').map V.ref)) := (o4 _ n3).trans (s3 _ _ e2)
      have nq : q' ≠ pv := fun z => by rw [z, ev] at hq'; cases hq'
      have nq2 : q' ≠ pe := fun z => by rw [z, ee] at hq'; cases hq'
      have q4 : H4 q' = some (.lst (natV (splitL v as))) := (o4 _ nq2).trans (s3 _ _ e1)
      have off : ∀ b, b ≠ pv → b ≠ pe → b ∉ [pv, pe] := fun b b1 b2 z => by
        rcases List.mem_cons.mp z with z | z
        · exact b1 z
        · exact b2 (List.mem_singleton.mp z)
      walk_at "rd"
      refine m_list (SqL.of (F4 _ _ (off _ n6 n7) evp)) fun p5 H5 hp5 s5 e5 => ?_
      have F5 : Free H H5 [pv, pe] := fun b o nb e => s5 _ _ (F4 b o nb e)
      have hp : H p5 = none := by
        cases e : H p5 with
        | none => rfl
        | some o =>
          by_cases z : p5 ∈ [pv, pe]
          · rcases List.mem_cons.mp z with z | z
            · rw [z, v4] at hp5
              cases hp5
            · rw [List.mem_singleton.mp z, e4] at hp5
              cases hp5
          · rw [F4 _ _ z e] at hp5
            cases hp5
      obtain ⟨rs, d1, d2⟩ := D
      refine q p5 q' (.ref p3) H5 hp hq' (fun z => by rw [z, q4] at hp5; cases hp5) F5 e5 ⟨dx, ps, F5 _ _ (off _ nx1 (Ne.symm (ne_ins hx ee))) hx, ⟨rs, F5 _ _ (off _ n1 n2) d1, Paired.mapP d2 fun a w e => F5 _ _ (off _ (fun z => by rw [z, ev] at e; cases e) (fun z => by rw [z, ee] at e; cases e)) e⟩, s5 _ _ v4, paired_set (paired_up hv fun a ha b e => F5 _ _ (off _ (fun z => n4 (z ▸ ha)) (fun z => n5 (z ▸ ha))) e) (s5 _ _ q4) i, by rw [List.length_set]; exact lv, s5 _ _ e4, n1, n2, n3, fun z => ?_, fun z => ?_⟩
      · rcases List.mem_or_eq_of_mem_set z with z | z
        · exact n4 z
        · exact nq z.symm
      · rcases List.mem_or_eq_of_mem_set z with z | z
        · exact n5 z
        · exact nq2 z.symm
theorem len_Table_learn {K : PySem.W.Frag} {G : GC} {vs : List V} {H : Hp} {Q : VK} {E : XK} (h : sp_Table_learn K G vs H Q E) : vs.length = 3 := by
  obtain ⟨x, tp, vp, c, k, i, ws, vw, v, as, pd, pv, pe, qs, ds, rfl, _⟩ := h
  rfl
theorem LeastH.of {w : List Nat} {h : Int} {cs ds : List Int} {a : IA} (m : ∀ y, y ∈ cs ↔ y ∈ ds) (x : LeastH w h cs a) : LeastH w h ds a := by
  rcases x with ⟨rfl, x⟩ | ⟨c, rfl, x1, x2, x3⟩
  · exact .inl ⟨rfl, fun c hc => x c ((m c).mpr hc)⟩
  · exact .inr ⟨c, rfl, (m c).mp x1, x2, fun d hd => x3 d ((m d).mpr hd)⟩
theorem paired_put {α β : Type} {F : α → β → Prop} {l : List α} {m : List β} (h : Paired F l m) {a : α} {b : β} (r : F a b) : Paired F (l ++ [a]) (m ++ [b]) := by
  induction h with
  | nil => exact .cons r .nil
  | cons r' _ ih => exact .cons r' ih
theorem TbC.same {G : GC} {H H' : Hp} {x : Addr} {c k : Nat} {ws vw : List (List Nat)} {pd pv pe : Addr} {qs : List Addr} {ds : List V} (t : TbC G H x c k ws vw pd pv pe qs ds) (s : Same H H') : TbC G H' x c k ws vw pd pv pe qs ds :=
  t.off (ks := []) (fun _ z => nomatch z) (fun b o _ e => s _ _ e) (fun z => nomatch z) (fun z => nomatch z) (fun z => nomatch z) (fun _ _ z => nomatch z)
noncomputable def sp_Table_show (_ : PySem.W.Frag) (G : GC) : Sp := fun vs H Q _ => ∃ (x l : Addr) (c k i : Nat) (h : Int) (ns : List Int) (ws vw : List (List Nat)) (v : List Nat) (pd pv pe : Addr) (qs : List Addr) (ds : List V), vs = [.ref x, .int i, .int h, .ref l] ∧ H l = some (.lst (ns.map V.int)) ∧ TbC G H x c k ws vw pd pv pe qs ds ∧ vw[i]? = some v ∧
  v.length = ws.length ∧ ws.length ≤ 2000 ∧ (∀ w ∈ ws, w.length = c) ∧ ds.length < 1000 ∧ 0 ≤ h ∧ h ≤ k ∧ ns.length < 64 ∧ (∀ n ∈ ns, 0 ≤ n ∧ n < c) ∧
  ∀ (p q : Addr) (d : V) (as : List IA) (H' : Hp), H p = none → H q = none → p ≠ q → Free H H' [pv, pe] → H' p = some (.lst (as.map iaR)) → Paired (fun w a => LeastH w h ns a) ws as → TbC G H' x c k ws (vw.set i (splitL v as)) pd pv pe (qs.set i q) (ds ++ [d]) → Q (.ref p) H'
noncomputable def t_Table_show (K : PySem.W.Frag) (G : GC) : TS := (tSeq (tDrop (tCall (sp_refuse_unless K) [] E0 (tCons (tCall (sp_is_below K) [] E0 (tCons (tVar 1) (tCons (tFld K (tVar 0) "hands") tNil))) (tCons (tC (.str "this is no hand")) tNil))))
  (tSeq (tDrop (tCall (sp_refuse_unless K) [] E0 (tCons (tCall (sp_is_below K) [] E0 (tCons (tVar 2) (tCons (tOp (rI0 fun i j => .int (i + j)) (tFld K (tVar 0) "hands") (tC (.int 1))) tNil))) (tCons (tC (.str "this is no holder")) tNil))))
  (tSeq (tDrop (tCall (sp_refuse_unless K) [] E0 (tCons (tCall (sp_are_cards K) [] E0 (tCons (tVar 3) (tCons (tFld K (tVar 0) "cards") tNil))) (tCons (tC (.str "this is no list of cards")) tNil))))
  (tSeq (tAsg (mSortSet K (tCons (tVar 3) tNil)) (gName 4))
  (tRet (tMeth G.Table "learn" (sp_Table_learn K G) [] E0 (tVar 0) (tCons (mTup (tCons (tVar 1) tNil)) (tCons (tComp (iList K (tFld K (tVar 0) "dealt")) (fun _ _ _ _ => (gName 0)) (fun _ _ _ _ => tAlways) (fun _ _ _ _ => (tCall (sp_least_held K) [] E0 (tCons (tVar 0) (tCons (tVar 1) (tCons (tVar 2) tNil))))) [none, some 2, some 4]) tNil))))))))
noncomputable abbrev N_Table_show : List Str := ["self", "hand", "holder", "some", "rising"]
theorem len_Table_show {K : PySem.W.Frag} {G : GC} {vs : List V} {H : Hp} {Q : VK} {E : XK} (h : sp_Table_show K G vs H Q E) : vs.length = 4 := by
  obtain ⟨x, l, c, k, i, h, ns, ws, vw, v, pd, pv, pe, qs, ds, rfl, _⟩ := h
  rfl
theorem rd_Table_show {K : PySem.W.Frag} {G : GC} (ct : ClsT K G.Table) {vs : List V} {H : Hp} {Q : VK} {E : XK} (h : sp_Table_show K G vs H Q E) : t_Table_show K G { nx := fun _ H' => Q .non H', rt := Q } (start N_Table_show vs) H := by
  obtain ⟨x, l, c, k, i, h, ns, ws, vw, v, pd, pv, pe, qs, ds, rfl, el, tb, hi, hv, hw, hwc, hd, h0, h1, hns, hnb, q⟩ := h
  obtain ⟨dx, ps, hx, D, ev, hvw, lv, ee, nn⟩ := id tb
  have hk : i < k := by rw [← lv]; exact (List.getElem?_eq_some_iff.mp hi).1
  show t_Table_show K G _ [some _, some _, some _, some _, none] _
  unfold t_Table_show
  walk_at "rd"
  refine r_fld ?_
  walk_at "rd"
  refine ⟨x, G.Table, dx, _, _, rfl, hx, ct.cl, ct.n4, rfl, ?_⟩
  walk_at "rd"
  refine ⟨(i : Int), (k : Int), rfl, ?_⟩
  walk_at "rd"
  rw [decide_eq_true (show (0 : Int) ≤ (i : Int) by omega), decide_eq_true (show (i : Int) ≤ (k : Int) - 1 by omega)]
  refine ⟨_, rfl, ?_⟩
  walk_at "rd"
  refine r_fld ?_
  walk_at "rd"
  refine ⟨x, G.Table, dx, _, _, rfl, hx, ct.cl, ct.n4, rfl, ?_⟩
  walk_at "rd"
  refine ⟨h, (k : Int) + 1, rfl, ?_⟩
  walk_at "rd"
  rw [decide_eq_true h0, decide_eq_true (show h ≤ (k : Int) + 1 - 1 by omega)]
  refine ⟨_, rfl, ?_⟩
  walk_at "rd"
  refine r_fld ?_
  walk_at "rd"
  refine ⟨x, G.Table, dx, _, _, rfl, hx, ct.cl, ct.n2, rfl, ?_⟩
  walk_at "rd"
  refine ⟨l, ns, (c : Int), rfl, el, by omega, hnb, fun H1 s1 => ?_⟩
  walk_at "rd"
  refine ⟨_, rfl, ?_⟩
  walk_at "rd"
  refine m_sortSet ?_
  walk_at "rd"
  refine ⟨l, ns, rfl, SqL.of (s1 _ _ el), hns, fun rp H2 ms hrp s2 e2 pw mm => ?_⟩
  walk_at "rd"
  refine r_meth ?_
  walk_at "rd"
  have s12 := s1.trans s2
  refine ⟨x, dx, _, rfl, s12 _ _ hx, rfl, ?_⟩
  walk_at "rd"
  refine ⟨by simp [sizeLine_eq], fun tp H3 htp s3 e3 => ?_⟩
  walk_at "rd"
  refine r_fld ?_
  walk_at "rd"
  have s13 := s12.trans s3
  refine ⟨x, G.Table, dx, _, _, rfl, s13 _ _ hx, ct.cl, ct.n1, rfl, ?_⟩
  walk_at "rd"
  obtain ⟨rs, er, hr⟩ := D
  have lr : rs.length = ws.length := Paired.length hr
  refine lc_list (rs.map V.ref) (SqL.of (s13 _ _ er)) (by rw [List.length_map]; omega) (fun j acc _ => ∃ as : List IA, acc = as.map iaR ∧ Paired (fun w a => LeastH w h ms a) (ws.take j) as) (fun _ _ => ⟨[], rfl, .nil⟩) ?_ ?_
  · rintro p' hp' C s' H' fp j y acc H4 hy ⟨s4, e4, l4, as, rfl, r4⟩
    obtain ⟨b', hb', rfl⟩ := ref_at hy
    obtain ⟨w, hwi, ew⟩ := paired_at hr hb'
    have hwl := hwc w (List.mem_of_getElem? hwi)
    walk_at "rd"
    refine ⟨b', rp, w, h, ms, rfl, s4 _ _ (s13 _ _ ew), s4 _ _ (s3 _ _ e2), pw, fun n hn => ?_, fun a ha => ?_⟩
    · rw [hwl]
      exact hnb n ((mm n).mp hn)
    · refine CInv.put hp' (fun i acc H H' r k => r) s4 e4 l4 ⟨as ++ [a], by rw [List.map_append]; rfl, ?_⟩
      rw [List.take_add_one, hwi]
      exact paired_put r4 ha
  · rintro vp acc H4 hvp s4 e4 ⟨as, rfl, r4⟩
    rw [List.length_map, lr, List.take_length] at r4
    have la : ws.length = as.length := Paired.length r4
    have s14 := s13.trans s4
    have tb4 := tb.same s14
    walk_at "rd"
    refine ⟨x, tp, vp, c, k, i, ws, vw, v, as, pd, pv, pe, qs, ds, rfl, s4 _ _ e3, e4, tb4, hi, by omega, by omega, hd, fun z => ?_, fun z => ?_, fun p q' d H' hp hq' npq F ep tb' => ?_⟩
    · rw [z, s13 _ _ ev] at hvp
      cases hvp
    · rw [z, s13 _ _ ee] at hvp
      cases hvp
    · exact q p q' d as H' (s14.free hp) (s14.free hq') npq (fun b o nb e => F b o nb (s14 _ _ e)) ep (paired_up r4 fun w _ a r => r.of mm) tb'

end L2

end

section
-- KcTabD
set_option Elab.async false
set_option linter.all false
set_option maxRecDepth 100000
set_option maxHeartbeats 4000000
namespace L2
open PySem PyProof.Rows

/-! ### a table begun -/
theorem deals_kx {H H' : Hp} {x p : Addr} {ws : List (List Nat)} {C dx : Addr} {fs : List (Str × V)} (D : DealsAt H p ws) (hx : H x = some (.ins C dx fs)) (k : Kx x H H') : DealsAt H' p ws := by
  obtain ⟨rs, e, hr⟩ := D
  refine ⟨rs, k _ _ (fun z => by rw [z, hx] at e; cases e) e, Paired.mapP hr fun a w e => k _ _ (fun z => by rw [z, hx] at e; cases e) e⟩
theorem Kx.free {x q : Addr} {H H' : Hp} {u : HO} (k : Kx x H H') (hx : H' x = some u) (hq : H' q = none) : H q = none := by
  cases e : H q with
  | none => rfl
  | some o =>
    by_cases z : q = x
    · rw [z, hx] at hq
      cases hq
    · rw [k _ _ z e] at hq
      cases hq
noncomputable def sp_Table_init (_ : PySem.W.Frag) (G : GC) : Sp := fun vs H Q _ => ∃ (x dx a : Addr) (c : Nat) (ss : List Nat), vs = [.ref x, .int c, .ref a] ∧ H x = some (.ins G.Table dx []) ∧ H a = some (.lst (natV ss)) ∧ Pack c ss ∧ KM.multi c ss ≤ 2000 ∧
  ∀ H' pd pv pe qs, Kx x H H' → H pd = none → H pv = none → H pe = none → (∀ q ∈ qs, H q = none) → TbC G H' x c ss.length (KM.level (ss ++ [c - ss.sum]) c) ((List.range ss.length).map fun (j : Nat) => firstL (KM.level (ss ++ [c - ss.sum]) c) (j : Int)) pd pv pe qs [] → Q .non H'
noncomputable def t_Table_init (K : PySem.W.Frag) (G : GC) : TS := (tSeq (sFld K (tVar 0) (tCall (sp_deals_of K) [] E0 (tCons (tVar 1) (tCons (tVar 2) tNil))) "dealt")
  (tSeq (sFld K (tVar 0) (tVar 1) "cards")
  (tSeq (sFld K (tVar 0) (tCB (mCList K) (tCons (tVar 2) tNil)) "sizes")
  (tSeq (sFld K (tVar 0) (tCB (cLen K) (tCons (tVar 2) tNil)) "hands")
  (tSeq (sFld K (tVar 0) (tComp (iRng1 (tCons (tFld K (tVar 0) "hands") tNil)) (fun _ _ _ _ => (gName 0)) (fun _ _ _ _ => tAlways) (fun _ _ _ _ => (tCall (sp_first_view K) [] E0 (tCons (tFld K (tVar 1) "dealt") (tCons (tVar 0) tNil)))) [none, some 0]) "views")
  (sFld K (tVar 0) (mLst tNil) "deeds"))))))
noncomputable abbrev N_Table_init : List Str := ["self", "cards", "sizes"]
theorem len_Table_init {K : PySem.W.Frag} {G : GC} {vs : List V} {H : Hp} {Q : VK} {E : XK} (h : sp_Table_init K G vs H Q E) : vs.length = 3 := by
  obtain ⟨x, dx, a, c, ss, rfl, _⟩ := h
  rfl
theorem rd_Table_init {K : PySem.W.Frag} {G : GC} (ct : ClsT K G.Table) {vs : List V} {H : Hp} {Q : VK} {E : XK} (h : sp_Table_init K G vs H Q E) : t_Table_init K G { nx := fun _ H' => Q .non H', rt := Q } (start N_Table_init vs) H := by
  obtain ⟨x, dx, a, c, ss, rfl, hx, e, pk, hm, q⟩ := h
  have h5 := pk.l5
  have nxa : a ≠ x := fun z => by rw [z, hx] at e; cases e
  show t_Table_init K G _ [some _, some _, some _] _
  unfold t_Table_init
  refine r_seq (r_sFld ?_)
  walk_at "rd"
  refine ⟨c, a, ss, rfl, e, pk, hm, fun p H1 s1 hp D1 => ?_⟩
  have hws : ∀ w ∈ KM.level (ss ++ [c - ss.sum]) c, w.length ≤ 1000 := fun w hw => by
    have := (KM.level_begun _ c w hw).len
    have := pk.c12
    omega
  have hwl : (KM.level (ss ++ [c - ss.sum]) c).length ≤ 2000 := by rw [KM.level_multi pk.sum]; exact hm
  generalize KM.level (ss ++ [c - ss.sum]) c = ws at *
  walk_at "rd"
  refine ⟨x, G.Table, dx, [], rfl, s1 _ _ hx, ct.cl, ct.n1, by simp, ?_⟩
  -- self.cards
  have k2 : Kx x H (upd H1 x (.ins G.Table dx [("dealt", .ref p)])) := Kx.upd (Kx.same (Kx.refl x H) s1)
  have x2 : (upd H1 x (.ins G.Table dx [("dealt", .ref p)])) x = some (.ins G.Table dx [("dealt", .ref p)]) := upd_same
  have D2 : DealsAt (upd H1 x (.ins G.Table dx [("dealt", .ref p)])) p ws := deals_kx D1 (s1 _ _ hx) (Kx.upd (Kx.refl x H1))
  have a2 : (upd H1 x (.ins G.Table dx [("dealt", .ref p)])) a = some (.lst (natV ss)) := k2 _ _ nxa e
  show tSeq _ _ _ _ (upd H1 x (.ins G.Table dx [("dealt", .ref p)]))
  generalize upd H1 x (.ins G.Table dx [("dealt", .ref p)]) = H2 at *
  refine r_seq (r_sFld ?_)
  walk_at "rd"
  refine ⟨x, G.Table, dx, _, rfl, x2, ct.cl, ct.n2, by simp, ?_⟩
  have k3 : Kx x H (upd H2 x (.ins G.Table dx [("dealt", .ref p), ("cards", .int c)])) := k2.upd
  have x3 : (upd H2 x (.ins G.Table dx [("dealt", .ref p), ("cards", .int c)])) x = some (.ins G.Table dx [("dealt", .ref p), ("cards", .int c)]) := upd_same
  have D3 : DealsAt (upd H2 x (.ins G.Table dx [("dealt", .ref p), ("cards", .int c)])) p ws := deals_kx D2 x2 (Kx.upd (Kx.refl x H2))
  have a3 : (upd H2 x (.ins G.Table dx [("dealt", .ref p), ("cards", .int c)])) a = some (.lst (natV ss)) := k3 _ _ nxa e
  show tSeq _ _ _ _ (upd H2 x (.ins G.Table dx [("dealt", .ref p), ("cards", .int c)]))
  generalize upd H2 x (.ins G.Table dx [("dealt", .ref p), ("cards", .int c)]) = H3 at *
  refine r_seq (r_sFld ?_)
  walk_at "rd"
  refine m_list (SqL.of a3) fun l4 H4 hl4 s4 e4 => ?_
  walk_at "rd"
  refine ⟨x, G.Table, dx, _, rfl, s4 _ _ x3, ct.cl, ct.n3, by simp, ?_⟩
  have k5 : Kx x H (upd H4 x (.ins G.Table dx [("dealt", .ref p), ("cards", .int c), ("sizes", .ref l4)])) := (k3.same s4).upd
  have x5 : (upd H4 x (.ins G.Table dx [("dealt", .ref p), ("cards", .int c), ("sizes", .ref l4)])) x = some (.ins G.Table dx [("dealt", .ref p), ("cards", .int c), ("sizes", .ref l4)]) := upd_same
  have D5 : DealsAt (upd H4 x (.ins G.Table dx [("dealt", .ref p), ("cards", .int c), ("sizes", .ref l4)])) p ws := deals_kx (D3.same' s4) (s4 _ _ x3) (Kx.upd (Kx.refl x H4))
  have a5 : (upd H4 x (.ins G.Table dx [("dealt", .ref p), ("cards", .int c), ("sizes", .ref l4)])) a = some (.lst (natV ss)) := k5 _ _ nxa e
  show tSeq _ _ _ _ (upd H4 x (.ins G.Table dx [("dealt", .ref p), ("cards", .int c), ("sizes", .ref l4)]))
  generalize upd H4 x (.ins G.Table dx [("dealt", .ref p), ("cards", .int c), ("sizes", .ref l4)]) = H5 at *
  refine r_seq (r_sFld ?_)
  walk_at "rd"
  rw [natV_len]
  refine ⟨x, G.Table, dx, _, rfl, x5, ct.cl, ct.n4, by simp, ?_⟩
  have k6 : Kx x H (upd H5 x (.ins G.Table dx [("dealt", .ref p), ("cards", .int c), ("sizes", .ref l4), ("hands", .int ss.length)])) := k5.upd
  have x6 : (upd H5 x (.ins G.Table dx [("dealt", .ref p), ("cards", .int c), ("sizes", .ref l4), ("hands", .int ss.length)])) x = some (.ins G.Table dx [("dealt", .ref p), ("cards", .int c), ("sizes", .ref l4), ("hands", .int ss.length)]) := upd_same
  have a6 : (upd H5 x (.ins G.Table dx [("dealt", .ref p), ("cards", .int c), ("sizes", .ref l4), ("hands", .int ss.length)])) a = some (.lst (natV ss)) := k6 _ _ nxa e
  have D6 : DealsAt (upd H5 x (.ins G.Table dx [("dealt", .ref p), ("cards", .int c), ("sizes", .ref l4), ("hands", .int ss.length)])) p ws := deals_kx D5 x5 (Kx.upd (Kx.refl x H5))
  show tSeq _ _ _ _ (upd H5 x (.ins G.Table dx [("dealt", .ref p), ("cards", .int c), ("sizes", .ref l4), ("hands", .int ss.length)]))
  generalize upd H5 x (.ins G.Table dx [("dealt", .ref p), ("cards", .int c), ("sizes", .ref l4), ("hands", .int ss.length)]) = H6 at *
  refine r_seq (r_sFld ?_)
  walk_at "rd"
  refine r_fld ?_
  walk_at "rd"
  refine ⟨x, G.Table, dx, _, _, rfl, x6, ct.cl, ct.n4, rfl, ?_⟩
  walk_at "rd"
  refine lc_rangeW ss.length (by omega) (by omega) (by omega) (fun p' i acc H2 => ∃ qs : List Addr, acc = qs.map V.ref ∧ Paired (fun (q : Addr) (v : List Nat) => H2 q = some (.lst (natV v)) ∧ q ≠ p' ∧ H6 q = none) qs ((List.range i).map fun (j : Nat) => firstL ws (j : Int))) (fun _ _ _ => ⟨[], rfl, .nil⟩) ?_ ?_
  · rintro p' hp' C s' H' fp i acc H7 hi ⟨s7, e7, l7, qs, rfl, r7⟩
    walk_at "rd"
    refine r_fld ?_
    walk_at "rd"
    refine ⟨x, G.Table, dx, _, _, rfl, s7 _ _ x6, ct.cl, ct.n1, rfl, ?_⟩
    walk_at "rd"
    refine ⟨p, ws, (i : Int), rfl, D6.same' s7, hws, by omega, fun q8 H8 hq8 s8 e8 => ?_⟩
    have hqp : q8 ≠ p' := fun z => by rw [z, e7] at hq8; cases hq8
    refine CInv.putW hp' (s7.trans s8) (s8 _ _ e7) l7 fun H9 o9 => ⟨qs ++ [q8], by rw [List.map_append]; rfl, ?_⟩
    rw [List.range_succ, List.map_append]
    exact paired_put (paired_up r7 fun q _ v ⟨z1, z2, z3⟩ => ⟨(o9 _ z2).trans (s8 _ _ z1), z2, z3⟩) ⟨(o9 _ hqp).trans e8, hqp, s7.free hq8⟩
  · rintro pv acc H7 hpv s7 e7 ⟨qs, rfl, r7⟩
    walk_at "rd"
    refine ⟨x, G.Table, dx, _, rfl, s7 _ _ x6, ct.cl, ct.n5, by simp, ?_⟩
    have k8 : Kx x H (upd H7 x (.ins G.Table dx [("dealt", .ref p), ("cards", .int c), ("sizes", .ref l4), ("hands", .int ss.length), ("views", .ref pv)])) := (k6.same s7).upd
    have x8 : (upd H7 x (.ins G.Table dx [("dealt", .ref p), ("cards", .int c), ("sizes", .ref l4), ("hands", .int ss.length), ("views", .ref pv)])) x = some (.ins G.Table dx [("dealt", .ref p), ("cards", .int c), ("sizes", .ref l4), ("hands", .int ss.length), ("views", .ref pv)]) := upd_same
    have kk : Kx x H7 (upd H7 x (.ins G.Table dx [("dealt", .ref p), ("cards", .int c), ("sizes", .ref l4), ("hands", .int ss.length), ("views", .ref pv)])) := Kx.upd (Kx.refl x H7)
    have D8 := deals_kx (D6.same' s7) (s7 _ _ x6) kk
    have a8 := kk _ _ nxa (s7 _ _ a6)
    have v8 := kk _ _ (ne_ins (s7 _ _ x6) e7) e7
    have r8 : Paired (fun (q : Addr) (v : List Nat) => (upd H7 x (.ins G.Table dx [("dealt", .ref p), ("cards", .int c), ("sizes", .ref l4), ("hands", .int ss.length), ("views", .ref pv)])) q = some (.lst (natV v)) ∧ q ≠ pv ∧ H6 q = none) qs ((List.range ss.length).map fun (j : Nat) => firstL ws (j : Int)) := paired_up r7 fun q _ v ⟨z1, z2, z3⟩ => ⟨kk _ _ (ne_ins (s7 _ _ x6) z1) z1, z2, z3⟩
    show sFld _ _ _ _ _ _ (upd H7 x (.ins G.Table dx [("dealt", .ref p), ("cards", .int c), ("sizes", .ref l4), ("hands", .int ss.length), ("views", .ref pv)]))
    generalize upd H7 x (.ins G.Table dx [("dealt", .ref p), ("cards", .int c), ("sizes", .ref l4), ("hands", .int ss.length), ("views", .ref pv)]) = H8 at *
    refine r_sFld ?_
    walk_at "rd"
    refine ⟨by simp [sizeLine_eq], fun pe H9 hpe s9 e9 => ?_⟩
    walk_at "rd"
    refine ⟨x, G.Table, dx, _, rfl, s9 _ _ x8, ct.cl, ct.n6, by simp, ?_⟩
    have kz : Kx x H9 (upd H9 x (.ins G.Table dx [("dealt", .ref p), ("cards", .int c), ("sizes", .ref l4), ("hands", .int ss.length), ("views", .ref pv), ("deeds", .ref pe)])) := Kx.upd (Kx.refl x H9)
    have hall : ∀ q ∈ qs, H6 q = none ∧ q ≠ pv ∧ ∃ v, H8 q = some (.lst (natV v)) := fun q hq => by
      obtain ⟨j, hj⟩ := List.getElem?_of_mem hq
      obtain ⟨v, _, z1, z2, z3⟩ := paired_at r8 hj
      exact ⟨z3, z2, v, z1⟩
    have npe : ∀ b xs, H8 b = some (.lst xs) → b ≠ pe := fun b xs eb z => by rw [z, hpe] at eb; cases eb
    have p8 : ∃ xs, H8 p = some (.lst xs) := by
      obtain ⟨rs, d1, _⟩ := D8
      exact ⟨_, d1⟩
    have p6 : ∃ xs, H6 p = some (.lst xs) := by
      obtain ⟨rs, d1, _⟩ := D6
      exact ⟨_, d1⟩
    refine q _ p pv pe qs (Kx.upd (k8.same s9)) hp (k6.free x6 hpv) (k8.free x8 hpe) (fun b hb => k6.free x6 (hall b hb).1) ⟨dx, l4, upd_same, deals_kx (D8.same' s9) (s9 _ _ x8) kz, kz _ _ (ne_ins (s9 _ _ x8) (s9 _ _ v8)) (s9 _ _ v8), paired_up r8 fun q _ v ⟨z1, _, _⟩ => kz _ _ (ne_ins (s9 _ _ x8) (s9 _ _ z1)) (s9 _ _ z1), by rw [List.length_map, List.length_range], kz _ _ (ne_ins (s9 _ _ x8) e9) e9, fun z => ?_, ?_, npe _ _ v8, fun z => (hall _ z).2.1 rfl, fun z => ?_⟩
    · obtain ⟨xs, e'⟩ := p6
      rw [z, hpv] at e'
      cases e'
    · obtain ⟨xs, e'⟩ := p8
      exact npe _ _ e'
    · obtain ⟨_, _, v, e'⟩ := hall _ z
      exact npe _ _ e' rfl

end L2

end

section
-- KcDkR
set_option Elab.async false
set_option linter.all false
set_option maxRecDepth 100000
set_option maxHeartbeats 4000000
namespace L2
open PySem PyProof.Rows
/-! ### a dict whose keys are whole numbers -/
noncomputable def dkP (kvs : List (Key × V)) (i : Int) (v : V) : List (Key × V) :=
  if (kvs.any fun kv => decide (kv.1 = (Sum.inl i : Key))) = true then kvs.map (fun kv => if kv.1 = (Sum.inl i : Key) then (kv.1, v) else kv) else kvs ++ [((Sum.inl i : Key), v)]
noncomputable def DkI (kvs : List (Key × V)) : Prop := ∀ p ∈ kvs, ∃ i : Int, p.1 = Sum.inl i
theorem DkI.put {kvs : List (Key × V)} (h : DkI kvs) (i : Int) (v : V) : DkI (dkP kvs i v) := by
  unfold dkP
  split
  · intro p hp
    obtain ⟨q, hq, rfl⟩ := List.mem_map.mp hp
    by_cases e : q.1 = Sum.inl i
    · rw [if_pos e]; exact ⟨i, e⟩
    · rw [if_neg e]; exact h q hq
  · intro p hp
    rcases List.mem_append.mp hp with hp | hp
    · exact h p hp
    · rw [List.mem_singleton.mp hp]; exact ⟨i, rfl⟩
section
variable {σ : St} {H : Hp} {Q : VK} {a : Addr} {kvs : List (Key × V)} {i : Int} {v : V}
end
section
variable {g : CF TG} {tt : CF TT} {te : CF TE} {σ₀ : St} {Q : VK} {H : Hp}
end
end L2

end

section
-- KcLenR
set_option Elab.async false
set_option linter.all false
set_option maxRecDepth 100000
set_option maxHeartbeats 4000000
namespace L2
open PySem PyProof.Rows
/-! ### len of a dict with whole numbers as keys; list.clear; list.insert -/
theorem r_clear {H : Hp} {Q : VK} {l : Addr} {xs : List V} (e : H l = some (.lst xs)) (h : ∀ H', Off l H H' → H' l = some (.lst []) → Q .non H') : rClear (.ref l) [] H Q := ⟨l, xs, rfl, rfl, e, h _ off_upd upd_same⟩
end L2

end

section
-- KcK34
set_option Elab.async false
set_option linter.all false
set_option maxRecDepth 100000
set_option maxHeartbeats 4000000
namespace L2
open PySem PyProof.Rows

theorem pack_one {ss : List Nat} (h : Pack 0 ss) : Pack 1 ss := ⟨by decide, h.l1, h.l5, by have := h.sum; omega⟩
theorem multi_one {ss : List Nat} (h : Pack 1 ss) : KM.multi 1 ss ≤ 2000 := Nat.le_trans (Nat.le_of_dvd (by decide) ⟨_, (KM.multi_fact ss 1 h.sum).symm⟩) (show KM.fact 1 ≤ 2000 by decide)
theorem keys_of {H : Hp} {i : Int} {ts : List Addr} {ws : List (List Nat)} (h : Paired (fun (t : Addr) (w : List Nat) => H t = some (.tup ((heldI w i).map V.int))) ts ws) : Paired (KeyV H) (ts.map V.ref) (ws.map fun w => keyI (heldI w i)) := by
  induction h with
  | nil => exact .nil
  | cons r _ ih => exact .cons (key_tup (ns := heldI _ i) r) ih
theorem TbC.new {G : GC} {H : Hp} {x l : Addr} {c k : Nat} {ws vw : List (List Nat)} {pd pv pe : Addr} {qs : List Addr} {ds : List V} (t : TbC G H x c k ws vw pd pv pe qs ds) (h : H l = none) : pd ≠ l ∧ pv ≠ l ∧ pe ≠ l ∧ (∀ q ∈ qs, q ≠ l) ∧ x ≠ l := by
  obtain ⟨dx, ps, h1, ⟨rs, d1, d2⟩, h3, h4, h5, h6, r⟩ := t
  refine ⟨ne_of_none d1 h, ne_of_none h3 h, ne_of_none h6 h, fun q hq => ?_, ne_of_none h1 h⟩
  obtain ⟨j, hj⟩ := List.getElem?_of_mem hq
  obtain ⟨v, _, e⟩ := paired_at h4 hj
  exact ne_of_none (show H q = some _ from e) h
theorem TbC.ins {G : GC} {H : Hp} {x : Addr} {c k : Nat} {ws vw : List (List Nat)} {pd pv pe : Addr} {qs : List Addr} {ds : List V} (t : TbC G H x c k ws vw pd pv pe qs ds) (m : Str) (h1 : (m == "dealt") = false) (h2 : (m == "cards") = false) (h3 : (m == "sizes") = false) (h4 : (m == "hands") = false) (h5 : (m == "views") = false) (h6 : (m == "deeds") = false) : ∃ dx fs, H x = some (.ins G.Table dx fs) ∧ fs.lookup m = none := by
  obtain ⟨dx, ps, e, _⟩ := t
  refine ⟨dx, _, e, ?_⟩
  simp only [List.lookup, h1, h2, h3, h4, h5, h6]
theorem same_free {H0 H H' : Hp} {ks : List Addr} (s : Same H0 H) (f : Free H H' ks) (n : ∀ b ∈ ks, H0 b = none) : Same H0 H' := fun b o e => f b o (fun z => by rw [n b z] at e; cases e) (s b o e)
theorem least_uniq {h : Int} {ns : List Int} : ∀ {ws : List (List Nat)} {as bs : List IA}, Paired (fun w a => LeastH w h ns a) ws as → Paired (fun w a => LeastH w h ns a) ws bs → as = bs
  | _, _, _, .nil, .nil => rfl
  | _, _, _, .cons x t, .cons y u => by rw [x.uniq (fun _ => Iff.rfl) y, least_uniq t u]
theorem flat_ia (as : List IA) : ∀ x ∈ as.map iaR, flatD x = true := fun x hx => by
  obtain ⟨a, _, rfl⟩ := List.mem_map.mp hx
  cases a <;> rfl
theorem flat_nat (v : List Nat) : ∀ x ∈ natV v, flatD x = true := by rw [natV_ints]; exact flat_ints _
theorem zip_take {α β : Type} {xs : List α} {ys : List β} {i : Nat} {x : α} {y : β} (hx : xs[i]? = some x) (hy : ys[i]? = some y) : (xs.zip ys).take (i + 1) = (xs.zip ys).take i ++ [(x, y)] := take_snoc (by rw [List.getElem?_zip_eq_some]; exact ⟨hx, hy⟩)
noncomputable abbrev sp_law (K : PySem.W.Frag) : Sp := spLaw K
noncomputable def t_law (K : PySem.W.Frag) (G : GC) : TS := (tSeq (tAsg (tCall (sp__law_pack K) [] E0 (tCons (tVar 0) (tCons (tC (.int 0)) (tCons (tC (.int 210)) tNil)))) (gTup K 2 (gCons (gName 1) (gCons (gName 2) gNil))))
  (tSeq (tIfS (tTest (tOp rEq (tVar 1) (tC (.int 0)))) (tAsg (tC (.int 1)) (gName 1)) tNext)
  (tSeq (tAsg (tCB (cLen K) (tCons (tVar 2) tNil)) (gName 3))
  (tSeq (tAsg (tCall (sp_deals_of K) [] E0 (tCons (tVar 1) (tCons (tVar 2) tNil))) (gName 4))
  (tSeq (tAsg (mLst tNil) (gName 5))
  (tSeq (tFor (iRng1 (tCons (tVar 3) tNil)) (gName 6) (tDrop (tBM K "list" rAppend (tVar 5) (tCons (tCall (sp__law_least K) [] E0 (tCons (tComp (iList K (tVar 4)) (fun _ _ _ _ => (gName 0)) (fun _ _ _ _ => tAlways) (fun _ _ _ _ => (tCB (mCTuple K) (tCons (tComp (iEnum srcT K (tCons (tVar 0) tNil)) (fun _ _ _ _ => (gTup K 2 (gCons (gName 0) (gCons (gName 1) gNil)))) (fun _ _ _ _ => (tTest (tOp rEq (tVar 1) (tVar 2)))) (fun _ _ _ _ => (tVar 0)) [none, none, some 1]) tNil))) [none, some 6]) tNil)) tNil))))
  (tSeq (tAsg (tMake G.Table (sp_Table_init K G) [] E0 (tCons (tVar 1) (tCons (tVar 2) tNil))) (gName 7))
  (tSeq (tFor (iRng1 (tCons (tOp (rI0 fun i j => .int (i + j)) (tC (.int 1)) (tOp (rI (fun _ j => 0 < j) fun i j => .int (i % j)) (tCall (sp__law_cell K) [] E0 (tCons (tVar 0) (tCons (tC (.int 8)) tNil))) (tC (.int 4)))) tNil)) (gName 8) (tSeq (tAsg (tOp (rI (fun _ j => 0 < j) fun i j => .int (i % j)) (tCall (sp__law_cell K) [] E0 (tCons (tVar 0) (tCons (tOp (rI0 fun i j => .int (i + j)) (tC (.int 9)) (tOp (rI IntMulOk fun i j => .int (i * j)) (tC (.int 8)) (tVar 8))) tNil))) (tVar 3)) (gName 6))
  (tSeq (tAsg (tOp (rI (fun _ j => 0 < j) fun i j => .int (i % j)) (tCall (sp__law_cell K) [] E0 (tCons (tVar 0) (tCons (tOp (rI0 fun i j => .int (i + j)) (tC (.int 10)) (tOp (rI IntMulOk fun i j => .int (i * j)) (tC (.int 8)) (tVar 8))) tNil))) (tOp (rI0 fun i j => .int (i + j)) (tVar 3) (tC (.int 1)))) (gName 9))
  (tSeq (tAsg (tComp (iRng1 (tCons (tOp (rI (fun _ j => 0 < j) fun i j => .int (i % j)) (tCall (sp__law_cell K) [] E0 (tCons (tVar 0) (tCons (tOp (rI0 fun i j => .int (i + j)) (tC (.int 11)) (tOp (rI IntMulOk fun i j => .int (i * j)) (tC (.int 8)) (tVar 8))) tNil))) (tC (.int 6))) tNil)) (fun _ _ _ _ => (gName 0)) (fun _ _ _ _ => tAlways) (fun _ _ _ _ => (tOp (rI (fun _ j => 0 < j) fun i j => .int (i % j)) (tCall (sp__law_cell K) [] E0 (tCons (tVar 2) (tCons (tOp (rI0 fun i j => .int (i + j)) (tOp (rI0 fun i j => .int (i + j)) (tC (.int 12)) (tOp (rI IntMulOk fun i j => .int (i * j)) (tC (.int 8)) (tVar 3))) (tVar 0)) tNil))) (tVar 1))) [none, some 1, some 0, some 8]) (gName 10))
  (tSeq (tAsg (tComp (iList K (tVar 4)) (fun _ _ _ _ => (gName 0)) (fun _ _ _ _ => tAlways) (fun _ _ _ _ => (tCall (sp__law_shown K) [] E0 (tCons (tVar 0) (tCons (tVar 1) (tCons (tVar 2) tNil))))) [none, some 9, some 10]) (gName 11))
  (tSeq (tAsg (tCB (mCList K) (tCons (tVar 10) tNil)) (gName 12))
  (tSeq (tAsg (tMeth G.Table "show" (sp_Table_show K G) [] E0 (tVar 7) (tCons (tVar 6) (tCons (tVar 9) (tCons (tVar 12) tNil)))) (gName 13))
  (tSeq (tIfS (tOr (tNot (tB (tCB (rIsi K) (tCons (tVar 13) (tCons (tC (.ty "list")) tNil))))) (tOr (tTest (tOp (rSameD K true) (tVar 13) (tVar 11))) (tOr (tNot (tB (tCall (sp__law_kinds K) [] E0 (tCons (tVar 13) tNil)))) (tTest (tOp (rSameD K true) (tVar 12) (tVar 10)))))) (tRet (tC (.bl false))) tNext)
  (tSeq (tDrop (tBM K "list" rAppend (tVar 12) (tCons (tVar 1) tNil)))
  (tSeq (tDrop (tBM0 K "list" rClear (tVar 13)))
  (tSeq (tAsg (tCall (sp__law_least K) [] E0 (tCons (tComp (iRng1 (tCons (tCB (cLen K) (tCons (tVar 4) tNil)) tNil)) (fun _ _ _ _ => (gName 0)) (fun _ _ _ _ => tAlways) (fun _ _ _ _ => (mTup (tCons (tOp (rIxL K) (tOp (rIxL K) (tVar 2) (tVar 3)) (tVar 0)) (tCons (tOp (rIxL K) (tVar 1) (tVar 0)) tNil)))) [none, some 11, some 5, some 6]) tNil)) (gSub (tVar 5) (tVar 6) rSetL))
  (tFor (iRng1 (tCons (tVar 3) tNil)) (gName 14) (tIfS (tTest (tOp (rSameD K true) (tMeth G.Table "view" (sp_Table_view K G) [] E0 (tVar 7) (tCons (tVar 14) tNil)) (tOp (rIxL K) (tVar 5) (tVar 14)))) (tRet (tC (.bl false))) tNext)))))))))))))
  (tRet (tC (.bl true)))))))))))
noncomputable abbrev N_law : List Str := ["_law_script", "_law_cards", "_law_sizes", "_law_hands", "_law_deals", "_law_views", "_law_hand", "_law_table", "_law_k", "_law_holder", "_law_some", "_law_due", "_law_handed", "_law_found", "_law_other"]
theorem len_law {K : PySem.W.Frag} {vs : List V} {H : Hp} {Q : VK} {E : XK} (h : sp_law K vs H Q E) : vs.length = 1 := by
  obtain ⟨a, ns, rfl, _⟩ := h
  rfl
theorem rd_law {K : PySem.W.Frag} {G : GC} {vs : List V} {H : Hp} {Q : VK} {E : XK} (h : sp_law K vs H Q E) : t_law K G { nx := fun _ H' => Q .non H', rt := Q } (start N_law vs) H := by
  obtain ⟨a, ns, rfl, hSc, g⟩ := h
  show t_law K G _ [some _, none, none, none, none, none, none, none, none, none, none, none, none, none, none] _
  unfold t_law
  walk_at "rd"
  refine ⟨a, ns, 0, 210, rfl, hSc, by decide, by decide, by decide, fun c ss p q H2 s2 hp hq e2 eq2 pk hmul => ?_⟩
  refine g_pair (SqT.of e2) ?_
  walk_at "rs"
  refine r_seq_n fun NX hNX => ?_
  have go : ∀ c1 : Nat, 1 ≤ c1 → Pack c1 ss → KM.multi c1 ss ≤ 2000 → NX [some (.ref a), some (.int c1), some (.ref q), none, none, none, none, none, none, none, none, none, none, none, none] H2 := by
    intro c1 hc1 pk1 hm1
    refine hNX _ _ ?_
    clear hNX
    have h1 := pk1.l1
    have h5 := pk1.l5
    have c12 := pk1.c12
    walk_at "rd"
    rw [natV_len]
    walk_at "rd"
    refine ⟨c1, q, ss, rfl, eq2, pk1, hm1, fun f H3 s3 hf D3 => ?_⟩
    have hwc : ∀ w ∈ KM.level (ss ++ [c1 - ss.sum]) c1, w.length = c1 := fun w hw => (KM.level_begun _ c1 w hw).len
    have hwl : (KM.level (ss ++ [c1 - ss.sum]) c1).length ≤ 2000 := by rw [KM.level_multi pk1.sum]; exact hm1
    walk_at "rd"
    refine ⟨by simp [sizeLine_eq], fun lv H4 hlv s4 e4 => ?_⟩
    walk_at "rd"
    refine lp_range ss.length (by omega) (by omega) (by omega) (fun i σ H5 => ∃ (u6 : Option V) (us : List Addr), σ = [some (.ref a), some (.int c1), some (.ref q), some (.int ss.length), some (.ref f), some (.ref lv), u6, none, none, none, none, none, none, none, none] ∧ Free H4 H5 [lv] ∧ H5 lv = some (.lst (us.map V.ref)) ∧ Paired (fun (u : Addr) (v : List Nat) => H5 u = some (.lst (natV v)) ∧ u ≠ lv) us ((List.range i).map fun (j : Nat) => firstL (KM.level (ss ++ [c1 - ss.sum]) c1) (j : Int))) ⟨none, [], rfl, fun b o _ e => e, e4, .nil⟩ ?_ ?_
    · rintro i σ H5 hi ⟨u6, us, rfl, f5, e5, r5⟩
      have nl : ∀ b o, H3 b = some o → b ∉ [lv] := fun b o e z => by rw [List.mem_singleton.mp z, hlv] at e; cases e
      obtain ⟨rs, er3, hr3⟩ := id D3
      have er : H5 f = some (.lst (rs.map V.ref)) := f5 _ _ (nl _ _ er3) (s4 _ _ er3)
      have hr : Paired (fun (t : Addr) (w : List Nat) => H5 t = some (.tup (natV w))) rs (KM.level (ss ++ [c1 - ss.sum]) c1) := Paired.mapP hr3 fun t w e => f5 _ _ (nl _ _ e) (s4 _ _ e)
      have hlr : rs.length = (KM.level (ss ++ [c1 - ss.sum]) c1).length := Paired.length hr
      have hws : ∀ w ∈ KM.level (ss ++ [c1 - ss.sum]) c1, w.length ≤ 1000 := fun w hw => by rw [hwc w hw]; omega
      generalize KM.level (ss ++ [c1 - ss.sum]) c1 = ws at *
      walk_at "rd"
      refine ⟨.inl ⟨rfl, _, SqL.of e5⟩, ?_⟩
      walk_at "rd"
      refine lc_list (rs.map V.ref) (SqL.of er) (by rw [List.length_map]; omega) (fun j acc H' => ∃ ts : List Addr, acc = ts.map V.ref ∧ Paired (fun (t : Addr) (w : List Nat) => H' t = some (.tup ((heldI w (i : Int)).map V.int))) ts (ws.take j)) (fun H' _ => ⟨[], rfl, .nil⟩) ?_ ?_
      · rintro p' hp' C s' H' fp j xx acc H6 hxx ⟨s6, e6, l6, ts, rfl, r6⟩
        obtain ⟨b', hb', rfl⟩ := ref_at hxx
        obtain ⟨w, hwi, ew⟩ := paired_at hr hb'
        have hw1 := hws w (List.mem_of_getElem? hwi)
        have ew6 := s6 _ _ ew
        rw [natV_ints] at ew6
        walk_at "rd"
        refine lc_enum (S := srcT) _ (SqT.of ew6) (fun H' s => s.tup (SqT.of ew6)) (by rw [List.length_map, List.length_map]; omega) (fun i' acc _ => acc = (upto (w.map fun (s : Nat) => ((s : Nat) : Int)) (i : Int) i').map V.int) (fun H' _ => rfl) ?_ ?_
        · rintro r hr' C s' H' fp i' xx T acc H7 H8 hx' ⟨s7, e7, l7, rfl⟩ hT s8 e8 e9
          obtain ⟨z, hz, rfl⟩ := int_at hx'
          walk_at "rd"
          refine g_pair (SqT.of e8) ?_
          walk_at "rd"
          have eu := upto_succ (w.map fun (s : Nat) => ((s : Nat) : Int)) (i : Int) i'
          refine ite_dec (fun c => ?_) (fun c => ?_)
          · walk_at "rd"
            refine CInv.put hr' (fun _ _ _ _ r _ => r) (s7.trans s8) e9 l7 ?_
            rw [eu, if_pos (by rw [hz, c]), List.map_append]
            rfl
          · refine CInv.skip (s7.trans s8) e9 l7 ?_
            rw [eu, if_neg (by rw [hz]; intro z; exact c (Option.some.inj z)), List.append_nil]
        · rintro p7 acc7 H7 hp7 s7 e7 rfl
          rw [List.length_map, List.length_map] at e7
          walk_at "rd"
          refine m_tuple (SqL.of e7) fun t2 H8 ht2 s8 e8 => ?_
          have s78 := s7.trans s8
          refine CInv.put hp' (fun _ _ _ _ r k => by obtain ⟨ts, e, p⟩ := r; exact ⟨ts, e, Paired.mapP p fun _ _ e => k _ _ e⟩) (s6.trans s78) (s78 _ _ e6) l6 ⟨ts ++ [t2], by rw [List.map_append]; rfl, ?_⟩
          rw [take_snoc hwi]
          exact paired_app (Paired.mapP r6 fun _ _ e => s78 _ _ e) (.cons e8 .nil)
      · rintro po acc H6 hpo s6 e6 ⟨ts, rfl, r6⟩
        rw [List.length_map, hlr, List.take_length] at r6
        walk_at "rd"
        refine ⟨po, _, ws.map fun w => keyI (heldI w (i : Int)), true, rfl, e6, keys_of r6, ?_, by rw [List.length_map]; omega, fun du H9 hdu s9 e9 => ?_⟩
        · intro k hk
          obtain ⟨w, _, rfl⟩ := List.mem_map.mp hk
          rfl
        rw [firstL_keys] at e9
        have s69 := s6.trans s9
        walk_at "rd"
        have lu : us.length = i := by rw [Paired.length r5, List.length_map, List.length_range]
        refine r_append (s69 _ _ e5) (by rw [List.length_map, sizeLine_eq]; omega) fun HA oA eA => ?_
        walk_at "rd"
        have ndu : du ≠ lv := fun z => by rw [z, s6 _ _ e5] at hdu; cases hdu
        refine ⟨_, us ++ [du], rfl, fun b o nb e => ?_, by rw [eA, List.map_append]; rfl, ?_⟩
        · exact (oA _ fun z => nb (List.mem_singleton.mpr z)).trans (s69 _ _ (f5 _ _ nb e))
        · rw [List.range_succ, List.map_append]
          exact paired_put (paired_up r5 fun u _ v ⟨z1, z2⟩ => ⟨(oA _ z2).trans (s69 _ _ z1), z2⟩) ⟨(oA _ ndu).trans e9, ndu⟩
    · rintro σ H5 ⟨u6, us, rfl, f5, e5, r5⟩
      walk_at "rd"
      have nl : ∀ b o, H3 b = some o → b ∉ [lv] := fun b o e z => by rw [List.mem_singleton.mp z, hlv] at e; cases e
      have s35 : Same H3 H5 := fun b o e => f5 _ _ (nl _ _ e) (s4 _ _ e)
      refine r_make ?_
      walk_at "rd"
      intro x dx hx hdx hne
      have st : Same H5 (upd (upd H5 dx (.own x)) x (.ins G.Table dx [])) := ((Same.refl H5).upd hdx _).upd hx _
      refine ⟨x, dx, q, c1, ss, rfl, upd_same, st _ _ (s35 _ _ (s3 _ _ eq2)), pk1, hm1, fun H6 pd pv pe qs kx g1 g2 g3 g4 tb => ?_⟩
      have s56 : Same H5 H6 := fun b o e => kx _ _ (fun z => by rw [z, hx] at e; cases e) (st _ _ e)
      have g1' := st.free g1
      have g2' := st.free g2
      have g3' := st.free g3
      have g4' : ∀ b ∈ qs, H5 b = none := fun b hb => st.free (g4 b hb)
      have D6 := (D3.same' s35).same' s56
      have hSc6 := (((hSc.same s2).same s3).same s35).same s56
      have lvq : lv ∉ qs := fun z => by rw [g4' _ z] at e5; cases e5
      have lvd : lv ≠ pd := fun z => by rw [z, g1'] at e5; cases e5
      have lvv : lv ≠ pv := fun z => by rw [z, g2'] at e5; cases e5
      have lve : lv ≠ pe := fun z => by rw [z, g3'] at e5; cases e5
      have e6 := s56 _ _ e5
      have r6 : Paired (fun (u : Addr) (v : List Nat) => H6 u = some (.lst (natV v)) ∧ u ∉ [lv, pv, pe]) us ((List.range ss.length).map fun (j : Nat) => firstL (KM.level (ss ++ [c1 - ss.sum]) c1) (j : Int)) := paired_up r5 fun u _ v ⟨z1, z2⟩ => ⟨s56 _ _ z1, fun z => by
        rcases List.mem_cons.mp z with z | z
        · exact z2 z
        · rcases List.mem_cons.mp z with z | z
          · rw [z, g2'] at z1
            cases z1
          · rw [List.mem_singleton.mp z, g3'] at z1
            cases z1⟩
      have lvw : ∀ v ∈ ((List.range ss.length).map fun (j : Nat) => firstL (KM.level (ss ++ [c1 - ss.sum]) c1) (j : Int)), v.length = (KM.level (ss ++ [c1 - ss.sum]) c1).length := fun v hv => by
        obtain ⟨j, _, rfl⟩ := List.mem_map.mp hv
        exact firstL_len _ _
      have f3 : ∀ b o, H3 b = some o → H6 b = some o := fun b o e => s56 _ _ (s35 _ _ e)
      generalize ((List.range ss.length).map fun (j : Nat) => firstL (KM.level (ss ++ [c1 - ss.sum]) c1) (j : Int)) = vw0 at *
      generalize KM.level (ss ++ [c1 - ss.sum]) c1 = ws at *
      refine ⟨rfl, ?_⟩
      walk_at "rd"
      refine ⟨a, ns, 8, rfl, hSc6, by decide, by decide, ?_⟩
      walk_at "rd"
      obtain ⟨m, hm, hm4⟩ : ∃ m : Nat, 1 + cellN ns 8 % 4 = (m : Int) ∧ m ≤ 4 := ⟨(1 + cellN ns 8 % 4).toNat, by omega, by omega⟩
      rw [hm]
      have g3' : ∀ b ∈ [lv, pv, pe], H3 b = none := fun b hb => by
        rcases List.mem_cons.mp hb with z | z
        · rw [z]; exact hlv
        · rcases List.mem_cons.mp z with z | z
          · rw [z]; exact s35.free g2'
          · rw [List.mem_singleton.mp z]; exact s35.free g3'
      have hpv3 := g3' pv (by simp)
      have hpe3 := g3' pe (by simp)
      have hSc3 := (hSc.same s2).same s3
      refine lp_range m (by omega) (by omega) (by omega) (fun i σ H7 => ∃ (v6 v8 v9 v10 v11 v12 v13 v14 : Option V) (us : List Addr) (vw : List (List Nat)) (qs : List Addr) (ds : List V), σ = [some (.ref a), some (.int c1), some (.ref q), some (.int ss.length), some (.ref f), some (.ref lv), v6, some (.ref x), v8, v9, v10, v11, v12, v13, v14] ∧ Same H3 H7 ∧ H7 lv = some (.lst (us.map V.ref)) ∧ Paired (fun (u : Addr) (v : List Nat) => H7 u = some (.lst (natV v)) ∧ u ∉ [lv, pv, pe]) us vw ∧ TbC G H7 x c1 ss.length ws vw pd pv pe qs ds ∧ ds.length = i ∧ (∀ v ∈ vw, v.length = ws.length) ∧ lv ∉ qs) ⟨u6, none, none, none, none, none, none, none, us, vw0, qs, [], rfl, s35.trans s56, e6, r6, tb, rfl, lvw, lvq⟩ ?_ ?_
      · clear tb e6 r6 lvw lvq r5 e5 f5 g4 g4' hSc6 D6 kx st
        clear u6 us qs
        rintro i σ H7 hi ⟨v6, v8, v9, v10, v11, v12, v13, v14, us, vw, qs, ds, rfl, s7, e7, r7, tb, ld, lvw, lvq⟩
        have tbv : vw.length = ss.length := by
          obtain ⟨_, _, _, _, _, _, z, _⟩ := id tb
          exact z
        have lus : us.length = ss.length := by rw [Paired.length r7, tbv]
        walk_at "rd"
        refine ⟨a, ns, 9 + 8 * (i : Int), rfl, hSc3.same s7, by omega, by omega, ?_⟩
        walk_at "rd"
        obtain ⟨hd, hhd, hd5⟩ : ∃ hd : Nat, cellN ns (9 + 8 * (i : Int)) % (ss.length : Int) = (hd : Int) ∧ hd < ss.length := ⟨(cellN ns (9 + 8 * (i : Int)) % (ss.length : Int)).toNat, by have := Int.emod_nonneg (cellN ns (9 + 8 * (i : Int))) (show (ss.length : Int) ≠ 0 by omega); omega, by have := Int.emod_lt_of_pos (cellN ns (9 + 8 * (i : Int))) (show 0 < (ss.length : Int) by omega); have := Int.emod_nonneg (cellN ns (9 + 8 * (i : Int))) (show (ss.length : Int) ≠ 0 by omega); omega⟩
        rw [hhd]
        refine ⟨a, ns, 10 + 8 * (i : Int), rfl, hSc3.same s7, by omega, by omega, ?_⟩
        walk_at "rd"
        obtain ⟨ho, hho, ho0, ho1⟩ : ∃ ho : Int, cellN ns (10 + 8 * (i : Int)) % ((ss.length : Int) + 1) = ho ∧ 0 ≤ ho ∧ ho ≤ (ss.length : Nat) := ⟨_, rfl, Int.emod_nonneg _ (by omega), by have := Int.emod_lt_of_pos (cellN ns (10 + 8 * (i : Int))) (show 0 < (ss.length : Int) + 1 by omega); omega⟩
        rw [hho]
        refine ⟨a, ns, 11 + 8 * (i : Int), rfl, hSc3.same s7, by omega, by omega, ?_⟩
        walk_at "rd"
        obtain ⟨mn, hmn, hmn6⟩ : ∃ mn : Nat, cellN ns (11 + 8 * (i : Int)) % 6 = (mn : Int) ∧ mn < 6 := ⟨(cellN ns (11 + 8 * (i : Int)) % 6).toNat, by omega, by omega⟩
        rw [hmn]
        refine lc_range mn (by omega) (by omega) (by omega) (fun j acc _ => ∃ ms : List Int, acc = ms.map V.int ∧ ms.length = j ∧ ∀ n ∈ ms, 0 ≤ n ∧ n < (c1 : Int)) (fun _ _ => ⟨[], rfl, rfl, fun _ z => nomatch z⟩) ?_ ?_
        · rintro p' hp' C s' H' fp j acc H8 hj ⟨s8, e8, l8, ms, rfl, lm, hms⟩
          walk_at "rd"
          refine ⟨a, ns, 12 + 8 * (i : Int) + (j : Int), rfl, (hSc3.same s7).same s8, by omega, by omega, ?_⟩
          walk_at "rd"
          refine CInv.put hp' (fun _ _ _ _ r _ => r) s8 e8 l8 ⟨ms ++ [cellN ns (12 + 8 * (i : Int) + (j : Int)) % (c1 : Int)], by rw [List.map_append]; rfl, by simp [lm], fun n hn => ?_⟩
          rcases List.mem_append.mp hn with z | z
          · exact hms n z
          · rw [List.mem_singleton.mp z]
            exact ⟨Int.emod_nonneg _ (by omega), Int.emod_lt_of_pos _ (by omega)⟩
        · rintro sl acc H8 hsl s8 e8 ⟨ms, rfl, lm, hms⟩
          have D8 := (D3.same' s7).same' s8
          obtain ⟨rs, er, hr⟩ := id D8
          have lr : rs.length = ws.length := Paired.length hr
          walk_at "rd"
          refine lc_list (rs.map V.ref) (SqL.of er) (by rw [List.length_map]; omega) (fun j acc _ => ∃ as : List IA, acc = as.map iaR ∧ Paired (fun w a => LeastH w ho ms a) (ws.take j) as) (fun _ _ => ⟨[], rfl, .nil⟩) ?_ ?_
          · rintro p' hp' C s' H' fp j y acc H9 hy ⟨s9, e9, l9, as, rfl, r9⟩
            obtain ⟨b', hb', rfl⟩ := ref_at hy
            obtain ⟨w, hwi, ew⟩ := paired_at hr hb'
            have hwl := hwc w (List.mem_of_getElem? hwi)
            walk_at "rd"
            refine ⟨b', sl, w, ho, ms, rfl, s9 _ _ ew, s9 _ _ e8, fun n hn => ?_, fun a ha => ?_⟩
            · rw [hwl]
              exact hms n hn
            · refine CInv.put hp' (fun i acc H H' r k => r) s9 e9 l9 ⟨as ++ [a], by rw [List.map_append]; rfl, ?_⟩
              rw [List.take_add_one, hwi]
              exact paired_put r9 ha
          · rintro du acc H9 hdu s9 e9 ⟨as, rfl, r9⟩
            rw [List.length_map, lr, List.take_length] at r9
            have la : ws.length = as.length := Paired.length r9
            walk_at "rd"
            refine m_list (SqL.of (s9 _ _ e8)) fun hl H10 hhl s10 e10 => ?_
            have s710 := s8.trans (s9.trans s10)
            have tb10 := tb.same s710
            walk_at "rd"
            obtain ⟨dx1, fs1, hx1, hl1⟩ := tb10.ins "show" (by decide +kernel) (by decide +kernel) (by decide +kernel) (by decide +kernel) (by decide +kernel) (by decide +kernel)
            refine r_meth ?_
            walk_at "rd"
            refine ⟨x, dx1, fs1, rfl, hx1, hl1, ?_⟩
            walk_at "rd"
            obtain ⟨v, hv⟩ : ∃ v, vw[hd]? = some v := ⟨vw[hd]'(by omega), List.getElem?_eq_getElem _⟩
            have lvv' := lvw v (List.mem_of_getElem? hv)
            refine ⟨x, hl, c1, ss.length, hd, ho, ms, ws, vw, v, pd, pv, pe, qs, ds, rfl, e10, tb10, hv, lvv', hwl, hwc, by omega, ho0, ho1, by omega, hms, fun p1 q1 d1 as1 H11 hp1 hq1 npq F11 ep1 r11 tb11 => ?_⟩
            obtain rfl := least_uniq r9 r11
            walk_at "rd"
            have off2 : ∀ b, b ≠ pv → b ≠ pe → b ∉ [pv, pe] := fun b b1 b2 z => by
              rcases List.mem_cons.mp z with z | z
              · exact b1 z
              · exact b2 (List.mem_singleton.mp z)
            have t10n := tb10.new hp1
            have t8n := (tb.same s8).new hdu
            have t9n := (tb.same (s8.trans s9)).new hhl
            have t7s := tb.new hsl
            have edu := F11 _ _ (off2 _ (Ne.symm t8n.2.1) (Ne.symm t8n.2.2.1)) (s10 _ _ e9)
            have ehl := F11 _ _ (off2 _ (Ne.symm t9n.2.1) (Ne.symm t9n.2.2.1)) e10
            have esl := F11 _ _ (off2 _ (Ne.symm t7s.2.1) (Ne.symm t7s.2.2.1)) (s10 _ _ (s9 _ _ e8))
            refine r_isi (.lst ep1) (kit_lst_lst K) ?_
            walk_at "rd"
            refine r_sameN 1 (by decide) (same_flatL (SqL.of ep1) (SqL.of edu) (flat_ia _)) ?_
            walk_at "rd"
            refine ⟨p1, as, rfl, ep1, by omega, fun H12 s12 => ?_⟩
            walk_at "rd"
            refine r_sameN 1 (by decide) (same_flatL (SqL.of (s12 _ _ ehl)) (SqL.of (s12 _ _ esl)) (flat_ints _)) ?_
            walk_at "rd"
            refine ⟨r_tyL (s12 _ _ ehl), ?_⟩
            walk_at "rd"
            refine r_append (s12 _ _ ehl) (by rw [List.length_map, sizeLine_eq]; omega) fun H13 o13 e13 => ?_
            walk_at "rd"
            have nhp : p1 ≠ hl := Ne.symm (ne_of_none e10 hp1)
            have ep13 : H13 p1 = _ := (o13 _ nhp).trans (s12 _ _ ep1)
            refine ⟨r_tyL ep13, ?_⟩
            walk_at "rd"
            refine r_clear ep13 fun H14 o14 e14 => ?_
            have F14 : Free H12 H14 [hl, p1] := fun b o nb e => by
              have b1 : b ≠ hl := fun z => nb (by rw [z]; exact List.mem_cons_self)
              have b2 : b ≠ p1 := fun z => nb (by rw [z]; exact List.mem_cons_of_mem _ List.mem_cons_self)
              exact (o14 b b2).trans ((o13 b b1).trans e)
            have offh : ∀ b, b ≠ hl → b ≠ p1 → b ∉ [hl, p1] := fun b b1 b2 z => by
              rcases List.mem_cons.mp z with z | z
              · exact b1 z
              · exact b2 (List.mem_singleton.mp z)
            have tq : ∀ b ∈ qs.set hd q1, b ∉ [hl, p1] := fun b hb => by
              rcases List.mem_or_eq_of_mem_set hb with z | z
              · exact offh _ (t9n.2.2.2.1 b z) (t10n.2.2.2.1 b z)
              · rw [z]
                exact offh _ (Ne.symm (ne_of_none e10 hq1)) (Ne.symm npq)
            have tb14 : TbC G H14 x c1 ss.length ws (vw.set hd (splitL v as)) pd pv pe (qs.set hd q1) (ds ++ [d1]) := (tb11.same s12).off (fun b hb => by
              rcases List.mem_cons.mp hb with z | z
              · rw [z]; exact ⟨_, s12 _ _ ehl⟩
              · rw [List.mem_singleton.mp z]; exact ⟨_, s12 _ _ ep1⟩) F14 (offh _ t9n.1 t10n.1) (offh _ t9n.2.1 t10n.2.1) (offh _ t9n.2.2.1 t10n.2.2.1) tq
            have old : ∀ b o, b ∉ [pv, pe] → H7 b = some o → H14 b = some o := fun b o nb e => F14 _ _ (offh _ (ne_of_none ((s8.trans s9) _ _ e) hhl) (ne_of_none (s710 _ _ e) hp1)) (s12 _ _ (F11 _ _ nb (s710 _ _ e)))
            have s314 : Same H3 H14 := fun b o e => old b o (fun z => by rw [g3' b (List.mem_cons_of_mem _ z)] at e; cases e) (s7 _ _ e)
            have e14l : H14 lv = _ := old _ _ (off2 _ lvv lve) e7
            have r14 : Paired (fun (u : Addr) (v : List Nat) => H14 u = some (.lst (natV v)) ∧ u ∉ [lv, pv, pe]) us vw := paired_up r7 fun u _ v ⟨z1, z2⟩ => ⟨old _ _ (fun z => z2 (List.mem_cons_of_mem _ z)) z1, z2⟩
            have edu14 : H14 du = _ := F14 _ _ (offh _ (ne_of_none e9 hhl) (ne_of_none (s10 _ _ e9) hp1)) (s12 _ _ edu)
            walk_at "rd"
            have D14 := D3.same' s314
            obtain ⟨rs2, er2, hr2⟩ := id D14
            have lr2 : rs2.length = ws.length := Paired.length hr2
            refine r_len (ys := rs2.map V.ref) (SqL.of er2) ?_
            rw [List.length_map, lr2]
            have hus : us[hd]? = some (us[hd]'(by omega)) := List.getElem?_eq_getElem _
            generalize us[hd]'(by omega) = uh at hus
            obtain ⟨v', hv', euh, nuh⟩ := paired_at r14 hus
            rw [hv] at hv'
            cases hv'
            refine lc_range ws.length (by omega) (by omega) (by omega) (fun j acc H' => ∃ ts : List Addr, acc = ts.map V.ref ∧ PairsAt H' ts (((natV v).zip (as.map iaR)).take j)) (fun _ _ => ⟨[], rfl, .nil⟩) ?_ ?_
            · rintro p' hp' C s' H' fp j acc H15 hj ⟨s15, e15, l15, ts, rfl, r15⟩
              walk_at "rd"
              refine r_ixL (SqL.of (s15 _ _ e14l)) (atI_nat (v := .ref uh) (by rw [List.getElem?_map, hus]; rfl)) ?_
              walk_at "rd"
              have hvj : (natV v)[j]? = some ((natV v)[j]'(by rw [natV_len]; omega)) := List.getElem?_eq_getElem _
              generalize (natV v)[j]'(by rw [natV_len]; omega) = vj at hvj
              have haj : (as.map iaR)[j]? = some ((as.map iaR)[j]'(by rw [List.length_map]; omega)) := List.getElem?_eq_getElem _
              generalize (as.map iaR)[j]'(by rw [List.length_map]; omega) = aj at haj
              refine r_ixL (SqL.of (s15 _ _ euh)) (atI_nat hvj) ?_
              walk_at "rd"
              refine r_ixL (SqL.of (s15 _ _ edu14)) (atI_nat haj) ?_
              walk_at "rd"
              refine ⟨by simp [sizeLine_eq], fun tp H16 htp s16 e16 => ?_⟩
              refine CInv.put hp' (fun _ _ _ _ r k => by obtain ⟨ts, e, p⟩ := r; exact ⟨ts, e, Paired.mapP p fun _ _ e => k _ _ e⟩) (s15.trans s16) (s16 _ _ e15) l15 ⟨ts ++ [tp], by rw [List.map_append]; rfl, ?_⟩
              rw [zip_take hvj haj]
              exact paired_put (Paired.mapP r15 fun _ _ e => s16 _ _ e) e16
            · rintro pl acc H15 hpl s15 e15 ⟨ts, rfl, r15⟩
              rw [show ws.length = ((natV v).zip (as.map iaR)).length by rw [List.length_zip, natV_len, List.length_map]; omega, List.take_length] at r15
              walk_at "rd"
              refine ⟨pl, _, (v.zip as).map keyP, true, rfl, e15, zip_keys r15 (by rw [List.map_map]; exact List.map_congr_left fun a _ => iaV_R a), ?_, by rw [List.length_map, List.length_zip]; omega, fun nl H16 hnl s16 e16 => ?_⟩
              · intro k hk
                obtain ⟨w, _, rfl⟩ := List.mem_map.mp hk
                rfl
              rw [splitL_keys] at e16
              walk_at "rd"
              have s1416 := s15.trans s16
              have e16l := s1416 _ _ e14l
              refine r_setL e16l (ixN_c (by rw [List.length_map]; omega)) ?_
              have tb16 := tb14.same s1416
              have nll : nl ≠ lv := fun z => by rw [z, s15 _ _ e14l] at hnl; cases hnl
              have nlt := (tb14.same s15).new hnl
              have lvq' : lv ∉ qs.set hd q1 := fun z => by
                rcases List.mem_or_eq_of_mem_set z with z | z
                · exact lvq z
                · rw [← z] at hq1
                  rw [s710 _ _ e7] at hq1
                  cases hq1
              have hl17 : (us.map V.ref).set hd (.ref nl) = (us.set hd nl).map V.ref := by rw [List.map_set]
              rw [hl17]
              have F17 : Free H16 (upd H16 lv (.lst ((us.set hd nl).map V.ref))) [lv] := fun b o nb e => by rw [upd_ne (fun z => nb (List.mem_singleton.mpr z))]; exact e
              have e17 : (upd H16 lv (.lst ((us.set hd nl).map V.ref))) lv = some (.lst ((us.set hd nl).map V.ref)) := upd_same
              generalize upd H16 lv (.lst ((us.set hd nl).map V.ref)) = H17 at *
              have n1 : ∀ b, b ≠ lv → b ∉ [lv] := fun b n z => n (List.mem_singleton.mp z)
              have tb17 : TbC G H17 x c1 ss.length ws (vw.set hd (splitL v as)) pd pv pe (qs.set hd q1) (ds ++ [d1]) := tb16.off (fun b hb => by rw [List.mem_singleton.mp hb]; exact ⟨_, e16l⟩) F17 (n1 _ (Ne.symm lvd)) (n1 _ (Ne.symm lvv)) (n1 _ (Ne.symm lve)) (fun b hb => n1 _ fun z => lvq' (z ▸ hb))
              have s317 : Same H3 H17 := same_free (s314.trans s1416) F17 fun b hb => by rw [List.mem_singleton.mp hb]; exact hlv
              have nlo : nl ∉ [lv, pv, pe] := fun z => by
                rcases List.mem_cons.mp z with z | z
                · exact nll z
                · rcases List.mem_cons.mp z with z | z
                  · exact nlt.2.1 z.symm
                  · exact nlt.2.2.1 (List.mem_singleton.mp z).symm
              have r17 : Paired (fun (u : Addr) (v : List Nat) => H17 u = some (.lst (natV v)) ∧ u ∉ [lv, pv, pe]) (us.set hd nl) (vw.set hd (splitL v as)) := paired_set (paired_up r14 fun u _ v ⟨z1, z2⟩ => ⟨F17 _ _ (fun z => z2 (by rw [List.mem_singleton.mp z]; exact List.mem_cons_self)) (s1416 _ _ z1), z2⟩) ⟨F17 _ _ (n1 _ nll) e16, nlo⟩ hd
              have lvw' : ∀ w ∈ vw.set hd (splitL v as), w.length = ws.length := fun w hw => by
                rcases List.mem_or_eq_of_mem_set hw with z | z
                · exact lvw w z
                · rw [z, splitL_len (by omega)]
                  exact lvv'
              clear tb tb10 tb11 tb14 tb16 r7 r14 e14l e16l e7
              generalize vw.set hd (splitL v as) = vw' at *
              generalize us.set hd nl = us' at *
              generalize qs.set hd q1 = qs' at *
              walk_at "rd"
              refine lp_range ss.length (by omega) (by omega) (by omega) (fun j σ H18 => ∃ v14 : Option V, σ = [some (.ref a), some (.int c1), some (.ref q), some (.int ss.length), some (.ref f), some (.ref lv), some (.int hd), some (.ref x), some (.int i), some (.int ho), some (.ref sl), some (.ref du), some (.ref hl), some (.ref p1), v14] ∧ Same H17 H18) ⟨_, rfl, Same.refl _⟩ ?_ ?_
              · rintro j σ H18 hj ⟨w14, rfl, s18⟩
                have tb18 := tb17.same s18
                walk_at "rd"
                obtain ⟨dx2, fs2, hx2, hl2⟩ := tb18.ins "view" (by decide +kernel) (by decide +kernel) (by decide +kernel) (by decide +kernel) (by decide +kernel) (by decide +kernel)
                refine r_meth ?_
                walk_at "rd"
                refine ⟨x, dx2, fs2, rfl, hx2, hl2, ?_⟩
                walk_at "rd"
                have lus' : us'.length = vw'.length := Paired.length r17
                have lvw2 : vw'.length = ss.length := by
                  obtain ⟨_, _, _, _, _, _, z, _⟩ := id tb17
                  exact z
                have huj : us'[j]? = some (us'[j]'(by omega)) := List.getElem?_eq_getElem _
                generalize us'[j]'(by omega) = uj at huj
                obtain ⟨vj, hvj, euj, _⟩ := paired_at r17 huj
                refine ⟨x, c1, ss.length, j, ws, vw', vj, pd, pv, pe, qs', ds ++ [d1], rfl, tb18, hvj, fun pw H19 hpw s19 e19 => ?_⟩
                walk_at "rd"
                refine r_ixL (SqL.of (s19 _ _ (s18 _ _ e17))) (atI_nat (v := .ref uj) (by rw [List.getElem?_map, huj]; rfl)) ?_
                walk_at "rd"
                refine r_sameN 1 (by decide) (same_flatL (SqL.of e19) (SqL.of (s19 _ _ (s18 _ _ euj))) (flat_nat _)) ?_
                walk_at "rd"
                exact ⟨_, rfl, s18.trans s19⟩
              · rintro σ H18 ⟨w14, rfl, s18⟩
                exact ⟨_, _, _, _, _, _, _, _, us', vw', qs', ds ++ [d1], rfl, s317.trans s18, s18 _ _ e17, paired_up r17 fun u _ v ⟨z1, z2⟩ => ⟨s18 _ _ z1, z2⟩, tb17.same s18, by simp [ld], lvw', lvq'⟩
      · rintro σ H7 ⟨v6, v8, v9, v10, v11, v12, v13, v14, us, vw, qs, ds, rfl, _⟩
        walk_at "rd"
        exact g _
  walk_at "rd"
  by_cases z : c = 0
  · subst z
    rw [if_pos (by decide)]
    walk_at "rd"
    exact go 1 (Nat.le_refl _) (pack_one pk) (multi_one (pack_one pk))
  · rw [if_neg (by simpa using z)]
    walk_at "rd"
    exact go c (by omega) pk (by omega)

end L2

end

section
-- KcMap
set_option Elab.async false
set_option linter.all false
set_option maxRecDepth 100000
set_option maxHeartbeats 4000000
namespace L2
open PySem PySem.Spec PyProof.Rows
/-! ### the object's rules -/
theorem DA.stay {a : Addr} {kvs : List (IA × V)} {h1 h2 : Heap} (d : DA a kvs h1) (k : ∀ o, h1.get? a = some o → h2.get? a = some o) : DA a kvs h2 := by
  obtain ⟨z, y, P, w, vs, r, o, es, ep, e, c⟩ := d
  exact ⟨z, y, P, w, vs, r, o, es, ep, k _ e, c⟩
theorem DB.stay {a : Addr} {zs : List (List IK × Addr × V)} {h1 h2 : Heap} (d : DB a zs h1) (k : ∀ o, h1.get? a = some o → h2.get? a = some o) : DB a zs h2 := by
  obtain ⟨z, y, xs, r, o, es, ep, e, c⟩ := d
  exact ⟨z, y, xs, r, o, es, ep, k _ e, c⟩
theorem DA.ok {P : Program} {w : World} {H : Hp} {h : Heap} {a : Addr} {kvs : List (IA × V)} (d : DA a kvs h) : ObjOk P w H h a (dA a kvs) := by
  obtain ⟨_, _, _, _, _, _, o, _, _, e, _⟩ := id d
  exact ⟨d, ⟨o, e⟩, fun _ _ d k => d.stay k⟩
theorem DB.ok {P : Program} {w : World} {H : Hp} {h : Heap} {a : Addr} {zs : List (List IK × Addr × V)} (d : DB a zs h) : ObjOk P w H h a (dB a zs) := by
  obtain ⟨_, _, _, _, o, _, _, e, _⟩ := id d
  exact ⟨d, ⟨o, e⟩, fun _ _ d k => d.stay k⟩
theorem ZX.length {zs : List (List IK × Addr × V)} {xs : List (List IK × Addr × Value)} (r : ZX zs xs) : zs.length = xs.length := Paired.length r
theorem ZX.val {zs : List (List IK × Addr × V)} {xs : List (List IK × Addr × Value)} (r : ZX zs xs) (k : List IK) : RelO (atZ zs k) ((atKey xs k).map (·.2)) := by
  unfold ZX at r
  induction r with
  | nil => exact True.intro
  | @cons p q ps qs h t ih =>
    obtain ⟨h1, _, h2⟩ := h
    by_cases e : p.1 = k
    · have e' : q.1 = k := h1.symm.trans e
      have b : atKey (q :: qs) k = some q.2 := by simp [atKey, List.find?_cons, e']
      have c : atZ (p :: ps) k = some p.2.2 := by simp [atZ, List.find?_cons, e]
      rw [c, b]; exact h2
    · have e' : ¬ q.1 = k := fun z => e (h1.trans z)
      have b : atKey (q :: qs) k = atKey qs k := by simp [atKey, List.find?_cons, e']
      have c : atZ (p :: ps) k = atZ ps k := by simp [atZ, List.find?_cons, e]
      rw [c, b]; exact ih
noncomputable def putZ (zs : List (List IK × Addr × V)) (k : List IK) (b : Addr) (v : V) : List (List IK × Addr × V) :=
  if (atZ zs k).isSome then zs.map (fun x => if x.1 = k then (x.1, x.2.1, v) else x) else zs ++ [(k, b, v)]
theorem ZX.repl {zs : List (List IK × Addr × V)} {xs : List (List IK × Addr × Value)} (r : ZX zs xs) (k : List IK) {v : V} {u : Value} (rv : RelV v u) : ZX (zs.map fun x => if x.1 = k then (x.1, x.2.1, v) else x) (xs.map (putAt k u)) := by
  unfold ZX at r ⊢
  induction r with
  | nil => exact .nil
  | @cons p q ps qs h t ih =>
    rw [List.map_cons, List.map_cons]
    refine .cons ?_ ih
    obtain ⟨h1, h2, h3⟩ := h
    unfold putAt
    by_cases e : p.1 = k
    · rw [if_pos e, if_pos (h1.symm.trans e)]; exact ⟨h1, h2, rv⟩
    · rw [if_neg e, if_neg (fun z => e (h1.trans z))]; exact ⟨h1, h2, h3⟩
theorem ZX.put {zs : List (List IK × Addr × V)} {xs : List (List IK × Addr × Value)} (r : ZX zs xs) (k : List IK) {b : Addr} {v : V} {u : Value} (rv : RelV v u) : ZX (putZ zs k b v) (storedH xs k b u) := by
  have e : (atZ zs k).isSome = (atKey xs k).isSome := by
    rw [(r.val k).isSome_eq, Option.isSome_map]
  unfold putZ storedH
  rw [e]
  by_cases q : (atKey xs k).isSome = true
  · rw [if_pos q, if_pos q]; exact r.repl k rv
  · rw [if_neg q, if_neg q]; exact Paired.snoc r ⟨rfl, rfl, rv⟩
theorem atZ_put (zs : List (List IK × Addr × V)) (k j : List IK) (b : Addr) (v : V) : atZ (putZ zs k b v) j = if j = k then some v else atZ zs j := by
  have hm : ∀ ys : List (List IK × Addr × V), atZ (ys.map fun x => if x.1 = k then (x.1, x.2.1, v) else x) j = (atZ ys j).map fun y => if j = k then v else y := by
    intro ys
    induction ys with
    | nil => rfl
    | cons p r ih =>
      rw [List.map_cons]
      unfold atZ at ih ⊢
      by_cases h : p.1 = k
      · rw [if_pos h]
        by_cases e : p.1 = j
        · simp [List.find?_cons, e, e.symm.trans h]
        · simp [List.find?_cons, e]; simpa using ih
      · rw [if_neg h]
        by_cases e : p.1 = j
        · have : ¬ j = k := fun z => h (e.trans z)
          simp [List.find?_cons, e, this]
        · simp [List.find?_cons, e]; simpa using ih
  have ha : ∀ ys : List (List IK × Addr × V), atZ ys k = none → atZ (ys ++ [(k, b, v)]) j = if j = k then some v else atZ ys j := by
    intro ys
    induction ys with
    | nil =>
      intro _
      by_cases e : k = j
      · simp [atZ, List.find?_cons, e]
      · have : ¬ j = k := fun z => e z.symm
        simp [atZ, List.find?_cons, e, this]
    | cons p r ih =>
      intro hn
      have hk : ¬ p.1 = k := fun z => by simp [atZ, List.find?_cons, z] at hn
      have hn' : atZ r k = none := by simpa [atZ, List.find?_cons, hk] using hn
      have ih' := ih hn'
      by_cases e : p.1 = j
      · have : ¬ j = k := fun z => hk (e.trans z)
        simp [atZ, List.find?_cons, e, this]
      · have c : atZ (p :: (r ++ [(k, b, v)])) j = atZ (r ++ [(k, b, v)]) j := by simp [atZ, List.find?_cons, e]
        have c' : atZ (p :: r) j = atZ r j := by simp [atZ, List.find?_cons, e]
        rw [List.cons_append, c, c', ih']
  unfold putZ
  cases q : atZ zs k with
  | some y =>
    rw [if_pos (show (some y).isSome = true from rfl), hm]
    by_cases e : j = k
    · subst e; rw [q, if_pos rfl]; simp
    · rw [if_neg e]; cases atZ zs j <;> simp [e]
  | none => rw [if_neg (show ¬ (none : Option V).isSome = true by decide)]; exact ha zs q
theorem length_putZ (zs : List (List IK × Addr × V)) (k : List IK) (b : Addr) (v : V) : (putZ zs k b v).length ≤ zs.length + 1 := by
  unfold putZ
  split
  · rw [List.length_map]; omega
  · rw [List.length_append, List.length_cons, List.length_nil]; omega
theorem mem_putZ {zs : List (List IK × Addr × V)} {k : List IK} {b : Addr} {v : V} {z : List IK × Addr × V} (h : z ∈ putZ zs k b v) : (∃ z0 ∈ zs, z.1 = z0.1 ∧ z.2.1 = z0.2.1) ∨ (z.1 = k ∧ z.2.1 = b) := by
  unfold putZ at h
  split at h
  · obtain ⟨z0, h0, rfl⟩ := List.mem_map.mp h
    refine .inl ⟨z0, h0, ?_⟩
    split <;> exact ⟨rfl, rfl⟩
  · rcases List.mem_append.mp h with h | h
    · exact .inl ⟨z, h, rfl, rfl⟩
    · rw [List.mem_singleton.mp h]; exact .inr ⟨rfl, rfl⟩
section
variable {X : Cx} {pins : List (Addr × Obj)} {σ : St} {H : Hp} {s : Shared} {a : Addr} {y v : V} {u r : Value} {A : Around} {E : Value → Shared → Prop} {srt : Bool} {f : MK → Option V} {n : Nat} {k : MK}
theorem ia_is {k : IA} (h : iaV y = some k) (ry : RelV y u) : iaIs k u = true := by
  cases y with
  | non => cases h; cases ry; rfl
  | bl b => cases h; cases ry; simp [iaIs]
  | int i => cases h; obtain ⟨t, rfl⟩ := ry; simp [iaIs]
  | _ => cases h
theorem ias_are {P : Program} {w : World} : ∀ {ks : List IA} {ys : List V} {us : List Value}, ys.map iaV = ks.map some → Vals ys us → ItemsAre (iaKind P w) ks us
  | [], [], _, _, .nil => .nil
  | k :: ks, y :: ys, _, e, .cons h t => by
    rw [List.map_cons, List.map_cons] at e
    injection e with e1 e2
    exact .cons (ia_is e1 h) (ias_are e2 t)
  | [], _ :: _, _, e, _ => by simp at e
  | _ :: _, [], _, e, _ => by simp at e
theorem tup_at (ok : HOk X.prog X.w H s.heap) {c : Addr} {xs : List V} (e : H c = some (.tup xs)) : ∃ its, Vals xs its ∧ ∃ o n, s.heap.get? c = some o ∧ o.cls = .type "tuple" ∧ o.data = .seq its.toArray n := by
  obtain ⟨_, its, r, o, h1, h2, ⟨n, h3⟩, _⟩ := (show ObjOk X.prog X.w H s.heap c (.tup xs) from ok c _ e)
  exact ⟨its, r, o, n, h1, h2, h3⟩
theorem item_is (ok : HOk X.prog X.w H s.heap) {k : IK} (h : ItemV H y k) (ry : RelV y u) : ItemIs X.prog X.w s.heap k u := by
  cases k with
  | inl a => exact ia_is h ry
  | inr as =>
    obtain ⟨c, ys, rfl, e, q⟩ := h
    cases ry
    obtain ⟨its, rv, o, n, h1, h2, h3⟩ := tup_at ok e
    exact ⟨c, rfl, o, its.toArray, n, h1, h2, h3, by simpa using ias_are q rv⟩
theorem items_is (ok : HOk X.prog X.w H s.heap) {xs : List V} {ks : List IK} {us : List Value} (p : Paired (ItemV H) xs ks) : Vals xs us → Paired (ItemIs X.prog X.w s.heap) ks us := by
  induction p generalizing us with
  | nil => intro q; cases q; exact .nil
  | cons h t ih => intro q; cases q with
    | cons r q => exact .cons (item_is ok h r) (ih q)
theorem tk_is (ok : HOk X.prog X.w H s.heap) {c : Addr} {ks : List IK} (h : KeyV H (.ref c) (.inr ks)) : IsTk X.prog X.w s.heap ks c := by
  obtain ⟨c', xs, e, ec, q⟩ := h
  cases e
  obtain ⟨its, rv, o, n, h1, h2, h3⟩ := tup_at ok ec
  exact ⟨o, its.toArray, n, h1, h2, h3, by simpa using items_is ok q rv⟩
theorem key_ref (h : KeyV H y k) (hs : kSort k = true) : ∃ c ks, y = .ref c ∧ k = .inr ks := by
  cases k with
  | inl _ => cases hs
  | inr ks => obtain ⟨c, xs, e, _⟩ := h; exact ⟨c, ks, e, rfl⟩
theorem pairs_any {P P' : Program} {w w' : World} {es : List DictEntry} {vs : List (IA × Value)} (h : Pairs (iaKind P w) es vs) : Pairs (iaKind P' w') es vs := by
  induction h with
  | nil => exact .nil
  | cons a b _ ih => exact .cons a b ih
theorem da_of {kvs : List (IA × V)} (ok : HOk X.prog X.w H s.heap) (e : H a = some (dA a kvs)) : kvs.length ≤ sizeLine ∧ (a == sysModules) = false ∧ ∃ vs, KV kvs vs ∧ s.heap.DictOf (iaKind X.prog X.w) a vs := by
  obtain ⟨⟨z, y, P, w, vs, r, o, es, ep, h1, h2, h3, h4, h5, h6⟩, _⟩ := (show ObjOk X.prog X.w H s.heap a (dA a kvs) from ok a _ e)
  exact ⟨z, y, vs, r, o, es, ep, h1, h2, h3, h4, pairs_any h5, h6⟩
theorem db_of {zs : List (List IK × Addr × V)} (ok : HOk X.prog X.w H s.heap) (e : H a = some (dB a zs)) (hk : ∀ z ∈ zs, KeyV H (.ref z.2.1) (.inr z.1)) : zs.length ≤ sizeLine ∧ (a == sysModules) = false ∧ ∃ xs, ZX zs xs ∧ s.heap.DictOfH (tkKind X.prog X.w) a xs := by
  obtain ⟨⟨z, y, xs, r, o, es, ep, h1, h2, h3, h4, h5⟩, _⟩ := (show ObjOk X.prog X.w H s.heap a (dB a zs) from ok a _ e)
  refine ⟨z, y, xs, r, o, es, ep, h1, h2, h3, h4, ?_, h5⟩
  have all : ∀ {l : List (List IK × Addr × V)} {m : List (List IK × Addr × Value)}, ZX l m → (∀ z ∈ l, KeyV H (.ref z.2.1) (.inr z.1)) → ∀ x ∈ m, (tkKind X.prog X.w).is s.heap x.1 x.2.1 := by
    intro l m q
    unfold ZX at q
    induction q with
    | nil => intro _ x hx; exact nomatch hx
    | @cons p q ps qs hq t ih =>
      intro hk x hx
      rcases List.mem_cons.mp hx with e | hx
      · subst e
        have := hk p (List.mem_cons_self ..)
        rw [hq.1, hq.2.1] at this
        exact tk_is ok this
      · exact ih (fun z hz => hk z (List.mem_cons_of_mem _ hz)) x hx
  exact all r hk
theorem x_notIn {Q : Value → Shared → Prop} (hu : A.units + 2 < cLine) (I : Inv X pins σ H s) (d : Dx H a srt f n) (hk : KeyV H y k) (hs : kSort k = srt) (ry : RelV y u) (h : ∀ s', Inv X pins σ H s' → Q (.bool (f k).isNone) s') :
    wpAny (model X.prog X.w) A (compareOp .NotIn u (.ref a)) Q E s := by
  rcases d with ⟨rfl, kvs, e, hf, _⟩ | ⟨rfl, zs, e, hz, hf, _⟩
  · cases k with
    | inr _ => cases hs
    | inl k =>
      obtain ⟨z, hd, vs, rel, dd⟩ := da_of I.hok e
      refine wpAny_notIn_of (knd := iaKind X.prog X.w) (ia_is hk ry) hd dd.mapOf ?_
      rw [← (rel.val k).isSome_eq, hf k]
      rw [show (!(f (.inl k)).isSome) = (f (.inl k)).isNone by cases f (.inl k) <;> rfl]
      exact h _ (I.tok _)
  · obtain ⟨c, ks, rfl, rfl⟩ := key_ref hk hs
    cases ry
    obtain ⟨z, hd, xs, rel, dd⟩ := db_of I.hok e hz
    refine wpAny_notIn_heap (knd := tkKind X.prog X.w) hu (tk_is I.hok hk) hd dd ?_
    have q := (rel.val ks).isSome_eq
    rw [Option.isSome_map, hf ks] at q
    rw [← q, show (!(f (.inr ks)).isSome) = (f (.inr ks)).isNone by cases f (.inr ks) <;> rfl]
    exact h _ (I.tok _)
theorem x_get {Q : Value → Shared → Prop} (hu : A.units + 2 < cLine) (I : Inv X pins σ H s) (d : Dx H a srt f n) (hk : KeyV H y k) (hs : kSort k = srt) (ry : RelV y u) (ev : f k = some v) (h : ∀ w' s', Inv X pins σ H s' → RelV v w' → Q w' s') :
    wpAny (model X.prog X.w) A (getItem (.ref a) u) Q E s := by
  rcases d with ⟨rfl, kvs, e, hf, _⟩ | ⟨rfl, zs, e, hz, hf, _⟩
  · cases k with
    | inr _ => cases hs
    | inl k =>
      obtain ⟨z, hd, vs, rel, dd⟩ := da_of I.hok e
      obtain ⟨w', hw, rw'⟩ := RelO.some_of (v := v) (o := valueAt vs k) (by rw [← ev, ← hf k]; exact rel.val k)
      exact wpAny_getItem_of (knd := iaKind X.prog X.w) (ia_is hk ry) dd.mapOf hw (h w' _ (I.tok _) rw')
  · obtain ⟨c, ks, rfl, rfl⟩ := key_ref hk hs
    cases ry
    obtain ⟨z, hd, xs, rel, dd⟩ := db_of I.hok e hz
    obtain ⟨w', hw, rw'⟩ := RelO.some_of (v := v) (o := (atKey xs ks).map (·.2)) (by rw [← ev, ← hf ks]; exact rel.val ks)
    obtain ⟨p, hp, hp2⟩ := Option.map_eq_some_iff.mp hw
    refine wpAny_getItem_heap (knd := tkKind X.prog X.w) hu (tk_is I.hok hk) dd hp ?_
    rw [hp2]
    exact h w' _ (I.tok _) rw'
theorem off_upd' {o : HO} : Off a H (upd H a o) := fun b hb => upd_ne hb
theorem da_new {h' : Heap} {t' : Nat} {kvs kvs' : List (IA × V)} {vs' : List (IA × Value)} (I : Inv X pins σ H s) (e : H a = some (dA a kvs)) (hs : Heap.SameBut a s.heap h') (z : kvs'.length ≤ sizeLine) (hd : (a == sysModules) = false) (rel : KV kvs' vs') (dd : h'.DictOf (iaKind X.prog X.w) a vs') :
    Inv X pins σ (upd H a (dA a kvs')) { s with heap := h', toks := t' } := by
  have he : ∃ q, h'.get? a = some q := let ⟨q, _, _, hq, _⟩ := dd; ⟨q, hq⟩
  exact d_write I (by rw [e]; exact True.intro) hs he (DA.ok ⟨z, hd, X.prog, X.w, vs', rel, dd⟩)
theorem db_new {h' : Heap} {t' : Nat} {zs zs' : List (List IK × Addr × V)} {xs' : List (List IK × Addr × Value)} (I : Inv X pins σ H s) (e : H a = some (dB a zs)) (hs : Heap.SameBut a s.heap h') (z : zs'.length ≤ sizeLine) (hd : (a == sysModules) = false) (rel : ZX zs' xs') (dd : h'.DictOfH (tkKind X.prog X.w) a xs') :
    Inv X pins σ (upd H a (dB a zs')) { s with heap := h', toks := t' } := by
  obtain ⟨o, es, ep, h1, h2, h3, h4, _, h5⟩ := dd
  exact d_write I (by rw [e]; exact True.intro) hs ⟨o, h1⟩ (DB.ok ⟨z, hd, xs', rel, o, es, ep, h1, h2, h3, h4, h5⟩)
theorem dx_putA {kvs : List (IA × V)} {k : IA} (e : H a = some (dA a kvs)) (hf : ∀ k, valV kvs k = f (.inl k)) (hn : kvs.length ≤ n) : Dx (upd H a (dA a (putK kvs k v))) a false (putF_ f (.inl k) v) (n + 1) := by
  refine .inl ⟨rfl, _, upd_same, fun j => ?_, ?_⟩
  · rw [valV_put]
    unfold putF_
    by_cases q : j = k
    · rw [if_pos q, if_pos (by rw [q])]
    · rw [if_neg q, if_neg (fun z => q (Sum.inl.inj z)), hf j]
  · have := length_putK kvs k v; omega
theorem dx_putB {zs : List (List IK × Addr × V)} {k : List IK} {c : Addr} (e : H a = some (dB a zs)) (hz : ∀ z ∈ zs, KeyV H (.ref z.2.1) (.inr z.1)) (hk : KeyV H (.ref c) (.inr k)) (hf : ∀ k, atZ zs k = f (.inr k)) (hn : zs.length ≤ n) :
    Dx (upd H a (dB a (putZ zs k c v))) a true (putF_ f (.inr k) v) (n + 1) := by
  have kp : Keep H (upd H a (dB a (putZ zs k c v))) := off_upd'.keepD fun xs q => by rw [e] at q; cases q
  refine .inr ⟨rfl, _, upd_same, fun z h => ?_, fun j => ?_, ?_⟩
  · rcases mem_putZ h with ⟨z0, h0, e1, e2⟩ | ⟨e1, e2⟩
    · rw [e1, e2]; exact (hz z0 h0).keep kp
    · rw [e1, e2]; exact hk.keep kp
  · rw [atZ_put]
    unfold putF_
    by_cases q : j = k
    · rw [if_pos q, if_pos (by rw [q])]
    · rw [if_neg q, if_neg (fun z => q (Sum.inr.inj z)), hf j]
  · have := length_putZ zs k c v; omega
theorem x_set {Q : Unit → Shared → Prop} (hu : A.units + 2 < cLine) (I : Inv X pins σ H s) (d : Dx H a srt f n) (hk : KeyV H y k) (hs : kSort k = srt) (hn : n < sizeLine) (ry : RelV y u) (rv : RelV v r)
    (h : ∀ H' s', Off a H H' → Dx H' a srt (putF_ f k v) (n + 1) → Inv X pins σ H' s' → Q () s') : wpAny (model X.prog X.w) A (setItem (.ref a) u r) Q E s := by
  rcases d with ⟨rfl, kvs, e, hf, hl⟩ | ⟨rfl, zs, e, hz, hf, hl⟩
  · cases k with
    | inr _ => cases hs
    | inl k =>
      obtain ⟨z, hd, vs, rel, dd⟩ := da_of I.hok e
      have hvz : vs.length ≤ sizeLine := by rw [← rel.length]; exact z
      have hl' : (putK kvs k v).length ≤ sizeLine := by have := length_putK kvs k v; omega
      refine wpAny_setItem_pairs (knd := iaKind X.prog X.w) (hsz := hvz) (ia_is hk ry) dd fun h' dd' hs' => h _ _ off_upd' (dx_putA e hf hl) ?_
      exact da_new I e hs' hl' hd (rel.put k rv) dd'
  · obtain ⟨c, ks, rfl, rfl⟩ := key_ref hk hs
    cases ry
    obtain ⟨z, hd, xs, rel, dd⟩ := db_of I.hok e hz
    have hvz : xs.length ≤ sizeLine := by rw [← rel.length]; exact z
    have hl' : (putZ zs ks c v).length ≤ sizeLine := by have := length_putZ zs ks c v; omega
    refine wpAny_setItem_heap (knd := tkKind X.prog X.w) (hsz := hvz) hu (tk_is I.hok hk) dd fun h' dd' hs' => h _ _ off_upd' (dx_putB (c := c) e hz hk hf hl) ?_
    exact db_new I e hs' hl' hd (rel.put ks rv) dd'
theorem setDefault_heap {d a : Addr} {knd : HeapKind X.prog X.w (List IK)} {xs : List (List IK × Addr × Value)} {k : List IK} {v : Value} {Q : Value → Shared → Prop} (hu : knd.room A) (hkey : knd.is s.heap k a) (hm : s.heap.DictOfH knd d xs)
    (h1 : ∀ p, atKey xs k = some p → Q p.2 { s with toks := s.toks + knd.draws k })
    (h2 : atKey xs k = none → ∀ h', h'.DictOfH knd d (storedH xs k a v) → Heap.SameBut d s.heap h' → Q v { s with heap := h', toks := s.toks + knd.draws k })
    (hsz : xs.length ≤ sizeLine) : wpAny (model X.prog X.w) A (dictSetDefault d (.ref a) v) Q E s := by
  obtain ⟨o, es, ep, ho, hc, hd, he, his, hn⟩ := hm
  unfold dictSetDefault
  try with_reducible refine wpAny_holding ?_
  refine wpAny_bind (knd.pyHash hu hkey ?_)
  refine wpAny_bind (wpAny_dictFind_heap (s := { s with toks := s.toks + knd.draws k }) hu hkey ho hd he his hn ?_ ?_)
  · intro hno
    have hnot : k ∉ xs.map (·.1) := not_mem_keys_of_get hno
    refine wpAny_bind (wpAny_rule (wpAny_bind (wpAny_updateDictKeys (hz := by have e := size_of_entries he; omega) (s := { s with toks := s.toks + knd.draws k }) ho hd (wpAny_pure (h2 (atKey_none_of_get hno) _ ⟨_, _, ep + 1, Heap.get?_update_self _ ho (Obj.isFreed_of_dict (Obj.data_mapDictKeys hd _)),
      hc.mapDictKeys _, Obj.data_mapDictKeys hd _, ?_, ?_, ?_⟩ (Heap.SameBut.update ..))))))
    · rw [storedH_new (atKey_none_of_get hno)]
      simp [he, entryOfKey]
    · rw [storedH_new (atKey_none_of_get hno)]
      intro x hx
      rcases List.mem_append.mp hx with hx | hx
      · exact knd.keeps (his x hx) ho hd (Heap.SameBut.update ..)
      · simp only [List.mem_singleton] at hx
        subst hx
        exact knd.keeps hkey ho hd (Heap.SameBut.update ..)
    · rw [storedH_new (atKey_none_of_get hno)]
      rw [List.map_append, List.nodup_append]
      refine ⟨hn, by simp, ?_⟩
      intro x hx y hy
      simp only [List.map_cons, List.map_nil, List.mem_singleton] at hy
      subst hy
      exact fun e => hnot (e ▸ hx)
  · intro j p hj
    refine wpAny_bind (wpAny_dictEntries (s := { s with toks := s.toks + knd.draws k }) ho hd ?_)
    rw [entry_at he j, hj]
    exact wpAny_bind (wpAny_rule (wpAny_pure (h1 p (atKey_of_get hn hj))))
theorem setdefault_body {d : Addr} {key dflt : Value} {Q : Fin → Shared → Prop} (hT : s.TypeIs (.ref d) "dict") (hd : (d == sysModules) = false) (h : wpAny (model X.prog X.w) A (dictSetDefault d key dflt) (fun v s' => Q (.done (.ret v)) s') E s) :
    wpAny (model X.prog X.w) A (Builtin.«dict.setdefault» ⟨[.ref d, key, dflt], []⟩) Q E s := by
  unfold Builtin.«dict.setdefault»
  refine wpAny_bind ?_
  unfold Builtin.Dict.keyAndDefault
  refine wpAny_bind (wpAny_notOrdered_dict hT ?_)
  show wpAny _ _ (pure (d, key, some dflt)) _ _ s
  refine wpAny_pure ?_
  show wpAny _ _ (if (d == sysModules) = true then _ else (dictSetDefault d key dflt >>= _)) _ _ s
  rw [if_neg (by rw [hd]; exact Bool.false_ne_true)]
  exact wpAny_bind (wpAny_mono h (fun v s' q => wpAny_pure q) fun _ _ x => x)
theorem x_type (I : Inv X pins σ H s) (d : Dx H a srt f n) : s.TypeIs (.ref a) "dict" ∧ ∀ b, Value.ref a = .ref b → ∃ ob, s.heap.get? b = some ob ∧ ob.dict = none := by
  rcases d with ⟨_, kvs, e, _, _⟩ | ⟨_, zs, e, hz, _, _⟩
  · obtain ⟨_, _, vs, _, dd⟩ := da_of I.hok e
    refine ⟨dd.typeIs, fun b q => ?_⟩
    cases q
    obtain ⟨ob, _, _, h1, h2, _⟩ := dd
    exact ⟨ob, h1, h2.2.1⟩
  · obtain ⟨_, _, xs, _, dd⟩ := db_of I.hok e hz
    refine ⟨dd.typeIs, fun b q => ?_⟩
    cases q
    obtain ⟨ob, _, _, h1, h2, _⟩ := dd
    exact ⟨ob, h1, h2.2.1⟩
theorem x_setd {Q : Value → Shared → Prop} (hu : A.units + 2 < cLine) (I : Inv X pins σ H s) (d : Dx H a srt f n) (hk : KeyV H y k) (hs : kSort k = srt) (hn : n < sizeLine) (ry : RelV y u) (rv : RelV v r)
    (h1 : ∀ x w' s', f k = some x → RelV x w' → Inv X pins σ H s' → Q w' s')
    (h2 : f k = none → ∀ H' s', Off a H H' → Dx H' a srt (putF_ f k v) (n + 1) → Inv X pins σ H' s' → Q r s') : wpAny (model X.prog X.w) A (call (.builtin "dict.setdefault") [.ref a, u, r]) Q E s := by
  have hT := (x_type I d).1
  refine wpAny_call_entry PySem.F.slot_dict_setdefault hT PySem.F.entry_dict_setdefault ?_ (PySem.F.args_dict_setdefault_3 _ _ _)
  rcases d with ⟨rfl, kvs, e, hf, hl⟩ | ⟨rfl, zs, e, hz, hf, hl⟩
  · cases k with
    | inr _ => cases hs
    | inl k =>
      obtain ⟨z, hd, vs, rel, dd⟩ := da_of I.hok e
      have hvz : vs.length ≤ sizeLine := by rw [← rel.length]; exact z
      have hl' : (putK kvs k v).length ≤ sizeLine := by have := length_putK kvs k v; omega
      refine setdefault_body hT hd (kt_dictSetDefault_pairs (knd := iaKind X.prog X.w) (hsz := hvz) (ia_is hk ry) dd (fun w' hw => ?_) fun hno h' dd' hs' => ?_)
      · have q := rel.val k
        rw [hf k, hw] at q
        cases ef : f (.inl k) with
        | none => rw [ef] at q; exact (show False from q).elim
        | some x => rw [ef] at q; exact ⟨w', rfl, h1 x w' _ ef q (I.tok _)⟩
      · have q := rel.val k
        rw [hf k, hno] at q
        have ef : f (.inl k) = none := by
          cases ef : f (.inl k) with
          | none => rfl
          | some x => rw [ef] at q; exact (show False from q).elim
        exact ⟨r, rfl, h2 ef _ _ off_upd' (dx_putA e hf hl) (da_new I e hs' hl' hd (rel.put k rv) dd')⟩
  · obtain ⟨c, ks, rfl, rfl⟩ := key_ref hk hs
    cases ry
    obtain ⟨z, hd, xs, rel, dd⟩ := db_of I.hok e hz
    have hvz : xs.length ≤ sizeLine := by rw [← rel.length]; exact z
    have hl' : (putZ zs ks c v).length ≤ sizeLine := by have := length_putZ zs ks c v; omega
    refine setdefault_body hT hd (setDefault_heap (X := X) (knd := tkKind X.prog X.w) hu (tk_is I.hok hk) dd (fun p hp => ?_) (fun hno h' dd' hs' => ?_) hvz)
    · have q := rel.val ks
      rw [hf ks, hp] at q
      cases ef : f (.inr ks) with
      | none => rw [ef] at q; exact (show False from q).elim
      | some x => rw [ef] at q; exact ⟨p.2, rfl, h1 x p.2 _ ef q (I.tok _)⟩
    · have q := rel.val ks
      rw [hf ks, hno] at q
      have ef : f (.inr ks) = none := by
        cases ef : f (.inr ks) with
        | none => rfl
        | some x => rw [ef] at q; exact (show False from q).elim
      exact ⟨r, rfl, h2 ef _ _ off_upd' (dx_putB (c := c) e hz hk hf hl) (db_new I e hs' hl' hd (rel.put ks rv) dd')⟩
end
/-! ### the rules -/
section
variable {X : Cx}
theorem op_xnotin (hu : X.A.units + 64 < cLine) : OpR X (compareOp .NotIn) (rXIn true) := by
  intro pins s σ H x y v u Q I rx ry h
  obtain ⟨a, srt, f, n, k, rfl, d, hk, hs, q⟩ := h
  cases ry
  exact x_notIn (by omega) I d hk hs rx fun s' I' => ⟨.bl _, H, I', rfl, q⟩
theorem pe_xget {o i : Expr} {pos : Pos} {td ty : TE} (hu : X.A.units + 64 < cLine) (ho : PE X o td) (hi : PE X i ty) (hs : NoSl i) : PE X (.Subscript o i pos) (tOp rXGet td ty) := by
  intro pins s σ H Q I h
  refine subD_of PySem.F.slot_dict_getitem.lookup hs (thn (ho pins s σ H _ I h) fun u s1 ⟨x, H1, I1, rx, q1⟩ => thn (hi pins s1 σ H1 _ I1 q1) fun iv s2 ⟨y, H2, I2, ry, a, srt, f, n, k, v, ex, d, hk, hs', ev, q2⟩ => ?_)
  subst ex
  obtain rfl : u = Value.ref a := rx
  exact ⟨(x_type I2 d).1, x_get (by omega) I2 d hk hs' ry ev fun w' s3 I3 rw' => ⟨v, H2, I3, rw', q2⟩⟩
theorem set_X (hu : X.A.units + 64 < cLine) : PSet X rXSet := by
  intro pins s σ H o i v ov iv u Q I ro ri rv h
  obtain ⟨a, srt, f, n, k, rfl, d, hk, hs, hn, q⟩ := h
  cases ro
  exact x_set (by omega) I d hk hs hn ri rv fun H' s' o' d' I' => ⟨H', I', q H' o' d'⟩
theorem pm_dnewX {pos : Pos} : PE X (.Dict [] [] pos) mDnewX := fun pins s σ H Q I h => by
  obtain ⟨srt, h⟩ := h
  have hd : (s.heap.objs.size == sysModules) = false := beq_eq_false_iff_ne.mpr (Ne.symm (Nat.ne_of_lt I.big))
  have hp := I.hok.fresh (Nat.le_refl s.heap.objs.size)
  cases srt with
  | false =>
    refine wpAny_Dict_empty ⟨.ref s.heap.objs.size, _, I.laid (a := s.heap.objs.size) (o := dA s.heap.objs.size []) (t' := s.toks) (fun _ _ q => Heap.get?_push_of_some _ q) (Nat.le_refl _) (DA.ok ⟨Nat.zero_le _, hd, X.prog, X.w, [], .nil, Heap.DictOf.new s.heap⟩), rfl, ?_⟩
    exact h _ _ hp (same_new hp _) (.inl ⟨rfl, [], upd_same, fun _ => rfl, Nat.le_refl _⟩)
  | true =>
    refine wpAny_Dict_empty ⟨.ref s.heap.objs.size, _, I.laid (a := s.heap.objs.size) (o := dB s.heap.objs.size []) (t' := s.toks) (fun _ _ q => Heap.get?_push_of_some _ q) (Nat.le_refl _) (DB.ok ⟨Nat.zero_le _, hd, [], .nil, _, #[], 0, Heap.get?_push_size _ rfl, ⟨rfl, rfl, rfl⟩, rfl, rfl, List.nodup_nil⟩), rfl, ?_⟩
    exact h _ _ hp (same_new hp _) (.inr ⟨rfl, [], upd_same, fun z hz => (nomatch hz), fun _ => rfl, Nat.le_refl _⟩)
noncomputable def MtX (X : Cx) (id : String) (r : V → List V → Hp → VK → Prop) : Prop :=
  ∀ (pins : List (Addr × Obj)) (s : Shared) (σ : St) (H : Hp) (x : V) (ys : List V) (u : Value) (us : List Value) (Q : VK), Inv X pins σ H s → RelV x u → Vals ys us → r x ys H Q →
    wpAny (model X.prog X.w) X.A (call (.builtin id) (u :: us)) (EP X pins σ Q) X.xe s
theorem mt_xsetdefault (hu : X.A.units + 64 < cLine) : MtX X "dict.setdefault" rXSetd := by
  intro pins s σ H x ys u us Q I rx rys h
  obtain ⟨a, srt, f, n, k, y, v, rfl, rfl, d, hk, hs, hn, q1, q2⟩ := h
  cases rx
  cases rys with
  | cons r1 t1 => cases t1 with
    | cons r2 t2 =>
      cases t2
      exact x_setd (by omega) I d hk hs hn r1 r2 (fun x w' s' ef rw' I' => ⟨x, H, I', rw', q1 x ef⟩) fun ef H' s' o' d' I' => ⟨v, H', I', r2, q2 ef H' o' d'⟩
theorem pe_xm {o e : Expr} {es : List Expr} {name : Str} {id : String} {r : V → List V → Hp → VK → Prop} {to : TE} {t : TA} {apos cpos : Pos} (slot : Slot "dict" name id) (hty : typeOf (.builtin id) = pure (.type "method_descriptor")) (hm : MtX X id r) (ho : PE X o to) (ha : PA X (e :: es) t)
    (hbase : attributeBase o name X.env (eval o X.env) = eval o X.env := by rfl)
    (hfew : ((backTo cpos (starEach (e :: es) X.env)).all (fun x => !x.1) && (backToKw cpos (keywordEach [] X.env)).all (fun x => x.1.isSome)
      && decide ((e :: es).length + ([] : List Keyword).length + (if ([] : List Keyword).isEmpty then 0 else 1) < 30)) = true := by rfl)
    (hline : (apos.endLine == cpos.line) = true := by rfl) (hs : starEach (e :: es) X.env = (false, eval e X.env) :: starEach es X.env := by rfl) (hplain : (backTo cpos (starEach es X.env)).any (·.1) = false := by rfl) :
    PE X (.Call (.Attribute o name apos) (e :: es) [] cpos) (tXM r to t) := by
  intro pins s σ H Q I h
  refine wpAny_Call_method_late hbase hfew hline rfl (thn (ho pins s σ H _ I h) fun v s1 ⟨x, H1, I1, r1, ⟨a, srt, f, n, ex, d⟩, q1⟩ => ?_)
  subst ex
  obtain rfl : v = Value.ref a := r1
  obtain ⟨h1, h2⟩ := x_type I1 d
  refine ⟨"dict", id, PySem.F.plainAttrs_dict, slot, hty, h1, h2, ?_⟩
  have hA := ha cpos pins s1 σ H1 _ I1 q1
  rw [hs] at hA ⊢
  refine Calls.callWith_builtin (by show (false || (backTo cpos (starEach es X.env)).any (·.1)) = false; rw [hplain] <;> rfl) (Calls.evalArgs_plain ?_)
  exact thn hA fun us s2 ⟨vs, H2, I2, r2, q2⟩ => hm pins s2 σ H2 (.ref a) vs (.ref a) us Q I2 rfl r2 q2
end
end L2

end

section
-- KcSame
set_option Elab.async false
set_option linter.all false
set_option maxRecDepth 100000
set_option maxHeartbeats 4000000
namespace L2
open PySem PySem.Spec PyProof.Rows
section
variable {X : Cx}
end
end L2

end

section
-- KcEq
set_option Elab.async false
set_option linter.all false
set_option maxRecDepth 100000
set_option maxHeartbeats 4000000
namespace L2
open PySem PySem.Spec PyProof.Rows
/-! ### data behind a value: lists and tuples to any depth -/
mutual
inductive Dat (K : PySem.W.Frag) (H : Hp) : V → PyData → Prop where
  | non : Dat K H .non .none
  | bl (b : Bool) : Dat K H (.bl b) (.bool b)
  | int (i : Int) : Dat K H (.int i) (.int i)
  | str (x : Str) : Dat K H (.str x) (.str x)
  | lst {a : Addr} {xs : List V} {ds : List PyData} (e : SqL K H a xs) (h : Dats K H xs ds) : Dat K H (.ref a) (.list ds)
  | tup {a : Addr} {xs : List V} {ds : List PyData} (e : SqT K H a xs) (h : Dats K H xs ds) : Dat K H (.ref a) (.tuple ds)
inductive Dats (K : PySem.W.Frag) (H : Hp) : List V → List PyData → Prop where
  | nil : Dats K H [] []
  | cons {x : V} {xs : List V} {d : PyData} {ds : List PyData} (h : Dat K H x d) (t : Dats K H xs ds) : Dats K H (x :: xs) (d :: ds)
end
section
variable {X : Cx} {pins : List (Addr × Obj)} {σ : St} {H : Hp} {s : Shared}
mutual
theorem Dat.reads (I : Inv X pins σ H s) : ∀ {x : V} {d : PyData} {u : Value}, Dat X.K H x d → RelV x u → ∃ as, Reads s.heap u d as
  | _, _, _, .non, r => by cases r; exact ⟨_, .none⟩
  | _, _, _, .bl b, r => by cases r; exact ⟨_, .bool b⟩
  | _, _, _, .int i, r => by obtain ⟨t, rfl⟩ := r; exact ⟨_, .int i t⟩
  | _, _, _, .str x, r => by obtain ⟨t, rfl⟩ := r; exact ⟨_, .str x t⟩
  | _, _, _, .lst e h, r => by
    cases r
    obtain ⟨its, rv, ⟨o, n, h1, h2, h3, h4⟩, _⟩ := I.list e
    obtain ⟨as, ra⟩ := Dats.reads I h rv
    exact ⟨_, .list h1 h2 h4 (by simpa using ra)⟩
  | _, _, _, .tup e h, r => by
    cases r
    obtain ⟨its, rv, ⟨o, h1, h2, n, h3⟩, _⟩ := I.tuple e
    obtain ⟨as, ra⟩ := Dats.reads I h rv
    exact ⟨_, .tuple h1 h2 h3 (by simpa using ra)⟩
theorem Dats.reads (I : Inv X pins σ H s) : ∀ {xs : List V} {ds : List PyData} {us : List Value}, Dats X.K H xs ds → Vals xs us → ∃ as, ReadsAll s.heap us ds as
  | _, _, _, .nil, .nil => ⟨_, .nil⟩
  | _, _, _, .cons h t, .cons r q => by
    obtain ⟨as, ra⟩ := Dat.reads I h r
    obtain ⟨bs, rb⟩ := Dats.reads I t q
    exact ⟨_, .cons ra rb⟩
end
end
section
variable {X : Cx}
end
end L2

end

section
-- KcSameN
set_option Elab.async false
set_option linter.all false
set_option maxRecDepth 100000
set_option maxHeartbeats 4000000
namespace L2
open PySem PySem.Spec PyProof.Rows
mutual
theorem datD {K : PySem.W.Frag} {H : Hp} : ∀ {n : Nat} {x y : V}, SameD K H n x y → ∃ d, Dat K H x d ∧ Dat K H y d ∧ d.canLay0 = true ∧ d.depth ≤ n
  | n, x, _, .flat h => by
    cases x with
    | non => exact ⟨_, .non, .non, rfl, Nat.zero_le _⟩
    | bl b => exact ⟨_, .bl b, .bl b, rfl, Nat.zero_le _⟩
    | int i => exact ⟨_, .int i, .int i, rfl, Nat.zero_le _⟩
    | _ => cases h
  | _, _, _, .lst (xs := xs) (ys := ys) e1 e2 hl h => by
    obtain ⟨ds, h1, h2, h3, h4⟩ := datsD xs ys hl h
    exact ⟨_, .lst e1 h1, .lst e2 h2, h3, Nat.succ_le_succ h4⟩
  | _, _, _, .tup (xs := xs) (ys := ys) e1 e2 hl h => by
    obtain ⟨ds, h1, h2, h3, h4⟩ := datsD xs ys hl h
    exact ⟨_, .tup e1 h1, .tup e2 h2, h3, Nat.succ_le_succ h4⟩
theorem datsD {K : PySem.W.Frag} {H : Hp} {n : Nat} : ∀ (xs ys : List V), xs.length = ys.length → (∀ (i : Nat) (x y : V), xs[i]? = some x → ys[i]? = some y → SameD K H n x y) → ∃ ds, Dats K H xs ds ∧ Dats K H ys ds ∧ PyData.canLayAll0 ds = true ∧ PyData.depthAll ds ≤ n
  | [], [], _, _ => ⟨[], .nil, .nil, rfl, Nat.zero_le _⟩
  | x :: xs, y :: ys, hl, h => by
    obtain ⟨d, a1, a2, a3, a4⟩ := datD (h 0 x y rfl rfl)
    obtain ⟨ds, b1, b2, b3, b4⟩ := datsD xs ys (by simpa using hl) (fun i x y hx hy => h (i + 1) x y hx hy)
    refine ⟨d :: ds, .cons a1 b1, .cons a2 b2, ?_, ?_⟩
    · show (d.canLay0 && PyData.canLayAll0 ds) = true
      rw [a3, b3]; rfl
    · show max d.depth (PyData.depthAll ds) ≤ n
      omega
  | [], _ :: _, hl, _ => by simp at hl
  | _ :: _, [], hl, _ => by simp at hl
end
section
variable {X : Cx}
theorem op_sameN (hu : X.A.units + 64 < cLine) : OpR X (compareOp .NotEq) (rSameD X.K true) := by
  intro pins s σ H x y v u Q I rx ry h
  obtain ⟨n, hn, hd, q⟩ := h
  obtain ⟨d, h1, h2, h3, h4⟩ := datD hd
  obtain ⟨as, ra⟩ := h1.reads I rx
  obtain ⟨bs, rb⟩ := h2.reads I ry
  have sh : SeqAt.shaped d = true := by unfold SeqAt.shaped; rw [h3, decide_eq_true (by omega)]; rfl
  refine ne_dataH ra rb sh sh hu ⟨.bl false, H, I, ?_, q⟩
  rw [SeqAt.eqv_refl d h3]; rfl
end
end L2

end

section
-- KcNest
set_option Elab.async false
set_option linter.all false
namespace L2
open PySem PySem.Spec PyProof.Rows
/-! ### a comprehension within a comprehension: what is free in the inner one -/
theorem relabel_open {scope : Scope} {env : Env} {x : Str} (h : scope.names.lookup x = some .cell ∨ scope.names.lookup x = some .free) : (relabel scope env).names.lookup x = some .cell ∨ (relabel scope env).names.lookup x = some .free := by
  have go : ∀ ns : List (Str × NameKind), (ns.lookup x = some .cell ∨ ns.lookup x = some .free) →
      (ns.map fun (n, k) => if (k == NameKind.free && env.scope.kind == .function && env.kindOf n == some .cell) then (n, NameKind.cell) else (n, k)).lookup x = some .cell ∨
      (ns.map fun (n, k) => if (k == NameKind.free && env.scope.kind == .function && env.kindOf n == some .cell) then (n, NameKind.cell) else (n, k)).lookup x = some .free := by
    intro ns
    induction ns with
    | nil => intro q; rcases q with q | q <;> simp at q
    | cons y r ih =>
      obtain ⟨n, k'⟩ := y
      intro q
      rw [List.map_cons]
      rw [List.lookup_cons] at q
      by_cases hc : (k' == NameKind.free && env.scope.kind == .function && env.kindOf n == some .cell) = true
      · simp only [hc, if_true]
        rw [List.lookup_cons]
        cases e : x == n with
        | true => exact .inl rfl
        | false => rw [e] at q; exact ih q
      · simp only [hc]
        rw [if_neg (by simp), List.lookup_cons]
        cases e : x == n with
        | true => rw [e] at q; exact q
        | false => rw [e] at q; exact ih q
  exact go scope.names h
theorem comp_free {inner outer : Scope} {cl : List (Str × Addr)} {C : Addr} {env : Env} (h : ∀ y ∈ inner.names, y.2 = .free → outer.names.lookup y.1 = some .cell ∨ outer.names.lookup y.1 = some .free) :
    ∀ y ∈ inner.names, y.2 = .free → (compEnvC outer cl C env).scope.names.lookup y.1 = some .cell ∨ (compEnvC outer cl C env).scope.names.lookup y.1 = some .free := fun y hy hk => relabel_open (h y hy hk)
end L2

end

section
-- KcSetW
set_option Elab.async false
set_option linter.all false
set_option maxRecDepth 100000
set_option maxHeartbeats 4000000
/-! the places of a set's table: rising, and how they are looked up -/
namespace L2
open PySem
noncomputable def Rs (xs : List Nat) : Prop := xs.Pairwise (· < ·)
theorem getD_list (xs : Array Nat) (i d : Nat) (h : i < xs.size) : xs.getD i d = xs.toList[i]'(by simpa using h) := by
  rw [Array.getD, dif_pos h]
  simp
theorem go_spec (xs : Array Nat) (j : Nat) (hr : Rs xs.toList) : ∀ (fuel lo hi : Nat), hi - lo ≤ fuel → lo ≤ hi → hi ≤ xs.size → (∀ i (h : i < xs.toList.length), i < lo → xs.toList[i] < j) → (∀ i (h : i < xs.toList.length), hi ≤ i → j ≤ xs.toList[i]) →
    lo ≤ SetTable.below.go xs j fuel lo hi ∧ SetTable.below.go xs j fuel lo hi ≤ hi ∧ (∀ i (h : i < xs.toList.length), i < SetTable.below.go xs j fuel lo hi → xs.toList[i] < j) ∧ (∀ i (h : i < xs.toList.length), SetTable.below.go xs j fuel lo hi ≤ i → j ≤ xs.toList[i])
  | 0, lo, hi, hf, hl, hs, h1, h2 => by
    have e : hi = lo := by omega
    subst e
    exact ⟨Nat.le_refl _, Nat.le_refl _, h1, h2⟩
  | fuel + 1, lo, hi, hf, hl, hs, h1, h2 => by
    have eq : SetTable.below.go xs j (fuel + 1) lo hi = (if lo < hi then (if xs.getD ((lo + hi) / 2) j < j then SetTable.below.go xs j fuel ((lo + hi) / 2 + 1) hi else SetTable.below.go xs j fuel lo ((lo + hi) / 2)) else lo) := rfl
    by_cases hlt : lo < hi
    · have hm : (lo + hi) / 2 < xs.size := by omega
      have hm' : (lo + hi) / 2 < xs.toList.length := by simpa using hm
      have pw := List.pairwise_iff_getElem.mp hr
      rw [if_pos hlt, getD_list xs _ _ hm] at eq
      by_cases hc : xs.toList[(lo + hi) / 2] < j
      · rw [if_pos hc] at eq
        obtain ⟨a, b, c, d⟩ := go_spec xs j hr fuel ((lo + hi) / 2 + 1) hi (by omega) (by omega) hs (fun i h hi' => by
          rcases Nat.lt_or_ge i ((lo + hi) / 2) with z | z
          · have := pw i ((lo + hi) / 2) h hm' z
            omega
          · have e : i = (lo + hi) / 2 := by omega
            subst e
            exact hc) h2
        rw [eq]
        exact ⟨by omega, b, c, d⟩
      · rw [if_neg hc] at eq
        obtain ⟨a, b, c, d⟩ := go_spec xs j hr fuel lo ((lo + hi) / 2) (by omega) (by omega) (by omega) h1 (fun i h hi' => by
          rcases Nat.lt_or_ge ((lo + hi) / 2) i with z | z
          · have := pw ((lo + hi) / 2) i hm' h z
            omega
          · have e : i = (lo + hi) / 2 := by omega
            subst e
            omega)
        rw [eq]
        exact ⟨a, by omega, c, d⟩
    · rw [if_neg hlt] at eq
      have e : hi = lo := by omega
      subst e
      rw [eq]
      exact ⟨Nat.le_refl _, Nat.le_refl _, h1, h2⟩
theorem below_spec (xs : Array Nat) (j : Nat) (hr : Rs xs.toList) : SetTable.below xs j ≤ xs.size ∧ (∀ i (h : i < xs.toList.length), i < SetTable.below xs j → xs.toList[i] < j) ∧ (∀ i (h : i < xs.toList.length), SetTable.below xs j ≤ i → j ≤ xs.toList[i]) := by
  obtain ⟨_, b, c, d⟩ := go_spec xs j hr xs.size 0 xs.size (by omega) (Nat.zero_le _) (Nat.le_refl _) (fun i h z => absurd z (Nat.not_lt_zero _)) (fun i h z => absurd (by simpa using h) (Nat.not_lt.mpr z))
  exact ⟨b, c, d⟩
theorem below_next (xs : Array Nat) (hr : Rs xs.toList) {i : Nat} (h : i < xs.toList.length) : SetTable.below xs (xs.toList[i] + 1) = i + 1 := by
  obtain ⟨b, c, d⟩ := below_spec xs (xs.toList[i] + 1) hr
  have pw := List.pairwise_iff_getElem.mp hr
  rcases Nat.lt_trichotomy (SetTable.below xs (xs.toList[i] + 1)) (i + 1) with z | z | z
  · have := d i h (by omega)
    omega
  · exact z
  · have hi : i + 1 < xs.toList.length := by simp at *; omega
    have := c (i + 1) hi (by omega)
    have := pw i (i + 1) h hi (by omega)
    omega
theorem below_zero (xs : Array Nat) (hr : Rs xs.toList) : SetTable.below xs 0 = 0 := by
  obtain ⟨b, c, _⟩ := below_spec xs 0 hr
  rcases Nat.eq_zero_or_pos (SetTable.below xs 0) with z | z
  · exact z
  · have h0 : 0 < xs.toList.length := by simp; omega
    have := c 0 h0 z
    omega
theorem put_rs (xs : Array Nat) (hr : Rs xs.toList) {j : Nat} (hj : j ∉ xs.toList) : Rs (SetTable.insertAt xs (SetTable.below xs j) j).toList := by
  obtain ⟨b, c, d⟩ := below_spec xs j hr
  rw [SetTable.toList_insertAt]
  have hr' : (xs.toList.take (SetTable.below xs j) ++ xs.toList.drop (SetTable.below xs j)).Pairwise (· < ·) := by rw [List.take_append_drop]; exact hr
  rw [List.pairwise_append] at hr'
  obtain ⟨p1, p2, p3⟩ := hr'
  have lo : ∀ a ∈ xs.toList.take (SetTable.below xs j), a < j := fun a ha => by
    obtain ⟨i, hi, rfl⟩ := List.mem_iff_getElem.mp ha
    rw [List.getElem_take]
    have hi' : i < min (SetTable.below xs j) xs.toList.length := by simpa using hi
    exact c i (by omega) (by omega)
  have hi : ∀ a ∈ xs.toList.drop (SetTable.below xs j), j < a := fun a ha => by
    obtain ⟨i, hi, rfl⟩ := List.mem_iff_getElem.mp ha
    rw [List.getElem_drop]
    have hl : i < xs.toList.length - SetTable.below xs j := by simpa using hi
    have h1 : SetTable.below xs j + i < xs.toList.length := by omega
    have := d _ h1 (Nat.le_add_right _ _)
    rcases Nat.lt_or_eq_of_le this with z | z
    · exact z
    · exact absurd (z ▸ List.getElem_mem h1) hj
  refine List.pairwise_append.mpr ⟨p1, List.pairwise_cons.mpr ⟨hi, p2⟩, fun a ha x hx => ?_⟩
  rcases List.mem_cons.mp hx with rfl | hx
  · exact lo a ha
  · exact p3 a ha x hx
theorem notin_of {xs : Array Nat} (hr : Rs xs.toList) {j : Nat} (h : ¬ (xs[SetTable.below xs j]? == some j) = true) : j ∉ xs.toList := fun hm => by
  obtain ⟨b, c, d⟩ := below_spec xs j hr
  obtain ⟨k, hk, e⟩ := List.mem_iff_getElem.mp hm
  have pw := List.pairwise_iff_getElem.mp hr
  have h1 : SetTable.below xs j ≤ k := Nat.le_of_not_lt fun z => by
    have := c k hk z
    omega
  have h2 : SetTable.below xs j = k := by
    rcases Nat.lt_or_eq_of_le h1 with z | z
    · have hl : SetTable.below xs j < xs.toList.length := by omega
      have := d _ hl (Nat.le_refl _)
      have := pw _ k hl hk z
      omega
    · exact z
  refine h ?_
  rw [h2, ← Array.getElem?_toList, List.getElem?_eq_getElem hk, e]
  exact beq_self_eq_true _
theorem slot_free {t : SetTable} (hr : Rs t.place.toList) {j : Nat} (h : ∀ i, t.slot j ≠ .live i) : j ∉ t.place.toList := by
  refine notin_of hr fun z => ?_
  have := h (SetTable.below t.place j)
  unfold SetTable.slot at this
  rw [if_pos z] at this
  exact this rfl
theorem probe_free {t : SetTable} {f : Nat → Int} {h : Int} : ∀ (fuel : Nat) (p : SetTable.Probe) {j : Nat} {d : Option Nat}, (∀ x, p.dummy = some x → ∀ i, t.slot x ≠ .live i) → SetTable.probe.go t f h fuel p = some (.empty j d) → ∀ i, t.slot (d.getD j) ≠ .live i
  | 0, _, _, _, _, e => by cases e
  | fuel + 1, p, j, d, hd, e => by
    have ha : ∀ q : SetTable.Probe, (t.advance q).dummy = q.dummy := fun q => by
      unfold SetTable.advance
      split <;> rfl
    unfold SetTable.probe.go at e
    cases hs : t.slot p.j with
    | empty =>
      rw [hs] at e
      injection e with e
      injection e with e1 e2
      subst e1 e2
      intro i
      cases hx : p.dummy with
      | none => show t.slot p.j ≠ _; rw [hs]; intro z; cases z
      | some x => exact hd x hx i
    | dummy =>
      rw [hs] at e
      refine probe_free fuel _ (fun x hx i => ?_) e
      rw [ha] at hx
      cases hx
      rw [hs]; intro z; cases z
    | live k =>
      rw [hs] at e
      dsimp only at e
      split at e
      · cases e
      · exact probe_free fuel _ (fun x hx => hd x (by rw [ha] at hx; exact hx)) e
theorem free_notin {t : SetTable} (hr : Rs t.place.toList) {h : Int} {j : Nat} {b : Bool} (e : t.freeSlot h = some (j, b)) : j ∉ t.place.toList := by
  unfold SetTable.freeSlot at e
  split at e
  · rename_i j' d' he
    cases e
    exact slot_free hr (probe_free _ _ (fun x hx => by cases hx) he)
  · cases e
theorem range_rs (n : Nat) : Rs (Array.range n).toList := by
  rw [Array.toList_range]
  exact List.pairwise_lt_range
theorem standIn_rs (t : SetTable) (n : Nat) : Rs (t.standIn n).place.toList := range_rs n
theorem layNew_rs {t : SetTable} (hr : Rs t.place.toList) (es : Array (Int × Value)) (h : Int) (x : Value) : Rs (layNew t es h x).2.1.place.toList ∧ (layNew t es h x).2.1.led = t.led := by
  unfold layNew
  split
  · rename_i slot wd he
    dsimp only
    unfold SetTable.orStandIn
    split
    · exact ⟨put_rs _ hr (free_notin hr he), rfl⟩
    · exact ⟨standIn_rs _ _, rfl⟩
  · exact ⟨standIn_rs _ _, rfl⟩
theorem laid_rs {mask finger moves : Nat} {led plain : Bool} {hs : Array Int} {t : SetTable} {o : Array Nat} (e : SetTable.laid mask finger moves led plain hs = some (t, o)) : Rs t.place.toList ∧ t.led = led := by
  unfold SetTable.laid at e
  obtain ⟨owner, _, e⟩ := Option.bind_eq_some_iff.mp e
  cases e
  refine ⟨?_, rfl⟩
  show ((((List.range (mask + 1)).filterMap fun j => (owner.getD j none).map (j, ·)).map (·.1)).toArray).toList.Pairwise (· < ·)
  have sub : List.Sublist (((List.range (mask + 1)).filterMap fun j => (owner.getD j none).map (j, ·)).map (·.1)) (List.range (mask + 1)) := by
    rw [List.map_filterMap]
    have : ∀ l : List Nat, List.Sublist (l.filterMap fun j => ((owner.getD j none).map (j, ·)).map (·.1)) l := by
      intro l
      induction l with
      | nil => exact .slnil
      | cons a l ih =>
        rw [List.filterMap_cons]
        cases owner.getD a none with
        | none => exact .cons _ ih
        | some v => exact .cons₂ _ ih
    exact this _
  exact List.pairwise_lt_range.sublist sub
theorem relayAll_rs {t : SetTable} (hr : Rs t.place.toList) (es : Array (Int × Value)) (wanted : Nat) : Rs (relayAll t es wanted).2.1.place.toList ∧ (relayAll t es wanted).2.1.led = t.led := by
  unfold relayAll
  split
  · rename_i t' order he
    dsimp only
    split
    · exact laid_rs he
    · exact ⟨standIn_rs _ _, rfl⟩
  · exact ⟨standIn_rs _ _, rfl⟩
end L2

end

section
-- KcSetA
set_option Elab.async false
set_option linter.all false
set_option maxRecDepth 100000
set_option maxHeartbeats 4000000
/-! a set that grows, its keys in the order of its table -/
namespace L2
open PySem
section
variable {prog : Program} {w : World} {K : Type} [DecidableEq K] {knd : KeyKind prog w K} {A : Around} {E : Value → Shared → Prop} {s : Shared}
noncomputable def Ent (knd : KeyKind prog w K) (k : K) (e : Int × Value) : Prop := knd.is k e.2 = true ∧ e.1 = knd.hash k ∧ e.2.scannable = true
inductive PairL {α β : Type} (F : α → β → Prop) : List α → List β → Prop
  | nil : PairL F [] []
  | cons {a b l m} : F a b → PairL F l m → PairL F (a :: l) (b :: m)
theorem PairL.len {α β : Type} {F : α → β → Prop} {l : List α} {m : List β} (h : PairL F l m) : l.length = m.length := by
  induction h with
  | nil => rfl
  | cons _ _ ih => rw [List.length_cons, List.length_cons, ih]
theorem PairL.app {α β : Type} {F : α → β → Prop} {l l' : List α} {m m' : List β} (h : PairL F l m) (h' : PairL F l' m') : PairL F (l ++ l') (m ++ m') := by
  induction h with
  | nil => exact h'
  | cons r _ ih => exact .cons r ih
theorem PairL.right {α β : Type} {F : α → β → Prop} {l : List α} {m : List β} (h : PairL F l m) : ∀ b ∈ m, ∃ a ∈ l, F a b := by
  induction h with
  | nil => intro b hb; cases hb
  | cons r _ ih =>
    intro b hb
    rcases List.mem_cons.mp hb with rfl | hb
    · exact ⟨_, List.mem_cons_self, r⟩
    · obtain ⟨a, ha, f⟩ := ih b hb
      exact ⟨a, List.mem_cons_of_mem _ ha, f⟩
theorem PairL.perm {α β : Type} {F : α → β → Prop} {m m' : List β} (p : List.Perm m m') : ∀ {l : List α}, PairL F l m → ∃ l', List.Perm l l' ∧ PairL F l' m' := by
  induction p with
  | nil => intro l h; cases h; exact ⟨[], .nil, .nil⟩
  | cons b _ ih =>
    intro l h
    cases h with
    | cons r t =>
      obtain ⟨l', p, q⟩ := ih t
      exact ⟨_ :: l', .cons _ p, .cons r q⟩
  | swap b c m =>
    intro l h
    cases h with
    | cons r t => cases t with
      | cons r' t' => exact ⟨_, .swap _ _ _, .cons r' (.cons r t')⟩
  | trans _ _ ih1 ih2 =>
    intro l h
    obtain ⟨l1, p1, q1⟩ := ih1 h
    obtain ⟨l2, p2, q2⟩ := ih2 q1
    exact ⟨l2, p1.trans p2, q2⟩
noncomputable def SetR (knd : KeyKind prog w K) (h : Heap) (a : Addr) (ks : List K) (led : Bool) : Prop :=
  ∃ o es ep t, h.get? a = some o ∧ o.ExactSet ∧ o.data = .set es ep t ∧ PairL (Ent knd) ks es.toList ∧ ks.Nodup ∧ es.size < scanBound ∧ t.fits es.size = true ∧ Rs t.place.toList ∧ t.led = led
theorem els_of {ks : List K} {l : List (Int × Value)} (h : PairL (Ent knd) ks l) : ElemsOf knd l := fun e he => by
  obtain ⟨k, _, f1, f2, f3⟩ := h.right e he
  exact ⟨⟨k, f1, f2⟩, f3⟩
theorem stored {h : Heap} {a : Addr} {o : Obj} {es es' : Array (Int × Value)} {ep : Nat} {t t' : SetTable} {ks' : List K} {led : Bool} (g1 : h.get? a = some o) (g2 : o.ExactSet) (g3 : o.data = .set es ep t) (pr : PairL (Ent knd) ks' es'.toList) (nd : ks'.Nodup) (sb : es'.size < scanBound) (ft : t'.fits es'.size = true) (rs : Rs t'.place.toList) (ld : t'.led = led) :
    (h.update a (Obj.putSet es' t')).get? a = some { o with data := .set es' (ep + 1) t' } ∧ SetR knd (h.update a (Obj.putSet es' t')) a ks' led := by
  have hg : (h.update a (Obj.putSet es' t')).get? a = some { o with data := .set es' (ep + 1) t' } := by
    have z := Heap.get?_update_self (Obj.putSet es' t') g1 (by rw [putSet_of _ _ g3]; rfl)
    rw [z, putSet_of _ _ g3]
  exact ⟨hg, _, es', ep + 1, t', hg, g2, rfl, pr, nd, sb, ft, rs, ld⟩
theorem found_in {ks : List K} {l : List (Int × Value)} {k : K} (h : PairL (Ent knd) ks l) {j : Nat} (e : l.findIdx? (fun e => knd.is k e.2) = some j) : k ∈ ks := by
  obtain ⟨hj, hp, _⟩ := List.findIdx?_eq_some_iff_getElem.mp e
  obtain ⟨k', hk', f1, _⟩ := h.right _ (List.getElem_mem hj)
  exact knd.inj _ _ _ hp f1 ▸ hk'
theorem absent_in {ks : List K} {l : List (Int × Value)} {k : K} (h : PairL (Ent knd) ks l) (e : l.findIdx? (fun e => knd.is k e.2) = none) : k ∉ ks := by
  have n := List.findIdx?_eq_none_iff.mp e
  induction h with
  | nil => intro z; cases z
  | cons r _ ih =>
    intro z
    rcases List.mem_cons.mp z with rfl | z
    · have := n _ List.mem_cons_self
      rw [r.1] at this
      cases this
    · exact ih (List.findIdx?_eq_none_iff.mpr fun e he => n e (List.mem_cons_of_mem _ he)) (fun e he => n e (List.mem_cons_of_mem _ he)) z
theorem grow_tail {g : Bool → Sem Unit} (hg : ∀ (b : Bool) (z : Shared) (P : Unit → Shared → Prop), P () z → wpAny (model prog w) A (g b) P E z) {a : Addr} {o : Obj} {es fs : Array (Int × Value)} {ep : Nat} {t u : SetTable} {ks : List K} {led wd : Bool}
    (g1 : s.heap.get? a = some o) (g2 : o.ExactSet) (g3 : o.data = .set es ep t) (kq : PairL (Ent knd) ks fs.toList) (nd : ks.Nodup) (sb : fs.size < scanBound) (fu : u.fits fs.size = true) (ru : Rs u.place.toList) (lu : u.led = led) {R : Option Bool → Shared → Prop}
    (q : ∀ h' ks', Heap.SameBut a s.heap h' → SetR knd h' a ks' led → List.Perm ks' ks → R (some true) { s with heap := h' }) :
    wpAny (model prog w) A (storeSet a fs u >>= fun _ => if (!wd && u.tooFull) = true then (g (relayAll u fs (SetTable.grown fs.size)).2.2 >>= fun _ => storeSet a (relayAll u fs (SetTable.grown fs.size)).1 (relayAll u fs (SetTable.grown fs.size)).2.1 >>= fun _ => pure (some true)) else pure (some true)) R E s := by
  apply wpAny_bind
  refine wpAny_storeSet_of g1 g3 ?_ (fits_of_scanBound sb)
  obtain ⟨g4, R1⟩ := stored (knd := knd) g1 g2 g3 kq nd sb fu ru lu
  have b1 := Heap.SameBut.update s.heap a (Obj.putSet fs u)
  split
  · have pm := relayAll_perm u fs (SetTable.grown fs.size)
    have pf := relayAll_fits u fs (SetTable.grown fs.size)
    have ⟨pr, pl⟩ := relayAll_rs ru fs (SetTable.grown fs.size)
    generalize relayAll u fs (SetTable.grown fs.size) = L at *
    obtain ⟨fs', u', gv⟩ := L
    dsimp only at pm pf pr pl ⊢
    obtain ⟨ks', kp, kq'⟩ := PairL.perm pm.symm kq
    have hz : fs'.size = fs.size := by rw [← Array.length_toList, pm.length_eq, Array.length_toList]
    apply wpAny_bind
    apply hg
    apply wpAny_bind
    refine wpAny_storeSet_of g4 rfl ?_ (fits_of_scanBound (by rw [hz]; exact sb))
    obtain ⟨_, R2⟩ := stored (knd := knd) g4 g2 rfl kq' (kp.nodup_iff.mp nd) (by rw [hz]; exact sb) pf pr (pl.trans lu)
    exact wpAny_pure (q _ ks' (b1.trans (Heap.SameBut.update _ a _)) R2 kp.symm)
  · exact wpAny_pure (q _ ks b1 R1 (List.Perm.refl _))
theorem set_add {a : Addr} {ks : List K} {led : Bool} {k : K} {x : Value} {Q : Bool → Shared → Prop} (hk : knd.is k x = true) (hx : x.scannable = true) (R : SetR knd s.heap a ks led) (room : ks.length + 1 < scanBound)
    (q : ∀ h' ks' b, Heap.SameBut a s.heap h' → SetR knd h' a ks' led → (∀ y, y ∈ ks' ↔ y ∈ ks ∨ y = k) → ks'.length ≤ ks.length + 1 → Q b { s with heap := h' }) : wpAny (model prog w) A (setAddHashed a x (knd.hash k)) Q E s := by
  obtain ⟨o, es, ep, t, g1, g2, g3, pr, nd, sb, ft, rs, ld⟩ := id R
  have el := els_of pr
  have hlen : ks.length = es.size := by rw [pr.len, Array.length_toList]
  unfold setAddHashed setAddHashedIn
  apply wpAny_holding
  apply wpAny_bind
  apply wpAny_setState_of g1 g3 ft
  dsimp only
  rw [if_pos (byScan_of hx sb el)]
  unfold setAddByScan
  apply wpAny_bind
  apply wpAny_bind
  apply wpAny_rule
  apply wpAny_bind
  apply wpAny_setScan_of hk g1 g3 ft el
  cases fe : List.findIdx? (fun e => knd.is k e.2) es.toList with
  | some j =>
    dsimp only
    apply wpAny_pure
    apply wpAny_pure
    have z := q s.heap ks false (Heap.SameBut.refl a s.heap) R (fun y => ⟨.inl, fun h => h.elim id fun e => e ▸ found_in pr fe⟩) (Nat.le_succ _)
    cases s
    exact z
  | none =>
    dsimp only
    have hk0 := absent_in pr fe
    have pm := layNew_perm t es (knd.hash k) x
    have pf := layNew_fits t es (knd.hash k) x
    have ⟨pr1, pl1⟩ := layNew_rs rs es (knd.hash k) x
    generalize layNew t es (knd.hash k) x = L at *
    obtain ⟨es1, t1, wd, gv⟩ := L
    dsimp only at pm pf pr1 pl1 ⊢
    rw [Array.toList_push] at pm
    obtain ⟨ks1, kp, kq⟩ := PairL.perm pm.symm (pr.app (.cons (⟨hk, rfl, hx⟩ : Ent knd k (knd.hash k, x)) .nil))
    have hz : es1.size = es.size + 1 := by rw [← Array.length_toList, pm.length_eq, List.length_append, Array.length_toList]; rfl
    have sb1 : es1.size < scanBound := by rw [hz, ← hlen]; exact room
    have nd1 : ks1.Nodup := kp.nodup_iff.mp (List.nodup_append.mpr ⟨nd, List.pairwise_singleton _ _, fun y hy z hz' e => hk0 (by rw [List.mem_singleton] at hz'; rw [← hz', ← e]; exact hy)⟩)
    have fin : ∀ h' ks', Heap.SameBut a s.heap h' → SetR knd h' a ks' led → List.Perm ks' ks1 → Q true { s with heap := h' } := fun h' ks' b R' pp =>
      q h' ks' true b R' (fun y => by rw [pp.mem_iff, ← kp.mem_iff, List.mem_append, List.mem_singleton]) (by rw [pp.length_eq, ← kp.length_eq, List.length_append]; exact Nat.le_refl _)
    apply wpAny_bind
    have gw : ∀ (b : Bool) (z : Shared) (P : Unit → Shared → Prop), P () z → wpAny (model prog w) A (match b with | true => rule "set.scan.the-table-gave-way" | false => pure ()) P E z := fun b z P hP => by cases b <;> first | exact wpAny_pure hP | exact wpAny_rule hP
    refine gw gv _ _ ?_
    split
    · apply wpAny_bind
      rw [hashByValue_scannable 8 hx]
      apply wpAny_pure
      refine grow_tail (led := led) (fun b z P hP => by cases b <;> first | exact wpAny_pure hP | exact wpAny_rule hP) g1 g2 g3 kq nd1 sb1 ?_ ?_ ?_ fun h' ks' b R' pp => ?_
      · split
        · exact pf
        · exact SetTable.fits_plain_off pf
      · split <;> exact pr1
      · split <;> exact pl1.trans ld
      · exact wpAny_pure (fin h' ks' b R' pp)
    · apply wpAny_bind
      apply wpAny_pure
      simp only [↓reduceIte]
      refine grow_tail (led := led) (fun b z P hP => by cases b <;> first | exact wpAny_pure hP | exact wpAny_rule hP) g1 g2 g3 kq nd1 sb1 pf pr1 (pl1.trans ld) fun h' ks' b R' pp => ?_
      exact wpAny_pure (fin h' ks' b R' pp)
end
end L2

end

section
-- KcSetB
set_option Elab.async false
set_option linter.all false
set_option maxRecDepth 100000
set_option maxHeartbeats 4000000
/-! set(..): its loop -/
namespace L2
open PySem PySem.Spec PyProof.Rows
section
variable {prog : Program} {w : World} {K : Type} [DecidableEq K] {knd : KeyKind prog w K} {A : Around} {R : Result → Shared → Prop} {I : Addr} {fp wr : List Addr} {G : Array GenState → Array GenState → Prop} {n : Nat} {P : Nat → Value → Prop} {St : Nat → Shared → Prop}
theorem SetR.at {h h' : Heap} {a : Addr} {ks : List K} {led : Bool} (r : SetR knd h a ks led) (k : ∀ o, h.get? a = some o → h'.get? a = some o) : SetR knd h' a ks led := by
  obtain ⟨o, es, ep, t, e, z⟩ := r
  exact ⟨o, es, ep, t, k o e, z⟩
theorem set_loop (W : WalksS prog w A.in1 I fp wr G n P St) (S : Addr) (free : S ∉ fp) (key : Nat → K) (hkey : ∀ i v, P i v → knd.is (key i) v = true ∧ v.scannable = true) (room : n + 1 < scanBound) {led : Bool} :
    ∀ (m i : Nat) (s : Shared) (ks : List K), n - i = m → i ≤ n → St i s → SetR knd s.heap S ks led → (∀ y, y ∈ ks ↔ ∃ j, j < i ∧ key j = y) → ks.length ≤ i →
      (∀ s' ks', Moved (S :: wr) G s s' → SetR knd s'.heap S ks' led → (∀ y, y ∈ ks' ↔ ∃ j, j < n ∧ key j = y) → R (.ok (.ret .none)) s') →
      codeAny (model prog w) A (.builtin "set.update.loop" ⟨[.ref S, .ref I], []⟩) R s := by
  have nw : S ∉ wr := fun z => free (W.sub _ z)
  have up : ∀ b ∈ wr, b ∈ S :: wr := fun b z => List.mem_cons_of_mem _ z
  intro m
  induction m with
  | zero =>
    intro i s ks hm hi st r mem len done
    obtain rfl : i = n := by omega
    apply codeAny_builtin F.entry_set_update_loop
    rw [Around.under_plainId F.plain_set_update_loop _]
    show wpAny _ A.in1 (pyNext (.ref I) >>= _) _ _ s
    apply wpAny_bind
    refine W.done s _ _ st fun z mv => ?_
    show wpAny _ A.in1 (ret Value.none) _ _ z
    exact wpAny_pure (done z ks (mv.mono up) (r.at fun o e => mv.heap S _ nw e) mem)
  | succ m ih =>
    intro i s ks hm hi st r mem len done
    have lt : i < n := by omega
    apply codeAny_builtin F.entry_set_update_loop
    rw [Around.under_plainId F.plain_set_update_loop _]
    show wpAny _ A.in1 (pyNext (.ref I) >>= _) _ _ s
    apply wpAny_bind
    refine W.item i s _ _ lt st fun v z pv stz mv => ?_
    obtain ⟨kv, sv⟩ := hkey i v pv
    have rz : SetR knd z.heap S ks led := r.at fun o e => mv.heap S _ nw e
    show wpAny _ A.in1 (holding [v] (setAdd S v) >>= _) _ _ z
    apply wpAny_bind
    apply wpAny_holding
    unfold setAdd
    apply wpAny_holding
    apply wpAny_bind
    refine knd.pyHash kv ?_
    refine set_add (s := { z with toks := z.toks + 1 }) kv sv rz (by omega) fun h' ks' b sb r' mem' len' => ?_
    refine wpAny_pure ⟨plainId_quiet F.plain_set_update_loop _, ih (i + 1) _ ks' (by omega) lt (W.frame _ z _ _ stz (Nat.le_succ _) fun c hc o e => ?_) r' (fun y => ?_) (by omega) fun z' ks2 mv2 r2 mem2 => ?_⟩
    · rw [sb.2 c (fun e' : c = S => free (by rw [← e']; exact hc))]
      exact e
    · rw [mem', mem]
      constructor
      · rintro (⟨j, hj, e⟩ | e)
        · exact ⟨j, by omega, e⟩
        · exact ⟨i, by omega, e.symm⟩
      · rintro ⟨j, hj, e⟩
        rcases Nat.lt_or_ge j i with q | q
        · exact .inl ⟨j, q, e⟩
        · have : j = i := by omega
          subst this
          exact .inr e.symm
    · refine done z' ks2 (Moved.trans W.gtrans ((mv.mono up).then_heap (Nat.le_succ _) fun c o hc e => ?_) mv2) r2 mem2
      rw [sb.2 c (fun e' : c = S => hc (by rw [e']; exact List.mem_cons_self))]
      exact e
end
end L2

end

section
-- KcSetC
set_option Elab.async false
set_option linter.all false
set_option maxRecDepth 100000
set_option maxHeartbeats 4000000
/-! a new set: whether it is led -/
namespace L2
open PySem PySem.Spec PyProof.Rows
section
variable {prog : Program} {w : World} {A : Around} {E : Value → Shared → Prop} {s : Shared}
noncomputable def byTxt (w : World) : Bool := w.params.followText "set-order"
noncomputable abbrev newS (w : World) : Obj := { cls := .type "set", dict := none, data := .set #[] 0 (.fresh 0 0 (!byTxt w)) }
theorem set_new1 (x : Value) {Q : Value → Shared → Prop} (q : Q (.ref s.heap.objs.size) { s with heap := s.heap.push (newS w) }) : codeAny (model prog w) A (.call (.builtin "set.__new__") ⟨[.type "set", x], []⟩) (wants Q E) s := by
  apply codeAny_of_tree
  show wpAny _ A.in1 (do checkBuiltinCall "set.__new__" ⟨[.type "set", x], []⟩; again (.builtin "set.__new__" ⟨[.type "set", x], []⟩)) _ _ s
  apply wpAny_bind
  apply wpAny_of_eq (PySem.F.newCall_set_1 x)
  refine wpAny_pure ⟨plainId_quiet PySem.F.plain_set_new _, ?_⟩
  apply codeAny_builtin PySem.F.entry_set_new
  rw [Around.under_plainId PySem.F.plain_set_new _]
  unfold Builtin.«set.__new__»
  unfold Builtin.Frozenset.newClass
  have self_ := sub_set_self
  obtain ⟨hp, g, d, tk, os⟩ := s
  dsimp only
  wp_walk
  apply wpAny_askSetting
  apply wpAny_pure
  dsimp only
  simp only [newObj]
  apply wpAny_bind
  apply wpAny_alloc
  apply wpAny_pure
  exact wpAny_pure q
theorem SetR.new {K : Type} [DecidableEq K] {knd : KeyKind prog w K} {h : Heap} {a : Addr} (e : h.get? a = some (newS w)) : SetR knd h a [] (!byTxt w) :=
  ⟨_, #[], 0, _, e, ⟨rfl, rfl, rfl⟩, rfl, .nil, .nil, by decide, rfl, .nil, rfl⟩
end
end L2

end

section
-- KcSetD
set_option Elab.async false
set_option linter.all false
set_option maxRecDepth 100000
set_option maxHeartbeats 4000000
/-! set(list) -/
namespace L2
open PySem PySem.Spec PyProof.Rows
section
variable {prog : Program} {w : World} {K : Type} [DecidableEq K] {knd : KeyKind prog w K} {A : Around} {E : Value → Shared → Prop} {s : Shared}
theorem sr_list {l : Addr} {xs : Array Value} (key : Nat → K) {Q : Value → Shared → Prop} (calm : A.handled = none) (hl : s.heap.IsList l xs) (hkey : ∀ i v, xs[i]? = some v → knd.is (key i) v = true ∧ v.scannable = true) (room : xs.size + 1 < scanBound)
    (q : ∀ (h' : Heap) (tk : Nat) (ks : List K), SetR knd h' s.heap.objs.size ks (!byTxt w) → (∀ y, y ∈ ks ↔ ∃ j, j < xs.size ∧ key j = y) → (∀ b o, b < s.heap.objs.size → s.heap.get? b = some o → h'.get? b = some o) → Q (.ref s.heap.objs.size) { s with heap := h', toks := tk }) :
    wpAny (model prog w) A (call (.type "set") [.ref l]) Q E s := by
  have ft := PySem.F.called_set
  obtain ⟨c0, tl0, mro0⟩ := ft.mro
  have made0 := ft.made
  have sub0 := ft.sub
  have not0 := ft.notType
  have can0 := ft.canCreate
  have chk0 := PySem.F.typeCall_set_1 (.ref l)
  apply wpAny_call
  apply codeAny_of_tree
  show wpAny _ _ (callAny (.type "set") _) _ _ _
  refine wpAny_pure ⟨Code.quiet_builtin _ (by decide +kernel), ?_⟩
  apply codeAny_builtin PySem.F.entry_type_call
  rw [Around.under_plain (weight_type_call_type "set" [.ref l] []) rfl]
  repeat (any_goals (first | assumption | wp_step))
  refine codeAny_mono (set_new1 (.ref l) (E := E) (Q := fun ob z => ob = .ref s.heap.objs.size ∧ z = { s with heap := s.heap.push (newS w) }) ⟨rfl, rfl⟩) fun r z hz => ?_
  cases r with
  | error e => exact hz
  | ok fl =>
    cases fl with
    | next => exact hz.elim
    | brk => exact hz.elim
    | cont => exact hz.elim
    | ret ob =>
      obtain ⟨rfl, rfl⟩ := hz
      have got : (s.heap.push (newS w)).get? s.heap.objs.size = some (newS w) := Heap.get?_push_size _ rfl
      have isT : Shared.TypeIs { s with heap := s.heap.push (newS w) } (.ref s.heap.objs.size) "set" := ⟨_, got, rfl⟩
      have look0 := ft.init.lookup
      have bind0 := ft.init.bind (.ref s.heap.objs.size)
      repeat (any_goals (first | assumption | wp_step))
      refine codeAny_mono (codeAny_call_builtin (R := wants (fun r z => r = .none ∧ ∃ h' tk ks, z = { s with heap := h', toks := tk } ∧ SetR knd h' s.heap.objs.size ks (!byTxt w) ∧ (∀ y, y ∈ ks ↔ ∃ j, j < xs.size ∧ key j = y) ∧ ∀ b o, b < s.heap.objs.size → s.heap.get? b = some o → h'.get? b = some o) E) ft.init.plain PySem.F.entry_set_init (check_set_init_1 isT ?_)) fun r z hz => ?_
      · obtain ⟨ob, gl, cl, nl, dl⟩ := hl
        obtain ⟨a1, a2, a3, a4⟩ := ob
        simp only at cl dl
        subst cl dl
        have gl1 : (s.heap.push (newS w)).get? l = some { cls := .type "list", dict := a2, data := .seq xs nl, slots := a4 } := Heap.get?_push_of_some _ gl
        have sls := PySem.F.sub_list_set
        have slf := PySem.F.sub_list_frozenset
        have nd0 : (Value.type "list" == Value.type "dict") = false := by decide
        have il : (s.heap.push (newS w)).IsList l xs := ⟨_, gl1, rfl, nl, rfl⟩
        unfold Builtin.«set.__init__»
        unfold noKeywords
        unfold Builtin.Frozenset.updateFrom
        generalize gPI : pyIter = PI
        wp_walk
        subst gPI
        apply wpAny_pyIter_list il
        apply wpAny_bind
        apply wpAny_runValue
        have lt : l < s.heap.objs.size := Heap.lt_size gl
        have sz : (s.heap.push (newS w)).objs.size = s.heap.objs.size + 1 := Heap.size_push _ _
        have fr : s.heap.objs.size ∉ [(s.heap.push (newS w)).objs.size, l] := by
          rw [sz]
          intro hm
          rcases List.mem_cons.1 hm with e | hm
          · exact absurd e (Nat.ne_of_lt (Nat.lt_succ_self _))
          · rcases List.mem_cons.1 hm with e | hm
            · exact absurd e.symm (Nat.ne_of_lt lt)
            · exact nomatch hm
        refine set_loop (knd := knd) ((Walks.list (by simp [calm]) _ l (by rw [sz]; exact Nat.ne_of_lt (Nat.lt_succ_of_lt lt)) xs).toS) s.heap.objs.size fr key (fun i v hv => hkey i v hv) room (led := !byTxt w) (xs.size - 0) 0 _ [] (by omega) (Nat.zero_le _) ⟨⟨_, Heap.get?_push_size _ rfl, rfl, rfl⟩, il.push _⟩ (SetR.new (Heap.get?_push_of_some _ got)) (fun y => ⟨fun z => (nomatch z), fun ⟨j, hj, _⟩ => absurd hj (Nat.not_lt_zero _)⟩) (Nat.le_refl _) fun z ks mv r mem => ?_
        obtain ⟨h', g', d', tk', os'⟩ := z
        obtain rfl : g' = s.gens := mv.gens
        obtain rfl : d' = s.drawn := mv.drawn
        obtain rfl : os' = s.os := mv.os
        show wpAny _ _ _ _ _ _
        refine wpAny_pure ?_
        show wpAny _ _ (ret Value.none) _ _ _
        refine wpAny_pure ⟨rfl, h', tk', ks, rfl, r, mem, fun b o hb e => mv.heap b o (fun hm => ?_) (Heap.get?_push_of_some _ (Heap.get?_push_of_some _ e))⟩
        rcases List.mem_cons.1 hm with e | hm
        · exact absurd e (Nat.ne_of_lt hb)
        · rcases List.mem_cons.1 hm with e | hm
          · rw [sz] at e
            exact absurd e (Nat.ne_of_lt (Nat.lt_succ_of_lt hb))
          · exact nomatch hm
      · cases r with
        | error e => exact hz
        | ok fl =>
          cases fl with
          | next => exact hz.elim
          | brk => exact hz.elim
          | cont => exact hz.elim
          | ret r =>
            obtain ⟨rfl, h', tk, ks, rfl, r1, r2, r3⟩ := hz
            repeat (any_goals (first | assumption | wp_step))
            exact q _ _ ks r1 r2 r3
end
end L2

end

section
-- KcSetI
set_option Elab.async false
set_option linter.all false
set_option maxRecDepth 100000
set_option maxHeartbeats 4000000
/-! a set's iterator: what the table of builtins says of it -/
namespace L2
open PySem PySem.Spec PyProof.Rows
theorem si_next : Slot "set_iterator" "__next__" "set_iterator.__next__" := by
  refine Slot.of (owner := "set_iterator") (n := "__next__") ?_ ?_ ?_ ?_ ?_ ?_
  · rw [typeLookup_type, builtinLookup_eq_fast]
    kernel_rfl
  · decide +kernel
  · decide +kernel
  · decide +kernel
  · first
      | exact .inl (by decide +kernel)
      | exact .inr (by decide +kernel)
  · rw [isSubtype_type]
    kernel_rfl
theorem si_iter : Slot "set_iterator" "__iter__" "set_iterator.__iter__" := by
  refine Slot.of (owner := "set_iterator") (n := "__iter__") ?_ ?_ ?_ ?_ ?_ ?_
  · rw [typeLookup_type, builtinLookup_eq_fast]
    kernel_rfl
  · decide +kernel
  · decide +kernel
  · decide +kernel
  · first
      | exact .inl (by decide +kernel)
      | exact .inr (by decide +kernel)
  · rw [isSubtype_type]
    kernel_rfl
theorem si_nextE : entryFor table "set_iterator.__next__" = some Builtin.«set_iterator.__next__» := by
  apply entryFor_of_tree
  kernel_rfl
theorem si_iterE : entryFor table "set_iterator.__iter__" = some Builtin.«dict_keyiterator.__iter__» := by
  refine entryFor_alias (id' := "dict_keyiterator.__iter__") ?_ rfl ?_ ?_
  · kernel_rfl
  · decide +kernel
  · kernel_rfl
theorem s_iterE : entryFor table "set.__iter__" = some Builtin.«frozenset.__iter__» := by
  refine entryFor_alias (id' := "frozenset.__iter__") ?_ rfl ?_ ?_
  · kernel_rfl
  · decide +kernel
  · kernel_rfl
theorem si_owner : Manifest.owners.lookup (String.ofList ['r', 'o', 't', 'a', 'r', 'e', 't', 'i', '_', 't', 'e', 's'].reverse) = some Manifest.sig_set_iterator := by kernel_rfl
theorem si_nextA (a : Value) : argsOk "set_iterator.__next__" ⟨[a], []⟩ := by
  unfold argsOk
  rw [signature?_of (id := "set_iterator.__next__") (n := ['_', '_', 't', 'x', 'e', 'n', '_', '_']) (o := ['r', 'o', 't', 'a', 'r', 'e', 't', 'i', '_', 't', 'e', 's']) (by kernel_rfl) si_owner]
  kernel_rfl
theorem si_iterA (a : Value) : argsOk "set_iterator.__iter__" ⟨[a], []⟩ := by
  unfold argsOk
  rw [signature?_of (id := "set_iterator.__iter__") (n := ['_', '_', 'r', 'e', 't', 'i', '_', '_']) (o := ['r', 'o', 't', 'a', 'r', 'e', 't', 'i', '_', 't', 'e', 's']) (by kernel_rfl) si_owner]
  kernel_rfl
end L2

end

section
-- KcSetJ
set_option Elab.async false
set_option linter.all false
set_option maxRecDepth 100000
set_option maxHeartbeats 4000000
/-! a set's iterator: its next thing, in three ways -/
namespace L2
open PySem PySem.Spec PyProof.Rows
noncomputable def SAt (h : Heap) (a : Addr) (es : Array (Int × Value)) (ep : Nat) (t : SetTable) : Prop := ∃ o, h.get? a = some o ∧ o.data = .set es ep t ∧ t.fits es.size = true
noncomputable def ItAt (h : Heap) (I a : Addr) (f : Value) (i n ep : Nat) : Prop := ∃ o, h.get? I = some o ∧ o.cls = .type "set_iterator" ∧ o.data = .fields #[f, .int i 0, .ref a, .int n 0, .int ep 0]
theorem SAt.at {h h' : Heap} {a : Addr} {es : Array (Int × Value)} {ep : Nat} {t : SetTable} (x : SAt h a es ep t) (k : ∀ o, h.get? a = some o → h'.get? a = some o) : SAt h' a es ep t := by
  obtain ⟨o, e, r⟩ := x
  exact ⟨o, k o e, r⟩
theorem ItAt.at {h h' : Heap} {I a : Addr} {f : Value} {i n ep : Nat} (x : ItAt h I a f i n ep) (k : ∀ o, h.get? I = some o → h'.get? I = some o) : ItAt h' I a f i n ep := by
  obtain ⟨o, e, r⟩ := x
  exact ⟨o, k o e, r⟩
theorem ItAt.type {s : Shared} {I a : Addr} {f : Value} {i n ep : Nat} (x : ItAt s.heap I a f i n ep) : s.TypeIs (.ref I) "set_iterator" := by
  obtain ⟨o, e, c, _⟩ := x
  exact ⟨o, e, c⟩
theorem ItAt.set {h : Heap} {I a : Addr} {f g : Value} {i n ep : Nat} (x : ItAt h I a f i n ep) : ItAt (h.update I (Obj.mapFields (·.setIfInBounds 0 g))) I a g i n ep := by
  obtain ⟨o, e, c, d⟩ := x
  refine ⟨_, Heap.get?_update_self _ e (Obj.isFreed_of_fields (Obj.data_mapFields d _)), (Obj.cls_mapFields ..).trans c, ?_⟩
  rw [Obj.data_mapFields d]
  simp
theorem ItAt.step {h : Heap} {I a : Addr} {f : Value} {i n ep : Nat} (x : ItAt h I a f i n ep) : ItAt (h.update I (Obj.mapFields (·.setIfInBounds 1 (rawInt ((i : Int) + 1))))) I a f (i + 1) n ep := by
  obtain ⟨o, e, c, d⟩ := x
  refine ⟨_, Heap.get?_update_self _ e (Obj.isFreed_of_fields (Obj.data_mapFields d _)), (Obj.cls_mapFields ..).trans c, ?_⟩
  rw [Obj.data_mapFields d]
  simp [rawInt]
section
variable {prog : Program} {w : World} {A : Around} {E : Value → Shared → Prop} {s : Shared} {I a : Addr} {es : Array (Int × Value)} {ep : Nat} {t : SetTable} {i : Nat}
theorem s_byTxt {Q : Bool → Shared → Prop} (q : Q (byTxt w) s) : wpAny (model prog w) A setsByText Q E s := by
  unfold setsByText
  apply wpAny_bind
  apply wpAny_askSetting
  exact wpAny_pure q
theorem s_nextT {slot : Nat} {Q : Option (Value × Nat) → Shared → Prop} (b : byTxt w = true) (hs : SAt s.heap a es ep t) (q : Q ((pickOrder (w.params.setOrder a ep) es)[i]?.map fun e => (e.2, slot)) s) : wpAny (model prog w) A (setNext a slot i ep) Q E s := by
  obtain ⟨o, g1, g3, ft⟩ := hs
  unfold setNext
  apply wpAny_bind
  apply wpAny_setState_of g1 g3 ft
  dsimp only
  apply wpAny_bind
  apply s_byTxt
  rw [if_pos b, if_neg (by simp)]
  apply wpAny_bind
  unfold setWalk
  apply wpAny_bind
  apply wpAny_setState_of g1 g3 ft
  dsimp only
  apply wpAny_bind
  apply s_byTxt
  rw [if_pos b]
  apply wpAny_bind
  apply wpAny_askSetting
  apply wpAny_pure
  exact wpAny_pure q
theorem s_nextP {slot : Nat} {Q : Option (Value × Nat) → Shared → Prop} (b : byTxt w = false) (pl : (!t.plain && decide (es.size > 1)) = false) (ld : t.led = true) (hs : SAt s.heap a es ep t)
    (q : Q (match es[SetTable.below t.place slot]?, t.place[SetTable.below t.place slot]? with | some (_, x), some j => some (x, j + 1) | _, _ => none) s) : wpAny (model prog w) A (setNext a slot i ep) Q E s := by
  obtain ⟨o, g1, g3, ft⟩ := hs
  unfold setNext
  apply wpAny_bind
  apply wpAny_setState_of g1 g3 ft
  dsimp only
  apply wpAny_bind
  apply s_byTxt
  rw [if_neg (by rw [b]; exact Bool.false_ne_true)]
  show wpAny _ _ (if (!t.plain && decide (es.size > 1)) = true then _ else _) _ _ _
  rw [if_neg (by rw [pl]; exact Bool.false_ne_true)]
  apply wpAny_bind
  show wpAny _ _ (if (!t.led && !es.isEmpty) = true then _ else _) _ _ _
  rw [if_neg (by rw [ld]; simp)]
  apply wpAny_pure
  exact wpAny_pure q
theorem s_nextD {p : Nat} {x : Int × Value} {Q : Value → Shared → Prop} (hs : SAt s.heap a es ep t) (hx : es[p]? = some x) (q : Q x.2 s) : wpAny (model prog w) A (setNextDrawn a p ep) Q E s := by
  obtain ⟨o, g1, g3, ft⟩ := hs
  unfold setNextDrawn
  apply wpAny_bind
  apply wpAny_setState_of g1 g3 ft
  dsimp only
  rw [if_neg (by simp), hx]
  exact wpAny_pure q
theorem si_item {slot nx : Nat} {x : Value} {Q : Option Value → Shared → Prop} (hit : ItAt s.heap I a (.int slot 0) i es.size ep) (hs : SAt s.heap a es ep t)
    (hx : ∀ (A : Around) (E : Value → Shared → Prop) (Q : Option (Value × Nat) → Shared → Prop), Q (some (x, nx)) s → wpAny (model prog w) A (setNext a slot i ep) Q E s)
    (q : ∀ h', ItAt h' I a (.int nx 0) (i + 1) es.size ep → Heap.SameBut I s.heap h' → Q (some x) { s with heap := h' }) : wpAny (model prog w) A (pyNext (.ref I)) Q E s := by
  obtain ⟨o, g1, g3, ft⟩ := id hs
  obtain ⟨u, e1, e2, e3⟩ := id hit
  unfold pyNext
  apply wpAny_bind
  apply wpAny_attempt
  refine wpAny_callSpecial?_slot (name := Str.ofString "__next__") hit.type si_next ?_
  refine wpAny_call_entry si_next hit.type si_nextE ?_ (si_nextA _)
  refine wpAny_bind (wpAny_pure ?_)
  refine wpAny_bind (wpAny_fieldsOf e1 e3 ?_)
  dsimp only
  apply wpAny_bind
  unfold setEntries
  apply wpAny_bind
  apply wpAny_setState_of g1 g3 ft
  apply wpAny_pure
  rw [if_neg (by simp)]
  apply wpAny_bind
  refine hx _ _ _ ?_
  dsimp only
  refine wpAny_bind (wpAny_setField e1 e3 (by simp) ?_)
  have it1 : ItAt (s.heap.update I (Obj.mapFields (·.setIfInBounds 0 (rawInt (nx : Int))))) I a (.int nx 0) i es.size ep := hit.set
  obtain ⟨u', e1', e2', e3'⟩ := id it1
  refine wpAny_bind (wpAny_setField e1' e3' (by simp) ?_)
  exact wpAny_pure ⟨_, rfl, wpAny_pure (q _ it1.step ((Heap.SameBut.update _ I _).trans (Heap.SameBut.update _ I _)))⟩
theorem si_end {slot : Nat} {Q : Option Value → Shared → Prop} (calm : A.handled = none) (hit : ItAt s.heap I a (.int slot 0) i es.size ep) (hs : SAt s.heap a es ep t)
    (hx : ∀ (A : Around) (E : Value → Shared → Prop) (Q : Option (Value × Nat) → Shared → Prop), Q none s → wpAny (model prog w) A (setNext a slot i ep) Q E s)
    (q : ∀ h', Heap.ExtBut I s.heap h' → Q none { s with heap := h' }) : wpAny (model prog w) A (pyNext (.ref I)) Q E s := by
  obtain ⟨o, g1, g3, ft⟩ := id hs
  obtain ⟨u, e1, e2, e3⟩ := id hit
  unfold pyNext
  apply wpAny_bind
  apply wpAny_attempt
  refine wpAny_callSpecial?_slot (name := Str.ofString "__next__") hit.type si_next ?_
  refine wpAny_call_entry si_next hit.type si_nextE ?_ (si_nextA _)
  refine wpAny_bind (wpAny_pure ?_)
  refine wpAny_bind (wpAny_fieldsOf e1 e3 ?_)
  dsimp only
  apply wpAny_bind
  unfold setEntries
  apply wpAny_bind
  apply wpAny_setState_of g1 g3 ft
  apply wpAny_pure
  rw [if_neg (by simp)]
  apply wpAny_bind
  refine hx _ _ _ ?_
  dsimp only
  refine wpAny_bind (wpAny_setField e1 e3 (by simp) ?_)
  show wpAny _ _ (newExc (.type "StopIteration") [] >>= _) _ _ _
  apply wpAny_bind
  simp only [newExc, newTuple]
  apply wpAny_bind
  refine wpAny_newObj_type ?_ (by size_fits)
  apply wpAny_bind
  refine wpAny_of_eq (a := Value.none) (by rfl) ?_
  refine wpAny_newObj_type ?_ (by size_fits)
  simp only [raiseNew]
  refine wpAny_bind (wpAny_handled ?_)
  rw [show A.in1.handled = none from calm]
  refine wpAny_throw ?_
  apply wpAny_bind
  refine wpAny_isInstance (T := "StopIteration") (b := true) ?_ isSubtype_stop ?_
  · exact ⟨_, Heap.get?_push_size _ rfl, rfl⟩
  · exact wpAny_pure (q _ (((Heap.SameBut.update _ I _).extBut.push _).push _))
theorem si_itemD {d : Addr} {ps : Array Value} {p : Nat} {x : Int × Value} {Q : Option Value → Shared → Prop} (hit : ItAt s.heap I a (.ref d) i es.size ep) (hs : SAt s.heap a es ep t) (ht : s.heap.IsTuple d ps) (hp : ps[i]? = some (.int p 0)) (hx : es[p]? = some x)
    (q : ∀ h', ItAt h' I a (.ref d) (i + 1) es.size ep → Heap.SameBut I s.heap h' → Q (some x.2) { s with heap := h' }) : wpAny (model prog w) A (pyNext (.ref I)) Q E s := by
  obtain ⟨o, g1, g3, ft⟩ := id hs
  obtain ⟨u, e1, e2, e3⟩ := id hit
  unfold pyNext
  apply wpAny_bind
  apply wpAny_attempt
  refine wpAny_callSpecial?_slot (name := Str.ofString "__next__") hit.type si_next ?_
  refine wpAny_call_entry si_next hit.type si_nextE ?_ (si_nextA _)
  refine wpAny_bind (wpAny_pure ?_)
  refine wpAny_bind (wpAny_fieldsOf e1 e3 ?_)
  dsimp only
  apply wpAny_bind
  unfold setEntries
  apply wpAny_bind
  apply wpAny_setState_of g1 g3 ft
  apply wpAny_pure
  rw [if_neg (by simp)]
  obtain ⟨v, f1, f2, n, f3⟩ := id ht
  apply wpAny_bind
  refine wpAny_seqItems f1 f3 ?_
  dsimp only
  rw [show ((i : Int)).toNat = i from rfl, hp]
  dsimp only
  apply wpAny_bind
  refine s_nextD hs hx ?_
  refine wpAny_bind (wpAny_setField e1 e3 (by simp) ?_)
  exact wpAny_pure ⟨_, rfl, wpAny_pure (q _ hit.step (Heap.SameBut.update _ I _))⟩
theorem si_endD {d : Addr} {ps : Array Value} {Q : Option Value → Shared → Prop} (calm : A.handled = none) (hit : ItAt s.heap I a (.ref d) i es.size ep) (hs : SAt s.heap a es ep t) (ht : s.heap.IsTuple d ps) (hp : ps[i]? = none)
    (q : ∀ h', Heap.ExtBut I s.heap h' → Q none { s with heap := h' }) : wpAny (model prog w) A (pyNext (.ref I)) Q E s := by
  obtain ⟨o, g1, g3, ft⟩ := id hs
  obtain ⟨u, e1, e2, e3⟩ := id hit
  unfold pyNext
  apply wpAny_bind
  apply wpAny_attempt
  refine wpAny_callSpecial?_slot (name := Str.ofString "__next__") hit.type si_next ?_
  refine wpAny_call_entry si_next hit.type si_nextE ?_ (si_nextA _)
  refine wpAny_bind (wpAny_pure ?_)
  refine wpAny_bind (wpAny_fieldsOf e1 e3 ?_)
  dsimp only
  apply wpAny_bind
  unfold setEntries
  apply wpAny_bind
  apply wpAny_setState_of g1 g3 ft
  apply wpAny_pure
  rw [if_neg (by simp)]
  obtain ⟨v, f1, f2, n, f3⟩ := id ht
  apply wpAny_bind
  refine wpAny_seqItems f1 f3 ?_
  dsimp only
  rw [show ((i : Int)).toNat = i from rfl, hp]
  dsimp only
  refine wpAny_bind (wpAny_setField e1 e3 (by simp) ?_)
  have it1 : ItAt (s.heap.update I (Obj.mapFields (·.setIfInBounds 0 (rawInt 0)))) I a (rawInt 0) i es.size ep := hit.set
  obtain ⟨u', e1', e2', e3'⟩ := id it1
  refine wpAny_bind (wpAny_setField e1' e3' (by simp) ?_)
  show wpAny _ _ (newExc (.type "StopIteration") [] >>= _) _ _ _
  apply wpAny_bind
  simp only [newExc, newTuple]
  apply wpAny_bind
  refine wpAny_newObj_type ?_ (by size_fits)
  apply wpAny_bind
  refine wpAny_of_eq (a := Value.none) (by rfl) ?_
  refine wpAny_newObj_type ?_ (by size_fits)
  simp only [raiseNew]
  refine wpAny_bind (wpAny_handled ?_)
  rw [show A.in1.handled = none from calm]
  refine wpAny_throw ?_
  apply wpAny_bind
  refine wpAny_isInstance (T := "StopIteration") (b := true) ?_ isSubtype_stop ?_
  · exact ⟨_, Heap.get?_push_size _ rfl, rfl⟩
  · exact wpAny_pure (q _ ((((Heap.SameBut.update _ I _).trans (Heap.SameBut.update _ I _)).extBut.push _).push _))
theorem si_self {f : Value} {n : Nat} {Q : Value → Shared → Prop} (hit : ItAt s.heap I a f i n ep) (q : Q (.ref I) s) : wpAny (model prog w) A (pyIter (.ref I)) Q E s := by
  refine wpAny_pyIter_slot hit.type si_iter ?_
  refine wpAny_call_entry si_iter hit.type si_iterE ?_ (si_iterA _)
  show wpAny _ _ (ret (.ref I)) _ _ s
  exact wpAny_pure ⟨_, rfl, "set_iterator", _, hit.type, si_next.lookup, q⟩
end
end L2

end

section
-- KcSetK
set_option Elab.async false
set_option linter.all false
set_option maxRecDepth 100000
set_option maxHeartbeats 4000000
/-! a set walked: three ways, each in an order of its own -/
namespace L2
open PySem PySem.Spec PyProof.Rows
theorem er_perm {α : Type} : ∀ (l : List α) (i : Nat) (h : i < l.length), List.Perm (l[i] :: l.eraseIdx i) l
  | x :: l, 0, _ => .refl _
  | x :: l, i + 1, h => (List.Perm.swap x _ _).trans (.cons x (er_perm l i (Nat.lt_of_succ_lt_succ h)))
theorem pick_go {α : Type} (next : Nat → Nat) : ∀ (fuel k : Nat) (left : List α) (out : Array α), left.length = fuel → List.Perm (pickOrder.go next fuel k left out).toList (out.toList ++ left)
  | 0, k, left, out, h => by
    obtain rfl := List.length_eq_zero_iff.mp h
    rw [List.append_nil]
    exact .refl _
  | fuel + 1, k, left, out, h => by
    have hl : next k % left.length < left.length := Nat.mod_lt _ (by omega)
    show List.Perm (match left[next k % left.length]? with | some x => pickOrder.go next fuel (k + 1) (left.eraseIdx (next k % left.length)) (out.push x) | none => out).toList _
    rw [List.getElem?_eq_getElem hl]
    refine (pick_go next fuel (k + 1) _ _ (by rw [List.length_eraseIdx_of_lt hl, h]; rfl)).trans ?_
    rw [Array.toList_push, List.append_assoc]
    exact List.Perm.append_left _ (er_perm _ _ hl)
theorem pick_perm {α : Type} (next : Nat → Nat) (xs : Array α) : List.Perm (pickOrder next xs).toList xs.toList := pick_go next xs.size 0 xs.toList #[] (by simp)
section
variable {prog : Program} {w : World} {A : Around} {E : Value → Shared → Prop} {s : Shared} {I a : Addr} {es : Array (Int × Value)} {ep : Nat} {t : SetTable} {i : Nat}
theorem w_choose {src : Source} {n : Nat} {Q : Nat → Shared → Prop} (hn : n ≠ 0) (q : ∀ i dr, i < n → Q i { s with drawn := dr }) : wpAny (model prog w) A (choose src n) Q E s := fun _ _ _ => ⟨hn, q _ _ (Nat.mod_lt _ (Nat.pos_of_ne_zero hn))⟩
theorem draw_perm {α : Type} : ∀ (n : Nat) (xs : List α) (s : Shared) (Q : List α → Shared → Prop), xs.length = n → (∀ ys dr, List.Perm ys xs → Q ys { s with drawn := dr }) → wpAny (model prog w) A (drawOrder n xs) Q E s
  | 0, xs, s, Q, h, q => by
    obtain rfl := List.length_eq_zero_iff.mp h
    exact wpAny_pure (q [] s.drawn .nil)
  | n + 1, [], s, Q, h, q => nomatch h
  | n + 1, x :: xs, s, Q, h, q => by
    unfold drawOrder
    apply wpAny_bind
    refine w_choose (by simp) fun i dr hi => ?_
    rw [List.getElem?_eq_getElem hi]
    dsimp only
    apply wpAny_bind
    refine draw_perm n _ _ _ (by rw [List.length_eraseIdx_of_lt hi, h]; rfl) fun ys dr' p => ?_
    exact wpAny_pure (q _ _ ((List.Perm.cons _ p).trans (er_perm _ _ hi)))
noncomputable abbrev Ord (ord : List (Int × Value)) (i : Nat) (v : Value) : Prop := ∃ e, ord[i]? = some e ∧ e.2 = v
theorem walks_T (calm : A.handled = none) (b : byTxt w = true) (hne : a ≠ I) :
    Walks prog w A I [I, a] [I] es.size (Ord (pickOrder (w.params.setOrder a ep) es).toList) (fun i h => (∃ slot : Nat, ItAt h I a (.int slot 0) i es.size ep) ∧ SAt h a es ep t) where
  sub := fun b hb => by
    rw [List.mem_singleton.mp hb]
    exact List.mem_cons_self
  frame := fun i h h' st k => ⟨st.1.elim fun n z => ⟨n, z.at (k I List.mem_cons_self)⟩, st.2.at (k a (List.mem_cons_of_mem _ List.mem_cons_self))⟩
  item := fun i s Q E hi st q => by
    obtain ⟨⟨slot, it⟩, hs⟩ := st
    have len := (pick_perm (w.params.setOrder a ep) es).length_eq
    have hl : i < (pickOrder (w.params.setOrder a ep) es).size := by
      rw [← Array.length_toList, len, Array.length_toList]
      exact hi
    refine si_item (x := (pickOrder (w.params.setOrder a ep) es)[i].2) (nx := slot) it hs (fun A E Q h => s_nextT b hs ?_) fun h' it' sb => ?_
    · rw [Array.getElem?_eq_getElem hl]
      exact h
    · refine q _ h' s.toks ⟨_, ?_, rfl⟩ ⟨⟨slot, it'⟩, hs.at fun o e => ?_⟩ fun c o hc e => ?_
      · rw [Array.getElem?_toList, Array.getElem?_eq_getElem hl]
      · exact sb.extBut a o hne e
      · exact sb.extBut c o (fun z => hc (by rw [z]; exact List.mem_cons_self)) e
  done := fun s Q E st q => by
    obtain ⟨⟨slot, it⟩, hs⟩ := st
    have len := (pick_perm (w.params.setOrder a ep) es).length_eq
    have hl : (pickOrder (w.params.setOrder a ep) es).size ≤ es.size := by
      rw [← Array.length_toList, len, Array.length_toList]
      exact Nat.le_refl _
    refine si_end calm it hs (fun A E Q h => s_nextT b hs ?_) fun h' xb => q h' s.toks fun c o hc e => ?_
    · rw [Array.getElem?_eq_none hl]
      exact h
    · exact xb c o (fun z => hc (by rw [z]; exact List.mem_cons_self)) e
  self := fun i s Q E st q => st.1.elim fun n z => si_self z q
noncomputable def slAt (t : SetTable) : Nat → Nat
  | 0 => 0
  | j + 1 => t.place.getD j 0 + 1
theorem slAt_below (rs : Rs t.place.toList) : ∀ i, i ≤ t.place.size → SetTable.below t.place (slAt t i) = i
  | 0, _ => below_zero _ rs
  | j + 1, h => by
    have hj : j < t.place.size := h
    have hj' : j < t.place.toList.length := by simpa using hj
    have e : slAt t (j + 1) = t.place.toList[j] + 1 := by rw [slAt, getD_list _ _ _ hj]
    rw [e]
    exact below_next _ rs hj'
theorem walks_P (calm : A.handled = none) (b : byTxt w = false) (pl : (!t.plain && decide (es.size > 1)) = false) (ld : t.led = true) (rs : Rs t.place.toList) (sz : t.place.size = es.size) (hne : a ≠ I) :
    Walks prog w A I [I, a] [I] es.size (Ord es.toList) (fun i h => ItAt h I a (.int (slAt t i : Nat) 0) i es.size ep ∧ SAt h a es ep t) where
  sub := fun b hb => by
    rw [List.mem_singleton.mp hb]
    exact List.mem_cons_self
  frame := fun i h h' st k => ⟨st.1.at (k I List.mem_cons_self), st.2.at (k a (List.mem_cons_of_mem _ List.mem_cons_self))⟩
  item := fun i s Q E hi st q => by
    obtain ⟨it, hs⟩ := st
    have hp : i < t.place.size := by rw [sz]; exact hi
    refine si_item (x := es[i].2) (nx := slAt t (i + 1)) it hs (fun A E Q h => s_nextP b pl ld hs ?_) fun h' it' sb => ?_
    · rw [slAt_below rs i (Nat.le_of_lt hp), Array.getElem?_eq_getElem hi, Array.getElem?_eq_getElem hp]
      have e : slAt t (i + 1) = t.place[i] + 1 := by
        rw [slAt, Array.getD, dif_pos hp]
        rfl
      rw [e] at h
      exact h
    · refine q _ h' s.toks ⟨_, ?_, rfl⟩ ⟨it', hs.at fun o e => ?_⟩ fun c o hc e => ?_
      · rw [Array.getElem?_toList, Array.getElem?_eq_getElem hi]
      · exact sb.extBut a o hne e
      · exact sb.extBut c o (fun z => hc (by rw [z]; exact List.mem_cons_self)) e
  done := fun s Q E st q => by
    obtain ⟨it, hs⟩ := st
    refine si_end calm it hs (fun A E Q h => s_nextP b pl ld hs ?_) fun h' xb => q h' s.toks fun c o hc e => ?_
    · rw [slAt_below rs es.size (by rw [sz]; exact Nat.le_refl _), Array.getElem?_eq_none (Nat.le_refl _)]
      exact h
    · exact xb c o (fun z => hc (by rw [z]; exact List.mem_cons_self)) e
  self := fun i s Q E st q => si_self st.1 q
theorem range_getD (es : Array (Int × Value)) : ((List.range es.size).map fun p => es.getD p (0, .none)) = es.toList := by
  apply List.ext_getElem
  · simp
  · intro i h1 h2
    have hi : i < es.size := by simpa using h2
    rw [List.getElem_map, List.getElem_range, Array.getD, dif_pos hi]
    simp
theorem walks_D (calm : A.handled = none) {d : Addr} {ps : List Nat} (pm : List.Perm ps (List.range es.size)) (hne : a ≠ I) (hd : d ≠ I) :
    Walks prog w A I [I, a, d] [I] es.size (Ord (ps.map fun p => es.getD p (0, .none))) (fun i h => ItAt h I a (.ref d) i es.size ep ∧ SAt h a es ep t ∧ h.IsTuple d (ps.map fun p => Value.int (p : Nat) 0).toArray) where
  sub := fun b hb => by
    rw [List.mem_singleton.mp hb]
    exact List.mem_cons_self
  frame := fun i h h' st k => ⟨st.1.at (k I List.mem_cons_self), st.2.1.at (k a (List.mem_cons_of_mem _ List.mem_cons_self)), st.2.2.at (k d (List.mem_cons_of_mem _ (List.mem_cons_of_mem _ List.mem_cons_self)))⟩
  item := fun i s Q E hi st q => by
    obtain ⟨it, hs, ht⟩ := st
    have len := pm.length_eq
    rw [List.length_range] at len
    have hl : i < ps.length := by rw [len]; exact hi
    have lt : ps[i] < es.size := List.mem_range.mp (pm.mem_iff.mp (List.getElem_mem hl))
    refine si_itemD (p := ps[i]) (x := es[ps[i]]) it hs ht ?_ (Array.getElem?_eq_getElem lt) fun h' it' sb => ?_
    · rw [List.getElem?_toArray, List.getElem?_map, List.getElem?_eq_getElem hl]
      rfl
    · refine q _ h' s.toks ⟨_, ?_, rfl⟩ ⟨it', hs.at fun o e => ?_, ht.at fun o e => ?_⟩ fun c o hc e => ?_
      · rw [List.getElem?_map, List.getElem?_eq_getElem hl]
        show some (es.getD ps[i] (0, .none)) = _
        rw [Array.getD, dif_pos lt]
        rfl
      · exact sb.extBut a o hne e
      · exact sb.extBut d o hd e
      · exact sb.extBut c o (fun z => hc (by rw [z]; exact List.mem_cons_self)) e
  done := fun s Q E st q => by
    obtain ⟨it, hs, ht⟩ := st
    have len := pm.length_eq
    refine si_endD calm it hs ht ?_ fun h' xb => q h' s.toks fun c o hc e => ?_
    · apply Array.getElem?_eq_none
      simp [len]
    · exact xb c o (fun z => hc (by rw [z]; exact List.mem_cons_self)) e
  self := fun i s Q E st q => si_self st.1 q
end
end L2

end

section
-- KcSetL
set_option Elab.async false
set_option linter.all false
set_option maxRecDepth 100000
set_option maxHeartbeats 4000000
/-! a set's iterator made -/
namespace L2
open PySem PySem.Spec PyProof.Rows
theorem PairL.get {α β : Type} {F : α → β → Prop} {l : List α} {m : List β} (h : PairL F l m) : ∀ {i : Nat} {b : β}, m[i]? = some b → ∃ a, l[i]? = some a ∧ F a b := by
  induction h with
  | nil => intro i b e; cases e
  | cons r _ ih =>
    intro i b e
    cases i with
    | zero =>
      obtain rfl : _ = b := Option.some.inj e
      exact ⟨_, rfl, r⟩
    | succ i => exact ih e
section
variable {prog : Program} {w : World} {K : Type} [DecidableEq K] {knd : KeyKind prog w K} {A : Around} {E : Value → Shared → Prop} {s : Shared} {I a : Addr} {es : Array (Int × Value)} {ep : Nat} {t : SetTable} {i : Nat}
theorem walks_up {fp wr : List Addr} {n : Nat} {P P' : Nat → Value → Prop} {St : Nat → Heap → Prop} (W : Walks prog w A I fp wr n P St) (f : ∀ i v, P i v → P' i v) : Walks prog w A I fp wr n P' St where
  sub := W.sub
  frame := W.frame
  item := fun i s Q E hi st q => W.item i s Q E hi st fun v h' tk pv => q v h' tk (f i v pv)
  done := W.done
  self := W.self
noncomputable abbrev Told (knd : KeyKind prog w K) (ord : List K) (i : Nat) (v : Value) : Prop := ∃ k, ord[i]? = some k ∧ knd.is k v = true
theorem told_of {ks : List K} {l m : List (Int × Value)} (pr : PairL (Ent knd) ks m) (p : List.Perm l m) : ∃ ord, List.Perm ord ks ∧ ∀ i v, Ord l i v → Told knd ord i v := by
  obtain ⟨ord, q, pr'⟩ := PairL.perm p.symm pr
  refine ⟨ord, q.symm, fun i v h => ?_⟩
  obtain ⟨e, he, rfl⟩ := h
  obtain ⟨k, hk, r⟩ := pr'.get he
  exact ⟨k, hk, r.1⟩
noncomputable abbrev itO (f : Value) (a : Addr) (n ep : Nat) : Obj := { cls := .type "set_iterator", data := .fields #[f, .int (0 : Nat) 0, .ref a, .int n 0, .int ep 0] }
theorem it_tail {f : Value} {F : Fin → Shared → Prop} (hs : SAt s.heap a es ep t) (q : F (.done (.ret (.ref s.heap.objs.size))) { s with heap := s.heap.push (itO f a es.size ep) }) :
    wpAny (model prog w) A (do ret (← newFields "set_iterator" [f, rawInt 0, .ref a, rawInt es.size, rawInt (← setEpoch a)])) F E s := by
  obtain ⟨o, g1, g3, ft⟩ := hs
  apply wpAny_bind
  refine wpAny_setEpoch_of g1 g3 ft ?_
  apply wpAny_bind
  unfold newFields
  refine wpAny_newObj_type ?_
  exact wpAny_pure q
theorem set_iter {ks : List K} {Q : Value → Shared → Prop} (calm : A.handled = none) (r : SetR knd s.heap a ks (!byTxt w))
    (q : ∀ (I : Addr) (h' : Heap) (dr) (fp : List Addr) (St : Nat → Heap → Prop) (ord : List K), List.Perm ord ks → Walks prog w A I fp [I] ks.length (Told knd ord) St → St 0 h' → (∀ b ∈ fp, b < h'.objs.size) → (∀ b ∈ fp, b = a ∨ s.heap.objs.size ≤ b) → s.heap.objs.size ≤ I → I ∈ fp → (∀ b o, s.heap.get? b = some o → h'.get? b = some o) → Q (.ref I) { s with heap := h', drawn := dr }) :
    wpAny (model prog w) A (pyIter (.ref a)) Q E s := by
  obtain ⟨o, es, ep, t, g1, g2, g3, pr, nd, sb, ft, rs, ld⟩ := id r
  have hs : SAt s.heap a es ep t := ⟨o, g1, g3, ft⟩
  have ty : s.TypeIs (.ref a) "set" := ⟨o, g1, g2.1⟩
  have len : es.size = ks.length := by rw [pr.len, Array.length_toList]
  have lt : a < s.heap.objs.size := Heap.lt_size g1
  rw [← len] at q
  have sz : t.place.size = es.size := by
    simp only [SetTable.fits, Bool.and_eq_true, beq_iff_eq] at ft
    exact ft.1
  refine wpAny_pyIter_slot ty PySem.F.slot_set_iter ?_
  refine wpAny_call_entry PySem.F.slot_set_iter ty s_iterE ?_ (PySem.F.args_set_iter_1 _)
  unfold Builtin.«frozenset.__iter__»
  refine wpAny_bind (wpAny_pure ?_)
  apply wpAny_bind
  unfold Builtin.Frozenset.sizeOf
  apply wpAny_bind
  unfold setEntries
  apply wpAny_bind
  apply wpAny_setState_of g1 g3 ft
  apply wpAny_pure
  apply wpAny_pure
  apply wpAny_bind
  unfold setDrawn
  apply wpAny_bind
  apply wpAny_setState_of g1 g3 ft
  dsimp only
  apply wpAny_bind
  apply s_byTxt
  apply wpAny_pure
  show wpAny _ _ (if (!byTxt w && (!t.plain && decide (es.size > 1))) = true then _ else _) _ _ _
  by_cases c : (!byTxt w && (!t.plain && decide (es.size > 1))) = true
  · rw [if_pos c]
    apply wpAny_bind
    refine draw_perm _ _ _ _ List.length_range fun ps dr pm => ?_
    apply wpAny_bind
    refine wpAny_newTuple ?_ (by rw [List.length_map, pm.length_eq, List.length_range]; exact Nat.le_trans (Nat.le_of_lt sb) (by decide))
    have pz := Heap.size_push s.heap { cls := .type "tuple", data := .seq (ps.map fun (i : Nat) => rawInt i).toArray }
    have hs1 := hs.at (h' := s.heap.push { cls := .type "tuple", data := .seq (ps.map fun (i : Nat) => rawInt i).toArray }) fun o e => Heap.get?_push_of_some _ e
    have tu : (s.heap.push { cls := .type "tuple", data := .seq (ps.map fun (i : Nat) => rawInt i).toArray }).IsTuple s.heap.objs.size (ps.map fun p => Value.int (p : Nat) 0).toArray := ⟨_, Heap.get?_push_size _ rfl, rfl, 0, rfl⟩
    have kp0 : ∀ b o, s.heap.get? b = some o → (s.heap.push { cls := .type "tuple", data := .seq (ps.map fun (i : Nat) => rawInt i).toArray }).get? b = some o := fun b o e => Heap.get?_push_of_some _ e
    generalize s.heap.push { cls := .type "tuple", data := .seq (ps.map fun (i : Nat) => rawInt i).toArray } = hp at *
    have lt1 : a < hp.objs.size := by rw [pz]; exact Nat.lt_succ_of_lt lt
    have kp : ∀ b o, s.heap.get? b = some o → hp.get? b = some o := kp0
    refine it_tail (s := { s with drawn := dr, heap := hp }) hs1 ⟨_, rfl, "set_iterator", _, ⟨_, Heap.get?_push_size _ rfl, rfl⟩, si_next.lookup, ?_⟩
    obtain ⟨ord, p1, p2⟩ := told_of pr (l := ps.map fun p => es.getD p (0, .none)) (by rw [← range_getD es]; exact pm.map _)
    refine q hp.objs.size _ dr [hp.objs.size, a, s.heap.objs.size] _ ord p1 (walks_up (walks_D (A := A) (es := es) (ep := ep) (t := t) calm pm (Nat.ne_of_lt lt1) (d := s.heap.objs.size) (Nat.ne_of_lt (by rw [pz]; exact Nat.lt_succ_self _))) p2) ⟨⟨_, Heap.get?_push_size _ rfl, rfl, rfl⟩, hs1.at fun o e => Heap.get?_push_of_some _ e, tu.push _⟩ (fun b hb => ?_) (fun b hb => ?_) (by rw [pz]; exact Nat.le_succ _) List.mem_cons_self fun b o e => Heap.get?_push_of_some _ (kp b o e)
    · rw [Heap.size_push]
      rcases List.mem_cons.mp hb with e | hb
      · rw [e]
        exact Nat.lt_succ_self _
      · rcases List.mem_cons.mp hb with e | hb
        · rw [e]
          exact Nat.lt_succ_of_lt lt1
        · rw [List.mem_singleton.mp hb, pz]
          exact Nat.lt_succ_of_lt (Nat.lt_succ_self _)
    · rcases List.mem_cons.mp hb with e | hb
      · exact .inr (by rw [e, pz]; exact Nat.le_succ _)
      · rcases List.mem_cons.mp hb with e | hb
        · exact .inl e
        · exact .inr (by rw [List.mem_singleton.mp hb]; exact Nat.le_refl _)
  · rw [if_neg c]
    apply wpAny_bind
    apply wpAny_pure
    refine it_tail hs ⟨_, rfl, "set_iterator", _, ⟨_, Heap.get?_push_size _ rfl, rfl⟩, si_next.lookup, ?_⟩
    have it0 : ItAt (s.heap.push (itO (rawInt 0) a es.size ep)) s.heap.objs.size a (.int (0 : Nat) 0) 0 es.size ep := ⟨_, Heap.get?_push_size _ rfl, rfl, rfl⟩
    have hs0 : SAt (s.heap.push (itO (rawInt 0) a es.size ep)) a es ep t := hs.at fun o e => Heap.get?_push_of_some _ e
    have inb : ∀ b ∈ [s.heap.objs.size, a], b < (s.heap.push (itO (rawInt 0) a es.size ep)).objs.size := fun b hb => by
      rw [Heap.size_push]
      rcases List.mem_cons.mp hb with e | hb
      · rw [e]
        exact Nat.lt_succ_self _
      · rw [List.mem_singleton.mp hb]
        exact Nat.lt_succ_of_lt lt
    have out : ∀ b ∈ [s.heap.objs.size, a], b = a ∨ s.heap.objs.size ≤ b := fun b hb => by
      rcases List.mem_cons.mp hb with e | hb
      · exact .inr (by rw [e]; exact Nat.le_refl _)
      · exact .inl (List.mem_singleton.mp hb)
    cases b : byTxt w with
    | true =>
      obtain ⟨ord, p1, p2⟩ := told_of pr (pick_perm (w.params.setOrder a ep) es)
      refine q s.heap.objs.size _ s.drawn _ _ ord p1 (walks_up (walks_T (A := A) (es := es) (ep := ep) (t := t) calm b (Nat.ne_of_lt lt)) p2) ⟨⟨0, it0⟩, hs0⟩ inb out (Nat.le_refl _) List.mem_cons_self fun b o e => Heap.get?_push_of_some _ e
    | false =>
      have pl : (!t.plain && decide (es.size > 1)) = false := by
        rw [b] at c
        simpa using c
      have l1 : t.led = true := by rw [ld, b]; rfl
      obtain ⟨ord, p1, p2⟩ := told_of pr (List.Perm.refl es.toList)
      refine q s.heap.objs.size _ s.drawn _ _ ord p1 (walks_up (walks_P (A := A) (es := es) (ep := ep) (t := t) calm b pl l1 rs sz (Nat.ne_of_lt lt)) p2) ⟨it0, hs0⟩ inb out (Nat.le_refl _) List.mem_cons_self fun b o e => Heap.get?_push_of_some _ e
end
end L2

end

section
-- KcSetM
set_option Elab.async false
set_option linter.all false
set_option maxRecDepth 100000
set_option maxHeartbeats 4000000
/-! a set put into a list -/
namespace L2
open PySem PySem.Spec PyProof.Rows PySem.W
section
variable {prog : Program} {w : World} {K : Type} [DecidableEq K] {knd : KeyKind prog w K} {A : Around} {E : Value → Shared → Prop} {s : Shared} {a : Addr}
theorem set_hint {Q : Bool → Shared → Prop} (ty : s.TypeIs (.ref a) "set") (q : Q false s) : wpAny (model prog w) A (Builtin.List.listLengthHint (.ref a)) Q E s := by
  unfold Builtin.List.listLengthHint
  apply wpAny_bind
  refine wpAny_specialOf ty PySem.F.slot_set_len.lookup ?_
  generalize hid : ("set.__len__" : String) = nm
  wp_delta
  rw [show splitId nm = some ("set", "__len__") from by subst hid; decide +kernel]
  subst hid
  apply wpAny_bind
  refine wpAny_isInstance (T := "set") (b := true) ty (by rw [isSubtype_type]; kernel_rfl) ?_
  refine wpAny_ite_split (fun z => absurd z (by decide)) fun _ => ?_
  refine wpAny_ite_split (fun _ => ?_) fun z => absurd (by decide +kernel) z
  apply wpAny_bind
  refine wpAny_typeOf ty ?_
  exact wpAny_pure q
theorem SetR.type {ks : List K} {led : Bool} (r : SetR knd s.heap a ks led) : s.TypeIs (.ref a) "set" := by
  obtain ⟨o, es, ep, t, g1, g2, _⟩ := r
  exact ⟨o, g1, g2.1⟩
theorem SetR.small {h : Heap} {ks : List K} {led : Bool} (r : SetR knd h a ks led) : ks.length < scanBound := by
  obtain ⟨o, es, ep, t, g1, g2, g3, pr, nd, sb, _⟩ := r
  rw [pr.len, Array.length_toList]
  exact sb
theorem set_extend {ks : List K} {R : Result → Shared → Prop} (calm : A.handled = none) (r : SetR knd s.heap a ks (!byTxt w)) (S : Addr) (ne : S ≠ a) (hS : s.heap.get? S = some { cls := .type "list", data := .seq #[] })
    (q : ∀ (s' : Shared) h' dr tk ord acc c, s' = { s with heap := h', drawn := dr, toks := tk } → List.Perm ord ks → (∀ b o, b ≠ S → s.heap.get? b = some o → h'.get? b = some o) → h'.get? S = some { cls := .type "list", dict := none, data := .seq acc c, slots := #[] } → ItemsOf (Told knd ord) acc ks.length → R (.ok (.ret (.ref S))) s') :
    wpAny (model prog w) A.in1 (Builtin.List.listExtendWith (.ref S) (.ref a) (.ref S)) (fun fin s' => match fin with | .done f => R (.ok f) s' | .again c' => c'.quiet = true ∧ codeAny (model prog w) A c' R s') (fun e s' => R (.error e) s') s := by
  have hn : ks.length ≤ sizeLine := Nat.le_trans (Nat.le_of_lt r.small) (by decide)
  unfold Builtin.List.listExtendWith
  apply wpAny_bind
  refine wpAny_typeOf (T := "set") r.type ?_
  have h1 : Builtin.List.listSameRef (.ref S) (.ref a) = false := by simp [Builtin.List.listSameRef, ne]
  have h2 : (Value.type "set" == Value.type "list") = false := by decide
  have h3 : (Value.type "set" == Value.type "tuple") = false := by decide
  simp only [h1, h2, h3, Bool.or_false, Bool.false_eq_true, if_false]
  apply wpAny_bind
  refine set_iter (A := A.in1) calm r fun I h' dr fp St ord pm W st inb out ge Ifp kp => ?_
  have hS1 := kp _ _ hS
  have lS : S < s.heap.objs.size := Heap.lt_size hS
  have r1 : SetR knd h' a ks (!byTxt w) := r.at fun o e => kp a o e
  have nS : S ∉ fp := fun hm => by
    rcases out S hm with z | z
    · exact ne z
    · exact absurd lS (Nat.not_lt.mpr z)
  have loop : ∀ (h2 : Heap) (c : Nat), (∀ b o, b ≠ S → h'.get? b = some o → h2.get? b = some o) → h2.get? S = some { cls := .type "list", dict := none, data := .seq #[] c, slots := #[] } → codeAny (model prog w) A (.builtin "list.extend.loop" ⟨[.ref S, .ref I, .ref S], []⟩) R { s with heap := h2, drawn := dr } := fun h2 c k2 e2 => by
    refine codeAny_extend_loopS W.toS hn S nS (.ref S) ks.length 0 _ #[] c rfl (Nat.zero_le _) (W.frame 0 _ _ st fun b hb o e => k2 b o (fun z => nS (z ▸ hb)) e) e2 (ItemsOf.nil _) fun s' acc c' mv e3 it => ?_
    rw [Moved.eq_with mv]
    refine q _ s'.heap dr s'.toks ord acc c' rfl pm (fun b o hb e => mv.heap b o (fun hm => ?_) (k2 b o hb (kp b o e))) e3 it
    rcases List.mem_cons.mp hm with z | hm
    · exact hb z
    · rw [List.mem_singleton.mp hm] at e
      exact absurd (Heap.lt_size e) (Nat.not_lt.mpr ge)
  apply wpAny_bind
  apply wpAny_holding
  refine set_hint (s := { s with heap := h', drawn := dr }) r1.type ?_
  refine wpAny_ite_split (fun _ => ?_) fun _ => ?_
  · apply wpAny_bind
    apply wpAny_rule
    apply wpAny_bind
    show wpAny _ _ (updateSeq S (·.push .none) >>= fun _ => updateSeq S (·.pop)) _ _ _
    apply wpAny_bind
    refine wpAny_updateSeq hS1 rfl ?_
    have hS2 := Heap.get?_update_self (Obj.mapSeq (·.push Value.none)) hS1 rfl
    refine wpAny_updateSeq (hz := by seq_fits) hS2 rfl ?_
    have hS3 := Heap.get?_update_self (Obj.mapSeq (·.pop)) hS2 rfl
    refine wpAny_pure ⟨plainId_quiet PySem.F.plain_extend_loop _, loop _ _ (fun b o hb e => ?_) hS3⟩
    rw [Heap.get?_update_other _ _ (Ne.symm hb), Heap.get?_update_other _ _ (Ne.symm hb)]
    exact e
  · exact wpAny_pure ⟨plainId_quiet PySem.F.plain_extend_loop _, loop _ _ (fun b o hb e => e) hS1⟩
theorem set_collect {ks : List K} {R : List Value → Shared → Prop} (calm : A.handled = none) (r : SetR knd s.heap a ks (!byTxt w))
    (q : ∀ h' dr tk ord (acc : Array Value), List.Perm ord ks → (∀ b o, s.heap.get? b = some o → h'.get? b = some o) → s.heap.objs.size < h'.objs.size → ItemsOf (Told knd ord) acc ks.length → R acc.toList { s with heap := h', drawn := dr, toks := tk }) :
    wpAny (model prog w) A (collect (.ref a)) R E s := by
  have lt : a < s.heap.objs.size := by
    obtain ⟨o, es, ep, t, g1, _⟩ := r
    exact Heap.lt_size g1
  unfold collect
  apply wpAny_bind
  apply wpAny_runValue
  apply codeAny_builtin entry_proto_collect'
  rw [Around.under_plainId PySem.F.plain_proto_collect _]
  show wpAny _ A.in1 (newList [] >>= fun l => again (.builtin "list.__iadd__" ⟨[l, .ref a], []⟩)) _ _ s
  apply wpAny_bind
  refine wpAny_newObj_type ?_
  refine wpAny_pure ⟨plainId_quiet PySem.F.plain_list_iadd _, ?_⟩
  apply codeAny_builtin entry_list_iadd'
  rw [Around.under_plainId PySem.F.plain_list_iadd _]
  show wpAny _ A.in1 (Builtin.List.listExtendWith (.ref s.heap.objs.size) (.ref a) (.ref s.heap.objs.size)) _ _ _
  have key := set_extend (A := A) (s := { s with heap := s.heap.push { cls := .type "list", data := .seq ([] : List Value).toArray } })
    (R := fun (u : Result) (s' : Shared) => ∃ h' dr tk ord acc c, u = .ok (.ret (.ref s.heap.objs.size)) ∧ s' = { s with heap := h', drawn := dr, toks := tk } ∧ List.Perm ord ks ∧ (∀ b o, s.heap.get? b = some o → h'.get? b = some o) ∧
      h'.get? s.heap.objs.size = some { cls := .type "list", dict := none, data := .seq acc c, slots := #[] } ∧ ItemsOf (Told knd ord) acc ks.length)
    calm (r.at fun o e => Heap.get?_push_of_some _ e) s.heap.objs.size (Nat.ne_of_gt lt) (Heap.get?_push_size _ rfl)
    fun s' h' dr tk ord acc c e pm kp e3 it => ⟨h', dr, tk, ord, acc, c, rfl, e, pm, fun b o eb => kp b o (Nat.ne_of_lt (Heap.lt_size eb)) (Heap.get?_push_of_some _ eb), e3, it⟩
  refine wpAny_mono key (fun fin s' x => ?_) fun e s' x => ?_
  · cases fin with
    | done f =>
      obtain ⟨h', dr, tk, ord, acc, c, e, rfl, pm, kp, e3, it⟩ := x
      cases e
      show wpAny _ A (load s.heap.objs.size >>= _) _ _ _
      apply wpAny_bind
      refine wpAny_load e3 ?_
      exact wpAny_pure (q h' dr tk ord acc pm kp (Heap.lt_size e3) it)
    | again c1 =>
      refine ⟨x.1, codeAny_mono x.2 fun u s2 y => ?_⟩
      obtain ⟨h', dr, tk, ord, acc, c, rfl, rfl, pm, kp, e3, it⟩ := y
      show wpAny _ A (load s.heap.objs.size >>= _) _ _ _
      apply wpAny_bind
      refine wpAny_load e3 ?_
      exact wpAny_pure (q h' dr tk ord acc pm kp (Heap.lt_size e3) it)
  · obtain ⟨h', dr, tk, ord, acc, c, e', _⟩ := x
    cases e'
end
end L2

end

section
-- KcIsN
set_option Elab.async false
set_option linter.all false
set_option maxRecDepth 100000
set_option maxHeartbeats 4000000
namespace L2
open PySem PySem.Spec PyProof.Rows
section
variable {X : Cx}
theorem op_isNone : OpR X (compareOp .Is) rIsNone := by
  intro pins s σ H x y v u Q I rx ry h
  obtain ⟨rfl, q⟩ := h
  cases ry
  refine wpAny_is_plain (by cases x <;> (first | (obtain ⟨t, rfl⟩ := rx; rfl) | (cases rx; rfl))) ⟨.bl (isN x), H, I, ?_, q⟩
  cases x <;> (first | (obtain ⟨t, rfl⟩ := rx; rfl) | (cases rx; rfl))
theorem op_isnNone : OpR X (compareOp .IsNot) rIsnNone := by
  intro pins s σ H x y v u Q I rx ry h
  obtain ⟨rfl, q⟩ := h
  cases ry
  refine wpAny_isNot_plain (by cases x <;> (first | (obtain ⟨t, rfl⟩ := rx; rfl) | (cases rx; rfl))) ⟨.bl (!isN x), H, I, ?_, q⟩
  cases x <;> (first | (obtain ⟨t, rfl⟩ := rx; rfl) | (cases rx; rfl))
end
end L2

end

section
-- KcRuleA
set_option Elab.async false
set_option linter.all false
set_option maxRecDepth 100000
set_option maxHeartbeats 4000000
namespace L2
open PySem PySem.Spec PyProof.Rows
/-! ### (x,) * n -/
/-! ### min(xs, default=None) -/
section
variable {prog : Program} {w : World} {A : Around} {R : Result → Shared → Prop} {I : Addr} {fp wr : List Addr} {n : Nat} {P : Nat → Value → Prop} {St : Nat → Heap → Prop} {kw : List (Str × Value)}
end
end L2

end

section
-- KcRuleB
set_option Elab.async false
set_option linter.all false
set_option maxRecDepth 100000
set_option maxHeartbeats 4000000
namespace L2
open PySem PySem.Spec PyProof.Rows
section
variable {prog : Program} {w : World} {A : Around} {E : Value → Shared → Prop} {s : Shared}
end
end L2

end

section
-- KcSetN
set_option Elab.async false
set_option linter.all false
set_option maxRecDepth 100000
set_option maxHeartbeats 4000000
namespace L2
open PySem PySem.Spec PyProof.Rows
section
variable {X : Cx}
end
end L2

end

section
-- KcSrt
set_option Elab.async false
set_option linter.all false
set_option maxRecDepth 100000
set_option maxHeartbeats 4000000
namespace L2
open PySem PySem.Calls PyProof.Rows
section
variable {X : Cx}
end
end L2

end

section
-- KcSetS
set_option Elab.async false
set_option linter.all false
set_option maxRecDepth 100000
set_option maxHeartbeats 4000000
/-! sorted(set(xs)) of whole numbers -/
namespace L2
open PySem PySem.Spec PyProof.Rows PySem.Calls
section
variable {prog : Program} {w : World} {A : Around} {E : Value → Shared → Prop} {s : Shared} {a : Addr}
theorem ints_told : ∀ {ord : List Int} {l : List Value}, l.length = ord.length → (∀ i v, l[i]? = some v → Told (intKind prog w) ord i v) → IntsAre l ord
  | [], [], _, _ => .nil
  | [], _ :: _, h, _ => nomatch h
  | _ :: _, [], h, _ => nomatch h
  | k :: ord, v :: l, h, t => by
    obtain ⟨k', hk, hv⟩ := t 0 v rfl
    obtain rfl : k = k' := Option.some.inj hk
    obtain ⟨tk, rfl⟩ := Value.isInt_shape hv
    exact .cons k tk (ints_told (Nat.succ.inj h) fun i u hu => t (i + 1) u hu)
theorem sorted_set {ks : List Int} {Q : Value → Shared → Prop} (calm : A.handled = none) (r : SetR (intKind prog w) s.heap a ks (!byTxt w)) (h64 : ks.length < 64)
    (q : ∀ (p : Addr) (h' : Heap) (dr) (tk : Nat) (out : Array Value) (e : Nat) (ms : List Int), (∀ b o, s.heap.get? b = some o → h'.get? b = some o) → s.heap.objs.size ≤ p → h'.get? p = some (seqObj "list" out e) → IntsAre out.toList ms → ms.Perm ks → ms.Pairwise (· ≤ ·) → Q (.ref p) { s with heap := h', drawn := dr, toks := tk }) :
    wpAny (model prog w) A (call (.builtin "sorted") [.ref a]) Q E s := by
  refine call_function_entry kind_sorted plain_sorted entry_sorted (args_sorted1 _) ?_
  unfold Builtin.«sorted»
  refine wpAny_bind (m := checkCount "sorted" 1 1 _) (wpAny_pure ?_)
  apply wpAny_bind
  refine set_collect (A := A.in1) calm r fun h' dr tk ord acc pm kp gt it => ?_
  have len : acc.toList.length = ks.length := by rw [Array.length_toList]; exact it.1
  have ia : IntsAre acc.toList ord := ints_told (by rw [len, pm.length_eq]) fun i v e => it.2 i v (by rw [← Array.getElem?_toList]; exact e)
  apply wpAny_bind
  refine wpAny_newList ?_ (by rw [len]; exact Nat.le_trans (Nat.le_of_lt h64) (by decide))
  have hoL : (h'.push (seqObj "list" acc.toList.toArray 0)).get? h'.objs.size = some (seqObj "list" acc.toList.toArray 0) := Heap.get?_push_size _ rfl
  have ge : s.heap.objs.size ≤ h'.objs.size := Nat.le_of_lt gt
  apply wpAny_bind
  apply wpAny_holding
  refine wpAny_call_entry slot_list_sort ⟨_, hoL, rfl⟩ entry_list_sort ?_ (args_list_sort _)
  refine list_sort_tree hoL ia (by rw [len]; exact h64) fun out ms a1 a2 a3 => ⟨_, rfl, ?_⟩
  obtain ⟨e, he⟩ := sortedHeap_at (n := 0) (vs := acc.toList) (out := out) hoL
  refine wpAny_pure ⟨_, rfl, q _ _ dr tk out e ms (fun b o eb => ?_) ge he a1 (a2.trans pm) a3⟩
  have hb := Heap.lt_size eb
  rw [sortedHeap_old (Nat.ne_of_lt (Nat.lt_of_lt_of_le hb ge)) (by rw [size_push']; exact Nat.lt_succ_of_lt (Nat.lt_of_lt_of_le hb ge))]
  exact Heap.get?_push_of_some _ (kp b o eb)
end
section
variable {X : Cx}
theorem Inv.drew {pins : List (Addr × Obj)} {σ : St} {H : Hp} {s : Shared} (I : Inv X pins σ H s) (dr) : Inv X pins σ H { s with drawn := dr } := by
  cases I
  constructor <;> assumption
end
end L2

end

section
-- KcSs
set_option Elab.async false
set_option linter.all false
set_option maxRecDepth 100000
set_option maxHeartbeats 4000000
/-! sorted(set(xs)): its rule -/
namespace L2
open PySem PySem.Spec PyProof.Rows PySem.Calls
theorem ints_at : ∀ {l : List Value} {ns : List Int} {i : Nat} {v : Value}, IntsAre l ns → l[i]? = some v → ∃ t, v = .int (ns.getD i 0) t
  | _, _, _, _, .nil, e => nomatch e
  | _, _, 0, _, .cons n t _, e => ⟨t, (Option.some.inj e).symm⟩
  | _, _, i + 1, _, .cons n t h, e => by
    obtain ⟨t', e'⟩ := ints_at (i := i) h e
    exact ⟨t', e'⟩
section
variable {X : Cx}
theorem pe_sortSet {e : Expr} {p p2 pos pos2 : Pos} {t : TA} (hc : X.calm = true) (hm : X.mg "sorted" = none) (hm2 : X.mg "set" = none) (ha : PA X [e] t) (hg : Gl X "sorted" := by rfl) (hg2 : Gl X "set" := by rfl)
    (he : starEach [e] X.env = (false, eval e X.env) :: starEach [] X.env := by rfl) (hpl : (backTo pos2 (starEach [] X.env)).any (·.1) = false := by rfl)
    (he1 : starEach [.Call (.Name "set" p2) [e] [] pos2] X.env = (false, eval (.Call (.Name "set" p2) [e] [] pos2) X.env) :: starEach [] X.env := by rfl) (hpl1 : (backTo pos (starEach [] X.env)).any (·.1) = false := by rfl) :
    PE X (.Call (.Name "sorted" p) [.Call (.Name "set" p2) [e] [] pos2] [] pos) (mSortSet X.K t) := by
  intro pins s σ H Q I h
  refine wpAny_Call_Name_kw (ld_blt I hg hm boot_sorted ?_ (by decide) (by decide))
  refine PyProof.Rows.callWith_builtin1 ?_ he1 hpl1
  rw [he1]
  show wpAny _ _ (spliced ((false, eval (.Call (.Name "set" p2) [e] [] pos2) X.env) :: backTo pos (starEach [] X.env))) _ _ s
  refine Calls.spliced_cons ?_
  refine wpAny_Call_Name_kw (ld_blt I hg2 hm2 boot_set ?_ (by decide) (by decide))
  refine PyProof.Rows.callWith_type1 (thn (ha pos2 pins s σ H _ I h) fun us s1 ⟨vs, H1, I1, r1, q1⟩ => ?_) he hpl
  obtain ⟨l, ns, rfl, hq, hl, q⟩ := q1
  obtain ⟨u, rfl, rx⟩ := r1.one
  cases rx
  obtain ⟨its, rv, pl, hz⟩ := I1.list hq
  have hi := intsAre_of rv
  have hlen : its.length = ns.length := by have := rv.length; rw [List.length_map] at this; omega
  have calm : X.A.handled = none := I.ok.hd hc
  refine sr_list (knd := intKind X.prog X.w) (fun i => ns.getD i 0) calm pl.isList (fun i v hv => ?_) (by rw [List.size_toArray, hlen]; exact Nat.lt_of_le_of_lt (Nat.succ_le_of_lt hl) (by decide)) fun h' tk ks r mem kp => ?_
  · rw [List.getElem?_toArray] at hv
    obtain ⟨tk, rfl⟩ := ints_at hi hv
    exact ⟨by first | simp [intKind, Value.isInt] | (unfold intKind; simp [Value.isInt]), rfl⟩
  have memI : ∀ y, y ∈ ks ↔ y ∈ ns := fun y => by
    rw [mem, List.size_toArray, hlen]
    constructor
    · rintro ⟨j, hj, rfl⟩
      rw [List.getD_eq_getElem?_getD, List.getElem?_eq_getElem hj]
      exact List.getElem_mem hj
    · intro hy
      obtain ⟨j, hj, rfl⟩ := List.getElem_of_mem hy
      refine ⟨j, hj, ?_⟩
      rw [List.getD_eq_getElem?_getD, List.getElem?_eq_getElem hj]
      rfl
  have nd : ks.Nodup := by
    obtain ⟨o, es, ep, t, g1, g2, g3, pr, nd, _⟩ := r
    exact nd
  refine Calls.spliced_nil ?_
  refine sorted_set calm r (Nat.lt_of_le_of_lt (nd_le' nd fun y hy => (memI y).mp hy) hl) fun q' h2 dr tk2 out ex ms kp2 ge hx a1 a2 a3 => ?_
  have kk : ∀ b o, s1.heap.get? b = some o → h2.get? b = some o := fun b o eb => kp2 b o (kp b o (Heap.lt_size eb) eb)
  have ge1 : s1.heap.objs.size ≤ q' := by
    obtain ⟨o, es, ep, t, g1, _⟩ := r
    exact Nat.le_of_lt (Nat.lt_of_lt_of_le (Heap.lt_size g1) ge)
  have hf : H1 q' = none := I1.hok.fresh ge1
  have nm : ms.Nodup := a2.nodup_iff.mpr nd
  have ml : ms.length < 64 := by
    rw [a2.length_eq]
    exact Nat.lt_of_le_of_lt (nd_le' nd fun y hy => (memI y).mp hy) hl
  refine ⟨.ref q', _, (I1.laid (t' := tk2) (o := .lst (ms.map V.int)) kk ge1 ?_).drew dr, rfl, q _ _ ms hf (same_new hf _) upd_same ?_ fun y => ?_⟩
  · exact ⟨by rw [List.length_map, sizeLine_eq]; omega, out.toList, ex, vals_ints a1, by rw [hx, Array.toArray_toList]⟩
  · exact (a3.and nm).imp fun ⟨z1, z2⟩ => by omega
  · rw [a2.mem_iff, memI]
end
end L2

end

section
-- KcDkN
set_option Elab.async false
set_option linter.all false
set_option maxRecDepth 100000
set_option maxHeartbeats 4000000
namespace L2
open PySem PySem.Spec PyProof.Rows
section
variable {X : Cx}
end
end L2

end

section
-- KcLenN
set_option Elab.async false
set_option linter.all false
set_option maxRecDepth 100000
set_option maxHeartbeats 4000000
namespace L2
open PySem PySem.Spec PyProof.Rows
section
variable {X : Cx}
end
end L2

end

section
-- KcListN
set_option Elab.async false
set_option linter.all false
set_option maxRecDepth 100000
set_option maxHeartbeats 4000000
namespace L2
open PySem PySem.Spec PyProof.Rows
section
variable {X : Cx}
end
end L2

end

section
-- KcListZ
set_option Elab.async false
set_option linter.all false
set_option maxRecDepth 100000
set_option maxHeartbeats 4000000
namespace L2
open PySem PySem.Spec PyProof.Rows
noncomputable abbrev IsZipF (h : Heap) (z TI TO : Addr) (f0 : Value) (f : Bool) : Prop :=
  h.get? z = some { cls := .type "zip", dict := none, data := .fields #[f0, .bool f, .bool false, .ref TI, .ref TO], slots := #[] }
section
variable {prog : Program} {w : World} {A : Around} {E : Value → Shared → Prop} {s : Shared}
theorem owned_held {z TI TO a : Addr} {f : Bool} {oa : Obj} {Q : Bool → Shared → Prop} (hz : IsZipF s.heap z TI TO (rawInt a) f) (ha : s.heap.get? a = some oa) (h : ∀ g1, IsZipF g1 z TI TO (rawInt a) true → Heap.SameBut z s.heap g1 → Q false { s with heap := g1 }) :
    wpAny (model prog w) A (Builtin.SmallTypes.ownedTupleIsFree (.ref z)) Q E s := by
  obtain ⟨hp, g, d, tk₀, os⟩ := s
  unfold Builtin.SmallTypes.ownedTupleIsFree
  refine wpAny_bind (wpAny_field hz rfl (x := rawInt a) rfl ?_)
  show wpAny _ _ (loadIfAlive ((a : Int).toNat) >>= _) _ _ _
  rw [Int.toNat_natCast]
  refine wpAny_bind (PySem.W.kdx_alive ha ?_)
  simp only [Option.isNone_some, Bool.false_eq_true, if_false]
  refine wpAny_bind (wpAny_field hz rfl (x := .bool f) rfl ?_)
  cases f with
  | true =>
    rw [if_neg (show ¬ ((Value.bool true != Value.bool true) = true) from Bool.false_ne_true)]
    exact wpAny_pure (h hp hz (Heap.SameBut.refl _ _))
  | false =>
    rw [if_pos (show (Value.bool false != Value.bool true) = true from rfl)]
    exact wpAny_bind (wpAny_setField_rec hz (by simp) fun h₃ he₃ hs₃ => wpAny_pure (h h₃ he₃ hs₃))
theorem zip_itemO {z TI TO j1 j2 a : Addr} {f : Bool} {oa : Obj} {fp1 fp2 : List Addr} {n1 n2 k : Nat} {P1 P2 : Nat → Value → Prop} {S1 S2 : Nat → Heap → Prop} {Q : Value → Shared → Prop} (Z : ZApart z TI TO j1 j2 fp1 fp2)
    (D1 : Draws prog w A j1 fp1 n1 P1 S1) (D2 : Draws prog w A j2 fp2 n2 P2 S2) (hz : IsZipF s.heap z TI TO (rawInt a) f) (ha : s.heap.get? a = some oa) (hTI : IsPair s.heap TI (.ref j1) (.ref j2)) (h1 : S1 k s.heap) (h2 : S2 k s.heap) (l1 : k < n1) (l2 : k < n2)
    (hQ : ∀ x y h' tk, P1 k x → P2 k y → IsZipF h' z TI TO (rawInt a) true → S1 (k + 1) h' → S2 (k + 1) h' → IsPair h' s.heap.objs.size x y →
      (∀ c o, c ∉ [z, j1, j2] → s.heap.get? c = some o → h'.get? c = some o) → Q (.ref s.heap.objs.size) { s with heap := h', toks := tk }) :
    wpAny (model prog w) A (Builtin.«zip.__next__» ⟨[.ref z], []⟩) (fun fin s' => ∃ v, fin = .done (.ret v) ∧ Q v s') E s := by
  obtain ⟨hp, g, d, tk₀, os⟩ := s
  show wpAny _ _ (field (.ref z) 2 >>= _) _ _ _
  refine wpAny_bind (wpAny_field hz rfl (x := .bool false) rfl ?_)
  show wpAny _ _ (field (.ref z) 3 >>= _) _ _ _
  refine wpAny_bind (wpAny_field hz rfl (x := .ref TI) rfl ?_)
  refine wpAny_bind (wpAny_seqItems hTI rfl ?_)
  show wpAny _ _ (Builtin.SmallTypes.ownedTupleIsFree (.ref z) >>= _) _ _ _
  refine wpAny_bind (owned_held hz ha fun g1 hz1 hs1 => ?_)
  replace hs1 : Heap.SameBut z hp g1 := hs1
  simp only [Bool.false_eq_true, if_false]
  refine wpAny_bind ?_
  rw [← Array.forIn_toList]
  simp only [List.forIn_cons, List.forIn_nil]
  refine wpAny_bind ?_
  refine wpAny_bind (wpAny_holding ?_)
  show wpAny _ _ (Builtin.SmallTypes.nextOf (.ref j1) >>= _) _ _ _
  refine wpAny_bind (D1.item k ⟨g1, g, d, tk₀, os⟩ _ _ l1 (D1.but h1 hs1 Z.b1) fun x g2 tk1 px st1 hs2 => wpAny_pure ?_)
  replace hs2 : Heap.SameBut j1 g1 g2 := hs2
  refine wpAny_pure ?_
  refine wpAny_bind ?_
  refine wpAny_bind (wpAny_holding ?_)
  show wpAny _ _ (Builtin.SmallTypes.nextOf (.ref j2) >>= _) _ _ _
  refine wpAny_bind (D2.item k ⟨g2, g, d, tk1, os⟩ _ _ l2 (D2.but (D2.but h2 hs1 Z.b4) hs2 Z.b6) fun y g3 tk2 py st2 hs3 => wpAny_pure ?_)
  replace hs3 : Heap.SameBut j2 g2 g3 := hs3
  refine wpAny_pure ?_
  refine wpAny_pure ?_
  show wpAny _ _ (newTuple [x, y] >>= fun r => ret r) _ _ _
  have hsz : g3.objs.size = hp.objs.size := by rw [hs3.1, hs2.1, hs1.1]
  refine wpAny_bind (wpAny_newTuple (wpAny_pure ⟨_, rfl, ?_⟩))
  have up : ∀ c o, g3.get? c = some o → (g3.push { cls := .type "tuple", data := .seq #[x, y] }).get? c = some o := fun c o e => Heap.get?_push_of_some _ e
  have hz3 : IsZipF g3 z TI TO (rawInt a) true := hs3.extBut _ _ Z.a4.symm (hs2.extBut _ _ Z.a3.symm hz1)
  have hT : IsPair (g3.push { cls := .type "tuple", data := .seq #[x, y] }) hp.objs.size x y := by rw [← hsz]; exact Heap.get?_push_size _ rfl
  show Q (.ref g3.objs.size) _
  rw [hsz]
  refine hQ x y _ tk2 px py (up _ _ hz3) (D1.frame _ _ _ (D1.but st1 hs3 Z.b3) fun c _ o e => up c o e) (D2.frame _ _ _ st2 fun c _ o e => up c o e) hT fun c o hc e => ?_
  simp only [List.mem_cons, List.not_mem_nil, or_false, not_or] at hc
  exact up c o (hs3.extBut _ _ hc.2.2 (hs2.extBut _ _ hc.2.1 (hs1.extBut _ _ hc.1 e)))
theorem zip_endO {z TI TO j1 j2 a : Addr} {f : Bool} {oa : Obj} {fp1 fp2 : List Addr} {n1 n2 k : Nat} {P1 P2 : Nat → Value → Prop} {S1 S2 : Nat → Heap → Prop} {Q : Fin → Shared → Prop} (Z : ZApart z TI TO j1 j2 fp1 fp2)
    (D1 : Draws prog w A j1 fp1 n1 P1 S1) (D2 : Draws prog w A j2 fp2 n2 P2 S2) (hz : IsZipF s.heap z TI TO (rawInt a) f) (ha : s.heap.get? a = some oa) (hTI : IsPair s.heap TI (.ref j1) (.ref j2)) (h1 : S1 k s.heap) (h2 : S2 k s.heap) (l : k = min n1 n2)
    (hE : ∀ h' e tk, (∀ c o, c ∉ [z, TI, TO, j1, j2] → s.heap.get? c = some o → h'.get? c = some o) → (∃ o, h'.get? e = some o ∧ o.cls = .type "StopIteration") → E (.ref e) { s with heap := h', toks := tk }) :
    wpAny (model prog w) A (Builtin.«zip.__next__» ⟨[.ref z], []⟩) Q E s := by
  obtain ⟨hp, g, d, tk₀, os⟩ := s
  have kp : ∀ {h' : Heap}, (∀ c o, c ≠ z → c ≠ j1 → c ≠ j2 → hp.get? c = some o → h'.get? c = some o) → ∀ c o, c ∉ [z, TI, TO, j1, j2] → hp.get? c = some o → h'.get? c = some o := fun {h'} q c o hc e => by
    simp only [List.mem_cons, List.not_mem_nil, or_false, not_or] at hc
    exact q c o hc.1 hc.2.2.2.1 hc.2.2.2.2 e
  show wpAny _ _ (field (.ref z) 2 >>= _) _ _ _
  refine wpAny_bind (wpAny_field hz rfl (x := .bool false) rfl ?_)
  show wpAny _ _ (field (.ref z) 3 >>= _) _ _ _
  refine wpAny_bind (wpAny_field hz rfl (x := .ref TI) rfl ?_)
  refine wpAny_bind (wpAny_seqItems hTI rfl ?_)
  show wpAny _ _ (Builtin.SmallTypes.ownedTupleIsFree (.ref z) >>= _) _ _ _
  refine wpAny_bind (owned_held hz ha fun g1 hz1 hs1 => ?_)
  replace hs1 : Heap.SameBut z hp g1 := hs1
  simp only [Bool.false_eq_true, if_false]
  refine wpAny_bind ?_
  rw [← Array.forIn_toList]
  simp only [List.forIn_cons, List.forIn_nil]
  refine wpAny_bind ?_
  refine wpAny_bind (wpAny_holding ?_)
  show wpAny _ _ (Builtin.SmallTypes.nextOf (.ref j1) >>= _) _ _ _
  by_cases hk : k = n1
  · subst hk
    refine wpAny_bind (D1.done ⟨g1, g, d, tk₀, os⟩ _ _ (D1.but h1 hs1 Z.b1) fun g2 e hs2 he => ?_)
    replace hs2 : Heap.ExtBut j1 g1 g2 := hs2
    exact hE g2 e tk₀ (kp fun c o c1 c2 _ q => hs2 _ _ c2 (hs1.extBut _ _ c1 q)) he
  · have hlt : k < n1 := by omega
    have hk2 : k = n2 := by omega
    refine wpAny_bind (D1.item k ⟨g1, g, d, tk₀, os⟩ _ _ hlt (D1.but h1 hs1 Z.b1) fun x g2 tk1 px st1 hs2 => wpAny_pure ?_)
    replace hs2 : Heap.SameBut j1 g1 g2 := hs2
    refine wpAny_pure ?_
    refine wpAny_bind ?_
    refine wpAny_bind (wpAny_holding ?_)
    show wpAny _ _ (Builtin.SmallTypes.nextOf (.ref j2) >>= _) _ _ _
    subst hk2
    refine wpAny_bind (D2.done ⟨g2, g, d, tk1, os⟩ _ _ (D2.but (D2.but h2 hs1 Z.b4) hs2 Z.b6) fun g3 e hs3 he => ?_)
    replace hs3 : Heap.ExtBut j2 g2 g3 := hs3
    exact hE g3 e tk1 (kp fun c o c1 c2 c3 q => hs3 _ _ c3 (hs2.extBut _ _ c2 (hs1.extBut _ _ c1 q))) he
/-! ### the loop of list(zip(..)) -/
noncomputable def ZSt (h : Heap) (z TI TO S : Addr) (i : Nat) (far : Addr → Prop) : Prop := (i = 0 ∧ IsZip h z TI TO .none ∧ ∃ u v, IsPair h TO u v) ∨ ∃ (a : Addr) (f : Bool) (oa : Obj), IsZipF h z TI TO (rawInt a) f ∧ h.get? a = some oa ∧ far a ∧ a ≠ S
noncomputable def ZTs (P1 P2 : Nat → Value → Prop) (lo : Addr) (h : Heap) (ts : List Addr) : Prop := ∀ (j : Nat) (t : Addr), ts[j]? = some t → lo ≤ t ∧ ∃ x y, P1 j x ∧ P2 j y ∧ IsPair h t x y
end
section
variable {prog : Program} {w : World} {A : Around} {s : Shared} {R : Result → Shared → Prop}
theorem zip_loop {z TI TO j1 j2 S lo : Addr} {fp1 fp2 : List Addr} {n1 n2 : Nat} {P1 P2 : Nat → Value → Prop} {S1 S2 : Nat → Heap → Prop} (hh : A.handled = none) (Z : ZApart z TI TO j1 j2 fp1 fp2)
    (D1 : Draws prog w A.in1.in1 j1 fp1 n1 P1 S1) (D2 : Draws prog w A.in1.in1 j2 fp2 n2 P2 S2) (hn : min n1 n2 ≤ sizeLine) (hS : S ∉ [z, TI, TO, j1, j2]) (hS1 : S ∉ fp1) (hS2 : S ∉ fp2) (hlo : ∀ c ∈ [z, TI, TO, j1, j2, S], c < lo) (hlo1 : ∀ c ∈ fp1, c < lo) (hlo2 : ∀ c ∈ fp2, c < lo) (res : Value) {h₁ : Heap}
    (hR : ∀ h' tk acc c ts, (∀ b o, b ∉ [z, TI, TO, j1, j2] → b ≠ S → h₁.get? b = some o → h'.get? b = some o) → h'.get? S = some { cls := .type "list", dict := none, data := .seq acc c, slots := #[] } → ts.length = min n1 n2 → ZTs P1 P2 lo h' ts →
      acc.toList = ts.map Value.ref → R (.ok (.ret res)) { s with heap := h', toks := tk }) :
    ∀ (m i : Nat) (h : Heap) (tk c : Nat) (acc : Array Value) (ts : List Addr), min n1 n2 - i = m → i ≤ min n1 n2 → ZSt h z TI TO S i (fun a => lo ≤ a) → IsPair h TI (.ref j1) (.ref j2) → S1 i h → S2 i h → (∀ b o, b ∉ [z, TI, TO, j1, j2] → b ≠ S → h₁.get? b = some o → h.get? b = some o) →
      h.get? S = some { cls := .type "list", dict := none, data := .seq acc c, slots := #[] } → acc.toList = ts.map Value.ref → ts.length = i → ZTs P1 P2 lo h ts → lo ≤ h.objs.size →
      codeAny (model prog w) A (.builtin "list.extend.loop" ⟨[.ref S, .ref z, res], []⟩) R { s with heap := h, toks := tk } := by
  have notin : ∀ t, lo ≤ t → t ∉ [z, TI, TO, j1, j2] ∧ t ≠ S ∧ t ∉ fp1 ∧ t ∉ fp2 := fun t ht => ⟨fun hm => by
    have := hlo t (show t ∈ [z, TI, TO, j1, j2] ++ [S] from List.mem_append_left _ hm)
    exact absurd ht (Nat.not_le.mpr this), fun e => by
    have := hlo S (by simp)
    rw [e] at ht
    exact absurd ht (Nat.not_le.mpr this), fun hm => absurd ht (Nat.not_le.mpr (hlo1 t hm)), fun hm => absurd ht (Nat.not_le.mpr (hlo2 t hm))⟩
  intro m
  induction m with
  | zero =>
    intro i h tk c acc ts hk hi hst hTI st1 st2 hkeep hSS hacc hal hG hls
    have hin : i = min n1 n2 := by omega
    refine codeAny_builtin PySem.F.entry_extend_loop ?_
    rw [Around.under_plainId PySem.F.plain_extend_loop _]
    show wpAny _ A.in1 (pyNext (.ref z) >>= _) _ _ _
    have done : ∀ h' : Heap, ∀ tk', (∀ c o, c ∉ [z, TI, TO, j1, j2] → h.get? c = some o → h'.get? c = some o) → R (.ok (.ret res)) { s with heap := h', toks := tk' } := fun h' tk' kp => by
      refine hR h' tk' acc c ts (fun b o h1 h2 e => kp b o h1 (hkeep b o h1 h2 e)) (kp S _ hS hSS) (by omega) (fun j t hj => ?_) hacc
      obtain ⟨hlt, x, y, p1, p2, e⟩ := hG j t hj
      exact ⟨hlt, x, y, p1, p2, kp t _ (notin t hlt).1 e⟩
    have hT : Shared.TypeIs { s with heap := h, toks := tk } (.ref z) "zip" := by
      rcases hst with ⟨_, hz, _⟩ | ⟨a, f, oa, hz, _⟩
      · exact ⟨_, hz, rfl⟩
      · exact ⟨_, hz, rfl⟩
    unfold pyNext
    refine wpAny_bind (wpAny_bind (wpAny_attempt (wpAny_callSpecial?_slot (name := Str.ofString "__next__") hT F.slot_zip_next (wpAny_call_entry F.slot_zip_next hT F.entry_zip_next ?_ (F.args_zip_next_1 _)))))
    rcases hst with ⟨_, hz, u, v, hTO⟩ | ⟨a, f, oa, hz, ha, _, _⟩
    · refine zip_endD (s := { s with heap := h, toks := tk }) Z D1 D2 hz hTI hTO st1 st2 hin fun h' e tk' kp he => ?_
      obtain ⟨o, ho, hcl⟩ := he
      exact wpAny_bind (wpAny_isInstance (T := "StopIteration") (b := true) ⟨o, ho, hcl⟩ isSubtype_stop (wpAny_pure (wpAny_pure (done h' tk' kp))))
    · refine zip_endO (s := { s with heap := h, toks := tk }) Z D1 D2 hz ha hTI st1 st2 hin fun h' e tk' kp he => ?_
      obtain ⟨o, ho, hcl⟩ := he
      exact wpAny_bind (wpAny_isInstance (T := "StopIteration") (b := true) ⟨o, ho, hcl⟩ isSubtype_stop (wpAny_pure (wpAny_pure (done h' tk' kp))))
  | succ m ih =>
    intro i h tk c acc ts hk hi hst hTI st1 st2 hkeep hSS hacc hal hG hls
    have hlt : i < min n1 n2 := by omega
    have hsz : acc.size = i := by rw [← Array.length_toList, hacc, List.length_map, hal]
    refine codeAny_builtin PySem.F.entry_extend_loop ?_
    rw [Around.under_plainId PySem.F.plain_extend_loop _]
    show wpAny _ A.in1 (pyNext (.ref z) >>= _) _ _ _
    have hT : Shared.TypeIs { s with heap := h, toks := tk } (.ref z) "zip" := by
      rcases hst with ⟨_, hz, _⟩ | ⟨a, f, oa, hz, _⟩
      · exact ⟨_, hz, rfl⟩
      · exact ⟨_, hz, rfl⟩
    have item : ∀ (h' : Heap) (tk' : Nat) (x y : Value), P1 i x → P2 i y → ZSt h' z TI TO S (i + 1) (fun a => lo ≤ a) → S1 (i + 1) h' → S2 (i + 1) h' → IsPair h' h.objs.size x y → (∀ c o, c ∉ [z, TO, j1, j2] → h.get? c = some o → h'.get? c = some o) →
        wpAny (model prog w) A.in1 (Builtin.List.listUpdate (.ref S) (·.push (Value.ref h.objs.size)) >>= fun _ => again (.builtin "list.extend.loop" ⟨[.ref S, .ref z, res], []⟩)) (fun fin s' => match fin with | .done f => R (.ok f) s' | .again c' => c'.quiet = true ∧ codeAny (model prog w) A c' R s') (fun e s' => R (.error e) s') { s with heap := h', toks := tk' } := by
      intro h' tk' x y px py hst' st1' st2' ht kp
      have sub : ∀ c, c ∉ [z, TI, TO, j1, j2] → c ∉ [z, TO, j1, j2] := fun c hc hm => hc (by
        simp only [List.mem_cons, List.not_mem_nil, or_false] at hm ⊢
        rcases hm with e | e | e | e
        · exact .inl e
        · exact .inr (.inr (.inl e))
        · exact .inr (.inr (.inr (.inl e)))
        · exact .inr (.inr (.inr (.inr e))))
      have hS' := kp S _ (sub S hS) hSS
      have up : ∀ b o, b ≠ S → h'.get? b = some o → (h'.update S (Obj.mapSeq (·.push (Value.ref h.objs.size)))).get? b = some o := fun b o hb e => (Heap.get?_update_other _ _ (Ne.symm hb)).trans e
      have hSl : S < h.objs.size := Heap.lt_size hSS
      have zS : ∀ c ∈ [z, TI, TO, j1, j2], c ≠ S := fun c hc e => hS (by rw [← e]; exact hc)
      have hTI' : IsPair h' TI (.ref j1) (.ref j2) := kp TI _ (by
        simp only [List.mem_cons, List.not_mem_nil, or_false, not_or]
        exact ⟨Z.a1, Z.a5, Z.a6, Z.a7⟩) hTI
      show wpAny _ A.in1 (updateSeq S (·.push (Value.ref h.objs.size)) >>= _) _ _ _
      refine wpAny_bind ?_
      refine wpAny_updateSeq hS' rfl (wpAny_pure ⟨plainId_quiet PySem.F.plain_extend_loop _, ih (i + 1) _ tk' _ (acc.push (Value.ref h.objs.size)) (ts ++ [h.objs.size]) (by omega) hlt ?_ (up TI _ (zS TI (by simp)) hTI')
        (D1.frame _ _ _ st1' fun b hb o e => up b o (fun q => hS1 (by rw [← q]; exact hb)) e) (D2.frame _ _ _ st2' fun b hb o e => up b o (fun q => hS2 (by rw [← q]; exact hb)) e)
        (fun b o h1 h2 e => up b o h2 (kp b o (sub b h1) (hkeep b o h1 h2 e))) (Heap.get?_update_self _ hS' rfl) (by rw [Array.toList_push, hacc, List.map_append]; rfl) (by rw [List.length_append, hal]; rfl) ?_ ?_⟩) (by rw [hsz]; omega) (by show (acc.push (Value.ref h.objs.size)).size ≤ sizeLine + 1; rw [Array.size_push, hsz]; omega)
      · rcases hst' with ⟨e, _⟩ | ⟨a, f, oa, hz, ha, hfar, haS⟩
        · omega
        · exact .inr ⟨a, f, oa, up _ _ (zS z (by simp)) hz, up _ _ haS ha, hfar, haS⟩
      · intro j t hj
        rcases Nat.lt_trichotomy j ts.length with c | c | c
        · rw [List.getElem?_append_left c] at hj
          obtain ⟨hl, x', y', p1, p2, e⟩ := hG j t hj
          obtain ⟨n1', n2', _, _⟩ := notin t hl
          exact ⟨hl, x', y', p1, p2, up t _ n2' (kp t _ (sub t n1') e)⟩
        · subst c
          have hb : h.objs.size = t := by simpa using hj
          subst hb
          rw [hal]
          exact ⟨hls, x, y, px, py, up _ _ (Nat.ne_of_gt hSl) ht⟩
        · rw [List.getElem?_eq_none (by rw [List.length_append, List.length_singleton]; omega)] at hj
          cases hj
      · have e : (h'.update S (Obj.mapSeq (·.push (Value.ref h.objs.size)))).get? h.objs.size = _ := up _ _ (Nat.ne_of_gt hSl) ht
        exact Nat.le_trans hls (Nat.le_of_lt (Heap.lt_size e))
    unfold pyNext
    refine wpAny_bind (wpAny_bind (wpAny_attempt (wpAny_callSpecial?_slot (name := Str.ofString "__next__") hT F.slot_zip_next (wpAny_call_entry F.slot_zip_next hT F.entry_zip_next ?_ (F.args_zip_next_1 _)))))
    have hSl : S < h.objs.size := Heap.lt_size hSS
    rcases hst with ⟨_, hz, u, v, hTO⟩ | ⟨a, f, oa, hz, ha, hfar, haS⟩
    · refine zip_itemD (s := { s with heap := h, toks := tk }) Z D1 D2 hz hTI hTO st1 st2 (by omega) (by omega) fun x y h' tk' px py z1 z2 z3 z4 z5 z6 z7 => wpAny_pure ?_
      refine item h' tk' x y px py (.inr ⟨_, false, _, z1, z5, hls, Nat.ne_of_gt hSl⟩) z3 z4 z5 fun c o hc e => ?_
      by_cases q : c = TI
      · rw [q] at e ⊢
        have : o = _ := Option.some.inj (e.symm.trans hTI)
        rw [this]
        exact z7
      · refine z6 c o ?_ e
        simp only [List.mem_cons, List.not_mem_nil, or_false, not_or] at hc ⊢
        exact ⟨hc.1, q, hc.2⟩
    · refine zip_itemO (s := { s with heap := h, toks := tk }) Z D1 D2 hz ha hTI st1 st2 (by omega) (by omega) fun x y h' tk' px py z1 z3 z4 z5 z6 => wpAny_pure ?_
      have na := (notin a hfar).1
      refine item h' tk' x y px py (.inr ⟨a, true, oa, z1, z6 a oa ?_ ha, hfar, haS⟩) z3 z4 z5 fun c o hc e => z6 c o ?_ e
      · simp only [List.mem_cons, List.not_mem_nil, or_false, not_or] at na ⊢
        exact ⟨na.1, na.2.2.2.1, na.2.2.2.2⟩
      · simp only [List.mem_cons, List.not_mem_nil, or_false, not_or] at hc ⊢
        exact ⟨hc.1, hc.2.2.1, hc.2.2.2⟩
end
end L2

end

section
-- KcZipL
set_option Elab.async false
set_option linter.all false
set_option maxRecDepth 100000
set_option maxHeartbeats 4000000
namespace L2
open PySem PySem.Spec PyProof.Rows
theorem Inv.news {X : Cx} {pins : List (Addr × Obj)} {σ : St} {H H' : Hp} {s : Shared} {h' : Heap} {t' : Nat} (I : Inv X pins σ H s) (k : ∀ b u, s.heap.get? b = some u → h'.get? b = some u) (hH : ∀ b, b < s.heap.objs.size → H' b = H b)
    (new : ∀ a o, s.heap.objs.size ≤ a → H' a = some o → ObjOk X.prog X.w H' h' a o) : Inv X pins σ H' { s with heap := h', toks := t' } := by
  have same : ∀ b o, H b = some o → H' b = some o := fun b o e => (hH b (I.hok.lt e)).trans e
  refine I.un ⟨fun b o q _ _ _ => k b o q, fun b o q _ _ _ => ⟨o.slots, k b o q⟩, fun b o q n _ => (hH b (Heap.lt_size q)).trans n, fun b o q _ => ⟨o, k b o q⟩, fun b xs e => same b _ e, fun b o u e => same b _ e, fun b ps e => ⟨#[], by rw [same b _ e]; simp⟩⟩ fun a o e => ?_
  by_cases c : a < s.heap.objs.size
  · rw [hH a c] at e
    exact (I.hok a o e).stay (fun b u _ q => k b u q) (fun b q => same b _ q) fun b xs q => same b _ q
  · exact new a o (Nat.not_lt.mp c) e
theorem zip_hint {prog : Program} {w : World} {A : Around} {E : Value → Shared → Prop} {s : Shared} {z : Addr} {Q : Bool → Shared → Prop} (hT : s.TypeIs (.ref z) "zip") (h : Q true s) : wpAny (model prog w) A (Builtin.List.listLengthHint (.ref z)) Q E s := by
  unfold Builtin.List.listLengthHint
  refine wpAny_bind (wpAny_specialOf hT (show typeLookup (.type "zip") "__len__" = pure none by rw [typeLookup_type, builtinLookup_eq_fast]; kernel_rfl) ?_)
  show wpAny _ _ (specialOf (Value.ref z) (Str.ofString "__length_hint__") >>= _) _ _ _
  refine wpAny_bind (wpAny_specialOf hT (show typeLookup (.type "zip") "__length_hint__" = pure none by rw [typeLookup_type, builtinLookup_eq_fast]; kernel_rfl) ?_)
  exact wpAny_pure h
section
variable {prog : Program} {w : World} {A : Around} {E : Value → Shared → Prop} {s : Shared}
theorem zip_extend {z TI TO j1 j2 S : Addr} {fp1 fp2 : List Addr} {n1 n2 : Nat} {P1 P2 : Nat → Value → Prop} {S1 S2 : Nat → Heap → Prop} {R : Result → Shared → Prop} (hh : A.handled = none) (Z : ZApart z TI TO j1 j2 fp1 fp2)
    (D1 : Draws prog w A.in1.in1 j1 fp1 n1 P1 S1) (D2 : Draws prog w A.in1.in1 j2 fp2 n2 P2 S2) (hn : min n1 n2 ≤ sizeLine) (hS : S ∉ [z, TI, TO, j1, j2]) (hS1 : S ∉ fp1) (hS2 : S ∉ fp2) (hlo : ∀ c ∈ [z, TI, TO, j1, j2, S], c < s.heap.objs.size) (hlo1 : ∀ c ∈ fp1, c < s.heap.objs.size) (hlo2 : ∀ c ∈ fp2, c < s.heap.objs.size)
    (hz : IsZip s.heap z TI TO .none) {u v : Value} (hTO : IsPair s.heap TO u v) (hTI : IsPair s.heap TI (.ref j1) (.ref j2)) (st1 : S1 0 s.heap) (st2 : S2 0 s.heap) {c₀ : Nat} (hSS : s.heap.get? S = some { cls := .type "list", data := .seq #[] c₀ })
    (hR : ∀ h' tk acc c ts, (∀ b o, b ∉ [z, TI, TO, j1, j2] → b ≠ S → s.heap.get? b = some o → h'.get? b = some o) → h'.get? S = some { cls := .type "list", dict := none, data := .seq acc c, slots := #[] } → ts.length = min n1 n2 → ZTs P1 P2 s.heap.objs.size h' ts →
      acc.toList = ts.map Value.ref → R (.ok (.ret .none)) { s with heap := h', toks := tk }) :
    wpAny (model prog w) A.in1 (Builtin.List.listExtendWith (.ref S) (.ref z) .none)
      (fun fin s' => match fin with | .done f => R (.ok f) s' | .again c' => c'.quiet = true ∧ codeAny (model prog w) A c' R s') (fun e s' => R (.error e) s') s := by
  have zS : ∀ c ∈ [z, TI, TO, j1, j2], c ≠ S := fun c hc e => hS (by rw [← e]; exact hc)
  have hT : s.TypeIs (.ref z) "zip" := ⟨_, hz, rfl⟩
  unfold Builtin.List.listExtendWith
  refine wpAny_bind (wpAny_typeOf (T := "zip") hT ?_)
  have h1 : Builtin.List.listSameRef (.ref S) (.ref z) = false := by simp [Builtin.List.listSameRef, (zS z (by simp)).symm]
  have h2 : (Value.type "zip" == Value.type "list") = false := by decide
  have h3 : (Value.type "zip" == Value.type "tuple") = false := by decide
  simp only [h1, h2, h3, Bool.or_false, Bool.false_eq_true, if_false]
  refine wpAny_bind (wpAny_pyIter_zip hz ?_)
  refine wpAny_bind (wpAny_holding (zip_hint hT ?_))
  rw [if_pos (by simp)]
  refine wpAny_bind (wpAny_rule ?_)
  refine wpAny_bind ?_
  show wpAny _ _ (updateSeq S (·.push .none) >>= fun _ => updateSeq S (·.pop)) _ _ _
  refine wpAny_bind (wpAny_updateSeq hSS rfl ?_)
  have hS₂ := Heap.get?_update_self (Obj.mapSeq (·.push Value.none)) hSS rfl
  refine wpAny_updateSeq (hz := by seq_fits) hS₂ rfl ?_
  have hS₃ := Heap.get?_update_self (Obj.mapSeq (·.pop)) hS₂ rfl
  have oth : ∀ b o, b ≠ S → s.heap.get? b = some o → ((s.heap.update S (Obj.mapSeq (·.push Value.none))).update S (Obj.mapSeq (·.pop))).get? b = some o := fun b o hb e =>
    (Heap.get?_update_other _ _ (Ne.symm hb)).trans ((Heap.get?_update_other _ _ (Ne.symm hb)).trans e)
  refine wpAny_pure ⟨plainId_quiet PySem.F.plain_extend_loop _, zip_loop (s := s) (lo := s.heap.objs.size) (h₁ := s.heap) hh Z D1 D2 hn hS hS1 hS2 hlo hlo1 hlo2 .none hR (min n1 n2) 0 _ _ _ #[] [] (Nat.sub_zero _) (Nat.zero_le _) (.inl ⟨rfl, oth z _ (zS z (by simp)) hz, u, v, oth TO _ (zS TO (by simp)) hTO⟩) (oth TI _ (zS TI (by simp)) hTI)
    (D1.frame _ _ _ st1 fun b hb o e => oth b o (fun q => hS1 (by rw [← q]; exact hb)) e) (D2.frame _ _ _ st2 fun b hb o e => oth b o (fun q => hS2 (by rw [← q]; exact hb)) e) (fun b o _ hb e => oth b o hb e) hS₃ rfl rfl (fun j t hj => by simp at hj) ?_⟩
  rw [Heap.size_update, Heap.size_update]
  exact Nat.le_refl _
theorem zip_call {z TI TO j1 j2 : Addr} {fp1 fp2 : List Addr} {n1 n2 : Nat} {P1 P2 : Nat → Value → Prop} {S1 S2 : Nat → Heap → Prop} {Q : Value → Shared → Prop} (hh : A.handled = none) (Z : ZApart z TI TO j1 j2 fp1 fp2)
    (D1 : ∀ A' : Around, A'.handled = none → Draws prog w A' j1 fp1 n1 P1 S1) (D2 : ∀ A' : Around, A'.handled = none → Draws prog w A' j2 fp2 n2 P2 S2) (hn : min n1 n2 ≤ sizeLine) (hlo : ∀ c ∈ [z, TI, TO, j1, j2], c < s.heap.objs.size) (hlo1 : ∀ c ∈ fp1, c < s.heap.objs.size) (hlo2 : ∀ c ∈ fp2, c < s.heap.objs.size)
    (hz : IsZip s.heap z TI TO .none) {u v : Value} (hTO : IsPair s.heap TO u v) (hTI : IsPair s.heap TI (.ref j1) (.ref j2)) (st1 : S1 0 s.heap) (st2 : S2 0 s.heap)
    (hQ : ∀ h' tk acc c ts, (∀ b o, b ∉ [z, TI, TO, j1, j2] → s.heap.get? b = some o → h'.get? b = some o) → h'.get? s.heap.objs.size = some { cls := .type "list", dict := none, data := .seq acc c, slots := #[] } → ts.length = min n1 n2 → ZTs P1 P2 (s.heap.objs.size + 1) h' ts →
      acc.toList = ts.map Value.ref → Q (.ref s.heap.objs.size) { s with heap := h', toks := tk }) :
    wpAny (model prog w) A (call (.type "list") [.ref z]) Q E s := by
  refine callType_codes (Q₁ := fun obj s₁ => obj = .ref s.heap.objs.size ∧ s₁ = { s with heap := s.heap.push { cls := .type "list", data := .seq #[] } }) PySem.F.called_list (PySem.F.typeCall_list_1 _) PySem.F.entry_list_init
    (code_list_new _ ⟨rfl, rfl⟩) fun obj s₁ h₁ => ?_
  obtain ⟨rfl, rfl⟩ := h₁
  have hS : (s.heap.push { cls := .type "list", data := .seq #[] }).get? s.heap.objs.size = some { cls := .type "list", data := .seq #[] } := Heap.get?_push_size _ rfl
  refine ⟨⟨_, hS, rfl⟩, PySem.F.args_list_init_2 _ _, ?_⟩
  show wpAny _ _ (do let old ← Builtin.List.listItems (.ref s.heap.objs.size); Builtin.List.listUpdate (.ref s.heap.objs.size) (fun _ => #[]); letGo old.toList.reverse; Builtin.List.listExtendWith (.ref s.heap.objs.size) (.ref z) .none) _ _ _
  refine wpAny_bind ?_
  unfold Builtin.List.listItems
  refine wpAny_bind (wpAny_seqItems hS rfl (wpAny_pure ?_))
  show wpAny _ _ (updateSeq s.heap.objs.size (fun _ => #[]) >>= fun _ => letGo (#[] : Array Value).toList.reverse >>= fun _ => Builtin.List.listExtendWith (.ref s.heap.objs.size) (.ref z) .none) _ _ _
  refine wpAny_bind (wpAny_updateSeq hS rfl ?_)
  have hS₂ := Heap.get?_update_self (Obj.mapSeq (fun _ => (#[] : Array Value))) hS rfl
  have oth : ∀ b o, b ≠ s.heap.objs.size → (s.heap.push { cls := .type "list", data := .seq #[] }).get? b = some o → ((s.heap.push { cls := .type "list", data := .seq #[] }).update s.heap.objs.size (Obj.mapSeq (fun _ => (#[] : Array Value)))).get? b = some o :=
    fun b o hb e => (Heap.get?_update_other _ _ (Ne.symm hb)).trans e
  have oth' : ∀ b o, s.heap.get? b = some o → ((s.heap.push { cls := .type "list", data := .seq #[] }).update s.heap.objs.size (Obj.mapSeq (fun _ => (#[] : Array Value)))).get? b = some o := fun b o e => oth b o (Nat.ne_of_lt (Heap.lt_size e)) (Heap.get?_push_of_some _ e)
  have sz : ((s.heap.push { cls := .type "list", data := .seq #[] }).update s.heap.objs.size (Obj.mapSeq (fun _ => (#[] : Array Value)))).objs.size = s.heap.objs.size + 1 := by rw [Heap.size_update, Heap.size_push]
  refine wpAny_bind (wpAny_letGo ?_)
  refine zip_extend (A := A.in1) hh Z (D1 _ hh) (D2 _ hh) hn (fun hm => Nat.lt_irrefl _ (hlo _ hm)) (fun hm => Nat.lt_irrefl _ (hlo1 _ hm)) (fun hm => Nat.lt_irrefl _ (hlo2 _ hm)) (fun c hc => ?_) (fun c hc => ?_) (fun c hc => ?_) (oth' _ _ hz) (oth' _ _ hTO) (oth' _ _ hTI)
    ((D1 _ hh).frame _ _ _ st1 fun b _ o e => oth' b o e) ((D2 _ hh).frame _ _ _ st2 fun b _ o e => oth' b o e) hS₂ (fun h' tk acc c ts hk hS' hl hG hacc => ?_)
  · show c < ((s.heap.push { cls := .type "list", data := .seq #[] }).update s.heap.objs.size (Obj.mapSeq (fun _ => (#[] : Array Value)))).objs.size
    rw [sz]
    rcases List.mem_append.mp (show c ∈ [z, TI, TO, j1, j2] ++ [s.heap.objs.size] from hc) with hc | hc
    · exact Nat.lt_succ_of_lt (hlo c hc)
    · rw [List.mem_singleton.mp hc]; exact Nat.lt_succ_self _
  · show c < ((s.heap.push { cls := .type "list", data := .seq #[] }).update s.heap.objs.size (Obj.mapSeq (fun _ => (#[] : Array Value)))).objs.size
    rw [sz]
    exact Nat.lt_succ_of_lt (hlo1 c hc)
  · show c < ((s.heap.push { cls := .type "list", data := .seq #[] }).update s.heap.objs.size (Obj.mapSeq (fun _ => (#[] : Array Value)))).objs.size
    rw [sz]
    exact Nat.lt_succ_of_lt (hlo2 c hc)
  · have hG' : ZTs P1 P2 (s.heap.objs.size + 1) h' ts := by rw [← sz]; exact hG
    exact ⟨rfl, hQ h' tk acc c ts (fun b o hb e => hk b o hb (Nat.ne_of_lt (Heap.lt_size e)) (oth' b o e)) hS' hl hG' hacc⟩
end
section
variable {X : Cx}
theorem zip_rel {h : Heap} {us vs : List Value} {xs ys : List V} {lo : Addr} {ts : List Addr} (ru : Vals xs us) (rv : Vals ys vs) (hl : ts.length = min us.length vs.length) (G : ZTs (fun i v => us.toArray[i]? = some v) (fun i v => vs.toArray[i]? = some v) lo h ts) :
    ∀ (i : Nat) (t : Addr), ts[i]? = some t → lo ≤ t ∧ ∃ x y u v, xs[i]? = some x ∧ ys[i]? = some y ∧ RelV x u ∧ RelV y v ∧ IsPair h t u v := fun i t ht => by
  obtain ⟨h1, u, v, p1, p2, e⟩ := G i t ht
  have hi : i < ts.length := (List.getElem?_eq_some_iff.mp ht).1
  have l1 := ru.length
  have l2 := rv.length
  obtain ⟨x, hx⟩ : ∃ x, xs[i]? = some x := ⟨_, List.getElem?_eq_getElem (by omega)⟩
  obtain ⟨y, hy⟩ : ∃ y, ys[i]? = some y := ⟨_, List.getElem?_eq_getElem (by omega)⟩
  obtain ⟨u', hu', ru'⟩ := ru.get hx
  obtain ⟨v', hv', rv'⟩ := rv.get hy
  have eu : u = u' := by
    have : us.toArray[i]? = some u' := by simpa using hu'
    rw [this] at p1
    exact (Option.some.inj p1).symm
  have ev : v = v' := by
    have : vs.toArray[i]? = some v' := by simpa using hv'
    rw [this] at p2
    exact (Option.some.inj p2).symm
  subst eu ev
  exact ⟨h1, x, y, u, v, hx, hy, ru', rv', e⟩
theorem rel_uniq {x y : V} {u : Value} (a : RelV x u) (b : RelV y u) : x = y := by
  cases x <;> cases y <;> simp only [RelV] at a b <;> first
    | rfl
    | (subst a; cases b; rfl)
    | (subst a; cases b; done)
    | (obtain ⟨t, rfl⟩ := a; obtain ⟨t', e⟩ := b; cases e; rfl)
    | (obtain ⟨t, rfl⟩ := a; obtain ⟨t', e⟩ := b; cases e; done)
    | (obtain ⟨t, rfl⟩ := a; cases b; done)
    | (subst a; obtain ⟨t', e⟩ := b; cases e; done)
theorem pe_lzip (S1 S2 : Src) {a b : Expr} {ta : TA} {p pos p2 pos2 : Pos} (hc : X.calm = true) (hgl : Gl X "list") (hml : X.mg "list" = none) (hg : Gl X "zip") (hm : X.mg "zip" = none) (ha : PA X [a, b] ta)
    (hs : starEach [a, b] X.env = [(false, eval a X.env), (false, eval b X.env)] := by rfl) (hs2 : starEach [b] X.env = [(false, eval b X.env)] := by rfl)
    (hs3 : starEach [.Call (.Name "zip" p2) [a, b] [] pos2] X.env = [(false, eval (.Call (.Name "zip" p2) [a, b] [] pos2) X.env)] := by rfl) :
    PE X (.Call (.Name "list" p) [.Call (.Name "zip" p2) [a, b] [] pos2] [] pos) (mLZip S1 S2 X.K ta) := by
  intro pins s σ H Q I h
  refine wpAny_Call_Name_kw (ld_blt I hgl hml boot_list (PyProof.Rows.callWith_type1 ?_ hs3 rfl))
  rw [hs3]
  show wpAny _ _ (spliced [(false, eval (.Call (.Name "zip" p2) [a, b] [] pos2) X.env)]) _ _ s
  refine Calls.spliced_cons ?_
  refine Call_ (ld_blt I hg hm boot_zip (PyProof.Rows.callWith_type1 (thn (ha pos2 pins s σ H _ I h) fun us s1 ⟨vs, H1, I1, r1, q1⟩ => ?_) (by rw [hs, hs2]) (by rw [hs2]; rfl)))
  obtain ⟨l1, l2, xs, ys, e, hq1, hq2, hxl, q⟩ := q1
  subst e
  obtain ⟨u, v, rfl, ru, rv⟩ := r1.two
  cases ru
  cases rv
  obtain ⟨us1, rv1, p1, _⟩ := S1.get I1 hq1
  obtain ⟨us2, rv2, p2', _⟩ := S2.get I1 hq2
  refine callType_new F.called_zip (by decide) (F.typeCall_zip_2 _ _) (F.newCall_zip_2 _ _) (fun obj => F.args_object_init_3 obj _ _) F.entry_zip_new (new_zip S1 S2 l1 l2 us1.toArray us2.toArray) ⟨p1, p2', ?_⟩
  generalize hn : s1.heap.objs.size = n
  have z1 : (zh1 S1 s1.heap l1).objs.size = n + 1 := by rw [Heap.size_push, hn]
  have z2 : (zh2 S1 S2 s1.heap l1 l2).objs.size = n + 2 := by rw [Heap.size_push, z1]
  have z3 : (zh3 S1 S2 s1.heap l1 l2).objs.size = n + 3 := by rw [Heap.size_push, z2]
  have z4 : (zh4 S1 S2 s1.heap l1 l2).objs.size = n + 4 := by rw [Heap.size_push, z3]
  have z5 : (zh5 S1 S2 s1.heap l1 l2).objs.size = n + 5 := by rw [Heap.size_push, z4]
  have g5 : (zh5 S1 S2 s1.heap l1 l2).get? (zh4 S1 S2 s1.heap l1 l2).objs.size = some _ := Heap.get?_push_size _ rfl
  have g4 : (zh5 S1 S2 s1.heap l1 l2).get? (zh3 S1 S2 s1.heap l1 l2).objs.size = some _ := Heap.get?_push_of_some _ (Heap.get?_push_size _ rfl)
  have g3 : (zh5 S1 S2 s1.heap l1 l2).get? (zh2 S1 S2 s1.heap l1 l2).objs.size = some _ := Heap.get?_push_of_some _ (Heap.get?_push_of_some _ (Heap.get?_push_size _ rfl))
  have g2 : (zh5 S1 S2 s1.heap l1 l2).get? (zh1 S1 s1.heap l1).objs.size = some _ := Heap.get?_push_of_some _ (Heap.get?_push_of_some _ (Heap.get?_push_of_some _ (Heap.get?_push_size _ rfl)))
  have g1 : (zh5 S1 S2 s1.heap l1 l2).get? s1.heap.objs.size = some _ := Heap.get?_push_of_some _ (Heap.get?_push_of_some _ (Heap.get?_push_of_some _ (Heap.get?_push_of_some _ (Heap.get?_push_size _ rfl))))
  have kp : ∀ c o, s1.heap.get? c = some o → (zh5 S1 S2 s1.heap l1 l2).get? c = some o := fun c o e =>
    Heap.get?_push_of_some _ (Heap.get?_push_of_some _ (Heap.get?_push_of_some _ (Heap.get?_push_of_some _ (Heap.get?_push_of_some _ e))))
  show _ ∧ _
  rw [z2, z3, z4] at g5
  rw [z1, z2, hn] at g3
  rw [z3] at g4
  rw [z1] at g2
  rw [hn] at g1
  rw [z4]
  refine ⟨⟨_, g5, rfl⟩, Calls.spliced_nil ?_⟩
  have lt1 : l1 < n := by
    obtain ⟨o, _, ho, _⟩ := S1.isSeq p1
    rw [← hn]; exact Heap.lt_size ho
  have lt2 : l2 < n := by
    obtain ⟨o, _, ho, _⟩ := S2.isSeq p2'
    rw [← hn]; exact Heap.lt_size ho
  have five : ∀ c : Nat, c ∈ [n + 4, n + 2, n + 3, n, n + 1] → n ≤ c ∧ c < n + 5 := fun c hc => by
    simp only [List.mem_cons, List.not_mem_nil, or_false] at hc
    omega
  have nel : ∀ l c : Nat, l < n → n ≤ c → c ≠ l := fun l c h1 h2 => by omega
  have Z : ZApart (n + 4) (n + 2) (n + 3) n (n + 1) [n, l1] [n + 1, l2] := zap (by simp) (fun c hc => nel l1 c lt1 (five c hc).1) (fun c hc => nel l2 c lt2 (five c hc).1)
  have is1 : S1.Is (zh5 S1 S2 s1.heap l1 l2) l1 us1.toArray := S1.isKeep p1 fun o e => kp _ _ e
  have is2 : S2.Is (zh5 S1 S2 s1.heap l1 l2) l2 us2.toArray := S2.isKeep p2' fun o e => kp _ _ e
  refine zip_call (s := { s1 with heap := zh5 S1 S2 s1.heap l1 l2 }) (n1 := us1.toArray.size) (n2 := us2.toArray.size) (I1.ok.hd hc) Z (fun A' hA => S1.draws hA n l1 (nel l1 n lt1 (Nat.le_refl _)).symm us1.toArray) (fun A' hA => S2.draws hA (n + 1) l2 (nel l2 (n + 1) lt2 (Nat.le_succ _)).symm us2.toArray) ?_ ?_ ?_ ?_ g5 g4 g3 ⟨S1.mkI g1 rfl rfl, is1⟩ ⟨S2.mkI g2 rfl rfl, is2⟩ ?_
  · have := rv1.length
    simp only [List.size_toArray]
    rw [sizeLine_eq]
    omega
  · intro c hc
    show c < (zh5 S1 S2 s1.heap l1 l2).objs.size
    rw [z5]
    exact (five c hc).2
  · intro c hc
    show c < (zh5 S1 S2 s1.heap l1 l2).objs.size
    rw [z5]
    rcases List.mem_cons.mp hc with rfl | hc
    · exact Nat.lt_add_of_pos_right (by decide)
    · rw [List.mem_singleton.mp hc]; exact Nat.lt_of_lt_of_le lt1 (Nat.le_add_right _ _)
  · intro c hc
    show c < (zh5 S1 S2 s1.heap l1 l2).objs.size
    rw [z5]
    rcases List.mem_cons.mp hc with rfl | hc
    · exact Nat.add_lt_add_left (by decide) n
    · rw [List.mem_singleton.mp hc]; exact Nat.lt_of_lt_of_le lt2 (Nat.le_add_right _ _)
  intro h' tk acc c ts hk hS' hl hG hacc
  have hS'' : h'.get? (n + 5) = some { cls := .type "list", dict := none, data := .seq acc c, slots := #[] } := by rw [← z5]; exact hS'
  have hG' : ZTs (fun i v => us1.toArray[i]? = some v) (fun i v => us2.toArray[i]? = some v) (n + 5 + 1) h' ts := by rw [← z5]; exact hG
  have hl' : ts.length = min us1.length us2.length := by simpa using hl
  have G := zip_rel rv1 rv2 hl' hG'
  have old : ∀ b o, s1.heap.get? b = some o → h'.get? b = some o := fun b o e => hk b o (fun hm => by
    have := Heap.lt_size e
    rw [hn] at this
    exact absurd (five b hm).1 (Nat.not_le.mpr this)) (kp b o e)
  -- what is tracked behind it
  have l1' := rv1.length
  have l2' := rv2.length
  let H' : Hp := fun b => if b = n + 5 then some (.lst (ts.map V.ref)) else match ts.findIdx? (· == b) with
    | some i => (match xs[i]?, ys[i]? with | some x, some y => some (.tup [x, y]) | _, _ => H1 b)
    | none => H1 b
  have big : ∀ (i : Nat) (t : Addr), ts[i]? = some t → n + 6 ≤ t := fun i t ht => (G i t ht).1
  have Hts : ∀ (i : Nat) (t : Addr), ts[i]? = some t → ∃ x y u v, H' t = some (.tup [x, y]) ∧ xs[i]? = some x ∧ ys[i]? = some y ∧ RelV x u ∧ RelV y v ∧ IsPair h' t u v := by
    intro i t ht
    obtain ⟨hlo, x, y, u, v, hx, hy, rx, ry, e⟩ := G i t ht
    refine ⟨x, y, u, v, ?_, hx, hy, rx, ry, e⟩
    have net : t ≠ n + 5 := fun q => by rw [q] at hlo; exact absurd hlo (Nat.not_le.mpr (Nat.lt_succ_self _))
    show (if t = n + 5 then _ else _) = _
    rw [if_neg net]
    cases hf : ts.findIdx? (· == t) with
    | none =>
      have := List.findIdx?_eq_none_iff.mp hf t (List.mem_of_getElem? ht)
      simp at this
    | some i0 =>
      obtain ⟨h0, h1, _⟩ := List.findIdx?_eq_some_iff_getElem.mp hf
      have ht0 : ts[i0]? = some t := by rw [List.getElem?_eq_getElem h0]; congr 1; exact eq_of_beq h1
      obtain ⟨_, x0, y0, u0, v0, hx0, hy0, rx0, ry0, e0⟩ := G i0 t ht0
      have eq := Option.some.inj (e0.symm.trans e)
      have eu : u0 = u ∧ v0 = v := by
        injection eq with _ _ eq
        injection eq with eq _
        simp at eq
        exact eq
      rw [eu.1] at rx0
      rw [eu.2] at ry0
      simp only [hx0, hy0]
      rw [rel_uniq rx0 rx, rel_uniq ry0 ry]
  have hH : ∀ b, b < s1.heap.objs.size → H' b = H1 b := by
    intro b hb
    rw [hn] at hb
    have ne5 : b ≠ n + 5 := fun q => by rw [q] at hb; exact absurd hb (Nat.not_lt.mpr (Nat.le_add_right _ _))
    show (if b = n + 5 then _ else _) = _
    rw [if_neg ne5]
    cases hf : ts.findIdx? (· == b) with
    | none => rfl
    | some i0 =>
      obtain ⟨h0, h1, _⟩ := List.findIdx?_eq_some_iff_getElem.mp hf
      have ht0 : ts[i0]? = some b := by rw [List.getElem?_eq_getElem h0]; congr 1; exact eq_of_beq h1
      have := big i0 b ht0
      exact absurd (Nat.lt_of_lt_of_le hb (Nat.le_trans (Nat.le_add_right _ _) this)) (Nat.lt_irrefl _)
  have e5 : H' (n + 5) = some (.lst (ts.map V.ref)) := if_pos rfl
  have hvals : Vals (ts.map V.ref) acc.toList := by
    have go : ∀ l : List Addr, Vals (l.map V.ref) (l.map Value.ref) := fun l => by
      induction l with
      | nil => exact .nil
      | cons t r ih => exact .cons rfl ih
    rw [hacc]
    exact go ts
  have I2 : Inv X pins σ H' { s1 with heap := h', toks := tk } := I1.news old hH fun a o ha eo => by
    by_cases c5 : a = n + 5
    · subst c5
      rw [e5] at eo
      cases eo
      refine ⟨?_, acc.toList, c, hvals, by simpa using hS''⟩
      rw [List.length_map, hl', sizeLine_eq]
      omega
    · have eo' : (match ts.findIdx? (· == a) with
        | some i => (match xs[i]?, ys[i]? with | some x, some y => some (HO.tup [x, y]) | _, _ => H1 a)
        | none => H1 a) = some o := by
        have : H' a = some o := eo
        rw [show H' a = (if a = n + 5 then some (.lst (ts.map V.ref)) else match ts.findIdx? (· == a) with
          | some i => (match xs[i]?, ys[i]? with | some x, some y => some (.tup [x, y]) | _, _ => H1 a)
          | none => H1 a) from rfl, if_neg c5] at this
        exact this
      have hfr : H1 a = none := I1.hok.fresh ha
      cases hf : ts.findIdx? (· == a) with
      | none => rw [hf] at eo'; rw [show H1 a = some o from eo'] at hfr; cases hfr
      | some i0 =>
        obtain ⟨h0, h1, _⟩ := List.findIdx?_eq_some_iff_getElem.mp hf
        have ht0 : ts[i0]? = some a := by rw [List.getElem?_eq_getElem h0]; congr 1; exact eq_of_beq h1
        obtain ⟨_, x0, y0, u0, v0, hx0, hy0, rx0, ry0, e0⟩ := G i0 a ht0
        rw [hf] at eo'
        simp only [hx0, hy0] at eo'
        cases eo'
        exact ⟨(by show 2 ≤ sizeLine; decide), [u0, v0], .cons rx0 (.cons ry0 .nil), _, e0, rfl, ⟨0, rfl⟩, rfl⟩
  have hp5 : H1 (n + 5) = none := I1.hok.fresh (by rw [hn]; exact Nat.le_add_right _ _)
  have hsame : Same H1 H' := fun b o eb => by
    rw [hH b (I1.hok.lt eb)]
    exact eb
  show ∃ v H', _ ∧ _ ∧ _
  refine ⟨.ref (n + 5), H', I2, by rw [← z5]; rfl, q _ _ hp5 hsame ⟨ts, e5, ?_⟩⟩
  have go : ∀ (l : List Addr) (m : List (V × V)), l.length = m.length → (∀ (i : Nat) (t : Addr) (pq : V × V), l[i]? = some t → m[i]? = some pq → H' t = some (.tup [pq.1, pq.2])) → PairsAt H' l m := by
    intro l
    induction l with
    | nil => intro m hl _; cases m with
      | nil => exact .nil
      | cons _ _ => simp at hl
    | cons t r ih => intro m hl hh; cases m with
      | nil => simp at hl
      | cons pq m => exact .cons (hh 0 t pq rfl rfl) (ih m (by simpa using hl) fun i t pq h1 h2 => hh (i + 1) t pq h1 h2)
  refine go _ _ (by rw [List.length_zip]; omega) fun i t pq ht hpq => ?_
  obtain ⟨x, y, u, v, e, hx, hy, _⟩ := Hts i t ht
  rw [e]
  have : (xs.zip ys)[i]? = some (x, y) := by rw [List.getElem?_zip_eq_some]; exact ⟨hx, hy⟩
  rw [this] at hpq
  cases hpq
  rfl
end
end L2

end

set_option Elab.async false
set_option linter.all false
set_option maxRecDepth 100000
set_option maxHeartbeats 4000000
namespace Kc_k34
open PySem L2 PyProof.Rows
seal L2.PE L2.PA L2.PS L2.PSs L2.PT L2.PW L2.PI L2.PG L2.PGs L2.PO L2.PTL L2.OpR L2.UnR L2.CallR L2.SlR L2.IxR L2.PSet
noncomputable def top (i : Nat) : Stmt := PySem.Challenge.pw_knowcards_k34_cards_shown.main.body.getD i (.Pass ⟨0, 0, 0, 0⟩)
noncomputable abbrev S_is_whole : Stmt := top 7
theorem sc_is_whole : FnScope ["thing"] ["thing"] (defScope S_is_whole) := ⟨rfl, rfl, rfl, by decide +kernel, rfl, by decide +kernel, by decide +kernel⟩
theorem v_is_whole_0 : VarAt ["thing"] (defScope S_is_whole) 0 "thing" := ⟨rfl, by first | exact Or.inl rfl | exact Or.inr (Or.inl rfl) | exact Or.inr (Or.inr rfl), by decide, by decide⟩
noncomputable abbrev S_is_within : Stmt := top 8
theorem sc_is_within : FnScope ["thing", "least", "most"] ["thing", "least", "most"] (defScope S_is_within) := ⟨rfl, rfl, rfl, by decide +kernel, rfl, by decide +kernel, by decide +kernel⟩
theorem v_is_within_0 : VarAt ["thing", "least", "most"] (defScope S_is_within) 0 "thing" := ⟨rfl, by first | exact Or.inl rfl | exact Or.inr (Or.inl rfl) | exact Or.inr (Or.inr rfl), by decide, by decide⟩
theorem v_is_within_1 : VarAt ["thing", "least", "most"] (defScope S_is_within) 1 "least" := ⟨rfl, by first | exact Or.inl rfl | exact Or.inr (Or.inl rfl) | exact Or.inr (Or.inr rfl), by decide, by decide⟩
theorem v_is_within_2 : VarAt ["thing", "least", "most"] (defScope S_is_within) 2 "most" := ⟨rfl, by first | exact Or.inl rfl | exact Or.inr (Or.inl rfl) | exact Or.inr (Or.inr rfl), by decide, by decide⟩
noncomputable abbrev S_is_below : Stmt := top 9
theorem sc_is_below : FnScope ["thing", "bound"] ["thing", "bound"] (defScope S_is_below) := ⟨rfl, rfl, rfl, by decide +kernel, rfl, by decide +kernel, by decide +kernel⟩
theorem v_is_below_0 : VarAt ["thing", "bound"] (defScope S_is_below) 0 "thing" := ⟨rfl, by first | exact Or.inl rfl | exact Or.inr (Or.inl rfl) | exact Or.inr (Or.inr rfl), by decide, by decide⟩
theorem v_is_below_1 : VarAt ["thing", "bound"] (defScope S_is_below) 1 "bound" := ⟨rfl, by first | exact Or.inl rfl | exact Or.inr (Or.inl rfl) | exact Or.inr (Or.inr rfl), by decide, by decide⟩
noncomputable abbrev S_is_pack : Stmt := top 14
theorem sc_is_pack : FnScope ["cards", "sizes"] ["cards", "sizes"] (defScope S_is_pack) := ⟨rfl, rfl, rfl, by decide +kernel, rfl, by decide +kernel, by decide +kernel⟩
theorem v_is_pack_0 : VarAt ["cards", "sizes"] (defScope S_is_pack) 0 "cards" := ⟨rfl, by first | exact Or.inl rfl | exact Or.inr (Or.inl rfl) | exact Or.inr (Or.inr rfl), by decide, by decide⟩
theorem v_is_pack_1 : VarAt ["cards", "sizes"] (defScope S_is_pack) 1 "sizes" := ⟨rfl, by first | exact Or.inl rfl | exact Or.inr (Or.inl rfl) | exact Or.inr (Or.inr rfl), by decide, by decide⟩
noncomputable abbrev S_how_many : Stmt := top 15
theorem sc_how_many : FnScope ["cards", "sizes", "many", "left", "size"] ["cards", "sizes"] (defScope S_how_many) := ⟨rfl, rfl, rfl, by decide +kernel, rfl, by decide +kernel, by decide +kernel⟩
theorem v_how_many_0 : VarAt ["cards", "sizes", "many", "left", "size"] (defScope S_how_many) 0 "cards" := ⟨rfl, by first | exact Or.inl rfl | exact Or.inr (Or.inl rfl) | exact Or.inr (Or.inr rfl), by decide, by decide⟩
theorem v_how_many_1 : VarAt ["cards", "sizes", "many", "left", "size"] (defScope S_how_many) 1 "sizes" := ⟨rfl, by first | exact Or.inl rfl | exact Or.inr (Or.inl rfl) | exact Or.inr (Or.inr rfl), by decide, by decide⟩
theorem v_how_many_2 : VarAt ["cards", "sizes", "many", "left", "size"] (defScope S_how_many) 2 "many" := ⟨rfl, by first | exact Or.inl rfl | exact Or.inr (Or.inl rfl) | exact Or.inr (Or.inr rfl), by decide, by decide⟩
theorem v_how_many_3 : VarAt ["cards", "sizes", "many", "left", "size"] (defScope S_how_many) 3 "left" := ⟨rfl, by first | exact Or.inl rfl | exact Or.inr (Or.inl rfl) | exact Or.inr (Or.inr rfl), by decide, by decide⟩
theorem v_how_many_4 : VarAt ["cards", "sizes", "many", "left", "size"] (defScope S_how_many) 4 "size" := ⟨rfl, by first | exact Or.inl rfl | exact Or.inr (Or.inl rfl) | exact Or.inr (Or.inr rfl), by decide, by decide⟩
noncomputable abbrev S_choices : Stmt := top 16
theorem sc_choices : FnScope ["many", "taken", "ways", "step"] ["many", "taken"] (defScope S_choices) := ⟨rfl, rfl, rfl, by decide +kernel, rfl, by decide +kernel, by decide +kernel⟩
theorem v_choices_0 : VarAt ["many", "taken", "ways", "step"] (defScope S_choices) 0 "many" := ⟨rfl, by first | exact Or.inl rfl | exact Or.inr (Or.inl rfl) | exact Or.inr (Or.inr rfl), by decide, by decide⟩
theorem v_choices_1 : VarAt ["many", "taken", "ways", "step"] (defScope S_choices) 1 "taken" := ⟨rfl, by first | exact Or.inl rfl | exact Or.inr (Or.inl rfl) | exact Or.inr (Or.inr rfl), by decide, by decide⟩
theorem v_choices_2 : VarAt ["many", "taken", "ways", "step"] (defScope S_choices) 2 "ways" := ⟨rfl, by first | exact Or.inl rfl | exact Or.inr (Or.inl rfl) | exact Or.inr (Or.inr rfl), by decide, by decide⟩
theorem v_choices_3 : VarAt ["many", "taken", "ways", "step"] (defScope S_choices) 3 "step" := ⟨rfl, by first | exact Or.inl rfl | exact Or.inr (Or.inl rfl) | exact Or.inr (Or.inr rfl), by decide, by decide⟩
noncomputable abbrev S_deals_of : Stmt := top 17
theorem sc_deals_of : FnScope ["cards", "sizes", "room", "begun", "card"] ["cards", "sizes"] (defScope S_deals_of) := ⟨rfl, rfl, rfl, by decide +kernel, rfl, by decide +kernel, by decide +kernel⟩
theorem v_deals_of_0 : VarAt ["cards", "sizes", "room", "begun", "card"] (defScope S_deals_of) 0 "cards" := ⟨rfl, by first | exact Or.inl rfl | exact Or.inr (Or.inl rfl) | exact Or.inr (Or.inr rfl), by decide, by decide⟩
theorem v_deals_of_1 : VarAt ["cards", "sizes", "room", "begun", "card"] (defScope S_deals_of) 1 "sizes" := ⟨rfl, by first | exact Or.inl rfl | exact Or.inr (Or.inl rfl) | exact Or.inr (Or.inr rfl), by decide, by decide⟩
theorem v_deals_of_2 : VarAt ["cards", "sizes", "room", "begun", "card"] (defScope S_deals_of) 2 "room" := ⟨rfl, by first | exact Or.inl rfl | exact Or.inr (Or.inl rfl) | exact Or.inr (Or.inr rfl), by decide, by decide⟩
theorem v_deals_of_3 : VarAt ["cards", "sizes", "room", "begun", "card"] (defScope S_deals_of) 3 "begun" := ⟨rfl, by first | exact Or.inl rfl | exact Or.inr (Or.inl rfl) | exact Or.inr (Or.inr rfl), by decide, by decide⟩
noncomputable abbrev S_with_one_more : Stmt := top 18
theorem sc_with_one_more : FnScope ["begun", "room", "longer", "deal", "who", "most"] ["begun", "room"] (defScope S_with_one_more) := ⟨rfl, rfl, rfl, by decide +kernel, rfl, by decide +kernel, by decide +kernel⟩
theorem v_with_one_more_0 : VarAt ["begun", "room", "longer", "deal", "who", "most"] (defScope S_with_one_more) 0 "begun" := ⟨rfl, by first | exact Or.inl rfl | exact Or.inr (Or.inl rfl) | exact Or.inr (Or.inr rfl), by decide, by decide⟩
theorem v_with_one_more_1 : VarAt ["begun", "room", "longer", "deal", "who", "most"] (defScope S_with_one_more) 1 "room" := ⟨rfl, by first | exact Or.inl rfl | exact Or.inr (Or.inl rfl) | exact Or.inr (Or.inr rfl), by decide, by decide⟩
theorem v_with_one_more_2 : VarAt ["begun", "room", "longer", "deal", "who", "most"] (defScope S_with_one_more) 2 "longer" := ⟨rfl, by first | exact Or.inl rfl | exact Or.inr (Or.inl rfl) | exact Or.inr (Or.inr rfl), by decide, by decide⟩
theorem v_with_one_more_3 : VarAt ["begun", "room", "longer", "deal", "who", "most"] (defScope S_with_one_more) 3 "deal" := ⟨rfl, by first | exact Or.inl rfl | exact Or.inr (Or.inl rfl) | exact Or.inr (Or.inr rfl), by decide, by decide⟩
theorem v_with_one_more_4 : VarAt ["begun", "room", "longer", "deal", "who", "most"] (defScope S_with_one_more) 4 "who" := ⟨rfl, by first | exact Or.inl rfl | exact Or.inr (Or.inl rfl) | exact Or.inr (Or.inr rfl), by decide, by decide⟩
theorem v_with_one_more_5 : VarAt ["begun", "room", "longer", "deal", "who", "most"] (defScope S_with_one_more) 5 "most" := ⟨rfl, by first | exact Or.inl rfl | exact Or.inr (Or.inl rfl) | exact Or.inr (Or.inr rfl), by decide, by decide⟩
noncomputable abbrev S_cards_of : Stmt := top 19
theorem sc_cards_of : FnScope ["deal", "who"] ["deal", "who"] (defScope S_cards_of) := ⟨rfl, rfl, rfl, by decide +kernel, rfl, by decide +kernel, by decide +kernel⟩
theorem v_cards_of_0 : VarAt ["deal", "who"] (defScope S_cards_of) 0 "deal" := ⟨rfl, by first | exact Or.inl rfl | exact Or.inr (Or.inl rfl) | exact Or.inr (Or.inr rfl), by decide, by decide⟩
noncomputable abbrev S_first_view : Stmt := top 21
theorem sc_first_view : FnScope ["deals", "hand"] ["deals", "hand"] (defScope S_first_view) := ⟨rfl, rfl, rfl, by decide +kernel, rfl, by decide +kernel, by decide +kernel⟩
theorem v_first_view_0 : VarAt ["deals", "hand"] (defScope S_first_view) 0 "deals" := ⟨rfl, by first | exact Or.inl rfl | exact Or.inr (Or.inl rfl) | exact Or.inr (Or.inr rfl), by decide, by decide⟩
noncomputable abbrev S_split : Stmt := top 22
theorem sc_split : FnScope ["view", "values"] ["view", "values"] (defScope S_split) := ⟨rfl, rfl, rfl, by decide +kernel, rfl, by decide +kernel, by decide +kernel⟩
theorem v_split_0 : VarAt ["view", "values"] (defScope S_split) 0 "view" := ⟨rfl, by first | exact Or.inl rfl | exact Or.inr (Or.inl rfl) | exact Or.inr (Or.inr rfl), by decide, by decide⟩
theorem v_split_1 : VarAt ["view", "values"] (defScope S_split) 1 "values" := ⟨rfl, by first | exact Or.inl rfl | exact Or.inr (Or.inl rfl) | exact Or.inr (Or.inr rfl), by decide, by decide⟩
noncomputable abbrev S_least_with_same : Stmt := top 23
theorem sc_least_with_same : FnScope ["marks", "firsts", "thing", "mark"] ["marks"] (defScope S_least_with_same) := ⟨rfl, rfl, rfl, by decide +kernel, rfl, by decide +kernel, by decide +kernel⟩
theorem v_least_with_same_0 : VarAt ["marks", "firsts", "thing", "mark"] (defScope S_least_with_same) 0 "marks" := ⟨rfl, by first | exact Or.inl rfl | exact Or.inr (Or.inl rfl) | exact Or.inr (Or.inr rfl), by decide, by decide⟩
theorem v_least_with_same_1 : VarAt ["marks", "firsts", "thing", "mark"] (defScope S_least_with_same) 1 "firsts" := ⟨rfl, by first | exact Or.inl rfl | exact Or.inr (Or.inl rfl) | exact Or.inr (Or.inr rfl), by decide, by decide⟩
theorem v_least_with_same_2 : VarAt ["marks", "firsts", "thing", "mark"] (defScope S_least_with_same) 2 "thing" := ⟨rfl, by first | exact Or.inl rfl | exact Or.inr (Or.inl rfl) | exact Or.inr (Or.inr rfl), by decide, by decide⟩
theorem v_least_with_same_3 : VarAt ["marks", "firsts", "thing", "mark"] (defScope S_least_with_same) 3 "mark" := ⟨rfl, by first | exact Or.inl rfl | exact Or.inr (Or.inl rfl) | exact Or.inr (Or.inr rfl), by decide, by decide⟩
noncomputable abbrev S_refuse_unless : Stmt := top 26
theorem sc_refuse_unless : FnScope ["fit", "reason"] ["fit", "reason"] (defScope S_refuse_unless) := ⟨rfl, rfl, rfl, by decide +kernel, rfl, by decide +kernel, by decide +kernel⟩
theorem v_refuse_unless_0 : VarAt ["fit", "reason"] (defScope S_refuse_unless) 0 "fit" := ⟨rfl, by first | exact Or.inl rfl | exact Or.inr (Or.inl rfl) | exact Or.inr (Or.inr rfl), by decide, by decide⟩
noncomputable abbrev S_are_cards : Stmt := top 27
theorem sc_are_cards : FnScope ["thing", "cards"] ["thing", "cards"] (defScope S_are_cards) := ⟨rfl, rfl, rfl, by decide +kernel, rfl, by decide +kernel, by decide +kernel⟩
theorem v_are_cards_0 : VarAt ["thing", "cards"] (defScope S_are_cards) 0 "thing" := ⟨rfl, by first | exact Or.inl rfl | exact Or.inr (Or.inl rfl) | exact Or.inr (Or.inr rfl), by decide, by decide⟩
noncomputable abbrev S_least_held : Stmt := top 28
theorem sc_least_held : FnScope ["deal", "holder", "rising", "card"] ["deal", "holder", "rising"] (defScope S_least_held) := ⟨rfl, rfl, rfl, by decide +kernel, rfl, by decide +kernel, by decide +kernel⟩
theorem v_least_held_0 : VarAt ["deal", "holder", "rising", "card"] (defScope S_least_held) 0 "deal" := ⟨rfl, by first | exact Or.inl rfl | exact Or.inr (Or.inl rfl) | exact Or.inr (Or.inr rfl), by decide, by decide⟩
theorem v_least_held_1 : VarAt ["deal", "holder", "rising", "card"] (defScope S_least_held) 1 "holder" := ⟨rfl, by first | exact Or.inl rfl | exact Or.inr (Or.inl rfl) | exact Or.inr (Or.inr rfl), by decide, by decide⟩
theorem v_least_held_2 : VarAt ["deal", "holder", "rising", "card"] (defScope S_least_held) 2 "rising" := ⟨rfl, by first | exact Or.inl rfl | exact Or.inr (Or.inl rfl) | exact Or.inr (Or.inr rfl), by decide, by decide⟩
theorem v_least_held_3 : VarAt ["deal", "holder", "rising", "card"] (defScope S_least_held) 3 "card" := ⟨rfl, by first | exact Or.inl rfl | exact Or.inr (Or.inl rfl) | exact Or.inr (Or.inr rfl), by decide, by decide⟩
noncomputable abbrev S__law_cell : Stmt := top 30
theorem sc__law_cell : FnScope ["_law_script", "_law_k", "_law_number"] ["_law_script", "_law_k"] (defScope S__law_cell) := ⟨rfl, rfl, rfl, by decide +kernel, rfl, by decide +kernel, by decide +kernel⟩
theorem v__law_cell_0 : VarAt ["_law_script", "_law_k", "_law_number"] (defScope S__law_cell) 0 "_law_script" := ⟨rfl, by first | exact Or.inl rfl | exact Or.inr (Or.inl rfl) | exact Or.inr (Or.inr rfl), by decide, by decide⟩
theorem v__law_cell_1 : VarAt ["_law_script", "_law_k", "_law_number"] (defScope S__law_cell) 1 "_law_k" := ⟨rfl, by first | exact Or.inl rfl | exact Or.inr (Or.inl rfl) | exact Or.inr (Or.inr rfl), by decide, by decide⟩
theorem v__law_cell_2 : VarAt ["_law_script", "_law_k", "_law_number"] (defScope S__law_cell) 2 "_law_number" := ⟨rfl, by first | exact Or.inl rfl | exact Or.inr (Or.inl rfl) | exact Or.inr (Or.inr rfl), by decide, by decide⟩
noncomputable abbrev S__law_product : Stmt := top 31
theorem sc__law_product : FnScope ["_law_many", "_law_found", "_law_k"] ["_law_many"] (defScope S__law_product) := ⟨rfl, rfl, rfl, by decide +kernel, rfl, by decide +kernel, by decide +kernel⟩
theorem v__law_product_0 : VarAt ["_law_many", "_law_found", "_law_k"] (defScope S__law_product) 0 "_law_many" := ⟨rfl, by first | exact Or.inl rfl | exact Or.inr (Or.inl rfl) | exact Or.inr (Or.inr rfl), by decide, by decide⟩
theorem v__law_product_1 : VarAt ["_law_many", "_law_found", "_law_k"] (defScope S__law_product) 1 "_law_found" := ⟨rfl, by first | exact Or.inl rfl | exact Or.inr (Or.inl rfl) | exact Or.inr (Or.inr rfl), by decide, by decide⟩
theorem v__law_product_2 : VarAt ["_law_many", "_law_found", "_law_k"] (defScope S__law_product) 2 "_law_k" := ⟨rfl, by first | exact Or.inl rfl | exact Or.inr (Or.inl rfl) | exact Or.inr (Or.inr rfl), by decide, by decide⟩
noncomputable abbrev S__law_count : Stmt := top 32
theorem sc__law_count : FnScope ["_law_cards", "_law_sizes", "_law_found", "_law_many"] ["_law_cards", "_law_sizes"] (defScope S__law_count) := ⟨rfl, rfl, rfl, by decide +kernel, rfl, by decide +kernel, by decide +kernel⟩
theorem v__law_count_0 : VarAt ["_law_cards", "_law_sizes", "_law_found", "_law_many"] (defScope S__law_count) 0 "_law_cards" := ⟨rfl, by first | exact Or.inl rfl | exact Or.inr (Or.inl rfl) | exact Or.inr (Or.inr rfl), by decide, by decide⟩
theorem v__law_count_1 : VarAt ["_law_cards", "_law_sizes", "_law_found", "_law_many"] (defScope S__law_count) 1 "_law_sizes" := ⟨rfl, by first | exact Or.inl rfl | exact Or.inr (Or.inl rfl) | exact Or.inr (Or.inr rfl), by decide, by decide⟩
theorem v__law_count_2 : VarAt ["_law_cards", "_law_sizes", "_law_found", "_law_many"] (defScope S__law_count) 2 "_law_found" := ⟨rfl, by first | exact Or.inl rfl | exact Or.inr (Or.inl rfl) | exact Or.inr (Or.inr rfl), by decide, by decide⟩
theorem v__law_count_3 : VarAt ["_law_cards", "_law_sizes", "_law_found", "_law_many"] (defScope S__law_count) 3 "_law_many" := ⟨rfl, by first | exact Or.inl rfl | exact Or.inr (Or.inl rfl) | exact Or.inr (Or.inr rfl), by decide, by decide⟩
noncomputable abbrev S__law_pack : Stmt := top 33
theorem sc__law_pack : FnScope ["_law_script", "_law_at", "_law_most", "_law_cards", "_law_sizes", "_law_k"] ["_law_script", "_law_at", "_law_most"] (defScope S__law_pack) := ⟨rfl, rfl, rfl, by decide +kernel, rfl, by decide +kernel, by decide +kernel⟩
theorem v__law_pack_0 : VarAt ["_law_script", "_law_at", "_law_most", "_law_cards", "_law_sizes", "_law_k"] (defScope S__law_pack) 0 "_law_script" := ⟨rfl, by first | exact Or.inl rfl | exact Or.inr (Or.inl rfl) | exact Or.inr (Or.inr rfl), by decide, by decide⟩
theorem v__law_pack_1 : VarAt ["_law_script", "_law_at", "_law_most", "_law_cards", "_law_sizes", "_law_k"] (defScope S__law_pack) 1 "_law_at" := ⟨rfl, by first | exact Or.inl rfl | exact Or.inr (Or.inl rfl) | exact Or.inr (Or.inr rfl), by decide, by decide⟩
theorem v__law_pack_2 : VarAt ["_law_script", "_law_at", "_law_most", "_law_cards", "_law_sizes", "_law_k"] (defScope S__law_pack) 2 "_law_most" := ⟨rfl, by first | exact Or.inl rfl | exact Or.inr (Or.inl rfl) | exact Or.inr (Or.inr rfl), by decide, by decide⟩
theorem v__law_pack_3 : VarAt ["_law_script", "_law_at", "_law_most", "_law_cards", "_law_sizes", "_law_k"] (defScope S__law_pack) 3 "_law_cards" := ⟨rfl, by first | exact Or.inl rfl | exact Or.inr (Or.inl rfl) | exact Or.inr (Or.inr rfl), by decide, by decide⟩
theorem v__law_pack_4 : VarAt ["_law_script", "_law_at", "_law_most", "_law_cards", "_law_sizes", "_law_k"] (defScope S__law_pack) 4 "_law_sizes" := ⟨rfl, by first | exact Or.inl rfl | exact Or.inr (Or.inl rfl) | exact Or.inr (Or.inr rfl), by decide, by decide⟩
theorem v__law_pack_5 : VarAt ["_law_script", "_law_at", "_law_most", "_law_cards", "_law_sizes", "_law_k"] (defScope S__law_pack) 5 "_law_k" := ⟨rfl, by first | exact Or.inl rfl | exact Or.inr (Or.inl rfl) | exact Or.inr (Or.inr rfl), by decide, by decide⟩
noncomputable abbrev S__law_least : Stmt := top 34
theorem sc__law_least : FnScope ["_law_signs", "_law_first", "_law_found", "_law_place", "_law_sign"] ["_law_signs"] (defScope S__law_least) := ⟨rfl, rfl, rfl, by decide +kernel, rfl, by decide +kernel, by decide +kernel⟩
theorem v__law_least_0 : VarAt ["_law_signs", "_law_first", "_law_found", "_law_place", "_law_sign"] (defScope S__law_least) 0 "_law_signs" := ⟨rfl, by first | exact Or.inl rfl | exact Or.inr (Or.inl rfl) | exact Or.inr (Or.inr rfl), by decide, by decide⟩
theorem v__law_least_1 : VarAt ["_law_signs", "_law_first", "_law_found", "_law_place", "_law_sign"] (defScope S__law_least) 1 "_law_first" := ⟨rfl, by first | exact Or.inl rfl | exact Or.inr (Or.inl rfl) | exact Or.inr (Or.inr rfl), by decide, by decide⟩
theorem v__law_least_2 : VarAt ["_law_signs", "_law_first", "_law_found", "_law_place", "_law_sign"] (defScope S__law_least) 2 "_law_found" := ⟨rfl, by first | exact Or.inl rfl | exact Or.inr (Or.inl rfl) | exact Or.inr (Or.inr rfl), by decide, by decide⟩
theorem v__law_least_3 : VarAt ["_law_signs", "_law_first", "_law_found", "_law_place", "_law_sign"] (defScope S__law_least) 3 "_law_place" := ⟨rfl, by first | exact Or.inl rfl | exact Or.inr (Or.inl rfl) | exact Or.inr (Or.inr rfl), by decide, by decide⟩
theorem v__law_least_4 : VarAt ["_law_signs", "_law_first", "_law_found", "_law_place", "_law_sign"] (defScope S__law_least) 4 "_law_sign" := ⟨rfl, by first | exact Or.inl rfl | exact Or.inr (Or.inl rfl) | exact Or.inr (Or.inr rfl), by decide, by decide⟩
noncomputable abbrev S__law_shown : Stmt := top 36
theorem sc__law_shown : FnScope ["_law_deal", "_law_holder", "_law_some", "_law_found", "_law_card"] ["_law_deal", "_law_holder", "_law_some"] (defScope S__law_shown) := ⟨rfl, rfl, rfl, by decide +kernel, rfl, by decide +kernel, by decide +kernel⟩
theorem v__law_shown_0 : VarAt ["_law_deal", "_law_holder", "_law_some", "_law_found", "_law_card"] (defScope S__law_shown) 0 "_law_deal" := ⟨rfl, by first | exact Or.inl rfl | exact Or.inr (Or.inl rfl) | exact Or.inr (Or.inr rfl), by decide, by decide⟩
theorem v__law_shown_1 : VarAt ["_law_deal", "_law_holder", "_law_some", "_law_found", "_law_card"] (defScope S__law_shown) 1 "_law_holder" := ⟨rfl, by first | exact Or.inl rfl | exact Or.inr (Or.inl rfl) | exact Or.inr (Or.inr rfl), by decide, by decide⟩
theorem v__law_shown_2 : VarAt ["_law_deal", "_law_holder", "_law_some", "_law_found", "_law_card"] (defScope S__law_shown) 2 "_law_some" := ⟨rfl, by first | exact Or.inl rfl | exact Or.inr (Or.inl rfl) | exact Or.inr (Or.inr rfl), by decide, by decide⟩
theorem v__law_shown_3 : VarAt ["_law_deal", "_law_holder", "_law_some", "_law_found", "_law_card"] (defScope S__law_shown) 3 "_law_found" := ⟨rfl, by first | exact Or.inl rfl | exact Or.inr (Or.inl rfl) | exact Or.inr (Or.inr rfl), by decide, by decide⟩
theorem v__law_shown_4 : VarAt ["_law_deal", "_law_holder", "_law_some", "_law_found", "_law_card"] (defScope S__law_shown) 4 "_law_card" := ⟨rfl, by first | exact Or.inl rfl | exact Or.inr (Or.inl rfl) | exact Or.inr (Or.inr rfl), by decide, by decide⟩
noncomputable abbrev S__law_kinds : Stmt := top 37
theorem sc__law_kinds : FnScope ["_law_found"] ["_law_found"] (defScope S__law_kinds) := ⟨rfl, rfl, rfl, by decide +kernel, rfl, by decide +kernel, by decide +kernel⟩
theorem v__law_kinds_0 : VarAt ["_law_found"] (defScope S__law_kinds) 0 "_law_found" := ⟨rfl, by first | exact Or.inl rfl | exact Or.inr (Or.inl rfl) | exact Or.inr (Or.inr rfl), by decide, by decide⟩
noncomputable abbrev S_law : Stmt := top 38
theorem sc_law : FnScope ["_law_script", "_law_cards", "_law_sizes", "_law_hands", "_law_deals", "_law_views", "_law_hand", "_law_table", "_law_k", "_law_holder", "_law_some", "_law_due", "_law_handed", "_law_found", "_law_other"] ["_law_script"] (defScope S_law) := ⟨rfl, rfl, rfl, by decide +kernel, rfl, by decide +kernel, by decide +kernel⟩
theorem v_law_0 : VarAt ["_law_script", "_law_cards", "_law_sizes", "_law_hands", "_law_deals", "_law_views", "_law_hand", "_law_table", "_law_k", "_law_holder", "_law_some", "_law_due", "_law_handed", "_law_found", "_law_other"] (defScope S_law) 0 "_law_script" := ⟨rfl, by first | exact Or.inl rfl | exact Or.inr (Or.inl rfl) | exact Or.inr (Or.inr rfl), by decide, by decide⟩
theorem v_law_1 : VarAt ["_law_script", "_law_cards", "_law_sizes", "_law_hands", "_law_deals", "_law_views", "_law_hand", "_law_table", "_law_k", "_law_holder", "_law_some", "_law_due", "_law_handed", "_law_found", "_law_other"] (defScope S_law) 1 "_law_cards" := ⟨rfl, by first | exact Or.inl rfl | exact Or.inr (Or.inl rfl) | exact Or.inr (Or.inr rfl), by decide, by decide⟩
theorem v_law_2 : VarAt ["_law_script", "_law_cards", "_law_sizes", "_law_hands", "_law_deals", "_law_views", "_law_hand", "_law_table", "_law_k", "_law_holder", "_law_some", "_law_due", "_law_handed", "_law_found", "_law_other"] (defScope S_law) 2 "_law_sizes" := ⟨rfl, by first | exact Or.inl rfl | exact Or.inr (Or.inl rfl) | exact Or.inr (Or.inr rfl), by decide, by decide⟩
theorem v_law_3 : VarAt ["_law_script", "_law_cards", "_law_sizes", "_law_hands", "_law_deals", "_law_views", "_law_hand", "_law_table", "_law_k", "_law_holder", "_law_some", "_law_due", "_law_handed", "_law_found", "_law_other"] (defScope S_law) 3 "_law_hands" := ⟨rfl, by first | exact Or.inl rfl | exact Or.inr (Or.inl rfl) | exact Or.inr (Or.inr rfl), by decide, by decide⟩
theorem v_law_4 : VarAt ["_law_script", "_law_cards", "_law_sizes", "_law_hands", "_law_deals", "_law_views", "_law_hand", "_law_table", "_law_k", "_law_holder", "_law_some", "_law_due", "_law_handed", "_law_found", "_law_other"] (defScope S_law) 4 "_law_deals" := ⟨rfl, by first | exact Or.inl rfl | exact Or.inr (Or.inl rfl) | exact Or.inr (Or.inr rfl), by decide, by decide⟩
theorem v_law_5 : VarAt ["_law_script", "_law_cards", "_law_sizes", "_law_hands", "_law_deals", "_law_views", "_law_hand", "_law_table", "_law_k", "_law_holder", "_law_some", "_law_due", "_law_handed", "_law_found", "_law_other"] (defScope S_law) 5 "_law_views" := ⟨rfl, by first | exact Or.inl rfl | exact Or.inr (Or.inl rfl) | exact Or.inr (Or.inr rfl), by decide, by decide⟩
theorem v_law_6 : VarAt ["_law_script", "_law_cards", "_law_sizes", "_law_hands", "_law_deals", "_law_views", "_law_hand", "_law_table", "_law_k", "_law_holder", "_law_some", "_law_due", "_law_handed", "_law_found", "_law_other"] (defScope S_law) 6 "_law_hand" := ⟨rfl, by first | exact Or.inl rfl | exact Or.inr (Or.inl rfl) | exact Or.inr (Or.inr rfl), by decide, by decide⟩
theorem v_law_7 : VarAt ["_law_script", "_law_cards", "_law_sizes", "_law_hands", "_law_deals", "_law_views", "_law_hand", "_law_table", "_law_k", "_law_holder", "_law_some", "_law_due", "_law_handed", "_law_found", "_law_other"] (defScope S_law) 7 "_law_table" := ⟨rfl, by first | exact Or.inl rfl | exact Or.inr (Or.inl rfl) | exact Or.inr (Or.inr rfl), by decide, by decide⟩
theorem v_law_8 : VarAt ["_law_script", "_law_cards", "_law_sizes", "_law_hands", "_law_deals", "_law_views", "_law_hand", "_law_table", "_law_k", "_law_holder", "_law_some", "_law_due", "_law_handed", "_law_found", "_law_other"] (defScope S_law) 8 "_law_k" := ⟨rfl, by first | exact Or.inl rfl | exact Or.inr (Or.inl rfl) | exact Or.inr (Or.inr rfl), by decide, by decide⟩
theorem v_law_9 : VarAt ["_law_script", "_law_cards", "_law_sizes", "_law_hands", "_law_deals", "_law_views", "_law_hand", "_law_table", "_law_k", "_law_holder", "_law_some", "_law_due", "_law_handed", "_law_found", "_law_other"] (defScope S_law) 9 "_law_holder" := ⟨rfl, by first | exact Or.inl rfl | exact Or.inr (Or.inl rfl) | exact Or.inr (Or.inr rfl), by decide, by decide⟩
theorem v_law_10 : VarAt ["_law_script", "_law_cards", "_law_sizes", "_law_hands", "_law_deals", "_law_views", "_law_hand", "_law_table", "_law_k", "_law_holder", "_law_some", "_law_due", "_law_handed", "_law_found", "_law_other"] (defScope S_law) 10 "_law_some" := ⟨rfl, by first | exact Or.inl rfl | exact Or.inr (Or.inl rfl) | exact Or.inr (Or.inr rfl), by decide, by decide⟩
theorem v_law_11 : VarAt ["_law_script", "_law_cards", "_law_sizes", "_law_hands", "_law_deals", "_law_views", "_law_hand", "_law_table", "_law_k", "_law_holder", "_law_some", "_law_due", "_law_handed", "_law_found", "_law_other"] (defScope S_law) 11 "_law_due" := ⟨rfl, by first | exact Or.inl rfl | exact Or.inr (Or.inl rfl) | exact Or.inr (Or.inr rfl), by decide, by decide⟩
theorem v_law_12 : VarAt ["_law_script", "_law_cards", "_law_sizes", "_law_hands", "_law_deals", "_law_views", "_law_hand", "_law_table", "_law_k", "_law_holder", "_law_some", "_law_due", "_law_handed", "_law_found", "_law_other"] (defScope S_law) 12 "_law_handed" := ⟨rfl, by first | exact Or.inl rfl | exact Or.inr (Or.inl rfl) | exact Or.inr (Or.inr rfl), by decide, by decide⟩
theorem v_law_13 : VarAt ["_law_script", "_law_cards", "_law_sizes", "_law_hands", "_law_deals", "_law_views", "_law_hand", "_law_table", "_law_k", "_law_holder", "_law_some", "_law_due", "_law_handed", "_law_found", "_law_other"] (defScope S_law) 13 "_law_found" := ⟨rfl, by first | exact Or.inl rfl | exact Or.inr (Or.inl rfl) | exact Or.inr (Or.inr rfl), by decide, by decide⟩
theorem v_law_14 : VarAt ["_law_script", "_law_cards", "_law_sizes", "_law_hands", "_law_deals", "_law_views", "_law_hand", "_law_table", "_law_k", "_law_holder", "_law_some", "_law_due", "_law_handed", "_law_found", "_law_other"] (defScope S_law) 14 "_law_other" := ⟨rfl, by first | exact Or.inl rfl | exact Or.inr (Or.inl rfl) | exact Or.inr (Or.inr rfl), by decide, by decide⟩
noncomputable abbrev S_Table_init : Stmt := inClass (top 25) 0
theorem sc_Table_init : FnScope ["self", "cards", "sizes"] ["self", "cards", "sizes"] (defScope S_Table_init) := ⟨rfl, rfl, rfl, by decide +kernel, rfl, by decide +kernel, by decide +kernel⟩
theorem v_Table_init_0 : VarAt ["self", "cards", "sizes"] (defScope S_Table_init) 0 "self" := ⟨rfl, by first | exact Or.inl rfl | exact Or.inr (Or.inl rfl) | exact Or.inr (Or.inr rfl), by decide, by decide⟩
theorem v_Table_init_1 : VarAt ["self", "cards", "sizes"] (defScope S_Table_init) 1 "cards" := ⟨rfl, by first | exact Or.inl rfl | exact Or.inr (Or.inl rfl) | exact Or.inr (Or.inr rfl), by decide, by decide⟩
theorem v_Table_init_2 : VarAt ["self", "cards", "sizes"] (defScope S_Table_init) 2 "sizes" := ⟨rfl, by first | exact Or.inl rfl | exact Or.inr (Or.inl rfl) | exact Or.inr (Or.inr rfl), by decide, by decide⟩
noncomputable abbrev S_Table_view : Stmt := inClass (top 25) 2
theorem sc_Table_view : FnScope ["self", "hand"] ["self", "hand"] (defScope S_Table_view) := ⟨rfl, rfl, rfl, by decide +kernel, rfl, by decide +kernel, by decide +kernel⟩
theorem v_Table_view_0 : VarAt ["self", "hand"] (defScope S_Table_view) 0 "self" := ⟨rfl, by first | exact Or.inl rfl | exact Or.inr (Or.inl rfl) | exact Or.inr (Or.inr rfl), by decide, by decide⟩
theorem v_Table_view_1 : VarAt ["self", "hand"] (defScope S_Table_view) 1 "hand" := ⟨rfl, by first | exact Or.inl rfl | exact Or.inr (Or.inl rfl) | exact Or.inr (Or.inr rfl), by decide, by decide⟩
noncomputable abbrev S_Table_show : Stmt := inClass (top 25) 4
theorem sc_Table_show : FnScope ["self", "hand", "holder", "some", "rising"] ["self", "hand", "holder", "some"] (defScope S_Table_show) := ⟨rfl, rfl, rfl, by decide +kernel, rfl, by decide +kernel, by decide +kernel⟩
theorem v_Table_show_0 : VarAt ["self", "hand", "holder", "some", "rising"] (defScope S_Table_show) 0 "self" := ⟨rfl, by first | exact Or.inl rfl | exact Or.inr (Or.inl rfl) | exact Or.inr (Or.inr rfl), by decide, by decide⟩
theorem v_Table_show_1 : VarAt ["self", "hand", "holder", "some", "rising"] (defScope S_Table_show) 1 "hand" := ⟨rfl, by first | exact Or.inl rfl | exact Or.inr (Or.inl rfl) | exact Or.inr (Or.inr rfl), by decide, by decide⟩
theorem v_Table_show_2 : VarAt ["self", "hand", "holder", "some", "rising"] (defScope S_Table_show) 2 "holder" := ⟨rfl, by first | exact Or.inl rfl | exact Or.inr (Or.inl rfl) | exact Or.inr (Or.inr rfl), by decide, by decide⟩
theorem v_Table_show_3 : VarAt ["self", "hand", "holder", "some", "rising"] (defScope S_Table_show) 3 "some" := ⟨rfl, by first | exact Or.inl rfl | exact Or.inr (Or.inl rfl) | exact Or.inr (Or.inr rfl), by decide, by decide⟩
noncomputable abbrev S_Table_learn : Stmt := inClass (top 25) 8
theorem sc_Table_learn : FnScope ["self", "hands", "values", "hand"] ["self", "hands", "values"] (defScope S_Table_learn) := ⟨rfl, rfl, rfl, by decide +kernel, rfl, by decide +kernel, by decide +kernel⟩
theorem v_Table_learn_0 : VarAt ["self", "hands", "values", "hand"] (defScope S_Table_learn) 0 "self" := ⟨rfl, by first | exact Or.inl rfl | exact Or.inr (Or.inl rfl) | exact Or.inr (Or.inr rfl), by decide, by decide⟩
theorem v_Table_learn_1 : VarAt ["self", "hands", "values", "hand"] (defScope S_Table_learn) 1 "hands" := ⟨rfl, by first | exact Or.inl rfl | exact Or.inr (Or.inl rfl) | exact Or.inr (Or.inr rfl), by decide, by decide⟩
theorem v_Table_learn_2 : VarAt ["self", "hands", "values", "hand"] (defScope S_Table_learn) 2 "values" := ⟨rfl, by first | exact Or.inl rfl | exact Or.inr (Or.inl rfl) | exact Or.inr (Or.inr rfl), by decide, by decide⟩
theorem v_Table_learn_3 : VarAt ["self", "hands", "values", "hand"] (defScope S_Table_learn) 3 "hand" := ⟨rfl, by first | exact Or.inl rfl | exact Or.inr (Or.inl rfl) | exact Or.inr (Or.inr rfl), by decide, by decide⟩
section
variable {P : Program} {w : World} {K : PySem.W.Frag} {mg : Str → Option Value} {base : Heap}
theorem ok_is_whole {f : Addr} {fd : FuncData} (D : Def K mg "is_whole" S_is_whole ["thing"] f fd) (B : Blt mg) : FnB P w K mg base 1 "is_whole" ["thing"] (sp_is_whole K) := by
  refine D.ok sc_is_whole (fun vs H Q E h => len_is_whole h) (fun cdv A outer s H vs Q E hr h => ?_)
  have hu := hr.units0
  have hux := hr.units64
  exact ⟨t_is_whole K, (pss_one (ps_ret (pe_and (pe_callB call_isi rfl B.isinstance boot_isinstance (pac_Name (pvQ v_is_whole_0 rfl rfl) (pac_Name (pe_bltn (v := .ty "int") rfl B.int boot_int rfl) pa_nil))) (pe_one (pe_not (pe_callB call_isi rfl B.isinstance boot_isinstance (pac_Name (pvQ v_is_whole_0 rfl rfl) (pac_Name (pe_bltn (v := .ty "bool") rfl B.bool boot_bool rfl) pa_nil)))))))), rd_is_whole h⟩
theorem ok_is_within {f : Addr} {fd : FuncData} (D : Def K mg "is_within" S_is_within ["thing", "least", "most"] f fd) (B : Blt mg) (F_is_whole : FnB P w K mg base 1 "is_whole" ["thing"] (sp_is_whole K)) : FnB P w K mg base 2 "is_within" ["thing", "least", "most"] (sp_is_within K) := by
  refine D.ok sc_is_within (fun vs H Q E h => len_is_within h) (fun cdv A outer s H vs Q E hr h => ?_)
  have hu := hr.units0
  have hux := hr.units64
  exact ⟨t_is_within K, (pss_one (ps_ret (pe_and (pe_callF F_is_whole (hr.mono (by decide)) (pac_Name (pvQ v_is_within_0 rfl rfl) pa_nil)) (pe_one (pe_chain op_le op_le (pvQ v_is_within_1 rfl rfl) (pvQ v_is_within_0 rfl rfl) (pvQ v_is_within_2 rfl rfl)))))), rd_is_within h⟩
theorem ok_is_below {f : Addr} {fd : FuncData} (D : Def K mg "is_below" S_is_below ["thing", "bound"] f fd) (B : Blt mg) (F_is_within : FnB P w K mg base 2 "is_within" ["thing", "least", "most"] (sp_is_within K)) : FnB P w K mg base 3 "is_below" ["thing", "bound"] (sp_is_below K) := by
  refine D.ok sc_is_below (fun vs H Q E h => len_is_below h) (fun cdv A outer s H vs Q E hr h => ?_)
  have hu := hr.units0
  have hux := hr.units64
  exact ⟨t_is_below K, (pss_one (ps_ret (pe_callF F_is_within (hr.mono (by decide)) (pac_Name (pvQ v_is_below_0 rfl rfl) (pac_Constant pe_int (pac_BinOp (pe_op op_sub (pvQ v_is_below_1 rfl rfl) pe_int) pa_nil)))))), rd_is_below h⟩
theorem ok_is_pack {f : Addr} {fd : FuncData} (D : Def K mg "is_pack" S_is_pack ["cards", "sizes"] f fd) (B : Blt mg) {t_MOST_CARDS : Tok} (m_MOST_CARDS : mg "MOST_CARDS" = some (.int 12 t_MOST_CARDS)) {t_MOST_HANDS : Tok} (m_MOST_HANDS : mg "MOST_HANDS" = some (.int 5 t_MOST_HANDS)) (F_is_within : FnB P w K mg base 2 "is_within" ["thing", "least", "most"] (sp_is_within K)) : FnB P w K mg base 3 "is_pack" ["cards", "sizes"] (sp_is_pack K) := by
  refine D.ok sc_is_pack (fun vs H Q E h => len_is_pack h) (fun cdv A outer s H vs Q E hr h => ?_)
  have hu := hr.units0
  have hux := hr.units64
  exact ⟨t_is_pack K, (pss_cons (ps_if (pt_not (pt_val (pe_callF F_is_within (hr.mono (by decide)) (pac_Name (pvQ v_is_pack_0 rfl rfl) (pac_Constant pe_int (pac_Name (pe_glob (v := (.int 12)) rfl m_MOST_CARDS ⟨_, rfl⟩) pa_nil)))))) (pss_one (ps_ret pe_bl)) pss_nil)
    (pss_cons (ps_if (PW.pt (pw_or (pt_not (pt_val (pe_callB call_isi rfl B.isinstance boot_isinstance (pac_Name (pvQ v_is_pack_1 rfl rfl) (pac_Name (pe_bltn (v := .ty "list") rfl B.list boot_list rfl) pa_nil))))) (pw_or1 (pt_not (pt_val (pe_callF F_is_within (hr.mono (by decide)) (pac_Call (pe_callB call_len_seq rfl B.len boot_len (pac_Name (pvQ v_is_pack_1 rfl rfl) pa_nil)) (pac_Constant pe_int (pac_Name (pe_glob (v := (.int 5)) rfl m_MOST_HANDS ⟨_, rfl⟩) pa_nil))))))))) (pss_one (ps_ret pe_bl)) pss_nil)
    (pss_one (ps_ret (pe_and (pe_callB (call_allL rfl) rfl B.all boot_all (pac_ListComp (pe_comp (sc := (defScope S_is_pack)) (NX := ["cards", "sizes"]) (N := ["size", "cards"]) (ix := [none, some 0]) rfl (by refine ⟨rfl, ?_, ?_, ?_, ?_, rfl, ?_⟩ <;> decide +kernel) (pi_list (pvQ v_is_pack_1 rfl rfl)) (by intros; exact (pg_name (i := 0) (show (["size", "cards"] : List Str).Nodup by decide +kernel) rfl (Or.inl rfl))) (by intros; exact ptl_nil) (by intros; exact (pe_callF F_is_within (hr.mono (by decide)) (pac_Name (pv 0) (pac_Constant pe_int (pac_Name (pv 1) pa_nil)))))) pa_nil)) (pe_one (pe_cmpR op_le (pe_callB (call_sumL rfl) rfl B.sum boot_sum (pac_Name (pvQ v_is_pack_1 rfl rfl) pa_nil)) (pvQ v_is_pack_0 rfl rfl) (nomark _)))))))), rd_is_pack h⟩
theorem ok_how_many {f : Addr} {fd : FuncData} (D : Def K mg "how_many" S_how_many ["cards", "sizes"] f fd) (B : Blt mg) (F_choices : FnB P w K mg base 1 "choices" ["many", "taken"] (sp_choices K)) (F_is_pack : FnB P w K mg base 3 "is_pack" ["cards", "sizes"] (sp_is_pack K)) : FnB P w K mg base 4 "how_many" ["cards", "sizes"] (sp_how_many K) := by
  refine D.ok sc_how_many (fun vs H Q E h => len_how_many h) (fun cdv A outer s H vs Q E hr h => ?_)
  have hu := hr.units0
  have hux := hr.units64
  exact ⟨t_how_many K, (pss_cons (ps_if (pt_not (pt_val (pe_callF F_is_pack (hr.mono (by decide)) (pac_Name (pvQ v_how_many_0 rfl rfl) (pac_Name (pvQ v_how_many_1 rfl rfl) pa_nil))))) (pss_one ps_never) pss_nil)
    (pss_cons (ps_set (i := 2) sc_how_many.nd rfl (Or.inl rfl) pe_int)
    (pss_cons (ps_set (i := 3) sc_how_many.nd rfl (Or.inl rfl) (pvQ v_how_many_0 rfl rfl))
    (pss_cons (ps_for PassesOwn.never rfl (pi_list (pvQ v_how_many_1 rfl rfl)) (pg_name (i := 4) sc_how_many.nd rfl (Or.inl rfl)) (pss_cons (ps_set (i := 2) sc_how_many.nd rfl (Or.inl rfl) (pe_op op_mulB (pvQ v_how_many_2 rfl rfl) (pe_callF F_choices (hr.mono (by decide)) (pac_Name (pvQ v_how_many_3 rfl rfl) (pac_Name (pvQ v_how_many_4 rfl rfl) pa_nil)))))
    (pss_one (ps_set (i := 3) sc_how_many.nd rfl (Or.inl rfl) (pe_op op_sub (pvQ v_how_many_3 rfl rfl) (pvQ v_how_many_4 rfl rfl))))))
    (pss_one (ps_ret (pvQ v_how_many_2 rfl rfl))))))), rd_how_many h⟩
theorem ok_choices {f : Addr} {fd : FuncData} (D : Def K mg "choices" S_choices ["many", "taken"] f fd) (B : Blt mg) : FnB P w K mg base 1 "choices" ["many", "taken"] (sp_choices K) := by
  refine D.ok sc_choices (fun vs H Q E h => len_choices h) (fun cdv A outer s H vs Q E hr h => ?_)
  have hu := hr.units0
  have hux := hr.units64
  exact ⟨t_choices K, (pss_cons (ps_set (i := 2) sc_choices.nd rfl (Or.inl rfl) pe_int)
    (pss_cons (ps_for PassesOwn.never rfl (pi_range1 rfl B.range (pac_Name (pvQ v_choices_1 rfl rfl) pa_nil)) (pg_name (i := 3) sc_choices.nd rfl (Or.inl rfl)) (pss_one (ps_set (i := 2) sc_choices.nd rfl (Or.inl rfl) (pe_op op_fdiv (pe_op op_mulB (pvQ v_choices_2 rfl rfl) (pe_op op_sub (pvQ v_choices_0 rfl rfl) (pvQ v_choices_3 rfl rfl))) (pe_op op_add (pvQ v_choices_3 rfl rfl) pe_int)))))
    (pss_one (ps_ret (pvQ v_choices_2 rfl rfl))))), rd_choices h⟩
theorem ok_deals_of {f : Addr} {fd : FuncData} (D : Def K mg "deals_of" S_deals_of ["cards", "sizes"] f fd) (B : Blt mg) {t_MOST_DEALS : Tok} (m_MOST_DEALS : mg "MOST_DEALS" = some (.int 2000 t_MOST_DEALS)) (F_how_many : FnB P w K mg base 4 "how_many" ["cards", "sizes"] (sp_how_many K)) (F_with_one_more : FnB P w K mg base 1 "with_one_more" ["begun", "room"] (sp_with_one_more K)) : FnB P w K mg base 5 "deals_of" ["cards", "sizes"] (sp_deals_of K) := by
  refine D.ok sc_deals_of (fun vs H Q E h => len_deals_of h) (fun cdv A outer s H vs Q E hr h => ?_)
  have hu := hr.units0
  have hux := hr.units64
  exact ⟨t_deals_of K, (pss_cons (ps_if (pt_cmpR op_gt (pe_callF F_how_many (hr.mono (by decide)) (pac_Name (pvQ v_deals_of_0 rfl rfl) (pac_Name (pvQ v_deals_of_1 rfl rfl) pa_nil))) (pe_glob (v := (.int 2000)) rfl m_MOST_DEALS ⟨_, rfl⟩) (nomark _)) (pss_one ps_never) pss_nil)
    (pss_cons (ps_set (i := 2) sc_deals_of.nd rfl (Or.inl rfl) (pe_op op_cat (pvQ v_deals_of_1 rfl rfl) (pe_lst (pac_BinOp (pe_op op_sub (pvQ v_deals_of_0 rfl rfl) (pe_callB (call_sumL rfl) rfl B.sum boot_sum (pac_Name (pvQ v_deals_of_1 rfl rfl) pa_nil))) pa_nil))))
    (pss_cons (ps_set (i := 3) sc_deals_of.nd rfl (Or.inl rfl) (pe_lst (pac_Tuple (pe_tup pa_nil) pa_nil)))
    (pss_cons (ps_for PassesOwn.never rfl (pi_range1 rfl B.range (pac_Name (pvQ v_deals_of_0 rfl rfl) pa_nil)) (pg_name (i := 4) sc_deals_of.nd rfl (Or.inl rfl)) (pss_one (ps_set (i := 3) sc_deals_of.nd rfl (Or.inl rfl) (pe_callF F_with_one_more (hr.mono (by decide)) (pac_Name (pvQ v_deals_of_3 rfl rfl) (pac_Name (pvQ v_deals_of_2 rfl rfl) pa_nil))))))
    (pss_one (ps_ret (pvQ v_deals_of_3 rfl rfl))))))), rd_deals_of h⟩
theorem ok_with_one_more {f : Addr} {fd : FuncData} (D : Def K mg "with_one_more" S_with_one_more ["begun", "room"] f fd) (B : Blt mg) : FnB P w K mg base 1 "with_one_more" ["begun", "room"] (sp_with_one_more K) := by
  refine D.ok sc_with_one_more (fun vs H Q E h => len_with_one_more h) (fun cdv A outer s H vs Q E hr h => ?_)
  have hu := hr.units0
  have hux := hr.units64
  exact ⟨t_with_one_more K, (pss_cons (ps_set (i := 2) sc_with_one_more.nd rfl (Or.inl rfl) (pe_lst pa_nil))
    (pss_cons (ps_for PassesOwn.never rfl (pi_list (pvQ v_with_one_more_0 rfl rfl)) (pg_name (i := 3) sc_with_one_more.nd rfl (Or.inl rfl)) (pss_one (ps_for PassesOwn.never rfl (pi_enum srcL rfl B.enumerate (by decide) (pac_Name (pvQ v_with_one_more_1 rfl rfl) pa_nil)) (pg_tup rfl (pgs_cons (pg_name (i := 4) sc_with_one_more.nd rfl (Or.inl rfl)) (pgs_cons (pg_name (i := 5) sc_with_one_more.nd rfl (Or.inl rfl)) pgs_nil))) (pss_one (ps_if (pt_cmpR op_lt (pe_bt PySem.F.plainAttrs_tuple PySem.F.slot_tuple_count PySem.F.type_tuple_count mt_countT (pvQ v_with_one_more_3 rfl rfl) (pac_Name (pvQ v_with_one_more_4 rfl rfl) pa_nil)) (pvQ v_with_one_more_5 rfl rfl) (nomark _)) (pss_one (ps_expr (pe_bm PySem.F.plainAttrs_list PySem.F.slot_list_append PySem.F.type_list_append mt_append (pvQ v_with_one_more_2 rfl rfl) (pac_BinOp (pe_op op_catG (pvQ v_with_one_more_3 rfl rfl) (pe_tup (pac_Name (pvQ v_with_one_more_4 rfl rfl) pa_nil))) pa_nil)))) pss_nil)))))
    (pss_one (ps_ret (pvQ v_with_one_more_2 rfl rfl))))), rd_with_one_more h⟩
theorem ok_cards_of {f : Addr} {fd : FuncData} (D : Def K mg "cards_of" S_cards_of ["deal", "who"] f fd) (B : Blt mg) : FnB P w K mg base 1 "cards_of" ["deal", "who"] (sp_cards_of K) := by
  refine D.ok sc_cards_of (fun vs H Q E h => len_cards_of h) (fun cdv A outer s H vs Q E hr h => ?_)
  have hu := hr.units0
  have hux := hr.units64
  exact ⟨t_cards_of K, (pss_one (ps_ret (pe_callTy call_tuple_of rfl B.tuple boot_tuple (pac_ListComp (pe_comp (sc := (defScope S_cards_of)) (NX := ["deal", "who"]) (N := ["card", "holder", "who"]) (ix := [none, none, some 1]) rfl (by refine ⟨rfl, ?_, ?_, ?_, ?_, rfl, ?_⟩ <;> decide +kernel) (pi_enum srcT rfl B.enumerate (by decide) (pac_Name (pvQ v_cards_of_0 rfl rfl) pa_nil)) (by intros; exact (pg_tup rfl (pgs_cons (pg_name (i := 0) (show (["card", "holder", "who"] : List Str).Nodup by decide +kernel) rfl (Or.inl rfl)) (pgs_cons (pg_name (i := 1) (show (["card", "holder", "who"] : List Str).Nodup by decide +kernel) rfl (Or.inl rfl)) pgs_nil)))) (by intros; exact (ptl_one (pt_cmpR op_eq (pv 1) (pv 2) (nomark _)))) (by intros; exact (pv 0))) pa_nil)))), rd_cards_of h⟩
theorem ok_first_view {f : Addr} {fd : FuncData} (D : Def K mg "first_view" S_first_view ["deals", "hand"] f fd) (B : Blt mg) (F_cards_of : FnB P w K mg base 1 "cards_of" ["deal", "who"] (sp_cards_of K)) (F_least_with_same : FnB P w K mg base 1 "least_with_same" ["marks"] (sp_least_with_same K)) : FnB P w K mg base 2 "first_view" ["deals", "hand"] (sp_first_view K) := by
  refine D.ok sc_first_view (fun vs H Q E h => len_first_view h) (fun cdv A outer s H vs Q E hr h => ?_)
  have hu := hr.units0
  have hux := hr.units64
  exact ⟨t_first_view K, (pss_one (ps_ret (pe_callF F_least_with_same (hr.mono (by decide)) (pac_ListComp (pe_comp (sc := (defScope S_first_view)) (NX := ["deals", "hand"]) (N := ["deal", "hand"]) (ix := [none, some 1]) rfl (by refine ⟨rfl, ?_, ?_, ?_, ?_, rfl, ?_⟩ <;> decide +kernel) (pi_list (pvQ v_first_view_0 rfl rfl)) (by intros; exact (pg_name (i := 0) (show (["deal", "hand"] : List Str).Nodup by decide +kernel) rfl (Or.inl rfl))) (by intros; exact ptl_nil) (by intros; exact (pe_callF F_cards_of (hr.mono (by decide)) (pac_Name (pv 0) (pac_Name (pv 1) pa_nil))))) pa_nil)))), rd_first_view h⟩
theorem ok_split {f : Addr} {fd : FuncData} (D : Def K mg "split" S_split ["view", "values"] f fd) (B : Blt mg) (F_least_with_same : FnB P w K mg base 1 "least_with_same" ["marks"] (sp_least_with_same K)) : FnB P w K mg base 2 "split" ["view", "values"] (sp_split K) := by
  refine D.ok sc_split (fun vs H Q E h => len_split h) (fun cdv A outer s H vs Q E hr h => ?_)
  have hu := hr.units0
  have hux := hr.units64
  exact ⟨t_split K, (pss_one (ps_ret (pe_callF F_least_with_same (hr.mono (by decide)) (pac_Call (pe_lzip srcL srcL rfl rfl B.list rfl B.zip (pac_Name (pvQ v_split_0 rfl rfl) (pac_Name (pvQ v_split_1 rfl rfl) pa_nil))) pa_nil)))), rd_split h⟩
theorem ok_least_with_same {f : Addr} {fd : FuncData} (D : Def K mg "least_with_same" S_least_with_same ["marks"] f fd) (B : Blt mg) : FnB P w K mg base 1 "least_with_same" ["marks"] (sp_least_with_same K) := by
  refine D.ok sc_least_with_same (fun vs H Q E h => len_least_with_same h) (fun cdv A outer s H vs Q E hr h => ?_)
  have hu := hr.units0
  have hux := hr.units64
  exact ⟨t_least_with_same K, (pss_cons (ps_set (i := 1) sc_least_with_same.nd rfl (Or.inr rfl) pm_dnewX)
    (pss_cons (ps_for PassesOwn.never rfl (pi_enum srcL rfl B.enumerate (by decide) (pac_Name (pvQ v_least_with_same_0 rfl rfl) pa_nil)) (pg_tup rfl (pgs_cons (pg_name (i := 2) sc_least_with_same.nd rfl (Or.inl rfl)) (pgs_cons (pg_name (i := 3) sc_least_with_same.nd rfl (Or.inl rfl)) pgs_nil))) (pss_one (ps_expr (pe_xm PySem.F.slot_dict_setdefault PySem.F.type_dict_setdefault (mt_xsetdefault hux) (pvQ v_least_with_same_1 rfl rfl) (pac_Name (pvQ v_least_with_same_3 rfl rfl) (pac_Name (pvQ v_least_with_same_2 rfl rfl) pa_nil))))))
    (pss_one (ps_ret (pe_comp (sc := (defScope S_least_with_same)) (NX := ["marks", "firsts", "thing", "mark"]) (N := ["mark", "firsts"]) (ix := [none, some 1]) rfl (by refine ⟨rfl, ?_, ?_, ?_, ?_, rfl, ?_⟩ <;> decide +kernel) (pi_list (pvQ v_least_with_same_0 rfl rfl)) (by intros; exact (pg_name (i := 0) (show (["mark", "firsts"] : List Str).Nodup by decide +kernel) rfl (Or.inl rfl))) (by intros; exact ptl_nil) (by intros; exact (pe_xget hux (pv 1) (pv 0) (fun _ _ => rfl)))))))), rd_least_with_same h⟩
theorem ok_refuse_unless {f : Addr} {fd : FuncData} (D : Def K mg "refuse_unless" S_refuse_unless ["fit", "reason"] f fd) (B : Blt mg) : FnB P w K mg base 1 "refuse_unless" ["fit", "reason"] (sp_refuse_unless K) := by
  refine D.ok sc_refuse_unless (fun vs H Q E h => len_refuse_unless h) (fun cdv A outer s H vs Q E hr h => ?_)
  have hu := hr.units0
  have hux := hr.units64
  exact ⟨t_refuse_unless K, (pss_one (ps_if (pt_not (pt_val (pvQ v_refuse_unless_0 rfl rfl))) (pss_one ps_never) pss_nil)), rd_refuse_unless h⟩
theorem ok_are_cards {f : Addr} {fd : FuncData} (D : Def K mg "are_cards" S_are_cards ["thing", "cards"] f fd) (B : Blt mg) (F_is_below : FnB P w K mg base 3 "is_below" ["thing", "bound"] (sp_is_below K)) : FnB P w K mg base 4 "are_cards" ["thing", "cards"] (sp_are_cards K) := by
  refine D.ok sc_are_cards (fun vs H Q E h => len_are_cards h) (fun cdv A outer s H vs Q E hr h => ?_)
  have hu := hr.units0
  have hux := hr.units64
  exact ⟨t_are_cards K, (pss_one (ps_ret (pe_and (pe_callB call_isi rfl B.isinstance boot_isinstance (pac_Name (pvQ v_are_cards_0 rfl rfl) (pac_Name (pe_bltn (v := .ty "list") rfl B.list boot_list rfl) pa_nil))) (pe_one (pe_callB (call_allL rfl) rfl B.all boot_all (pac_ListComp (pe_comp (sc := (defScope S_are_cards)) (NX := ["thing", "cards"]) (N := ["card", "cards"]) (ix := [none, some 1]) rfl (by refine ⟨rfl, ?_, ?_, ?_, ?_, rfl, ?_⟩ <;> decide +kernel) (pi_list (pvQ v_are_cards_0 rfl rfl)) (by intros; exact (pg_name (i := 0) (show (["card", "cards"] : List Str).Nodup by decide +kernel) rfl (Or.inl rfl))) (by intros; exact ptl_nil) (by intros; exact (pe_callF F_is_below (hr.mono (by decide)) (pac_Name (pv 0) (pac_Name (pv 1) pa_nil))))) pa_nil)))))), rd_are_cards h⟩
theorem ok_least_held {f : Addr} {fd : FuncData} (D : Def K mg "least_held" S_least_held ["deal", "holder", "rising"] f fd) (B : Blt mg) : FnB P w K mg base 1 "least_held" ["deal", "holder", "rising"] (sp_least_held K) := by
  refine D.ok sc_least_held (fun vs H Q E h => len_least_held h) (fun cdv A outer s H vs Q E hr h => ?_)
  have hu := hr.units0
  have hux := hr.units64
  exact ⟨t_least_held K, (pss_cons (ps_for PassesOwn.never rfl (pi_list (pvQ v_least_held_2 rfl rfl)) (pg_name (i := 3) sc_least_held.nd rfl (Or.inl rfl)) (pss_one (ps_if (pt_cmpR op_eq (pe_ix ix_tup (pvQ v_least_held_0 rfl rfl) (pvQ v_least_held_3 rfl rfl) (fun _ _ => rfl)) (pvQ v_least_held_1 rfl rfl) (nomark _)) (pss_one (ps_ret (pvQ v_least_held_3 rfl rfl))) pss_nil)))
    (pss_one (ps_ret pe_non))), rd_least_held h⟩
theorem ok__law_cell {f : Addr} {fd : FuncData} (D : Def K mg "_law_cell" S__law_cell ["_law_script", "_law_k"] f fd) (B : Blt mg) : FnB P w K mg base 1 "_law_cell" ["_law_script", "_law_k"] (sp__law_cell K) := by
  refine D.ok sc__law_cell (fun vs H Q E h => len__law_cell h) (fun cdv A outer s H vs Q E hr h => ?_)
  have hu := hr.units0
  have hux := hr.units64
  exact ⟨t__law_cell K, (pss_cons (ps_if (pt_cmpR op_lt (pvQ v__law_cell_1 rfl rfl) (pe_callB call_len_seq rfl B.len boot_len (pac_Name (pvQ v__law_cell_0 rfl rfl) pa_nil)) (nomark _)) (pss_one (ps_ret (pe_ix ix_list (pvQ v__law_cell_0 rfl rfl) (pvQ v__law_cell_1 rfl rfl) (fun _ _ => rfl)))) pss_nil)
    (pss_cons (ps_set (i := 2) sc__law_cell.nd rfl (Or.inl rfl) (pe_op op_add (pe_op op_mulB (pvQ v__law_cell_1 rfl rfl) pe_int) pe_int))
    (pss_cons (ps_if (pt_cmpR op_gt (pe_callB call_len_seq rfl B.len boot_len (pac_Name (pvQ v__law_cell_0 rfl rfl) pa_nil)) pe_int (nomark _)) (pss_one (ps_set (i := 2) sc__law_cell.nd rfl (Or.inl rfl) (pe_op op_add (pe_op op_mulB (pe_ix ix_list (pvQ v__law_cell_0 rfl rfl) (pe_op op_mod (pe_op op_mulB (pvQ v__law_cell_1 rfl rfl) pe_int) (pe_callB call_len_seq rfl B.len boot_len (pac_Name (pvQ v__law_cell_0 rfl rfl) pa_nil))) (fun _ _ => rfl)) pe_int) (pe_op op_mulB (pvQ v__law_cell_1 rfl rfl) pe_int)))) pss_nil)
    (pss_cons (ps_set (i := 2) sc__law_cell.nd rfl (Or.inl rfl) (pe_op op_mod (pe_op op_mulB (pvQ v__law_cell_2 rfl rfl) (pvQ v__law_cell_2 rfl rfl)) pe_int))
    (pss_one (ps_ret (pe_op op_mod (pe_op op_mulB (pe_op op_add (pvQ v__law_cell_2 rfl rfl) (pvQ v__law_cell_1 rfl rfl)) (pe_op op_add (pvQ v__law_cell_2 rfl rfl) pe_int)) pe_int))))))), rd__law_cell h⟩
theorem ok__law_product {f : Addr} {fd : FuncData} (D : Def K mg "_law_product" S__law_product ["_law_many"] f fd) (B : Blt mg) : FnB P w K mg base 1 "_law_product" ["_law_many"] (sp__law_product K) := by
  refine D.ok sc__law_product (fun vs H Q E h => len__law_product h) (fun cdv A outer s H vs Q E hr h => ?_)
  have hu := hr.units0
  have hux := hr.units64
  exact ⟨t__law_product K, (pss_cons (ps_set (i := 1) sc__law_product.nd rfl (Or.inl rfl) pe_int)
    (pss_cons (ps_for PassesOwn.never rfl (pi_range1 rfl B.range (pac_Name (pvQ v__law_product_0 rfl rfl) pa_nil)) (pg_name (i := 2) sc__law_product.nd rfl (Or.inl rfl)) (pss_one (ps_set (i := 1) sc__law_product.nd rfl (Or.inl rfl) (pe_op op_mulB (pvQ v__law_product_1 rfl rfl) (pe_op op_add (pvQ v__law_product_2 rfl rfl) pe_int)))))
    (pss_one (ps_ret (pvQ v__law_product_1 rfl rfl))))), rd__law_product h⟩
theorem ok__law_count {f : Addr} {fd : FuncData} (D : Def K mg "_law_count" S__law_count ["_law_cards", "_law_sizes"] f fd) (B : Blt mg) (F__law_product : FnB P w K mg base 1 "_law_product" ["_law_many"] (sp__law_product K)) : FnB P w K mg base 2 "_law_count" ["_law_cards", "_law_sizes"] (sp__law_count K) := by
  refine D.ok sc__law_count (fun vs H Q E h => len__law_count h) (fun cdv A outer s H vs Q E hr h => ?_)
  have hu := hr.units0
  have hux := hr.units64
  exact ⟨t__law_count K, (pss_cons (ps_set (i := 2) sc__law_count.nd rfl (Or.inl rfl) (pe_callF F__law_product (hr.mono (by decide)) (pac_Name (pvQ v__law_count_0 rfl rfl) pa_nil)))
    (pss_cons (ps_for PassesOwn.never rfl (pi_list (pe_op om_cat (pvQ v__law_count_1 rfl rfl) (pm_lst (pac_BinOp (pe_op op_sub (pvQ v__law_count_0 rfl rfl) (pe_callB (call_sumL rfl) rfl B.sum boot_sum (pac_Name (pvQ v__law_count_1 rfl rfl) pa_nil))) pa_nil)))) (pg_name (i := 3) sc__law_count.nd rfl (Or.inl rfl)) (pss_one (ps_set (i := 2) sc__law_count.nd rfl (Or.inl rfl) (pe_op op_fdiv (pvQ v__law_count_2 rfl rfl) (pe_callF F__law_product (hr.mono (by decide)) (pac_Name (pvQ v__law_count_3 rfl rfl) pa_nil))))))
    (pss_one (ps_ret (pvQ v__law_count_2 rfl rfl))))), rd__law_count h⟩
theorem ok__law_pack {f : Addr} {fd : FuncData} (D : Def K mg "_law_pack" S__law_pack ["_law_script", "_law_at", "_law_most"] f fd) (B : Blt mg) (F__law_cell : FnB P w K mg base 1 "_law_cell" ["_law_script", "_law_k"] (sp__law_cell K)) (F__law_count : FnB P w K mg base 2 "_law_count" ["_law_cards", "_law_sizes"] (sp__law_count K)) : FnB P w K mg base 3 "_law_pack" ["_law_script", "_law_at", "_law_most"] (sp__law_pack K) := by
  refine D.ok sc__law_pack (fun vs H Q E h => len__law_pack h) (fun cdv A outer s H vs Q E hr h => ?_)
  have hu := hr.units0
  have hux := hr.units64
  exact ⟨t__law_pack K, (pss_cons (ps_set (i := 3) sc__law_pack.nd rfl (Or.inl rfl) (pe_op op_mod (pe_callF F__law_cell (hr.mono (by decide)) (pac_Name (pvQ v__law_pack_0 rfl rfl) (pac_Name (pvQ v__law_pack_1 rfl rfl) pa_nil))) pe_int))
    (pss_cons (ps_if (pt_cmpR op_eq (pe_op op_mod (pe_op op_fdiv (pe_callF F__law_cell (hr.mono (by decide)) (pac_Name (pvQ v__law_pack_0 rfl rfl) (pac_Name (pvQ v__law_pack_1 rfl rfl) pa_nil))) pe_int) pe_int) pe_int (nomark _)) (pss_one (ps_set (i := 3) sc__law_pack.nd rfl (Or.inl rfl) (pe_op op_add pe_int (pe_op op_mod (pe_op op_fdiv (pe_callF F__law_cell (hr.mono (by decide)) (pac_Name (pvQ v__law_pack_0 rfl rfl) (pac_Name (pvQ v__law_pack_1 rfl rfl) pa_nil))) pe_int) pe_int)))) pss_nil)
    (pss_cons (ps_set (i := 4) sc__law_pack.nd rfl (Or.inl rfl) (pm_lst pa_nil))
    (pss_cons (ps_for PassesOwn.never rfl (pi_range1 rfl B.range (pac_BinOp (pe_op op_add pe_int (pe_op op_mod (pe_callF F__law_cell (hr.mono (by decide)) (pac_Name (pvQ v__law_pack_0 rfl rfl) (pac_BinOp (pe_op op_add (pvQ v__law_pack_1 rfl rfl) pe_int) pa_nil))) pe_int)) pa_nil)) (pg_name (i := 5) sc__law_pack.nd rfl (Or.inl rfl)) (pss_one (ps_expr (pe_bm PySem.F.plainAttrs_list PySem.F.slot_list_append PySem.F.type_list_append mt_append (pvQ v__law_pack_4 rfl rfl) (pac_BinOp (pe_op op_mod (pe_callF F__law_cell (hr.mono (by decide)) (pac_Name (pvQ v__law_pack_0 rfl rfl) (pac_BinOp (pe_op op_add (pe_op op_add (pvQ v__law_pack_1 rfl rfl) pe_int) (pvQ v__law_pack_5 rfl rfl)) pa_nil))) (pe_op op_add (pe_callB (call_min2 rfl) rfl B.min boot_min (pac_Constant pe_int (pac_BinOp (pe_op op_sub (pvQ v__law_pack_3 rfl rfl) (pe_callB (call_sumL rfl) rfl B.sum boot_sum (pac_Name (pvQ v__law_pack_4 rfl rfl) pa_nil))) pa_nil))) pe_int)) pa_nil)))))
    (pss_cons (ps_while PassesOwn.never (pt_cmpR op_gt (pe_callF F__law_count (hr.mono (by decide)) (pac_Name (pvQ v__law_pack_3 rfl rfl) (pac_Name (pvQ v__law_pack_4 rfl rfl) pa_nil))) (pvQ v__law_pack_2 rfl rfl) (nomark _)) (pss_cons (ps_if (pt_cmpR op_gt (pe_callB (call_maxL rfl) rfl B.max boot_max (pac_Name (pvQ v__law_pack_4 rfl rfl) pa_nil)) (pe_op op_sub (pvQ v__law_pack_3 rfl rfl) (pe_callB (call_sumL rfl) rfl B.sum boot_sum (pac_Name (pvQ v__law_pack_4 rfl rfl) pa_nil))) (nomark _)) (pss_one (ps_asg (pe_op op_sub (pe_callB (call_maxL rfl) rfl B.max boot_max (pac_Name (pvQ v__law_pack_4 rfl rfl) pa_nil)) pe_int) (pg_sub (pvQ v__law_pack_4 rfl rfl) (pe_bm PySem.F.plainAttrs_list PySem.F.slot_list_index PySem.F.type_list_index mt_index (pvQ v__law_pack_4 rfl rfl) (pac_Call (pe_callB (call_maxL rfl) rfl B.max boot_max (pac_Name (pvQ v__law_pack_4 rfl rfl) pa_nil)) pa_nil)) set_list))) pss_nil)
    (pss_one (ps_set (i := 3) sc__law_pack.nd rfl (Or.inl rfl) (pe_op op_sub (pvQ v__law_pack_3 rfl rfl) pe_int)))))
    (pss_one (ps_ret (pm_tup (pac_Name (pvQ v__law_pack_3 rfl rfl) (pac_Name (pvQ v__law_pack_4 rfl rfl) pa_nil)))))))))), rd__law_pack h⟩
theorem ok__law_least {f : Addr} {fd : FuncData} (D : Def K mg "_law_least" S__law_least ["_law_signs"] f fd) (B : Blt mg) : FnB P w K mg base 1 "_law_least" ["_law_signs"] (sp__law_least K) := by
  refine D.ok sc__law_least (fun vs H Q E h => len__law_least h) (fun cdv A outer s H vs Q E hr h => ?_)
  have hu := hr.units0
  have hux := hr.units64
  exact ⟨t__law_least K, (pss_cons (ps_set (i := 1) sc__law_least.nd rfl (Or.inl rfl) pm_dnewX)
    (pss_cons (ps_set (i := 2) sc__law_least.nd rfl (Or.inl rfl) (pm_lst pa_nil))
    (pss_cons (ps_for PassesOwn.never rfl (pi_enum srcL rfl B.enumerate (by decide) (pac_Name (pvQ v__law_least_0 rfl rfl) pa_nil)) (pg_tup rfl (pgs_cons (pg_name (i := 3) sc__law_least.nd rfl (Or.inl rfl)) (pgs_cons (pg_name (i := 4) sc__law_least.nd rfl (Or.inl rfl)) pgs_nil))) (pss_cons (ps_if (pt_cmpR (op_xnotin hux) (pvQ v__law_least_4 rfl rfl) (pvQ v__law_least_1 rfl rfl) rfl) (pss_one (ps_asg (pvQ v__law_least_3 rfl rfl) (pg_sub (pvQ v__law_least_1 rfl rfl) (pvQ v__law_least_4 rfl rfl) (set_X hux)))) pss_nil)
    (pss_one (ps_expr (pe_bm PySem.F.plainAttrs_list PySem.F.slot_list_append PySem.F.type_list_append mt_append (pvQ v__law_least_2 rfl rfl) (pac_Subscript (pe_xget hux (pvQ v__law_least_1 rfl rfl) (pvQ v__law_least_4 rfl rfl) (fun _ _ => rfl)) pa_nil))))))
    (pss_one (ps_ret (pvQ v__law_least_2 rfl rfl)))))), rd__law_least h⟩
theorem ok__law_shown {f : Addr} {fd : FuncData} (D : Def K mg "_law_shown" S__law_shown ["_law_deal", "_law_holder", "_law_some"] f fd) (B : Blt mg) : FnB P w K mg base 1 "_law_shown" ["_law_deal", "_law_holder", "_law_some"] (sp__law_shown K) := by
  refine D.ok sc__law_shown (fun vs H Q E h => len__law_shown h) (fun cdv A outer s H vs Q E hr h => ?_)
  have hu := hr.units0
  have hux := hr.units64
  exact ⟨t__law_shown K, (pss_cons (ps_set (i := 3) sc__law_shown.nd rfl (Or.inl rfl) pe_non)
    (pss_cons (ps_for PassesOwn.never rfl (pi_list (pvQ v__law_shown_2 rfl rfl)) (pg_name (i := 4) sc__law_shown.nd rfl (Or.inl rfl)) (pss_one (ps_if (PW.pt (pw_and (pt_cmpR op_eq (pe_ix ix_tup (pvQ v__law_shown_0 rfl rfl) (pvQ v__law_shown_4 rfl rfl) (fun _ _ => rfl)) (pvQ v__law_shown_1 rfl rfl) (nomark _)) (pw_and1 (PW.pt (pw_or (pt_cmpR op_isNone (pvQ v__law_shown_3 rfl rfl) pe_non (nomark _)) (pw_or1 (pt_cmpR op_lt (pvQ v__law_shown_4 rfl rfl) (pvQ v__law_shown_3 rfl rfl) (nomark _)))))))) (pss_one (ps_set (i := 3) sc__law_shown.nd rfl (Or.inl rfl) (pvQ v__law_shown_4 rfl rfl))) pss_nil)))
    (pss_one (ps_ret (pvQ v__law_shown_3 rfl rfl))))), rd__law_shown h⟩
theorem ok__law_kinds {f : Addr} {fd : FuncData} (D : Def K mg "_law_kinds" S__law_kinds ["_law_found"] f fd) (B : Blt mg) : FnB P w K mg base 1 "_law_kinds" ["_law_found"] (sp__law_kinds K) := by
  refine D.ok sc__law_kinds (fun vs H Q E h => len__law_kinds h) (fun cdv A outer s H vs Q E hr h => ?_)
  have hu := hr.units0
  have hux := hr.units64
  exact ⟨t__law_kinds K, (pss_one (ps_ret (pe_cmpR (op_eqL hu) (pe_comp (sc := (defScope S__law_kinds)) (NX := ["_law_found"]) (N := ["_law_one"]) (ix := [none]) rfl (by refine ⟨rfl, ?_, ?_, ?_, ?_, rfl, ?_⟩ <;> decide +kernel) (pi_list (pvQ v__law_kinds_0 rfl rfl)) (by intros; exact (pg_name (i := 0) (show (["_law_one"] : List Str).Nodup by decide +kernel) rfl (Or.inl rfl))) (by intros; exact (ptl_one (PW.pt (pw_and (pt_cmpR op_isnNone (pv 0) pe_non (nomark _)) (pw_and1 (PW.pt (pw_or (pt_val (pe_callB call_isi rfl B.isinstance boot_isinstance (pac_Name (pv 0) (pac_Name (pe_bltn (v := .ty "bool") rfl B.bool boot_bool rfl) pa_nil)))) (pw_or1 (pt_not (pt_val (pe_callB call_isi rfl B.isinstance boot_isinstance (pac_Name (pv 0) (pac_Name (pe_bltn (v := .ty "int") rfl B.int boot_int rfl) pa_nil))))))))))))) (by intros; exact (pv 0))) (pm_lst pa_nil) (nomark _)))), rd__law_kinds h⟩
theorem ok_law {f : Addr} {fd : FuncData} (D : Def K mg "law" S_law ["_law_script"] f fd) (B : Blt mg) {G : GC} (T : TabsC P w K mg G) (F_Table_init : FnI P w K mg base 6 G.Table ["self", "cards", "sizes"] (sp_Table_init K G)) (F_Table_show : FnM P w K mg base 5 G.Table "show" ["self", "hand", "holder", "some"] (sp_Table_show K G)) (F_Table_view : FnM P w K mg base 4 G.Table "view" ["self", "hand"] (sp_Table_view K G)) (F__law_cell : FnB P w K mg base 1 "_law_cell" ["_law_script", "_law_k"] (sp__law_cell K)) (F__law_kinds : FnB P w K mg base 1 "_law_kinds" ["_law_found"] (sp__law_kinds K)) (F__law_least : FnB P w K mg base 1 "_law_least" ["_law_signs"] (sp__law_least K)) (F__law_pack : FnB P w K mg base 3 "_law_pack" ["_law_script", "_law_at", "_law_most"] (sp__law_pack K)) (F__law_shown : FnB P w K mg base 1 "_law_shown" ["_law_deal", "_law_holder", "_law_some"] (sp__law_shown K)) (F_deals_of : FnB P w K mg base 5 "deals_of" ["cards", "sizes"] (sp_deals_of K)) : FnOk P w K mg base CX0 8 f fd ["_law_script"] (spLaw K) := by
  refine D.fn.ok sc_law (fun vs H Q E h => len_law h) (fun cdv A outer s H vs Q E hr h => ?_)
  have hu := hr.units0
  have hux := hr.units64
  exact ⟨t_law K G, (pss_cons (ps_asg (pe_callF F__law_pack (hr.mono (by decide)) (pac_Name (pvQ v_law_0 rfl rfl) (pac_Constant pe_int (pac_Constant pe_int pa_nil)))) (pg_tup rfl (pgs_cons (pg_name (i := 1) sc_law.nd rfl (Or.inr rfl)) (pgs_cons (pg_name (i := 2) sc_law.nd rfl (Or.inl rfl)) pgs_nil))))
    (pss_cons (ps_if (pt_cmpR op_eq (pvQ v_law_1 rfl rfl) pe_int (nomark _)) (pss_one (ps_set (i := 1) sc_law.nd rfl (Or.inr rfl) pe_int)) pss_nil)
    (pss_cons (ps_set (i := 3) sc_law.nd rfl (Or.inl rfl) (pe_callB call_len_seq rfl B.len boot_len (pac_Name (pvQ v_law_2 rfl rfl) pa_nil)))
    (pss_cons (ps_set (i := 4) sc_law.nd rfl (Or.inl rfl) (pe_callF F_deals_of (hr.mono (by decide)) (pac_Name (pvQ v_law_1 rfl rfl) (pac_Name (pvQ v_law_2 rfl rfl) pa_nil))))
    (pss_cons (ps_set (i := 5) sc_law.nd rfl (Or.inr rfl) (pm_lst pa_nil))
    (pss_cons (ps_for PassesOwn.never rfl (pi_range1 rfl B.range (pac_Name (pvQ v_law_3 rfl rfl) pa_nil)) (pg_name (i := 6) sc_law.nd rfl (Or.inr rfl)) (pss_one (ps_expr (pe_bm PySem.F.plainAttrs_list PySem.F.slot_list_append PySem.F.type_list_append mt_append (pvQ v_law_5 rfl rfl) (pac_Call (pe_callF F__law_least (hr.mono (by decide)) (pac_ListComp (pe_comp (sc := (defScope S_law)) (NX := ["_law_script", "_law_cards", "_law_sizes", "_law_hands", "_law_deals", "_law_views", "_law_hand", "_law_table", "_law_k", "_law_holder", "_law_some", "_law_due", "_law_handed", "_law_found", "_law_other"]) (N := ["_law_deal", "_law_hand"]) (ix := [none, some 6]) rfl (by refine ⟨rfl, ?_, ?_, ?_, ?_, rfl, ?_⟩ <;> decide +kernel) (pi_list (pvQ v_law_4 rfl rfl)) (by intros; exact (pg_name (i := 0) (show (["_law_deal", "_law_hand"] : List Str).Nodup by decide +kernel) rfl (Or.inl rfl))) (by intros; exact ptl_nil) (by intros; exact (pe_callTy cm_tuple rfl B.tuple boot_tuple (pac_ListComp (pe_comp (sc := _) (hsc := rfl) (NX := ["_law_deal", "_law_hand"]) (N := ["_law_card", "_law_who", "_law_hand"]) (ix := [none, none, some 1]) rfl (by refine ⟨rfl, ?_, ?_, ?_, ?_, rfl, ?_⟩ <;> first | decide +kernel | exact comp_free (by decide +kernel)) (pi_enum srcT rfl B.enumerate (by decide) (pac_Name (pv 0) pa_nil)) (by intros; exact (pg_tup rfl (pgs_cons (pg_name (i := 0) (show (["_law_card", "_law_who", "_law_hand"] : List Str).Nodup by decide +kernel) rfl (Or.inl rfl)) (pgs_cons (pg_name (i := 1) (show (["_law_card", "_law_who", "_law_hand"] : List Str).Nodup by decide +kernel) rfl (Or.inl rfl)) pgs_nil)))) (by intros; exact (ptl_one (pt_cmpR op_eq (pv 1) (pv 2) (nomark _)))) (by intros; exact (pv 0))) pa_nil)))) pa_nil)) pa_nil)))))
    (pss_cons (ps_set (i := 7) sc_law.nd rfl (Or.inl rfl) (pe_makeF F_Table_init (hr.mono (by decide)) T.m_Table (pac_Name (pvQ v_law_1 rfl rfl) (pac_Name (pvQ v_law_2 rfl rfl) pa_nil))))
    (pss_cons (ps_for PassesOwn.never rfl (pi_range1 rfl B.range (pac_BinOp (pe_op op_add pe_int (pe_op op_mod (pe_callF F__law_cell (hr.mono (by decide)) (pac_Name (pvQ v_law_0 rfl rfl) (pac_Constant pe_int pa_nil))) pe_int)) pa_nil)) (pg_name (i := 8) sc_law.nd rfl (Or.inr rfl)) (pss_cons (ps_set (i := 6) sc_law.nd rfl (Or.inr rfl) (pe_op op_mod (pe_callF F__law_cell (hr.mono (by decide)) (pac_Name (pvQ v_law_0 rfl rfl) (pac_BinOp (pe_op op_add pe_int (pe_op op_mulB pe_int (pvQ v_law_8 rfl rfl))) pa_nil))) (pvQ v_law_3 rfl rfl)))
    (pss_cons (ps_set (i := 9) sc_law.nd rfl (Or.inr rfl) (pe_op op_mod (pe_callF F__law_cell (hr.mono (by decide)) (pac_Name (pvQ v_law_0 rfl rfl) (pac_BinOp (pe_op op_add pe_int (pe_op op_mulB pe_int (pvQ v_law_8 rfl rfl))) pa_nil))) (pe_op op_add (pvQ v_law_3 rfl rfl) pe_int)))
    (pss_cons (ps_set (i := 10) sc_law.nd rfl (Or.inr rfl) (pe_comp (sc := (defScope S_law)) (NX := ["_law_script", "_law_cards", "_law_sizes", "_law_hands", "_law_deals", "_law_views", "_law_hand", "_law_table", "_law_k", "_law_holder", "_law_some", "_law_due", "_law_handed", "_law_found", "_law_other"]) (N := ["_law_j", "_law_cards", "_law_script", "_law_k"]) (ix := [none, some 1, some 0, some 8]) rfl (by refine ⟨rfl, ?_, ?_, ?_, ?_, rfl, ?_⟩ <;> decide +kernel) (pi_range1 rfl B.range (pac_BinOp (pe_op op_mod (pe_callF F__law_cell (hr.mono (by decide)) (pac_Name (pvQ v_law_0 rfl rfl) (pac_BinOp (pe_op op_add pe_int (pe_op op_mulB pe_int (pvQ v_law_8 rfl rfl))) pa_nil))) pe_int) pa_nil)) (by intros; exact (pg_name (i := 0) (show (["_law_j", "_law_cards", "_law_script", "_law_k"] : List Str).Nodup by decide +kernel) rfl (Or.inl rfl))) (by intros; exact ptl_nil) (by intros; exact (pe_op op_mod (pe_callF F__law_cell (hr.mono (by decide)) (pac_Name (pv 2) (pac_BinOp (pe_op op_add (pe_op op_add pe_int (pe_op op_mulB pe_int (pv 3))) (pv 0)) pa_nil))) (pv 1)))))
    (pss_cons (ps_set (i := 11) sc_law.nd rfl (Or.inr rfl) (pe_comp (sc := (defScope S_law)) (NX := ["_law_script", "_law_cards", "_law_sizes", "_law_hands", "_law_deals", "_law_views", "_law_hand", "_law_table", "_law_k", "_law_holder", "_law_some", "_law_due", "_law_handed", "_law_found", "_law_other"]) (N := ["_law_deal", "_law_holder", "_law_some"]) (ix := [none, some 9, some 10]) rfl (by refine ⟨rfl, ?_, ?_, ?_, ?_, rfl, ?_⟩ <;> decide +kernel) (pi_list (pvQ v_law_4 rfl rfl)) (by intros; exact (pg_name (i := 0) (show (["_law_deal", "_law_holder", "_law_some"] : List Str).Nodup by decide +kernel) rfl (Or.inl rfl))) (by intros; exact ptl_nil) (by intros; exact (pe_callF F__law_shown (hr.mono (by decide)) (pac_Name (pv 0) (pac_Name (pv 1) (pac_Name (pv 2) pa_nil)))))))
    (pss_cons (ps_set (i := 12) sc_law.nd rfl (Or.inl rfl) (pe_callTy cm_list rfl B.list boot_list (pac_Name (pvQ v_law_10 rfl rfl) pa_nil)))
    (pss_cons (ps_set (i := 13) sc_law.nd rfl (Or.inl rfl) (pe_methF F_Table_show (hr.mono (by decide)) T.cl_Table (pvQ v_law_7 rfl rfl) (pac_Name (pvQ v_law_6 rfl rfl) (pac_Name (pvQ v_law_9 rfl rfl) (pac_Name (pvQ v_law_12 rfl rfl) pa_nil)))))
    (pss_cons (ps_if (PW.pt (pw_or (pt_not (pt_val (pe_callB call_isi rfl B.isinstance boot_isinstance (pac_Name (pvQ v_law_13 rfl rfl) (pac_Name (pe_bltn (v := .ty "list") rfl B.list boot_list rfl) pa_nil))))) (pw_or (pt_cmpR (op_sameN hux) (pvQ v_law_13 rfl rfl) (pvQ v_law_11 rfl rfl) (nomark _)) (pw_or (pt_not (pt_val (pe_callF F__law_kinds (hr.mono (by decide)) (pac_Name (pvQ v_law_13 rfl rfl) pa_nil)))) (pw_or1 (pt_cmpR (op_sameN hux) (pvQ v_law_12 rfl rfl) (pvQ v_law_10 rfl rfl) (nomark _))))))) (pss_one (ps_ret pe_bl)) pss_nil)
    (pss_cons (ps_expr (pe_bm PySem.F.plainAttrs_list PySem.F.slot_list_append PySem.F.type_list_append mt_append (pvQ v_law_12 rfl rfl) (pac_Name (pvQ v_law_1 rfl rfl) pa_nil)))
    (pss_cons (ps_expr (pe_bm0 PySem.F.plainAttrs_list PySem.F.slot_list_clear PySem.F.type_list_clear mt_clear (pvQ v_law_13 rfl rfl)))
    (pss_cons (ps_asg (pe_callF F__law_least (hr.mono (by decide)) (pac_ListComp (pe_comp (sc := (defScope S_law)) (NX := ["_law_script", "_law_cards", "_law_sizes", "_law_hands", "_law_deals", "_law_views", "_law_hand", "_law_table", "_law_k", "_law_holder", "_law_some", "_law_due", "_law_handed", "_law_found", "_law_other"]) (N := ["_law_place", "_law_due", "_law_views", "_law_hand"]) (ix := [none, some 11, some 5, some 6]) rfl (by refine ⟨rfl, ?_, ?_, ?_, ?_, rfl, ?_⟩ <;> decide +kernel) (pi_range1 rfl B.range (pac_Call (pe_callB call_len_seq rfl B.len boot_len (pac_Name (pvQ v_law_4 rfl rfl) pa_nil)) pa_nil)) (by intros; exact (pg_name (i := 0) (show (["_law_place", "_law_due", "_law_views", "_law_hand"] : List Str).Nodup by decide +kernel) rfl (Or.inl rfl))) (by intros; exact ptl_nil) (by intros; exact (pm_tup (pac_Subscript (pe_ix ix_list (pe_ix ix_list (pv 2) (pv 3) (fun _ _ => rfl)) (pv 0) (fun _ _ => rfl)) (pac_Subscript (pe_ix ix_list (pv 1) (pv 0) (fun _ _ => rfl)) pa_nil))))) pa_nil)) (pg_sub (pvQ v_law_5 rfl rfl) (pvQ v_law_6 rfl rfl) set_list))
    (pss_one (ps_for PassesOwn.never rfl (pi_range1 rfl B.range (pac_Name (pvQ v_law_3 rfl rfl) pa_nil)) (pg_name (i := 14) sc_law.nd rfl (Or.inl rfl)) (pss_one (ps_if (pt_cmpR (op_sameN hux) (pe_methF F_Table_view (hr.mono (by decide)) T.cl_Table (pvQ v_law_7 rfl rfl) (pac_Name (pvQ v_law_14 rfl rfl) pa_nil)) (pe_ix ix_list (pvQ v_law_5 rfl rfl) (pvQ v_law_14 rfl rfl) (fun _ _ => rfl)) (nomark _)) (pss_one (ps_ret pe_bl)) pss_nil)))))))))))))))
    (pss_one (ps_ret pe_bl)))))))))), rd_law h⟩
theorem ok_Table_init {G : GC} {f : Addr} {fd : FuncData} (D : DefI K G.Table "Table.__init__" S_Table_init ["self", "cards", "sizes"] f fd) (B : Blt mg) (T : TabsC P w K mg G) (F_deals_of : FnB P w K mg base 5 "deals_of" ["cards", "sizes"] (sp_deals_of K)) (F_first_view : FnB P w K mg base 2 "first_view" ["deals", "hand"] (sp_first_view K)) : FnI P w K mg base 6 G.Table ["self", "cards", "sizes"] (sp_Table_init K G) := by
  refine D.ok sc_Table_init (fun vs H Q E h => len_Table_init h) (fun cdv A outer s H vs Q E hr h => ?_)
  have hu := hr.units0
  have hux := hr.units64
  exact ⟨t_Table_init K G, (pss_cons (ps_fld (pvQ v_Table_init_0 rfl rfl) (pe_callF F_deals_of (hr.mono (by decide)) (pac_Name (pvQ v_Table_init_1 rfl rfl) (pac_Name (pvQ v_Table_init_2 rfl rfl) pa_nil))) rfl)
    (pss_cons (ps_fld (pvQ v_Table_init_0 rfl rfl) (pvQ v_Table_init_1 rfl rfl) rfl)
    (pss_cons (ps_fld (pvQ v_Table_init_0 rfl rfl) (pe_callTy cm_list rfl B.list boot_list (pac_Name (pvQ v_Table_init_2 rfl rfl) pa_nil)) rfl)
    (pss_cons (ps_fld (pvQ v_Table_init_0 rfl rfl) (pe_callB call_len_seq rfl B.len boot_len (pac_Name (pvQ v_Table_init_2 rfl rfl) pa_nil)) rfl)
    (pss_cons (ps_fld (pvQ v_Table_init_0 rfl rfl) (pe_comp (sc := (defScope S_Table_init)) (NX := ["self", "cards", "sizes"]) (N := ["hand", "self"]) (ix := [none, some 0]) rfl (by refine ⟨rfl, ?_, ?_, ?_, ?_, rfl, ?_⟩ <;> decide +kernel) (pi_range1 rfl B.range (pac_Attribute (pe_fld (pvQ v_Table_init_0 rfl rfl) rfl) pa_nil)) (by intros; exact (pg_name (i := 0) (show (["hand", "self"] : List Str).Nodup by decide +kernel) rfl (Or.inl rfl))) (by intros; exact ptl_nil) (by intros; exact (pe_callF F_first_view (hr.mono (by decide)) (pac_Attribute (pe_fld (pv 1) rfl) (pac_Name (pv 0) pa_nil))))) rfl)
    (pss_one (ps_fld (pvQ v_Table_init_0 rfl rfl) (pm_lst pa_nil) rfl))))))), rd_Table_init T.ct h⟩
theorem ok_Table_view {G : GC} {f : Addr} {fd : FuncData} (D : DefM K G.Table "view" "Table.view" S_Table_view ["self", "hand"] f fd) (B : Blt mg) (T : TabsC P w K mg G) (F_is_below : FnB P w K mg base 3 "is_below" ["thing", "bound"] (sp_is_below K)) (F_refuse_unless : FnB P w K mg base 1 "refuse_unless" ["fit", "reason"] (sp_refuse_unless K)) : FnM P w K mg base 4 G.Table "view" ["self", "hand"] (sp_Table_view K G) := by
  refine D.ok sc_Table_view (fun vs H Q E h => len_Table_view h) (fun cdv A outer s H vs Q E hr h => ?_)
  have hu := hr.units0
  have hux := hr.units64
  exact ⟨t_Table_view K G, (pss_cons (ps_expr (pe_callF F_refuse_unless (hr.mono (by decide)) (pac_Call (pe_callF F_is_below (hr.mono (by decide)) (pac_Name (pvQ v_Table_view_1 rfl rfl) (pac_Attribute (pe_fld (pvQ v_Table_view_0 rfl rfl) rfl) pa_nil))) (pac_Constant pe_str pa_nil))))
    (pss_one (ps_ret (pe_callTy cm_list rfl B.list boot_list (pac_Subscript (pe_ix ix_list (pe_fld (pvQ v_Table_view_0 rfl rfl) rfl) (pvQ v_Table_view_1 rfl rfl) (fun _ _ => rfl)) pa_nil))))), rd_Table_view T.ct h⟩
theorem ok_Table_show {G : GC} {f : Addr} {fd : FuncData} (D : DefM K G.Table "show" "Table.show" S_Table_show ["self", "hand", "holder", "some"] f fd) (B : Blt mg) (T : TabsC P w K mg G) (m_set : mg "set" = none) (F_Table_learn : FnM P w K mg base 3 G.Table "learn" ["self", "hands", "values"] (sp_Table_learn K G)) (F_are_cards : FnB P w K mg base 4 "are_cards" ["thing", "cards"] (sp_are_cards K)) (F_is_below : FnB P w K mg base 3 "is_below" ["thing", "bound"] (sp_is_below K)) (F_least_held : FnB P w K mg base 1 "least_held" ["deal", "holder", "rising"] (sp_least_held K)) (F_refuse_unless : FnB P w K mg base 1 "refuse_unless" ["fit", "reason"] (sp_refuse_unless K)) : FnM P w K mg base 5 G.Table "show" ["self", "hand", "holder", "some"] (sp_Table_show K G) := by
  refine D.ok sc_Table_show (fun vs H Q E h => len_Table_show h) (fun cdv A outer s H vs Q E hr h => ?_)
  have hu := hr.units0
  have hux := hr.units64
  exact ⟨t_Table_show K G, (pss_cons (ps_expr (pe_callF F_refuse_unless (hr.mono (by decide)) (pac_Call (pe_callF F_is_below (hr.mono (by decide)) (pac_Name (pvQ v_Table_show_1 rfl rfl) (pac_Attribute (pe_fld (pvQ v_Table_show_0 rfl rfl) rfl) pa_nil))) (pac_Constant pe_str pa_nil))))
    (pss_cons (ps_expr (pe_callF F_refuse_unless (hr.mono (by decide)) (pac_Call (pe_callF F_is_below (hr.mono (by decide)) (pac_Name (pvQ v_Table_show_2 rfl rfl) (pac_BinOp (pe_op op_add (pe_fld (pvQ v_Table_show_0 rfl rfl) rfl) pe_int) pa_nil))) (pac_Constant pe_str pa_nil))))
    (pss_cons (ps_expr (pe_callF F_refuse_unless (hr.mono (by decide)) (pac_Call (pe_callF F_are_cards (hr.mono (by decide)) (pac_Name (pvQ v_Table_show_3 rfl rfl) (pac_Attribute (pe_fld (pvQ v_Table_show_0 rfl rfl) rfl) pa_nil))) (pac_Constant pe_str pa_nil))))
    (pss_cons (ps_set (i := 4) sc_Table_show.nd rfl (Or.inr rfl) (pe_sortSet rfl B.sorted m_set (pac_Name (pvQ v_Table_show_3 rfl rfl) pa_nil)))
    (pss_one (ps_ret (pe_methF F_Table_learn (hr.mono (by decide)) T.cl_Table (pvQ v_Table_show_0 rfl rfl) (pac_Tuple (pm_tup (pac_Name (pvQ v_Table_show_1 rfl rfl) pa_nil)) (pac_ListComp (pe_comp (sc := (defScope S_Table_show)) (NX := ["self", "hand", "holder", "some", "rising"]) (N := ["deal", "holder", "rising"]) (ix := [none, some 2, some 4]) rfl (by refine ⟨rfl, ?_, ?_, ?_, ?_, rfl, ?_⟩ <;> decide +kernel) (pi_list (pe_fld (pvQ v_Table_show_0 rfl rfl) rfl)) (by intros; exact (pg_name (i := 0) (show (["deal", "holder", "rising"] : List Str).Nodup by decide +kernel) rfl (Or.inl rfl))) (by intros; exact ptl_nil) (by intros; exact (pe_callF F_least_held (hr.mono (by decide)) (pac_Name (pv 0) (pac_Name (pv 1) (pac_Name (pv 2) pa_nil)))))) pa_nil))))))))), rd_Table_show T.ct h⟩
theorem ok_Table_learn {G : GC} {f : Addr} {fd : FuncData} (D : DefM K G.Table "learn" "Table.learn" S_Table_learn ["self", "hands", "values"] f fd) (B : Blt mg) (T : TabsC P w K mg G) (F_split : FnB P w K mg base 2 "split" ["view", "values"] (sp_split K)) : FnM P w K mg base 3 G.Table "learn" ["self", "hands", "values"] (sp_Table_learn K G) := by
  refine D.ok sc_Table_learn (fun vs H Q E h => len_Table_learn h) (fun cdv A outer s H vs Q E hr h => ?_)
  have hu := hr.units0
  have hux := hr.units64
  exact ⟨t_Table_learn K G, (pss_cons (ps_for PassesOwn.never rfl (pi_tup (pvQ v_Table_learn_1 rfl rfl)) (pg_name (i := 3) sc_Table_learn.nd rfl (Or.inl rfl)) (pss_one (ps_asg (pe_callF F_split (hr.mono (by decide)) (pac_Subscript (pe_ix ix_list (pe_fld (pvQ v_Table_learn_0 rfl rfl) rfl) (pvQ v_Table_learn_3 rfl rfl) (fun _ _ => rfl)) (pac_Name (pvQ v_Table_learn_2 rfl rfl) pa_nil))) (pg_sub (pe_fld (pvQ v_Table_learn_0 rfl rfl) rfl) (pvQ v_Table_learn_3 rfl rfl) set_list))))
    (pss_cons (ps_expr (pe_bm PySem.F.plainAttrs_list PySem.F.slot_list_append PySem.F.type_list_append mt_append (pe_fld (pvQ v_Table_learn_0 rfl rfl) rfl) (pac_Tuple (pm_tup (pac_Name (pvQ v_Table_learn_1 rfl rfl) (pac_Name (pvQ v_Table_learn_2 rfl rfl) pa_nil))) pa_nil)))
    (pss_one (ps_ret (pe_callTy cm_list rfl B.list boot_list (pac_Name (pvQ v_Table_learn_2 rfl rfl) pa_nil)))))), rd_Table_learn T.ct h⟩
theorem build (B : Blt mg) {G : GC} {f1 : Addr} {fd1 : FuncData} (D_is_whole : Def K mg "is_whole" S_is_whole ["thing"] f1 fd1) {f2 : Addr} {fd2 : FuncData} (D_is_within : Def K mg "is_within" S_is_within ["thing", "least", "most"] f2 fd2) {f3 : Addr} {fd3 : FuncData} (D_is_below : Def K mg "is_below" S_is_below ["thing", "bound"] f3 fd3) {f4 : Addr} {fd4 : FuncData} (D_is_pack : Def K mg "is_pack" S_is_pack ["cards", "sizes"] f4 fd4) {f5 : Addr} {fd5 : FuncData} (D_how_many : Def K mg "how_many" S_how_many ["cards", "sizes"] f5 fd5) {f6 : Addr} {fd6 : FuncData} (D_choices : Def K mg "choices" S_choices ["many", "taken"] f6 fd6) {f7 : Addr} {fd7 : FuncData} (D_deals_of : Def K mg "deals_of" S_deals_of ["cards", "sizes"] f7 fd7) {f8 : Addr} {fd8 : FuncData} (D_with_one_more : Def K mg "with_one_more" S_with_one_more ["begun", "room"] f8 fd8) {f9 : Addr} {fd9 : FuncData} (D_cards_of : Def K mg "cards_of" S_cards_of ["deal", "who"] f9 fd9) {f10 : Addr} {fd10 : FuncData} (D_first_view : Def K mg "first_view" S_first_view ["deals", "hand"] f10 fd10) {f11 : Addr} {fd11 : FuncData} (D_split : Def K mg "split" S_split ["view", "values"] f11 fd11) {f12 : Addr} {fd12 : FuncData} (D_least_with_same : Def K mg "least_with_same" S_least_with_same ["marks"] f12 fd12) {f13 : Addr} {fd13 : FuncData} (D_refuse_unless : Def K mg "refuse_unless" S_refuse_unless ["fit", "reason"] f13 fd13) {f14 : Addr} {fd14 : FuncData} (D_are_cards : Def K mg "are_cards" S_are_cards ["thing", "cards"] f14 fd14) {f15 : Addr} {fd15 : FuncData} (D_least_held : Def K mg "least_held" S_least_held ["deal", "holder", "rising"] f15 fd15) {f16 : Addr} {fd16 : FuncData} (D__law_cell : Def K mg "_law_cell" S__law_cell ["_law_script", "_law_k"] f16 fd16) {f17 : Addr} {fd17 : FuncData} (D__law_product : Def K mg "_law_product" S__law_product ["_law_many"] f17 fd17) {f18 : Addr} {fd18 : FuncData} (D__law_count : Def K mg "_law_count" S__law_count ["_law_cards", "_law_sizes"] f18 fd18) {f19 : Addr} {fd19 : FuncData} (D__law_pack : Def K mg "_law_pack" S__law_pack ["_law_script", "_law_at", "_law_most"] f19 fd19) {f20 : Addr} {fd20 : FuncData} (D__law_least : Def K mg "_law_least" S__law_least ["_law_signs"] f20 fd20) {f21 : Addr} {fd21 : FuncData} (D__law_shown : Def K mg "_law_shown" S__law_shown ["_law_deal", "_law_holder", "_law_some"] f21 fd21) {f22 : Addr} {fd22 : FuncData} (D__law_kinds : Def K mg "_law_kinds" S__law_kinds ["_law_found"] f22 fd22) {f23 : Addr} {fd23 : FuncData} (D_law : Def K mg "law" S_law ["_law_script"] f23 fd23) {f24 : Addr} {fd24 : FuncData} (D_Table_init : DefI K G.Table "Table.__init__" S_Table_init ["self", "cards", "sizes"] f24 fd24) {f25 : Addr} {fd25 : FuncData} (D_Table_view : DefM K G.Table "view" "Table.view" S_Table_view ["self", "hand"] f25 fd25) {f26 : Addr} {fd26 : FuncData} (D_Table_show : DefM K G.Table "show" "Table.show" S_Table_show ["self", "hand", "holder", "some"] f26 fd26) {f27 : Addr} {fd27 : FuncData} (D_Table_learn : DefM K G.Table "learn" "Table.learn" S_Table_learn ["self", "hands", "values"] f27 fd27) (T : TabsC P w K mg G) {t_MOST_CARDS : Tok} (m_MOST_CARDS : mg "MOST_CARDS" = some (.int 12 t_MOST_CARDS)) {t_MOST_HANDS : Tok} (m_MOST_HANDS : mg "MOST_HANDS" = some (.int 5 t_MOST_HANDS)) {t_MOST_DEALS : Tok} (m_MOST_DEALS : mg "MOST_DEALS" = some (.int 2000 t_MOST_DEALS)) (m_set : mg "set" = none) : FnOk P w K mg base CX0 8 f23 fd23 ["_law_script"] (spLaw K) := by
  have F_choices : FnB P w K mg base 1 "choices" ["many", "taken"] (sp_choices K) := ok_choices D_choices B
  have F_is_whole : FnB P w K mg base 1 "is_whole" ["thing"] (sp_is_whole K) := ok_is_whole D_is_whole B
  have F_is_within : FnB P w K mg base 2 "is_within" ["thing", "least", "most"] (sp_is_within K) := ok_is_within D_is_within B F_is_whole
  have F_is_pack : FnB P w K mg base 3 "is_pack" ["cards", "sizes"] (sp_is_pack K) := ok_is_pack D_is_pack B m_MOST_CARDS m_MOST_HANDS F_is_within
  have F_how_many : FnB P w K mg base 4 "how_many" ["cards", "sizes"] (sp_how_many K) := ok_how_many D_how_many B F_choices F_is_pack
  have F_with_one_more : FnB P w K mg base 1 "with_one_more" ["begun", "room"] (sp_with_one_more K) := ok_with_one_more D_with_one_more B
  have F_deals_of : FnB P w K mg base 5 "deals_of" ["cards", "sizes"] (sp_deals_of K) := ok_deals_of D_deals_of B m_MOST_DEALS F_how_many F_with_one_more
  have F_cards_of : FnB P w K mg base 1 "cards_of" ["deal", "who"] (sp_cards_of K) := ok_cards_of D_cards_of B
  have F_least_with_same : FnB P w K mg base 1 "least_with_same" ["marks"] (sp_least_with_same K) := ok_least_with_same D_least_with_same B
  have F_first_view : FnB P w K mg base 2 "first_view" ["deals", "hand"] (sp_first_view K) := ok_first_view D_first_view B F_cards_of F_least_with_same
  have F_Table_init : FnI P w K mg base 6 G.Table ["self", "cards", "sizes"] (sp_Table_init K G) := ok_Table_init D_Table_init B T F_deals_of F_first_view
  have F_split : FnB P w K mg base 2 "split" ["view", "values"] (sp_split K) := ok_split D_split B F_least_with_same
  have F_Table_learn : FnM P w K mg base 3 G.Table "learn" ["self", "hands", "values"] (sp_Table_learn K G) := ok_Table_learn D_Table_learn B T F_split
  have F_is_below : FnB P w K mg base 3 "is_below" ["thing", "bound"] (sp_is_below K) := ok_is_below D_is_below B F_is_within
  have F_are_cards : FnB P w K mg base 4 "are_cards" ["thing", "cards"] (sp_are_cards K) := ok_are_cards D_are_cards B F_is_below
  have F_least_held : FnB P w K mg base 1 "least_held" ["deal", "holder", "rising"] (sp_least_held K) := ok_least_held D_least_held B
  have F_refuse_unless : FnB P w K mg base 1 "refuse_unless" ["fit", "reason"] (sp_refuse_unless K) := ok_refuse_unless D_refuse_unless B
  have F_Table_show : FnM P w K mg base 5 G.Table "show" ["self", "hand", "holder", "some"] (sp_Table_show K G) := ok_Table_show D_Table_show B T m_set F_Table_learn F_are_cards F_is_below F_least_held F_refuse_unless
  have F_Table_view : FnM P w K mg base 4 G.Table "view" ["self", "hand"] (sp_Table_view K G) := ok_Table_view D_Table_view B T F_is_below F_refuse_unless
  have F__law_cell : FnB P w K mg base 1 "_law_cell" ["_law_script", "_law_k"] (sp__law_cell K) := ok__law_cell D__law_cell B
  have F__law_kinds : FnB P w K mg base 1 "_law_kinds" ["_law_found"] (sp__law_kinds K) := ok__law_kinds D__law_kinds B
  have F__law_least : FnB P w K mg base 1 "_law_least" ["_law_signs"] (sp__law_least K) := ok__law_least D__law_least B
  have F__law_product : FnB P w K mg base 1 "_law_product" ["_law_many"] (sp__law_product K) := ok__law_product D__law_product B
  have F__law_count : FnB P w K mg base 2 "_law_count" ["_law_cards", "_law_sizes"] (sp__law_count K) := ok__law_count D__law_count B F__law_product
  have F__law_pack : FnB P w K mg base 3 "_law_pack" ["_law_script", "_law_at", "_law_most"] (sp__law_pack K) := ok__law_pack D__law_pack B F__law_cell F__law_count
  have F__law_shown : FnB P w K mg base 1 "_law_shown" ["_law_deal", "_law_holder", "_law_some"] (sp__law_shown K) := ok__law_shown D__law_shown B
  exact ok_law D_law B T F_Table_init F_Table_show F_Table_view F__law_cell F__law_kinds F__law_least F__law_pack F__law_shown F_deals_of
end
@[elab_as_elim] theorem ofLen1 {α : Type} {P : List α → Prop} (us : List α) (hl : us.length = 1) (h : ∀ a0 : α, P [a0]) : P us := match us, hl with | [a0], _ => h a0
@[elab_as_elim] theorem ofLen2 {α : Type} {P : List α → Prop} (us : List α) (hl : us.length = 2) (h : ∀ a0 a1 : α, P [a0, a1]) : P us := match us, hl with | [a0, a1], _ => h a0 a1
@[elab_as_elim] theorem ofLen3 {α : Type} {P : List α → Prop} (us : List α) (hl : us.length = 3) (h : ∀ a0 a1 a2 : α, P [a0, a1, a2]) : P us := match us, hl with | [a0, a1, a2], _ => h a0 a1 a2
@[elab_as_elim] theorem ofLen4 {α : Type} {P : List α → Prop} (us : List α) (hl : us.length = 4) (h : ∀ a0 a1 a2 a3 : α, P [a0, a1, a2, a3]) : P us := match us, hl with | [a0, a1, a2, a3], _ => h a0 a1 a2 a3
theorem all_mk {l : PySem.W.OpenLaw} {w : World} {K : PySem.W.Frag} {h : Heap} {mg : Str → Option Value} {fa f1 f2 f3 f4 f5 f6 f7 f8 f9 f10 f11 f12 f13 f14 f15 f16 f17 f18 f19 f20 f21 f22 f23 f24 f25 f26 f27 : Addr} (X : K.In h) (G : h.Ns mainGlobals mg) (hfa : mg "law" = some (.ref fa))
    {od1 an1 od2 an2 od3 an3 od4 an4 od5 an5 od6 an6 od7 an7 od8 an8 od9 an9 od10 an10 od11 an11 od12 an12 od13 an13 od14 an14 od15 an15 od16 an16 od17 an17 od18 an18 od19 an19 od20 an20 od21 an21 od22 an22 od23 an23 od24 an24 od25 an25 od26 an26 od27 an27 : Option Addr} {sl1 sl2 sl3 sl4 sl5 sl6 sl7 sl8 sl9 sl10 sl11 sl12 sl13 sl14 sl15 sl16 sl17 sl18 sl19 sl20 sl21 sl22 sl23 sl24 sl25 sl26 sl27 : Array (Option Value)} {oc1 kV1 dc1 pm1 cd1 ct1 oc2 kV2 dc2 pm2 cd2 ct2 oc3 kV3 dc3 pm3 cd3 ct3 oc4 kV4 dc4 pm4 cd4 ct4 oc5 kV5 dc5 pm5 cd5 ct5 oc6 kV6 dc6 pm6 cd6 ct6 oc7 kV7 dc7 pm7 cd7 ct7 oc8 kV8 dc8 pm8 cd8 ct8 oc9 kV9 dc9 pm9 cd9 ct9 oc10 kV10 dc10 pm10 cd10 ct10 oc11 kV11 dc11 pm11 cd11 ct11 oc12 kV12 dc12 pm12 cd12 ct12 oc13 kV13 dc13 pm13 cd13 ct13 oc14 kV14 dc14 pm14 cd14 ct14 oc15 kV15 dc15 pm15 cd15 ct15 oc16 kV16 dc16 pm16 cd16 ct16 oc17 kV17 dc17 pm17 cd17 ct17 oc18 kV18 dc18 pm18 cd18 ct18 oc19 kV19 dc19 pm19 cd19 ct19 oc20 kV20 dc20 pm20 cd20 ct20 oc21 kV21 dc21 pm21 cd21 ct21 oc22 kV22 dc22 pm22 cd22 ct22 oc23 kV23 dc23 pm23 cd23 ct23 oc24 kV24 dc24 pm24 cd24 ct24 oc25 kV25 dc25 pm25 cd25 ct25 oc26 kV26 dc26 pm26 cd26 ct26 oc27 kV27 dc27 pm27 cd27 ct27 : Value} {t_MOST_CARDS : Tok}  {t_MOST_HANDS : Tok}  {t_MOST_DEALS : Tok}   {aT : Addr}
    (a1 : PySem.W.nsIn K mainGlobals "is_whole" = some (some (.ref f1))) (l1 : K.lookup f1 = some ⟨oc1, od1, .func (PySem.W.fnOf "is_whole" "is_whole" (defArgs S_is_whole) (defBody S_is_whole) (defScope S_is_whole) .none kV1 dc1 pm1 an1 cd1 ct1), sl1⟩) (c1 : PySem.W.codeIn K cd1 "is_whole" = true) (k1 : PySem.W.keepIn K (.ref f1) = true)
    (a2 : PySem.W.nsIn K mainGlobals "is_within" = some (some (.ref f2))) (l2 : K.lookup f2 = some ⟨oc2, od2, .func (PySem.W.fnOf "is_within" "is_within" (defArgs S_is_within) (defBody S_is_within) (defScope S_is_within) .none kV2 dc2 pm2 an2 cd2 ct2), sl2⟩) (c2 : PySem.W.codeIn K cd2 "is_within" = true) (k2 : PySem.W.keepIn K (.ref f2) = true)
    (a3 : PySem.W.nsIn K mainGlobals "is_below" = some (some (.ref f3))) (l3 : K.lookup f3 = some ⟨oc3, od3, .func (PySem.W.fnOf "is_below" "is_below" (defArgs S_is_below) (defBody S_is_below) (defScope S_is_below) .none kV3 dc3 pm3 an3 cd3 ct3), sl3⟩) (c3 : PySem.W.codeIn K cd3 "is_below" = true) (k3 : PySem.W.keepIn K (.ref f3) = true)
    (a4 : PySem.W.nsIn K mainGlobals "is_pack" = some (some (.ref f4))) (l4 : K.lookup f4 = some ⟨oc4, od4, .func (PySem.W.fnOf "is_pack" "is_pack" (defArgs S_is_pack) (defBody S_is_pack) (defScope S_is_pack) .none kV4 dc4 pm4 an4 cd4 ct4), sl4⟩) (c4 : PySem.W.codeIn K cd4 "is_pack" = true) (k4 : PySem.W.keepIn K (.ref f4) = true)
    (a5 : PySem.W.nsIn K mainGlobals "how_many" = some (some (.ref f5))) (l5 : K.lookup f5 = some ⟨oc5, od5, .func (PySem.W.fnOf "how_many" "how_many" (defArgs S_how_many) (defBody S_how_many) (defScope S_how_many) .none kV5 dc5 pm5 an5 cd5 ct5), sl5⟩) (c5 : PySem.W.codeIn K cd5 "how_many" = true) (k5 : PySem.W.keepIn K (.ref f5) = true)
    (a6 : PySem.W.nsIn K mainGlobals "choices" = some (some (.ref f6))) (l6 : K.lookup f6 = some ⟨oc6, od6, .func (PySem.W.fnOf "choices" "choices" (defArgs S_choices) (defBody S_choices) (defScope S_choices) .none kV6 dc6 pm6 an6 cd6 ct6), sl6⟩) (c6 : PySem.W.codeIn K cd6 "choices" = true) (k6 : PySem.W.keepIn K (.ref f6) = true)
    (a7 : PySem.W.nsIn K mainGlobals "deals_of" = some (some (.ref f7))) (l7 : K.lookup f7 = some ⟨oc7, od7, .func (PySem.W.fnOf "deals_of" "deals_of" (defArgs S_deals_of) (defBody S_deals_of) (defScope S_deals_of) .none kV7 dc7 pm7 an7 cd7 ct7), sl7⟩) (c7 : PySem.W.codeIn K cd7 "deals_of" = true) (k7 : PySem.W.keepIn K (.ref f7) = true)
    (a8 : PySem.W.nsIn K mainGlobals "with_one_more" = some (some (.ref f8))) (l8 : K.lookup f8 = some ⟨oc8, od8, .func (PySem.W.fnOf "with_one_more" "with_one_more" (defArgs S_with_one_more) (defBody S_with_one_more) (defScope S_with_one_more) .none kV8 dc8 pm8 an8 cd8 ct8), sl8⟩) (c8 : PySem.W.codeIn K cd8 "with_one_more" = true) (k8 : PySem.W.keepIn K (.ref f8) = true)
    (a9 : PySem.W.nsIn K mainGlobals "cards_of" = some (some (.ref f9))) (l9 : K.lookup f9 = some ⟨oc9, od9, .func (PySem.W.fnOf "cards_of" "cards_of" (defArgs S_cards_of) (defBody S_cards_of) (defScope S_cards_of) .none kV9 dc9 pm9 an9 cd9 ct9), sl9⟩) (c9 : PySem.W.codeIn K cd9 "cards_of" = true) (k9 : PySem.W.keepIn K (.ref f9) = true)
    (a10 : PySem.W.nsIn K mainGlobals "first_view" = some (some (.ref f10))) (l10 : K.lookup f10 = some ⟨oc10, od10, .func (PySem.W.fnOf "first_view" "first_view" (defArgs S_first_view) (defBody S_first_view) (defScope S_first_view) .none kV10 dc10 pm10 an10 cd10 ct10), sl10⟩) (c10 : PySem.W.codeIn K cd10 "first_view" = true) (k10 : PySem.W.keepIn K (.ref f10) = true)
    (a11 : PySem.W.nsIn K mainGlobals "split" = some (some (.ref f11))) (l11 : K.lookup f11 = some ⟨oc11, od11, .func (PySem.W.fnOf "split" "split" (defArgs S_split) (defBody S_split) (defScope S_split) .none kV11 dc11 pm11 an11 cd11 ct11), sl11⟩) (c11 : PySem.W.codeIn K cd11 "split" = true) (k11 : PySem.W.keepIn K (.ref f11) = true)
    (a12 : PySem.W.nsIn K mainGlobals "least_with_same" = some (some (.ref f12))) (l12 : K.lookup f12 = some ⟨oc12, od12, .func (PySem.W.fnOf "least_with_same" "least_with_same" (defArgs S_least_with_same) (defBody S_least_with_same) (defScope S_least_with_same) .none kV12 dc12 pm12 an12 cd12 ct12), sl12⟩) (c12 : PySem.W.codeIn K cd12 "least_with_same" = true) (k12 : PySem.W.keepIn K (.ref f12) = true)
    (a13 : PySem.W.nsIn K mainGlobals "refuse_unless" = some (some (.ref f13))) (l13 : K.lookup f13 = some ⟨oc13, od13, .func (PySem.W.fnOf "refuse_unless" "refuse_unless" (defArgs S_refuse_unless) (defBody S_refuse_unless) (defScope S_refuse_unless) .none kV13 dc13 pm13 an13 cd13 ct13), sl13⟩) (c13 : PySem.W.codeIn K cd13 "refuse_unless" = true) (k13 : PySem.W.keepIn K (.ref f13) = true)
    (a14 : PySem.W.nsIn K mainGlobals "are_cards" = some (some (.ref f14))) (l14 : K.lookup f14 = some ⟨oc14, od14, .func (PySem.W.fnOf "are_cards" "are_cards" (defArgs S_are_cards) (defBody S_are_cards) (defScope S_are_cards) .none kV14 dc14 pm14 an14 cd14 ct14), sl14⟩) (c14 : PySem.W.codeIn K cd14 "are_cards" = true) (k14 : PySem.W.keepIn K (.ref f14) = true)
    (a15 : PySem.W.nsIn K mainGlobals "least_held" = some (some (.ref f15))) (l15 : K.lookup f15 = some ⟨oc15, od15, .func (PySem.W.fnOf "least_held" "least_held" (defArgs S_least_held) (defBody S_least_held) (defScope S_least_held) .none kV15 dc15 pm15 an15 cd15 ct15), sl15⟩) (c15 : PySem.W.codeIn K cd15 "least_held" = true) (k15 : PySem.W.keepIn K (.ref f15) = true)
    (a16 : PySem.W.nsIn K mainGlobals "_law_cell" = some (some (.ref f16))) (l16 : K.lookup f16 = some ⟨oc16, od16, .func (PySem.W.fnOf "_law_cell" "_law_cell" (defArgs S__law_cell) (defBody S__law_cell) (defScope S__law_cell) .none kV16 dc16 pm16 an16 cd16 ct16), sl16⟩) (c16 : PySem.W.codeIn K cd16 "_law_cell" = true) (k16 : PySem.W.keepIn K (.ref f16) = true)
    (a17 : PySem.W.nsIn K mainGlobals "_law_product" = some (some (.ref f17))) (l17 : K.lookup f17 = some ⟨oc17, od17, .func (PySem.W.fnOf "_law_product" "_law_product" (defArgs S__law_product) (defBody S__law_product) (defScope S__law_product) .none kV17 dc17 pm17 an17 cd17 ct17), sl17⟩) (c17 : PySem.W.codeIn K cd17 "_law_product" = true) (k17 : PySem.W.keepIn K (.ref f17) = true)
    (a18 : PySem.W.nsIn K mainGlobals "_law_count" = some (some (.ref f18))) (l18 : K.lookup f18 = some ⟨oc18, od18, .func (PySem.W.fnOf "_law_count" "_law_count" (defArgs S__law_count) (defBody S__law_count) (defScope S__law_count) .none kV18 dc18 pm18 an18 cd18 ct18), sl18⟩) (c18 : PySem.W.codeIn K cd18 "_law_count" = true) (k18 : PySem.W.keepIn K (.ref f18) = true)
    (a19 : PySem.W.nsIn K mainGlobals "_law_pack" = some (some (.ref f19))) (l19 : K.lookup f19 = some ⟨oc19, od19, .func (PySem.W.fnOf "_law_pack" "_law_pack" (defArgs S__law_pack) (defBody S__law_pack) (defScope S__law_pack) .none kV19 dc19 pm19 an19 cd19 ct19), sl19⟩) (c19 : PySem.W.codeIn K cd19 "_law_pack" = true) (k19 : PySem.W.keepIn K (.ref f19) = true)
    (a20 : PySem.W.nsIn K mainGlobals "_law_least" = some (some (.ref f20))) (l20 : K.lookup f20 = some ⟨oc20, od20, .func (PySem.W.fnOf "_law_least" "_law_least" (defArgs S__law_least) (defBody S__law_least) (defScope S__law_least) .none kV20 dc20 pm20 an20 cd20 ct20), sl20⟩) (c20 : PySem.W.codeIn K cd20 "_law_least" = true) (k20 : PySem.W.keepIn K (.ref f20) = true)
    (a21 : PySem.W.nsIn K mainGlobals "_law_shown" = some (some (.ref f21))) (l21 : K.lookup f21 = some ⟨oc21, od21, .func (PySem.W.fnOf "_law_shown" "_law_shown" (defArgs S__law_shown) (defBody S__law_shown) (defScope S__law_shown) .none kV21 dc21 pm21 an21 cd21 ct21), sl21⟩) (c21 : PySem.W.codeIn K cd21 "_law_shown" = true) (k21 : PySem.W.keepIn K (.ref f21) = true)
    (a22 : PySem.W.nsIn K mainGlobals "_law_kinds" = some (some (.ref f22))) (l22 : K.lookup f22 = some ⟨oc22, od22, .func (PySem.W.fnOf "_law_kinds" "_law_kinds" (defArgs S__law_kinds) (defBody S__law_kinds) (defScope S__law_kinds) .none kV22 dc22 pm22 an22 cd22 ct22), sl22⟩) (c22 : PySem.W.codeIn K cd22 "_law_kinds" = true) (k22 : PySem.W.keepIn K (.ref f22) = true)
    (a23 : PySem.W.nsIn K mainGlobals "law" = some (some (.ref f23))) (l23 : K.lookup f23 = some ⟨oc23, od23, .func (PySem.W.fnOf "law" "law" (defArgs S_law) (defBody S_law) (defScope S_law) .none kV23 dc23 pm23 an23 cd23 ct23), sl23⟩) (c23 : PySem.W.codeIn K cd23 "law" = true) (k23 : PySem.W.keepIn K (.ref f23) = true)
    (a24 : PySem.W.findIn K (.ref aT) "__init__" = some (some (.ref f24))) (i24 : PySem.W.isFn K (.ref f24) = true) (l24 : K.lookup f24 = some ⟨oc24, od24, .func (PySem.W.fnOf "__init__" "Table.__init__" (defArgs S_Table_init) (defBody S_Table_init) (defScope S_Table_init) .none kV24 dc24 pm24 an24 cd24 ct24), sl24⟩) (c24 : PySem.W.codeIn K cd24 "Table.__init__" = true) (k24 : PySem.W.keepIn K (.ref f24) = true)
    (a25 : PySem.W.findIn K (.ref aT) "view" = some (some (.ref f25))) (i25 : PySem.W.isFn K (.ref f25) = true) (l25 : K.lookup f25 = some ⟨oc25, od25, .func (PySem.W.fnOf "view" "Table.view" (defArgs S_Table_view) (defBody S_Table_view) (defScope S_Table_view) .none kV25 dc25 pm25 an25 cd25 ct25), sl25⟩) (c25 : PySem.W.codeIn K cd25 "Table.view" = true) (k25 : PySem.W.keepIn K (.ref f25) = true)
    (a26 : PySem.W.findIn K (.ref aT) "show" = some (some (.ref f26))) (i26 : PySem.W.isFn K (.ref f26) = true) (l26 : K.lookup f26 = some ⟨oc26, od26, .func (PySem.W.fnOf "show" "Table.show" (defArgs S_Table_show) (defBody S_Table_show) (defScope S_Table_show) .none kV26 dc26 pm26 an26 cd26 ct26), sl26⟩) (c26 : PySem.W.codeIn K cd26 "Table.show" = true) (k26 : PySem.W.keepIn K (.ref f26) = true)
    (a27 : PySem.W.findIn K (.ref aT) "learn" = some (some (.ref f27))) (i27 : PySem.W.isFn K (.ref f27) = true) (l27 : K.lookup f27 = some ⟨oc27, od27, .func (PySem.W.fnOf "learn" "Table.learn" (defArgs S_Table_learn) (defBody S_Table_learn) (defScope S_Table_learn) .none kV27 dc27 pm27 an27 cd27 ct27), sl27⟩) (c27 : PySem.W.codeIn K cd27 "Table.learn" = true) (k27 : PySem.W.keepIn K (.ref f27) = true)
    (y1 : PySem.W.nsIn K mainGlobals "MOST_CARDS" = some (some (.int 12 t_MOST_CARDS)))
    (y2 : PySem.W.nsIn K mainGlobals "MOST_HANDS" = some (some (.int 5 t_MOST_HANDS)))
    (y3 : PySem.W.nsIn K mainGlobals "MOST_DEALS" = some (some (.int 2000 t_MOST_DEALS)))
    (y4 : PySem.W.nsIn K mainGlobals "set" = some none)
    (x1 : PySem.W.nsIn K mainGlobals "Table" = some (some (.ref aT)))
    (x2 : PySem.W.plainGet K aT Str.empty = true)
    (x3 : PySem.W.hasDictIn K aT = true)
    (x4 : PySem.W.plainOver K aT = true)
    (x5 : PySem.W.findIn K (.ref aT) "__setattr__" = some (some (.builtin "object.__setattr__")))
    (x6 : PySem.W.makesIn K aT = true)
    (x7 : PySem.W.keepIn K (.ref aT) = true)
    (x8 : PySem.W.findIn K (.ref aT) "dealt" = some none)
    (x9 : PySem.W.findIn K (.ref aT) "cards" = some none)
    (x10 : PySem.W.findIn K (.ref aT) "sizes" = some none)
    (x11 : PySem.W.findIn K (.ref aT) "hands" = some none)
    (x12 : PySem.W.findIn K (.ref aT) "views" = some none)
    (x13 : PySem.W.findIn K (.ref aT) "deeds" = some none)
    (z1 : PySem.W.nsIn K mainGlobals "len" = some none) (z2 : PySem.W.nsIn K mainGlobals "range" = some none) (z3 : PySem.W.nsIn K mainGlobals "tuple" = some none) (z4 : PySem.W.nsIn K mainGlobals "list" = some none) (z5 : PySem.W.nsIn K mainGlobals "int" = some none) (z6 : PySem.W.nsIn K mainGlobals "bool" = some none) (z7 : PySem.W.nsIn K mainGlobals "str" = some none) (z8 : PySem.W.nsIn K mainGlobals "dict" = some none) (z9 : PySem.W.nsIn K mainGlobals "sum" = some none) (z10 : PySem.W.nsIn K mainGlobals "all" = some none) (z11 : PySem.W.nsIn K mainGlobals "min" = some none) (z12 : PySem.W.nsIn K mainGlobals "max" = some none) (z13 : PySem.W.nsIn K mainGlobals "sorted" = some none) (z14 : PySem.W.nsIn K mainGlobals "enumerate" = some none) (z15 : PySem.W.nsIn K mainGlobals "zip" = some none) (z16 : PySem.W.nsIn K mainGlobals "isinstance" = some none) :
    ∃ fd : FuncData, (∀ (s : Shared) (v : Value), BindsTo s fd ⟨[v], []⟩ [("_law_script", v)]) ∧ ∀ base : Heap, K.In base → base.Ns mainGlobals mg → FnOk l.prog w K mg base CX0 8 fa fd ["_law_script"] (spLaw K) := by
  have e := hfa.symm.trans (PySem.W.mg_of X G a23)
  cases e
  have B : Blt mg := ⟨PySem.W.mg_none_of X G z1, PySem.W.mg_none_of X G z2, PySem.W.mg_none_of X G z3, PySem.W.mg_none_of X G z4, PySem.W.mg_none_of X G z5, PySem.W.mg_none_of X G z6, PySem.W.mg_none_of X G z7, PySem.W.mg_none_of X G z8, PySem.W.mg_none_of X G z9, PySem.W.mg_none_of X G z10, PySem.W.mg_none_of X G z11, PySem.W.mg_none_of X G z12, PySem.W.mg_none_of X G z13, PySem.W.mg_none_of X G z14, PySem.W.mg_none_of X G z15, PySem.W.mg_none_of X G z16⟩
  have F1 := fun_mk (st := S_is_whole) l1 c1 k1
  have D1 : Def K mg "is_whole" S_is_whole ["thing"] _ _ := ⟨F1, PySem.W.mg_of X G a1, F1.binds (ps := ["thing"]) fun _ _ _ _ _ _ us hl => ofLen1 us hl fun _ => rfl⟩
  have F2 := fun_mk (st := S_is_within) l2 c2 k2
  have D2 : Def K mg "is_within" S_is_within ["thing", "least", "most"] _ _ := ⟨F2, PySem.W.mg_of X G a2, F2.binds (ps := ["thing", "least", "most"]) fun _ _ _ _ _ _ us hl => ofLen3 us hl fun _ _ _ => rfl⟩
  have F3 := fun_mk (st := S_is_below) l3 c3 k3
  have D3 : Def K mg "is_below" S_is_below ["thing", "bound"] _ _ := ⟨F3, PySem.W.mg_of X G a3, F3.binds (ps := ["thing", "bound"]) fun _ _ _ _ _ _ us hl => ofLen2 us hl fun _ _ => rfl⟩
  have F4 := fun_mk (st := S_is_pack) l4 c4 k4
  have D4 : Def K mg "is_pack" S_is_pack ["cards", "sizes"] _ _ := ⟨F4, PySem.W.mg_of X G a4, F4.binds (ps := ["cards", "sizes"]) fun _ _ _ _ _ _ us hl => ofLen2 us hl fun _ _ => rfl⟩
  have F5 := fun_mk (st := S_how_many) l5 c5 k5
  have D5 : Def K mg "how_many" S_how_many ["cards", "sizes"] _ _ := ⟨F5, PySem.W.mg_of X G a5, F5.binds (ps := ["cards", "sizes"]) fun _ _ _ _ _ _ us hl => ofLen2 us hl fun _ _ => rfl⟩
  have F6 := fun_mk (st := S_choices) l6 c6 k6
  have D6 : Def K mg "choices" S_choices ["many", "taken"] _ _ := ⟨F6, PySem.W.mg_of X G a6, F6.binds (ps := ["many", "taken"]) fun _ _ _ _ _ _ us hl => ofLen2 us hl fun _ _ => rfl⟩
  have F7 := fun_mk (st := S_deals_of) l7 c7 k7
  have D7 : Def K mg "deals_of" S_deals_of ["cards", "sizes"] _ _ := ⟨F7, PySem.W.mg_of X G a7, F7.binds (ps := ["cards", "sizes"]) fun _ _ _ _ _ _ us hl => ofLen2 us hl fun _ _ => rfl⟩
  have F8 := fun_mk (st := S_with_one_more) l8 c8 k8
  have D8 : Def K mg "with_one_more" S_with_one_more ["begun", "room"] _ _ := ⟨F8, PySem.W.mg_of X G a8, F8.binds (ps := ["begun", "room"]) fun _ _ _ _ _ _ us hl => ofLen2 us hl fun _ _ => rfl⟩
  have F9 := fun_mk (st := S_cards_of) l9 c9 k9
  have D9 : Def K mg "cards_of" S_cards_of ["deal", "who"] _ _ := ⟨F9, PySem.W.mg_of X G a9, F9.binds (ps := ["deal", "who"]) fun _ _ _ _ _ _ us hl => ofLen2 us hl fun _ _ => rfl⟩
  have F10 := fun_mk (st := S_first_view) l10 c10 k10
  have D10 : Def K mg "first_view" S_first_view ["deals", "hand"] _ _ := ⟨F10, PySem.W.mg_of X G a10, F10.binds (ps := ["deals", "hand"]) fun _ _ _ _ _ _ us hl => ofLen2 us hl fun _ _ => rfl⟩
  have F11 := fun_mk (st := S_split) l11 c11 k11
  have D11 : Def K mg "split" S_split ["view", "values"] _ _ := ⟨F11, PySem.W.mg_of X G a11, F11.binds (ps := ["view", "values"]) fun _ _ _ _ _ _ us hl => ofLen2 us hl fun _ _ => rfl⟩
  have F12 := fun_mk (st := S_least_with_same) l12 c12 k12
  have D12 : Def K mg "least_with_same" S_least_with_same ["marks"] _ _ := ⟨F12, PySem.W.mg_of X G a12, F12.binds (ps := ["marks"]) fun _ _ _ _ _ _ us hl => ofLen1 us hl fun _ => rfl⟩
  have F13 := fun_mk (st := S_refuse_unless) l13 c13 k13
  have D13 : Def K mg "refuse_unless" S_refuse_unless ["fit", "reason"] _ _ := ⟨F13, PySem.W.mg_of X G a13, F13.binds (ps := ["fit", "reason"]) fun _ _ _ _ _ _ us hl => ofLen2 us hl fun _ _ => rfl⟩
  have F14 := fun_mk (st := S_are_cards) l14 c14 k14
  have D14 : Def K mg "are_cards" S_are_cards ["thing", "cards"] _ _ := ⟨F14, PySem.W.mg_of X G a14, F14.binds (ps := ["thing", "cards"]) fun _ _ _ _ _ _ us hl => ofLen2 us hl fun _ _ => rfl⟩
  have F15 := fun_mk (st := S_least_held) l15 c15 k15
  have D15 : Def K mg "least_held" S_least_held ["deal", "holder", "rising"] _ _ := ⟨F15, PySem.W.mg_of X G a15, F15.binds (ps := ["deal", "holder", "rising"]) fun _ _ _ _ _ _ us hl => ofLen3 us hl fun _ _ _ => rfl⟩
  have F16 := fun_mk (st := S__law_cell) l16 c16 k16
  have D16 : Def K mg "_law_cell" S__law_cell ["_law_script", "_law_k"] _ _ := ⟨F16, PySem.W.mg_of X G a16, F16.binds (ps := ["_law_script", "_law_k"]) fun _ _ _ _ _ _ us hl => ofLen2 us hl fun _ _ => rfl⟩
  have F17 := fun_mk (st := S__law_product) l17 c17 k17
  have D17 : Def K mg "_law_product" S__law_product ["_law_many"] _ _ := ⟨F17, PySem.W.mg_of X G a17, F17.binds (ps := ["_law_many"]) fun _ _ _ _ _ _ us hl => ofLen1 us hl fun _ => rfl⟩
  have F18 := fun_mk (st := S__law_count) l18 c18 k18
  have D18 : Def K mg "_law_count" S__law_count ["_law_cards", "_law_sizes"] _ _ := ⟨F18, PySem.W.mg_of X G a18, F18.binds (ps := ["_law_cards", "_law_sizes"]) fun _ _ _ _ _ _ us hl => ofLen2 us hl fun _ _ => rfl⟩
  have F19 := fun_mk (st := S__law_pack) l19 c19 k19
  have D19 : Def K mg "_law_pack" S__law_pack ["_law_script", "_law_at", "_law_most"] _ _ := ⟨F19, PySem.W.mg_of X G a19, F19.binds (ps := ["_law_script", "_law_at", "_law_most"]) fun _ _ _ _ _ _ us hl => ofLen3 us hl fun _ _ _ => rfl⟩
  have F20 := fun_mk (st := S__law_least) l20 c20 k20
  have D20 : Def K mg "_law_least" S__law_least ["_law_signs"] _ _ := ⟨F20, PySem.W.mg_of X G a20, F20.binds (ps := ["_law_signs"]) fun _ _ _ _ _ _ us hl => ofLen1 us hl fun _ => rfl⟩
  have F21 := fun_mk (st := S__law_shown) l21 c21 k21
  have D21 : Def K mg "_law_shown" S__law_shown ["_law_deal", "_law_holder", "_law_some"] _ _ := ⟨F21, PySem.W.mg_of X G a21, F21.binds (ps := ["_law_deal", "_law_holder", "_law_some"]) fun _ _ _ _ _ _ us hl => ofLen3 us hl fun _ _ _ => rfl⟩
  have F22 := fun_mk (st := S__law_kinds) l22 c22 k22
  have D22 : Def K mg "_law_kinds" S__law_kinds ["_law_found"] _ _ := ⟨F22, PySem.W.mg_of X G a22, F22.binds (ps := ["_law_found"]) fun _ _ _ _ _ _ us hl => ofLen1 us hl fun _ => rfl⟩
  have F23 := fun_mk (st := S_law) l23 c23 k23
  have D23 : Def K mg "law" S_law ["_law_script"] _ _ := ⟨F23, PySem.W.mg_of X G a23, F23.binds (ps := ["_law_script"]) fun _ _ _ _ _ _ us hl => ofLen1 us hl fun _ => rfl⟩
  have F24 := fun_mk (st := S_Table_init) l24 c24 k24
  have D24 : DefI K aT "Table.__init__" S_Table_init ["self", "cards", "sizes"] _ _ := ⟨F24, ⟨x6, a24, i24, x7⟩, F24.binds (ps := ["self", "cards", "sizes"]) fun _ _ _ _ _ _ us hl => ofLen3 us hl fun _ _ _ => rfl⟩
  have F25 := fun_mk (st := S_Table_view) l25 c25 k25
  have D25 : DefM K aT "view" "Table.view" S_Table_view ["self", "hand"] _ _ := ⟨F25, ⟨a25, i25, k25⟩, F25.binds (ps := ["self", "hand"]) fun _ _ _ _ _ _ us hl => ofLen2 us hl fun _ _ => rfl⟩
  have F26 := fun_mk (st := S_Table_show) l26 c26 k26
  have D26 : DefM K aT "show" "Table.show" S_Table_show ["self", "hand", "holder", "some"] _ _ := ⟨F26, ⟨a26, i26, k26⟩, F26.binds (ps := ["self", "hand", "holder", "some"]) fun _ _ _ _ _ _ us hl => ofLen4 us hl fun _ _ _ _ => rfl⟩
  have F27 := fun_mk (st := S_Table_learn) l27 c27 k27
  have D27 : DefM K aT "learn" "Table.learn" S_Table_learn ["self", "hands", "values"] _ _ := ⟨F27, ⟨a27, i27, k27⟩, F27.binds (ps := ["self", "hands", "values"]) fun _ _ _ _ _ _ us hl => ofLen3 us hl fun _ _ _ => rfl⟩
  refine ⟨PySem.W.fnOf "law" "law" (defArgs S_law) (defBody S_law) (defScope S_law) .none kV23 dc23 pm23 an23 cd23 ct23, fun s v => .of_eq rfl, fun base _ _ => ?_⟩
  have T : TabsC l.prog w K mg _ := tabsC_mk (PySem.W.mg_of X G x1) x2 x3 x4 x5 x8 x9 x10 x11 x12 x13
  exact build B D1 D2 D3 D4 D5 D6 D7 D8 D9 D10 D11 D12 D13 D14 D15 D16 D17 D18 D19 D20 D21 D22 D23 D24 D25 D26 D27 T (PySem.W.mg_of X G y1) (PySem.W.mg_of X G y2) (PySem.W.mg_of X G y3) (PySem.W.mg_none_of X G y4)
end Kc_k34
open PySem PySem.W PyProof.Rows
set_option maxRecDepth 100000 in
set_option maxHeartbeats 0 in
theorem PySem.Challenge.cw_knowcards_k34_cards_shown_holds : PySem.Challenge.rw_knowcards_k34_cards_shown.Holds := by
  w_on; o_law; k_head; (case hw => w_witness2)
  k_fill
  refine L2.walk_ofB (l := PySem.Challenge.rw_knowcards_k34_cards_shown) (k := 8) (x := "_law_script") rfl rfl ⟨rfl, by decide, by decide⟩ (fun w h Y => PySem.W.kIn_of Y) ?F
  case F =>
    intro w mg fa h KX G hmg
    refine' Kc_k34.all_mk KX G hmg ?a1 ?l1 ?c1 ?k1 ?a2 ?l2 ?c2 ?k2 ?a3 ?l3 ?c3 ?k3 ?a4 ?l4 ?c4 ?k4 ?a5 ?l5 ?c5 ?k5 ?a6 ?l6 ?c6 ?k6 ?a7 ?l7 ?c7 ?k7 ?a8 ?l8 ?c8 ?k8 ?a9 ?l9 ?c9 ?k9 ?a10 ?l10 ?c10 ?k10 ?a11 ?l11 ?c11 ?k11 ?a12 ?l12 ?c12 ?k12 ?a13 ?l13 ?c13 ?k13 ?a14 ?l14 ?c14 ?k14 ?a15 ?l15 ?c15 ?k15 ?a16 ?l16 ?c16 ?k16 ?a17 ?l17 ?c17 ?k17 ?a18 ?l18 ?c18 ?k18 ?a19 ?l19 ?c19 ?k19 ?a20 ?l20 ?c20 ?k20 ?a21 ?l21 ?c21 ?k21 ?a22 ?l22 ?c22 ?k22 ?a23 ?l23 ?c23 ?k23 ?a24 ?i24 ?l24 ?c24 ?k24 ?a25 ?i25 ?l25 ?c25 ?k25 ?a26 ?i26 ?l26 ?c26 ?k26 ?a27 ?i27 ?l27 ?c27 ?k27 ?y1 ?y2 ?y3 ?y4 ?x1 ?x2 ?x3 ?x4 ?x5 ?x6 ?x7 ?x8 ?x9 ?x10 ?x11 ?x12 ?x13 ?z1 ?z2 ?z3 ?z4 ?z5 ?z6 ?z7 ?z8 ?z9 ?z10 ?z11 ?z12 ?z13 ?z14 ?z15 ?z16
    (case a1 => k_is); (case l1 => k_is); (case c1 => k_is); (case k1 => k_is)
    (case a2 => k_is); (case l2 => k_is); (case c2 => k_is); (case k2 => k_is)
    (case a3 => k_is); (case l3 => k_is); (case c3 => k_is); (case k3 => k_is)
    (case a4 => k_is); (case l4 => k_is); (case c4 => k_is); (case k4 => k_is)
    (case a5 => k_is); (case l5 => k_is); (case c5 => k_is); (case k5 => k_is)
    (case a6 => k_is); (case l6 => k_is); (case c6 => k_is); (case k6 => k_is)
    (case a7 => k_is); (case l7 => k_is); (case c7 => k_is); (case k7 => k_is)
    (case a8 => k_is); (case l8 => k_is); (case c8 => k_is); (case k8 => k_is)
    (case a9 => k_is); (case l9 => k_is); (case c9 => k_is); (case k9 => k_is)
    (case a10 => k_is); (case l10 => k_is); (case c10 => k_is); (case k10 => k_is)
    (case a11 => k_is); (case l11 => k_is); (case c11 => k_is); (case k11 => k_is)
    (case a12 => k_is); (case l12 => k_is); (case c12 => k_is); (case k12 => k_is)
    (case a13 => k_is); (case l13 => k_is); (case c13 => k_is); (case k13 => k_is)
    (case a14 => k_is); (case l14 => k_is); (case c14 => k_is); (case k14 => k_is)
    (case a15 => k_is); (case l15 => k_is); (case c15 => k_is); (case k15 => k_is)
    (case a16 => k_is); (case l16 => k_is); (case c16 => k_is); (case k16 => k_is)
    (case a17 => k_is); (case l17 => k_is); (case c17 => k_is); (case k17 => k_is)
    (case a18 => k_is); (case l18 => k_is); (case c18 => k_is); (case k18 => k_is)
    (case a19 => k_is); (case l19 => k_is); (case c19 => k_is); (case k19 => k_is)
    (case a20 => k_is); (case l20 => k_is); (case c20 => k_is); (case k20 => k_is)
    (case a21 => k_is); (case l21 => k_is); (case c21 => k_is); (case k21 => k_is)
    (case a22 => k_is); (case l22 => k_is); (case c22 => k_is); (case k22 => k_is)
    (case a23 => k_is); (case l23 => k_is); (case c23 => k_is); (case k23 => k_is)
    (case y1 => k_is)
    (case y2 => k_is)
    (case y3 => k_is)
    (case y4 => k_is)
    (case x1 => k_is)
    (case x2 => k_is)
    (case x3 => k_is)
    (case x4 => k_is)
    (case x5 => k_is)
    (case x6 => k_is)
    (case x7 => k_is)
    (case x8 => k_is)
    (case x9 => k_is)
    (case x10 => k_is)
    (case x11 => k_is)
    (case x12 => k_is)
    (case x13 => k_is)
    (case a24 => k_is); (case i24 => k_is); (case l24 => k_is); (case c24 => k_is); (case k24 => k_is)
    (case a25 => k_is); (case i25 => k_is); (case l25 => k_is); (case c25 => k_is); (case k25 => k_is)
    (case a26 => k_is); (case i26 => k_is); (case l26 => k_is); (case c26 => k_is); (case k26 => k_is)
    (case a27 => k_is); (case i27 => k_is); (case l27 => k_is); (case c27 => k_is); (case k27 => k_is)
    (case z1 => k_is); (case z2 => k_is); (case z3 => k_is); (case z4 => k_is); (case z5 => k_is); (case z6 => k_is); (case z7 => k_is); (case z8 => k_is); (case z9 => k_is); (case z10 => k_is); (case z11 => k_is); (case z12 => k_is); (case z13 => k_is); (case z14 => k_is); (case z15 => k_is); (case z16 => k_is)
