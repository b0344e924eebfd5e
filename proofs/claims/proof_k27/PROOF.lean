import PyProof.Rows.All
import Wide.All
import OpenK.AllK
import Wide.FinOn
import Lean
import PyProof.EqAt
import PyProof.EqKinds
import PyProof.TupleCall
import PyProof.NeKinds
import PyProof.SumWalkG
import PyProof.ConsumeWalk
import KE.IntBitsLaws
import PyProof.ZipIter
import PyProof.DictWalks
import KE.KDictLaws
import KE.KEqDict
import PyProof.Rows.EqDataRows
import PySem.Challenge.RW_knowcards_k27_steps_counted
set_option compiler.extract_closed false
section
-- KcLayer
-- CHANGE: your row's module here, as the last of these rows
set_option Elab.async false
set_option linter.all false
set_option maxRecDepth 100000
/-! THE HAND LAYER, for ints, bools, texts, own classes, LISTS and tuples (index, slices, in, append, pop ..), calls, loops. Paste it whole ahead of your own text; what your proof does not reach may be deleted. -/
namespace L2
open PySem PySem.Spec PyProof.Rows

noncomputable abbrev Key := Sum Int Str
noncomputable def keyIs : Key → Value → Bool
  | .inl k, v => Value.isInt k v
  | .inr x, v => Value.isStrOf x v
noncomputable def keyH (w : World) : Key → Int
  | .inl k => hashInt k
  | .inr x => hashStr w x
theorem keyIs_shape : ∀ {k : Key} {v : Value}, keyIs k v = true → (∃ i t, k = Sum.inl i ∧ v = Value.int i t) ∨ (∃ x t, k = Sum.inr x ∧ v = Value.str x t)
  | .inl i, v, h => by
    obtain ⟨t, e⟩ := Value.isInt_shape (k := i) (v := v) h
    exact .inl ⟨i, t, rfl, e⟩
  | .inr x, v, h => by
    obtain ⟨t, e⟩ := Value.isStrOf_shape (x := x) (v := v) h
    exact .inr ⟨x, t, rfl, e⟩
theorem keyIs_int (i : Int) (t : Tok) : keyIs (.inl i) (.int i t) = true := by simp [keyIs, Value.isInt]
theorem keyIs_str (x : Str) (t : Tok) : keyIs (.inr x) (.str x t) = true := by simp [keyIs, Value.isStrOf]
theorem key_ll (a b : Int) : decide ((Sum.inl a : Key) = Sum.inl b) = (a == b) := by
  by_cases e : a = b
  · subst e; simp
  · have h : ¬ (Sum.inl a : Key) = Sum.inl b := fun q => e (Sum.inl.inj q)
    rw [decide_eq_false h]
    exact (beq_eq_false_iff_ne.mpr e).symm
theorem key_rr (a b : Str) : decide ((Sum.inr a : Key) = Sum.inr b) = decide (a = b) := by
  by_cases e : a = b
  · subst e; simp
  · have h : ¬ (Sum.inr a : Key) = Sum.inr b := fun q => e (Sum.inr.inj q)
    rw [decide_eq_false h, decide_eq_false e]
theorem key_lr (a : Int) (b : Str) : decide ((Sum.inl a : Key) = Sum.inr b) = false := decide_eq_false (fun q => nomatch q)
theorem key_rl (a : Str) (b : Int) : decide ((Sum.inr a : Key) = Sum.inl b) = false := decide_eq_false (fun q => nomatch q)

noncomputable def mixKind (prog : Program) (w : World) : PySem.KeyKind prog w Key where
  is := keyIs
  hash := keyH w
  inj := fun v a b ha hb => by
    rcases keyIs_shape ha with ⟨i, t, rfl, rfl⟩ | ⟨x, t, rfl, rfl⟩
    · rcases keyIs_shape hb with ⟨j, u, rfl, e⟩ | ⟨y, u, rfl, e⟩
      · injection e with e1 _; rw [e1]
      · exact nomatch e
    · rcases keyIs_shape hb with ⟨j, u, rfl, e⟩ | ⟨y, u, rfl, e⟩
      · exact nomatch e
      · injection e with e1 _; rw [e1]
  byValue := fun k v h => by
    rcases keyIs_shape h with ⟨i, t, rfl, rfl⟩ | ⟨x, t, rfl, rfl⟩ <;> rfl
  pyHash := fun hv h => by
    rcases keyIs_shape hv with ⟨i, t, rfl, rfl⟩ | ⟨x, t, rfl, rfl⟩
    · exact wpAny_pyHash_int h
    · exact wpAny_pyHash_str h
  eqBool := fun hu hv h => by
    rcases keyIs_shape hu with ⟨i, t, rfl, rfl⟩ | ⟨x, t, rfl, rfl⟩
    · rcases keyIs_shape hv with ⟨j, u, rfl, rfl⟩ | ⟨y, u, rfl, rfl⟩
      · rw [key_ll] at h; exact wpAny_eqBool_int h
      · rw [key_lr] at h; exact SeqAt.EqAt.int_str i t y u _ _ _ _ h
    · rcases keyIs_shape hv with ⟨j, u, rfl, rfl⟩ | ⟨y, u, rfl, rfl⟩
      · rw [key_rl] at h; exact SeqAt.EqAt.str_int x t j u _ _ _ _ h
      · rw [key_rr] at h; exact wpAny_eqBool_str h
  «strs» := fun k x t v h => by
    rcases keyIs_shape h with ⟨i, u, rfl, e⟩ | ⟨y, u, rfl, e⟩
    · exact nomatch e
    · injection e with e1 _
      subst e1
      cases v <;> rfl

theorem mixKind_int (prog : Program) (w : World) (i : Int) (t : Tok) : (mixKind prog w).is (.inl i) (.int i t) = true := keyIs_int i t
theorem mixKind_str (prog : Program) (w : World) (x : Str) (t : Tok) : (mixKind prog w).is (.inr x) (.str x t) = true := keyIs_str x t
end L2

namespace L2
open PySem PySem.Spec PyProof.Rows

inductive V where
  | non | bl (b : Bool) | int (i : Int) | str (x : Str) | byt (b : Array UInt8) | flt (b : UInt64) | ref (a : Addr) | ty (n : String)
  deriving DecidableEq

noncomputable def RelV : V → Value → Prop
  | .non, u => u = Value.none
  | .bl b, u => u = Value.bool b
  | .int i, u => ∃ t, u = Value.int i t
  | .str x, u => ∃ t, u = Value.str x t
  | .byt b, u => ∃ t, u = Value.bytes b t
  | .flt b, u => ∃ t, u = Value.float b t
  | .ref a, u => u = Value.ref a
  | .ty n, u => u = Value.type n

noncomputable abbrev Vals : List V → List Value → Prop := Paired RelV
theorem Vals.length {xs : List V} {us : List Value} (r : Vals xs us) : xs.length = us.length := Paired.length r
theorem Vals.get : ∀ {xs : List V} {us : List Value} {i : Nat} {x : V}, Vals xs us → xs[i]? = some x → ∃ u, us[i]? = some u ∧ RelV x u
  | _, _, _, _, .nil, e => by simp at e
  | _, _, 0, _, .cons r _, e => by simp at e; subst e; exact ⟨_, rfl, r⟩
  | _, _, i + 1, x, .cons _ t, e => by
    obtain ⟨u, h1, h2⟩ := Vals.get (i := i) (x := x) t (by simpa using e)
    exact ⟨u, by simpa using h1, h2⟩
theorem Vals.set {x : V} {u : Value} (r : RelV x u) : ∀ {xs : List V} {us : List Value} (i : Nat), Vals xs us → Vals (xs.set i x) (us.set i u)
  | _, _, _, .nil => .nil
  | _, _, 0, .cons _ t => .cons r t
  | _, _, i + 1, .cons q t => .cons q (Vals.set r i t)
theorem Vals.append : ∀ {xs ys : List V} {us ws : List Value}, Vals xs us → Vals ys ws → Vals (xs ++ ys) (us ++ ws)
  | _, _, _, _, .nil, s => s
  | _, _, _, _, .cons r t, s => .cons r (Vals.append t s)
theorem Vals.take : ∀ {xs : List V} {us : List Value} (n : Nat), Vals xs us → Vals (xs.take n) (us.take n)
  | _, _, 0, _ => .nil
  | _, _, _ + 1, .nil => .nil
  | _, _, n + 1, .cons r t => .cons r (Vals.take n t)
theorem Vals.drop : ∀ {xs : List V} {us : List Value} (n : Nat), Vals xs us → Vals (xs.drop n) (us.drop n)
  | _, _, 0, r => r
  | _, _, _ + 1, .nil => .nil
  | _, _, n + 1, .cons _ t => Vals.drop n t
noncomputable def RelO : Option V → Option Value → Prop
  | some v, some u => RelV v u
  | none, none => True
  | _, _ => False
noncomputable def KV {κ : Type} : List (κ × V) → List (κ × Value) → Prop := Paired fun (p : κ × V) (q : κ × Value) => p.1 = q.1 ∧ RelV p.2 q.2

noncomputable def kV : Key → V
  | .inl i => .int i
  | .inr x => .str x

inductive HO where
  /-- a list -/
  | lst (xs : List V)
  /-- a tuple (never changes) -/
  | tup (xs : List V)
  /-- a dict whose keys are ints and texts; one whose keys are tuples of ints and texts (the empty one is both) -/
  | dK (kvs : List (Key × V)) | dT (kvs : List (List Key × V))
  /-- a set of ints: its members, its size -/
  | set (S : Int → Bool) (n : Nat)
  /-- an instance of the class at C, its dict at dx, its attributes -/
  | ins (C dx : Addr) (fs : List (Str × V))
  /-- the dict of the instance at x -/
  | own (x : Addr)
  /-- the dict of an exception -/
  | xd (fs : List (Str × V))
  /-- a bound method, f of x -/
  | met (f x : Addr)
  /-- a range object lo, lo + 1, .. below hi -/
  | rng (lo hi : Int)
  /-- a thing that is known to the object (the script; a dict while a loop walks it): read, never written while it is so -/
  | frz (o : Obj) (u : HO)
  /-- a code object's table -/
  | tbl (ps : Array Value)
  /-- any other thing, by what is true of its one object (a def of one's own: SetO a S n := HO.ext fun h => ..) -/
  | ext (φ : Heap → Prop)

noncomputable abbrev Hp := Addr → Option HO
noncomputable def upd (H : Hp) (a : Addr) (o : HO) : Hp := fun b => if b = a then some o else H b
theorem upd_same {H : Hp} {a : Addr} {o : HO} : upd H a o a = some o := by unfold upd; rw [if_pos rfl]
theorem upd_ne {H : Hp} {a b : Addr} {o : HO} (h : b ≠ a) : upd H a o b = H b := by unfold upd; rw [if_neg h]
theorem upd_upd {H : Hp} {a : Addr} {o u : HO} : upd (upd H a o) a u = upd H a u := by
  funext b; unfold upd; split <;> rfl
theorem ne_of {H : Hp} {a b : Addr} {o u : HO} (h : H a = some o) (h' : H b = some u) (d : o ≠ u) : a ≠ b := by
  intro e; subst e; rw [h] at h'; exact d (Option.some.inj h')
theorem ne_of_none {H : Hp} {a b : Addr} {o : HO} (h : H a = some o) (h' : H b = none) : a ≠ b := by
  intro e; subst e; rw [h] at h'; cases h'

noncomputable def IsTupD (h : Heap) (a : Addr) (items : Array Value) : Prop := ∃ o, h.get? a = some o ∧ o.cls = .type "tuple" ∧ (∃ n, o.data = .seq items n) ∧ o.dict = none
theorem IsTupD.lt {h : Heap} {a : Addr} {items : Array Value} (x : IsTupD h a items) : a < h.objs.size := let ⟨_, e, _⟩ := x; Heap.lt_size e
theorem IsTupD.tup {h : Heap} {a : Addr} {items : Array Value} (x : IsTupD h a items) : IsTup h a items := let ⟨o, e, c, d, _⟩ := x; ⟨o, e, c, d⟩
theorem IsTupD.new (h : Heap) (items : Array Value) : IsTupD (h.push { cls := .type "tuple", data := .seq items }) h.objs.size items := ⟨_, Heap.get?_push_size _ rfl, rfl, ⟨_, rfl⟩, rfl⟩
section
variable (P : Program) (w : World)
noncomputable def ObjOk (H : Hp) (h : Heap) (a : Addr) : HO → Prop
  | .lst xs => xs.length ≤ sizeLine ∧ ∃ (its : List Value) (n : Nat), Vals xs its ∧ h.get? a = some { cls := .type "list", data := .seq its.toArray n }
  | .tup xs => xs.length ≤ sizeLine ∧ ∃ its : List Value, Vals xs its ∧ IsTupD h a its.toArray
  | .dK kvs => kvs.length ≤ sizeLine ∧ (a == sysModules) = false ∧ ∃ vs, KV kvs vs ∧ h.DictOf (mixKind P w) a vs
  | .dT kvs => kvs.length ≤ sizeLine ∧ (a == sysModules) = false ∧ ∃ xs : List (List Key × Addr × Value),
      Paired (fun (p : List Key × V) (q : List Key × Addr × Value) => p.1 = q.1 ∧ H q.2.1 = some (.tup (p.1.map kV)) ∧ RelV p.2 q.2.2) kvs xs ∧
      ∃ o es ep, h.get? a = some o ∧ o.ExactDict ∧ o.data = .dict es ep ∧ es.toList = xs.map (entryOfKey (tupleKind (mixKind P w))) ∧ (xs.map (·.1)).Nodup
  | .set S n => h.SetOf (intKind P w) a S n
  | .ins C dx fs => H dx = some (.own a) ∧ fs.length ≤ 1000 ∧ dx ≠ a ∧ h.get? a = some (PySem.W.instObj C dx) ∧
      ∃ mA, h.Ns1 dx mA ∧ (∀ f, RelO (fs.lookup f) (mA f)) ∧ PySem.Within mA (fs.map (·.1))
  | .own _ => ∃ o, h.get? a = some o
  | .xd fs => ∃ mA, h.Ns1 a mA ∧ ∀ f, RelO (fs.lookup f) (mA f)
  | .rng lo hi => ∃ t u v, h.get? a = some { cls := .type "range", data := .fields #[.int lo t, .int hi u, .int 1 v] }
  | .frz o u => h.get? a = some o ∧ ObjOk H h a u
  | .tbl ps => h.get? a = some { cls := .none, data := .fields ps }
  | .met f x => h.get? a = some (PySem.W.methodObj (.ref f) (.ref x))
  | .ext φ => φ h ∧ (∃ o, h.get? a = some o) ∧ ∀ h1 h2 : Heap, φ h1 → (∀ o, h1.get? a = some o → h2.get? a = some o) → φ h2
noncomputable def HOk (H : Hp) (h : Heap) : Prop := ∀ a o, H a = some o → ObjOk P w H h a o
end

section
variable {P : Program} {w : World} {H H' : Hp} {h h' : Heap} {a : Addr} {o : HO}
theorem ObjOk.lt (x : ObjOk P w H h a o) : a < h.objs.size := by
  cases o with
  | lst xs => obtain ⟨_, _, _, _, e⟩ := x; exact Heap.lt_size e
  | tup xs => obtain ⟨_, _, _, p⟩ := x; exact p.lt
  | dK kvs => obtain ⟨_, _, _, _, o, _, _, e, _⟩ := x; exact Heap.lt_size e
  | dT kvs => obtain ⟨_, _, _, _, o, _, _, e, _⟩ := x; exact Heap.lt_size e
  | set S n => obtain ⟨o, _, _, _, e, _⟩ := x; exact Heap.lt_size e
  | ins C dx fs => obtain ⟨_, _, _, e, _⟩ := x; exact Heap.lt_size e
  | own y => obtain ⟨_, e⟩ := x; exact Heap.lt_size e
  | xd fs => obtain ⟨_, ⟨_, _, _, e, _⟩, _⟩ := x; exact Heap.lt_size e
  | rng lo hi => obtain ⟨_, _, _, e⟩ := x; exact Heap.lt_size e
  | frz ob u => obtain ⟨e, _⟩ := x; exact Heap.lt_size e
  | tbl ps => exact Heap.lt_size (show h.get? a = some _ from x)
  | met f y => exact Heap.lt_size (show h.get? a = some _ from x)
  | ext φ => obtain ⟨_, ⟨_, e⟩, _⟩ := x; exact Heap.lt_size e
theorem Paired.mapP {α β : Type} {F G : α → β → Prop} : ∀ {l₁ : List α} {l₂ : List β}, Paired F l₁ l₂ → (∀ a b, F a b → G a b) → Paired G l₁ l₂
  | _, _, .nil, _ => .nil
  | _, _, .cons r t, f => .cons (f _ _ r) (Paired.mapP t f)
theorem ObjOk.stay (x : ObjOk P w H h a o) (k : ∀ b u, (b = a ∨ H b = some (.own a)) → h.get? b = some u → h'.get? b = some u)
    (ho : ∀ b, H b = some (.own a) → H' b = some (.own a)) (ht : ∀ b xs, H b = some (.tup xs) → H' b = some (.tup xs)) : ObjOk P w H' h' a o := by
  induction o with
  | lst xs => obtain ⟨z, its, n, r, e⟩ := x; exact ⟨z, its, n, r, k _ _ (.inl rfl) e⟩
  | tup xs => obtain ⟨z, its, r, ob, e, c⟩ := x; exact ⟨z, its, r, ob, k _ _ (.inl rfl) e, c⟩
  | dK kvs => obtain ⟨z, y, vs, r, ob, es, ep, e, c⟩ := x; exact ⟨z, y, vs, r, ob, es, ep, k _ _ (.inl rfl) e, c⟩
  | dT kvs =>
    obtain ⟨z, y, xs, r, ob, es, ep, e, c⟩ := x
    exact ⟨z, y, xs, Paired.mapP r fun p q z => ⟨z.1, ht _ _ z.2.1, z.2.2⟩, ob, es, ep, k _ _ (.inl rfl) e, c⟩
  | set S n => obtain ⟨ob, es, ep, t, e, c⟩ := x; exact ⟨ob, es, ep, t, k _ _ (.inl rfl) e, c⟩
  | ins C dx fs =>
    obtain ⟨d, z, ne, e, mA, ⟨od, es, ep, e2, c⟩, r⟩ := x
    exact ⟨ho _ d, z, ne, k _ _ (.inl rfl) e, mA, ⟨od, es, ep, k _ _ (.inr d) e2, c⟩, r⟩
  | own y => obtain ⟨ob, e⟩ := x; exact ⟨ob, k _ _ (.inl rfl) e⟩
  | xd fs => obtain ⟨mA, ⟨od, es, ep, e, c⟩, r⟩ := x; exact ⟨mA, ⟨od, es, ep, k _ _ (.inl rfl) e, c⟩, r⟩
  | rng lo hi => obtain ⟨t, u, v, e⟩ := x; exact ⟨t, u, v, k _ _ (.inl rfl) e⟩
  | frz ob u ih => obtain ⟨e, q⟩ := x; exact ⟨k _ _ (.inl rfl) e, ih q⟩
  | tbl ps =>
    have e : h.get? a = some { cls := .none, data := .fields ps } := x
    show h'.get? a = some { cls := .none, data := .fields ps }
    exact k a _ (.inl rfl) e
  | met f y =>
    have e : h.get? a = some (PySem.W.methodObj (.ref f) (.ref y)) := x
    show h'.get? a = some (PySem.W.methodObj (.ref f) (.ref y))
    exact k a _ (.inl rfl) e
  | ext φ => obtain ⟨p, ⟨o, e⟩, st⟩ := x; exact ⟨st _ _ p fun o q => k _ _ (.inl rfl) q, ⟨o, k _ _ (.inl rfl) e⟩, st⟩
theorem HOk.lt (x : HOk P w H h) (e : H a = some o) : a < h.objs.size := (x a o e).lt
theorem HOk.fresh (x : HOk P w H h) (e : h.objs.size ≤ a) : H a = none := by
  cases q : H a with
  | none => rfl
  | some u => exact absurd (Nat.lt_of_lt_of_le (x.lt q) e) (Nat.lt_irrefl _)
theorem HOk.kept (x : HOk P w H h) (k : ∀ b u, h.get? b = some u → h'.get? b = some u) : HOk P w H h' := fun a o e =>
  (x a o e).stay (fun b u _ q => k b u q) (fun _ q => q) fun _ _ q => q
theorem HOk.laid (x : HOk P w H h) (k : ∀ b u, h.get? b = some u → h'.get? b = some u) (hp : h.objs.size ≤ a) (new : ObjOk P w (upd H a o) h' a o) : HOk P w (upd H a o) h' := fun b u e => by
  have hn := x.fresh hp
  by_cases hb : b = a
  · subst hb; rw [upd_same] at e; cases e; exact new
  · rw [upd_ne hb] at e
    exact (x b u e).stay (fun c v _ q => k c v q) (fun c q => by rw [upd_ne (ne_of_none q hn)]; exact q) fun c xs q => by rw [upd_ne (ne_of_none q hn)]; exact q
end

noncomputable def Rd (H : Hp) (a : Addr) (u : HO) : Prop := H a = some u ∨ ∃ o, H a = some (.frz o u)
theorem Rd.of {H : Hp} {a : Addr} {u : HO} (h : H a = some u) : Rd H a u := .inl h
theorem Rd.ok {P : Program} {w : World} {H : Hp} {h : Heap} {a : Addr} {u : HO} (r : Rd H a u) (x : HOk P w H h) : ObjOk P w H h a u := by
  rcases r with r | ⟨o, r⟩
  · exact x a u r
  · obtain ⟨_, q⟩ := x a _ r
    exact q
noncomputable def Mut : Option HO → Prop
  | some (.lst _) => True
  | some (.dK _) => True
  | some (.dT _) => True
  | some (.set _ _) => True
  | some (.ins _ _ _) => True
  | some (.ext _) => True
  | _ => False
section
variable {P : Program} {w : World} {H : Hp} {h h' : Heap} {x e : Addr} {o' : HO}
theorem HOk.write (ok : HOk P w H h) (mu : Mut (H x)) (he : e = x ∨ H e = some (.own x)) (k : ∀ b u, b ≠ e → h.get? b = some u → h'.get? b = some u) (heo : ∃ u, h'.get? e = some u)
    (new : ObjOk P w (upd H x o') h' x o') : HOk P w (upd H x o') h' := fun b u q => by
  have nown : ∀ c y, H c = some (.own y) → c ≠ x := fun c y r z => by subst z; rw [r] at mu; exact mu
  have ntup : ∀ c xs, H c = some (.tup xs) → c ≠ x := fun c xs r z => by subst z; rw [r] at mu; exact mu
  by_cases hb : b = x
  · subst hb; rw [upd_same] at q; cases q; exact new
  · rw [upd_ne hb] at q
    by_cases hbe : b = e
    · have q' : H b = some (.own x) := by
        rcases he with z | z
        · exact absurd (hbe.trans z) hb
        · rw [hbe]; exact z
      rw [q] at q'; cases q'
      obtain ⟨v, hv⟩ := heo
      exact ⟨v, by rw [hbe]; exact hv⟩
    · refine (ok b u q).stay (fun c v hc r => k c v ?_ r) (fun c r => by rw [upd_ne (nown c b r)]; exact r) fun c xs r => by rw [upd_ne (ntup c xs r)]; exact r
      rcases hc with rfl | hc
      · exact hbe
      · rintro rfl
        rcases he with z | z
        · exact nown c b hc z
        · rw [hc] at z; cases z; exact hb rfl
end

/-! ### kept unless tracked; of the frames at fs (the callers') the slots may change (an exception that passes writes there); of the records at ex (iterators) nothing is said -/
structure Un (fs ex : List Addr) (H H' : Hp) (h h' : Heap) : Prop where
  keep : ∀ b o, h.get? b = some o → H b = none → b ∉ fs → b ∉ ex → h'.get? b = some o
  slot : ∀ b o, h.get? b = some o → H b = none → b ∈ fs → b ∉ ex → ∃ sl, h'.get? b = some { o with slots := sl }
  free : ∀ b o, h.get? b = some o → H b = none → b ∉ ex → H' b = none
  there : ∀ b o, h.get? b = some o → b ∉ ex → ∃ o', h'.get? b = some o'
  tups : ∀ b xs, H b = some (.tup xs) → H' b = some (.tup xs)
  frzs : ∀ b o u, H b = some (.frz o u) → H' b = some (.frz o u)
  tbls : ∀ b ps, H b = some (.tbl ps) → ∃ more, H' b = some (.tbl (ps ++ more))
section
variable {fs fs' ex ex' : List Addr} {H H1 H2 : Hp} {h h1 h2 h' : Heap} {a x e : Addr} {o : HO}
theorem Un.any (u : Un fs ex H H1 h h1) {b : Addr} {ob : Obj} (q : h.get? b = some ob) (n : H b = none) (hx : b ∉ ex) : ∃ sl, h1.get? b = some { ob with slots := sl } := by
  by_cases hb : b ∈ fs
  · exact u.slot b ob q n hb hx
  · exact ⟨ob.slots, u.keep b ob q n hb hx⟩
theorem Un.trans (a : Un fs ex H H1 h h1) (b : Un fs ex H1 H2 h1 h2) : Un fs ex H H2 h h2 where
  keep := fun c ob q n hc hx => b.keep c ob (a.keep c ob q n hc hx) (a.free c ob q n hx) hc hx
  slot := fun c ob q n hc hx => by
    obtain ⟨sl, e1⟩ := a.slot c ob q n hc hx
    obtain ⟨sl', e2⟩ := b.slot c _ e1 (a.free c ob q n hx) hc hx
    exact ⟨sl', e2⟩
  free := fun c ob q n hx => by
    obtain ⟨o', e1⟩ := a.there c ob q hx
    exact b.free c o' e1 (a.free c ob q n hx) hx
  there := fun c ob q hx => by
    obtain ⟨o', e1⟩ := a.there c ob q hx
    exact b.there c o' e1 hx
  tups := fun c xs q => b.tups c xs (a.tups c xs q)
  frzs := fun c ob xs q => b.frzs c ob xs (a.frzs c ob xs q)
  tbls := fun c ps q => by
    obtain ⟨m1, e1⟩ := a.tbls c ps q
    obtain ⟨m2, e2⟩ := b.tbls c _ e1
    exact ⟨m1 ++ m2, by rw [e2, Array.append_assoc]⟩
theorem Un.kept (k : ∀ b u, h.get? b = some u → h'.get? b = some u) : Un fs ex H H h h' :=
  ⟨fun b ob q _ _ _ => k b ob q, fun b ob q _ _ _ => ⟨ob.slots, k b ob q⟩, fun _ _ _ n _ => n, fun b ob q _ => ⟨ob, k b ob q⟩, fun _ _ q => q, fun _ _ _ q => q, fun _ ps q => ⟨#[], by rw [q]; simp⟩⟩
theorem Un.refl : Un fs ex H H h h := Un.kept fun _ _ q => q
theorem Un.laid (k : ∀ b u, h.get? b = some u → h'.get? b = some u) (hp : h.objs.size ≤ a) (hn : H a = none) : Un fs ex H (upd H a o) h h' where
  keep := fun b u q _ _ _ => k b u q
  slot := fun b u q _ _ _ => ⟨u.slots, k b u q⟩
  free := fun b u q n _ => by rw [upd_ne (Nat.ne_of_lt (Nat.lt_of_lt_of_le (Heap.lt_size q) hp))]; exact n
  there := fun b u q _ => ⟨u, k b u q⟩
  tups := fun b xs q => by rw [upd_ne (ne_of_none q hn)]; exact q
  frzs := fun b u xs q => by rw [upd_ne (ne_of_none q hn)]; exact q
  tbls := fun b ps q => ⟨#[], by rw [upd_ne (ne_of_none q hn), q]; simp⟩
theorem Un.write (mu : Mut (H x)) (he : e = x ∨ H e = some (.own x)) (k : ∀ b u, b ≠ e → h.get? b = some u → h'.get? b = some u) (heo : ∃ u, h'.get? e = some u) : Un fs ex H (upd H x o) h h' := by
  have hx : ∀ b, H b = none → b ≠ x := fun b n z => by subst z; rw [n] at mu; exact mu
  have hb : ∀ b, H b = none → b ≠ e := fun b n z => by
    subst z
    rcases he with r | r
    · exact hx b n r
    · rw [n] at r; cases r
  have hm : ∀ b u, H b = some u → ¬ Mut (some u) → b ≠ x := fun b u q nm z => by subst z; rw [q] at mu; exact nm mu
  refine ⟨fun b u q n _ _ => k b u (hb b n) q, fun b u q n _ _ => ⟨u.slots, k b u (hb b n) q⟩, fun b u q n _ => by rw [upd_ne (hx b n)]; exact n, fun b u q _ => ?_,
    fun b xs q => by rw [upd_ne (hm b _ q fun z => z)]; exact q, fun b u xs q => by rw [upd_ne (hm b _ q fun z => z)]; exact q, fun b ps q => ⟨#[], by rw [upd_ne (hm b _ q fun z => z), q]; simp⟩⟩
  by_cases hbe : b = e
  · subst hbe; exact heo
  · exact ⟨u, k b u hbe q⟩
theorem Un.mono (u : Un fs ex H H1 h h1) (hs : ∀ b ∈ fs, b ∈ fs') (hx : ∀ b ∈ ex, b ∈ ex') : Un fs' ex' H H1 h h1 :=
  ⟨fun b ob q n hb he => u.keep b ob q n (fun z => hb (hs b z)) fun z => he (hx b z), fun _ _ q n _ he => u.any q n fun z => he (hx _ z), fun b ob q n he => u.free b ob q n fun z => he (hx b z), fun b ob q he => u.there b ob q fun z => he (hx b z), u.tups, u.frzs, u.tbls⟩
end

/-! ### the heap without what is tracked -/
noncomputable def trk (h : Heap) (H : Hp) : List Addr := (List.range h.objs.size).filter fun a => (H a).isSome
noncomputable def hidT (h : Heap) (H : Hp) : Heap := PySem.W.hideAll h (trk h H)
theorem hidT_size (h : Heap) (H : Hp) : (hidT h H).objs.size = h.objs.size := PySem.W.hideAll_size _ _
theorem hidT_get {h : Heap} {H : Hp} {b : Addr} {o : Obj} (e : h.get? b = some o) (n : H b = none) : (hidT h H).get? b = some o :=
  PySem.W.hideAll_get _ e fun hm => by
    have q : (H b).isSome = true := (List.mem_filter.mp hm).2
    rw [n] at q; simp at q
theorem of_hidT {h : Heap} {H : Hp} {b : Addr} {o : Obj} (e : (hidT h H).get? b = some o) : h.get? b = some o ∧ H b = none := by
  have e' : h.get? b = some o := PySem.W.of_hideAll (trk h H) e
  refine ⟨e', ?_⟩
  cases q : H b with
  | none => rfl
  | some x =>
    have hm : b ∈ trk h H := List.mem_filter.mpr ⟨List.mem_range.mpr (Heap.lt_size e'), by simp [q]⟩
    have z : (hidT h H).get? b = none := PySem.W.hideAll_none (trk h H) hm
    rw [z] at e; cases e

/-! ### OpenK's ledger, filled with every new object but one -/
noncomputable def allNews (g h : Heap) (L : Addr) : List (Addr × Obj) := (List.range h.objs.size).filterMap fun a => if a = L ∨ (g.get? a).isSome = true then none else (h.get? a).map fun o => (a, o)
noncomputable def rest (g h : Heap) (L d : Addr) : List (Addr × Obj) := (allNews g h L).filter fun p => decide (p.1 ≠ d)
end L2

namespace L2
open PySem PySem.Spec PyProof.Rows

structure Mod (K : PySem.W.Frag) (mg : Str → Option Value) (base : Heap) : Prop where
  kin : K.In base
  glob : base.Ns mainGlobals mg
  blt : ∃ mb, base.Ns builtinsNs mb ∧ ∀ x : Str, x ≠ "__name__" → mb x = bootBuiltins x
  nolimit : base.NoLimit

structure Cx where
  prog : Program
  w : World
  K : PySem.W.Frag
  mg : Str → Option Value
  base : Heap
  A : Around
  N : List Str
  s₀ : Shared
  H₀ : Hp
  env : Env
  outer : List Env
  stack : List Env
  ex : List Addr
  fn : Str → Bool
  calm : Bool
  pn : List (Addr × Obj)
  xe : Value → Shared → Prop
noncomputable def frs (l : List Env) : List Addr := l.filterMap (·.frame)
noncomputable abbrev Cx.fs (X : Cx) : List Addr := frs X.outer

noncomputable def Vis (sc : Scope) (x : Str) : Prop := sc.names.lookup x = some .local ∨ sc.names.lookup x = some .cell ∨ sc.names.lookup x = some .free
noncomputable def Loc (sc : Scope) (x : Str) : Prop := sc.names.lookup x = some .local ∨ sc.names.lookup x = some .cell
noncomputable def Look (env : Env) (h : Heap) (m : Str → Option Value) (x : Str) (u : Value) : Prop :=
  (env.kindOf x = some .local ∧ m x = some u) ∨ ((env.kindOf x = some .cell ∨ env.kindOf x = some .free) ∧ ∃ c, env.cells.lookup x = some c ∧ h.IsCell c (some u))

structure Cx.Ok (X : Cx) : Prop where
  mod : Mod X.K X.mg X.base
  kind : X.env.scope.kind = .function
  glob : X.env.globals = mainGlobals
  blt : X.env.builtins = builtinsNs
  above : X.s₀.heap.objs.size ≤ X.env.locals
  inj : ∀ x y c, X.env.cells.lookup x = some c → X.env.cells.lookup y = some c → x = y
  has : ∀ x, (X.env.kindOf x = some .cell ∨ X.env.kindOf x = some .free) → ∃ c, X.env.cells.lookup x = some c
  cab : ∀ x c, X.fn x = true → X.env.cells.lookup x = some c → X.s₀.heap.objs.size ≤ c
  hd : X.calm = true → X.A.handled = none
  frames : X.A.frames = some X.stack
  stk : X.stack = X.outer ∨ (X.stack = X.env :: X.outer ∧ X.env.frame = some X.env.locals)
  exf : ∀ b ∈ X.ex, b ≠ X.env.locals ∧ ∀ x c, X.env.cells.lookup x = some c → c ≠ b
  bs : ∀ b o, X.base.get? b = some o → X.s₀.heap.get? b = some o ∧ X.H₀ b = none
  bsz : X.base.objs.size ≤ X.s₀.heap.objs.size
  noex : ∀ b o, X.base.get? b = some o → b ∉ X.ex
  exfs : ∀ b ∈ X.ex, b ∉ X.fs
  funs : X.s₀.heap.FunFrames X.base X.outer
  frf : ∀ b ∈ X.fs, X.H₀ b = none

structure Inv (X : Cx) (pins : List (Addr × Obj)) (σ : List (Option V)) (H : Hp) (s : Shared) : Prop where
  ok : X.Ok
  os : s.os = X.s₀.os
  bare : AllBare s.gens
  base : Un X.fs X.ex X.H₀ H X.s₀.heap s.heap
  loc : ∃ m, s.heap.Ns X.env.locals m ∧ ∀ (i : Nat) (x : Str) (v : V), X.N[i]? = some x → σ[i]? = some (some v) → Vis X.env.scope x → ∃ u, RelV v u ∧ Look X.env s.heap m x u
  cell : ∀ x c, X.env.cells.lookup x = some c → ∃ v, s.heap.IsCell c v
  free : H X.env.locals = none
  freeC : ∀ x c, X.env.cells.lookup x = some c → H c = none
  pin : ∀ p ∈ X.pn ++ pins, s.heap.get? p.1 = some p.2 ∧ H p.1 = none ∧ p.1 ≠ X.env.locals ∧ p.1 ∉ X.fs ∧ ∀ v, p.2.data ≠ .cell v
  hok : HOk X.prog X.w H s.heap
  len : σ.length = X.N.length

section
variable {X : Cx} {pins : List (Addr × Obj)} {σ : List (Option V)} {H H' : Hp} {s : Shared} {h' : Heap}

theorem Cx.Ok.nofr (ok : X.Ok) {b : Addr} {o : Obj} (e : X.base.get? b = some o) : b ∉ X.fs := fun hb => by
  have := (ok.funs.mem hb).1
  rw [e] at this; cases this
theorem Inv.bs (I : Inv X pins σ H s) : ∀ b o, X.base.get? b = some o → s.heap.get? b = some o ∧ H b = none := fun b o e =>
  ⟨I.base.keep b o (I.ok.bs b o e).1 (I.ok.bs b o e).2 (I.ok.nofr e) (I.ok.noex b o e), I.base.free b o (I.ok.bs b o e).1 (I.ok.bs b o e).2 (I.ok.noex b o e)⟩
theorem Inv.bk (I : Inv X pins σ H s) : ∀ b o, X.base.get? b = some o → s.heap.get? b = some o := fun b o e => (I.bs b o e).1
theorem Inv.mod (I : Inv X pins σ H s) : Mod X.K X.mg X.base := I.ok.mod
theorem Inv.kIn (I : Inv X pins σ H s) : X.K.In s.heap := I.ok.mod.kin.keeps I.bk
theorem Inv.nolimit (I : Inv X pins σ H s) : s.heap.NoLimit := I.ok.mod.nolimit.keeps I.bk
theorem Inv.fr (I : Inv X pins σ H s) : ∃ m, Fr X.base X.env.locals s.heap m :=
  let ⟨m, hn, _⟩ := I.loc
  ⟨m, hn, I.bk, Nat.le_trans I.ok.bsz I.ok.above⟩
theorem Inv.lt (I : Inv X pins σ H s) : X.env.locals < s.heap.objs.size := let ⟨_, hn, _⟩ := I.loc; hn.lt
theorem Inv.sz (I : Inv X pins σ H s) : X.s₀.heap.objs.size ≤ s.heap.objs.size := Nat.le_trans I.ok.above (Nat.le_of_lt I.lt)
theorem Inv.nofs (I : Inv X pins σ H s) {a : Addr} (h : s.heap.objs.size ≤ a) : a ∉ X.fs := fun hb => by
  obtain ⟨_, o, ho, _⟩ := I.ok.funs.mem hb
  exact absurd (Nat.lt_of_lt_of_le (Heap.lt_size ho) (Nat.le_trans I.sz h)) (Nat.lt_irrefl _)
theorem Inv.cne (I : Inv X pins σ H s) : ∀ x c, X.env.cells.lookup x = some c → c ≠ X.env.locals := fun x c e z => by
  obtain ⟨v, o, ho, hd⟩ := I.cell x c e
  obtain ⟨m, ⟨o', es, ep, ho', hd', _⟩, _⟩ := I.loc
  rw [z, ho'] at ho; cases ho; rw [hd'] at hd; cases hd
theorem Inv.funs (I : Inv X pins σ H s) : s.heap.FunFrames X.base X.outer := by
  have all : ∀ (l : List Env), (∀ b ∈ frs l, b ∈ X.fs) → X.s₀.heap.FunFrames X.base l → s.heap.FunFrames X.base l := by
    intro l
    induction l with
    | nil => intro _ _; trivial
    | cons env r ih =>
      intro hs hl
      obtain ⟨hk, ⟨L, o, hf, hn, ho, hd⟩, hr⟩ := hl
      have hL : L ∈ X.fs := hs L (by unfold frs; rw [List.filterMap_cons, hf]; exact List.mem_cons_self)
      obtain ⟨sl, e⟩ := I.base.slot L o ho (I.ok.frf L hL) hL fun z => I.ok.exfs L z hL
      exact ⟨hk, ⟨L, _, hf, hn, e, hd⟩, ih (fun b hb => hs b (by unfold frs; rw [List.filterMap_cons, hf]; exact List.mem_cons_of_mem _ hb)) hr⟩
  exact all X.outer (fun _ hb => hb) I.ok.funs

theorem Inv.stack (I : Inv X pins σ H s) : s.heap.FunFrames X.base X.stack := by
  rcases I.ok.stk with e | ⟨e, hf⟩
  · rw [e]; exact I.funs
  · rw [e]
    obtain ⟨m, hn, _⟩ := I.loc
    refine .cons (by rw [I.ok.kind]; decide) hf hn ?_ I.funs
    exact Heap.get?_none_of_le (Nat.le_trans I.ok.bsz I.ok.above)
theorem Inv.stkSub (I : Inv X pins σ H s) : ∀ b ∈ frs X.stack, b ∈ X.env.locals :: X.fs := fun b hb => by
  rcases I.ok.stk with e | ⟨e, hf⟩
  · rw [e] at hb; exact List.mem_cons_of_mem _ hb
  · rw [e] at hb
    unfold frs at hb
    rw [List.filterMap_cons, hf] at hb
    exact hb
theorem Inv.stkFree (I : Inv X pins σ H s) : ∀ b ∈ frs X.stack, H b = none := fun b hb => by
  rcases List.mem_cons.mp (I.stkSub b hb) with e | hb
  · rw [e]; exact I.free
  · obtain ⟨_, o, ho, _⟩ := I.ok.funs.mem hb
    exact I.base.free b o ho (I.ok.frf b hb) fun z => I.ok.exfs b z hb

theorem Inv.step {g' : Array GenState} {t' : Nat} {d' : Drawn} {ch : List Addr} (I : Inv X pins σ H s)
    (hch : ∀ b ∈ ch, (b ∈ X.ex ∨ X.s₀.heap.objs.size ≤ b) ∧ b ≠ X.env.locals ∧ (∀ x c, X.env.cells.lookup x = some c → c ≠ b) ∧ ∀ p ∈ X.pn ++ pins, p.1 ≠ b)
    (keep : ∀ b o, b ≠ X.env.locals → b ∉ X.fs → b ∉ ch → s.heap.get? b = some o → H b = none → h'.get? b = some o)
    (slot : ∀ b o, b ≠ X.env.locals → b ∈ X.fs → b ∉ ch → s.heap.get? b = some o → H b = none → ∃ sl, h'.get? b = some { o with slots := sl }) (free : ∀ b o, b ∉ ch → s.heap.get? b = some o → H b = none → H' b = none)
    (there : ∀ b o, b ∉ ch → s.heap.get? b = some o → ∃ o', h'.get? b = some o')
    (tups : ∀ b xs, H b = some (.tup xs) → H' b = some (.tup xs)) (frzs : ∀ b o u, H b = some (.frz o u) → H' b = some (.frz o u)) (tbls : ∀ b ps, H b = some (.tbl ps) → ∃ more, H' b = some (.tbl (ps ++ more)))
    (ns : ∀ m, s.heap.Ns X.env.locals m → h'.Ns X.env.locals m) (hok : HOk X.prog X.w H' h') (hg : AllBare g') :
    Inv X pins σ H' { s with heap := h', gens := g', drawn := d', toks := t' } := by
  have neL : ∀ b o, X.s₀.heap.get? b = some o → b ≠ X.env.locals := fun b o e => Nat.ne_of_lt (Nat.lt_of_lt_of_le (Heap.lt_size e) I.ok.above)
  have neC : ∀ b o, X.s₀.heap.get? b = some o → b ∉ X.ex → b ∉ ch := fun b o e hx hb => by
    rcases (hch b hb).1 with z | z
    · exact hx z
    · exact absurd (Nat.lt_of_lt_of_le (Heap.lt_size e) z) (Nat.lt_irrefl _)
  have cellK : ∀ x c, X.env.cells.lookup x = some c → ∀ v, s.heap.IsCell c v → h'.IsCell c v := fun x c e v ⟨o, ho, hd⟩ => by
    have nch : c ∉ ch := fun z => (hch c z).2.2.1 x c e rfl
    by_cases hc : c ∈ X.fs
    · obtain ⟨sl, q⟩ := slot c o (I.cne x c e) hc nch ho (I.freeC x c e)
      exact ⟨_, q, hd⟩
    · exact ⟨o, keep c o (I.cne x c e) hc nch ho (I.freeC x c e), hd⟩
  refine ⟨I.ok, I.os, hg, ⟨fun b o e n hb hx => ?_, fun b o e n hb hx => ?_, fun b o e n hx => ?_, fun b o e hx => ?_, fun b xs e => tups b xs (I.base.tups b xs e), fun b o xs e => frzs b o xs (I.base.frzs b o xs e), fun b ps e => ?_⟩, ?_, fun x c e => ?_, ?_, fun x c e => ?_, fun p hp => ?_, hok, I.len⟩
  · exact keep b o (neL b o e) hb (neC b o e hx) (I.base.keep b o e n hb hx) (I.base.free b o e n hx)
  · obtain ⟨sl, e1⟩ := I.base.slot b o e n hb hx
    obtain ⟨sl', e2⟩ := slot b _ (neL b o e) hb (neC b o e hx) e1 (I.base.free b o e n hx)
    exact ⟨sl', e2⟩
  · obtain ⟨o', e1⟩ := I.base.there b o e hx
    exact free b o' (neC b o e hx) e1 (I.base.free b o e n hx)
  · obtain ⟨o', e1⟩ := I.base.there b o e hx
    exact there b o' (neC b o e hx) e1
  · obtain ⟨m1, e1⟩ := I.base.tbls b ps e
    obtain ⟨m2, e2⟩ := tbls b _ e1
    exact ⟨m1 ++ m2, by rw [e2, Array.append_assoc]⟩
  · obtain ⟨m, hn, hl⟩ := I.loc
    refine ⟨m, ns m hn, fun i x v e1 e2 e3 => ?_⟩
    obtain ⟨u, r, l⟩ := hl i x v e1 e2 e3
    refine ⟨u, r, ?_⟩
    rcases l with l | ⟨k, c, e, z⟩
    · exact .inl l
    · exact .inr ⟨k, c, e, cellK x c e _ z⟩
  · obtain ⟨v, z⟩ := I.cell x c e
    exact ⟨v, cellK x c e v z⟩
  · obtain ⟨m, ⟨o, _, _, ho, _⟩, _⟩ := I.loc
    exact free _ o (fun z => (hch _ z).2.1 rfl) ho I.free
  · obtain ⟨v, o, ho, hd⟩ := I.cell x c e
    exact free c o (fun z => (hch c z).2.2.1 x c e rfl) ho (I.freeC x c e)
  · obtain ⟨e, n, ne, nf, d⟩ := I.pin p hp
    have nch : p.1 ∉ ch := fun z => (hch p.1 z).2.2.2 p hp rfl
    exact ⟨keep p.1 p.2 ne nf nch e n, free p.1 p.2 nch e n, ne, nf, d⟩
theorem Inv.un {t' : Nat} (I : Inv X pins σ H s) (u : Un X.fs [] H H' s.heap h') (hok : HOk X.prog X.w H' h') : Inv X pins σ H' { s with heap := h', toks := t' } := by
  obtain ⟨m, ⟨o, es, ep, ho, r⟩, _⟩ := id I.loc
  obtain ⟨sl, hL⟩ := u.any ho I.free (by simp)
  exact I.step (g' := s.gens) (d' := s.drawn) (ch := []) (fun _ z => nomatch z) (fun b o _ hb _ e n => u.keep b o e n hb (by simp)) (fun b o _ hb _ e n => u.slot b o e n hb (by simp)) (fun b o _ e n => u.free b o e n (by simp)) (fun b o _ e => u.there b o e (by simp)) u.tups u.frzs u.tbls (fun m' hm => by
    obtain ⟨o', es', ep', ho', r'⟩ := hm
    rw [ho] at ho'; cases ho'
    exact ⟨_, es', ep', hL, r'⟩) hok I.bare
theorem Inv.call {g' : Array GenState} {t' : Nat} {d' : Drawn} {ch : List Addr} (I : Inv X pins σ H s) (u : Un (frs X.stack) ch H H' s.heap h') (hok : HOk X.prog X.w H' h') (hg : AllBare g')
    (hch : ∀ b ∈ ch, (b ∈ X.ex ∨ X.s₀.heap.objs.size ≤ b) ∧ b ≠ X.env.locals ∧ (∀ x c, X.env.cells.lookup x = some c → c ≠ b) ∧ ∀ p ∈ X.pn ++ pins, p.1 ≠ b) :
    Inv X pins σ H' { s with heap := h', gens := g', drawn := d', toks := t' } := by
  obtain ⟨m, ⟨o, es, ep, ho, r⟩, _⟩ := id I.loc
  obtain ⟨sl, hL⟩ := u.any ho I.free fun z => (hch _ z).2.1 rfl
  exact I.step (ch := ch) hch (fun b o hL hb hc e n => u.keep b o e n (fun z => (List.mem_cons.mp (I.stkSub b z)).elim hL hb) hc) (fun b o _ _ hc e n => u.any e n hc) (fun b o hc e n => u.free b o e n hc) (fun b o hc e => u.there b o e hc) u.tups u.frzs u.tbls (fun m' hm => by
    obtain ⟨o', es', ep', ho', r'⟩ := hm
    rw [ho] at ho'; cases ho'
    exact ⟨_, es', ep', hL, r'⟩) hok hg
theorem Inv.turned {t' : Nat} {it : Addr} (I : Inv X pins σ H s) (k : ∀ b o, b ≠ it → s.heap.get? b = some o → h'.get? b = some o) (hn : H it = none) (hL : it ≠ X.env.locals)
    (h1 : it ∈ X.ex ∨ X.s₀.heap.objs.size ≤ it) (h2 : ∀ x c, X.env.cells.lookup x = some c → c ≠ it) (h3 : ∀ p ∈ X.pn ++ pins, p.1 ≠ it) : Inv X pins σ H { s with heap := h', toks := t' } := by
  have nit : ∀ b u, H b = some u → b ≠ it := fun b u e z => by rw [z, hn] at e; cases e
  refine I.step (g' := s.gens) (d' := s.drawn) (ch := [it]) (fun b hb => ?_) (fun b o _ _ hc e _ => k b o (fun z => hc (by simp [z])) e) (fun b o _ _ hc e _ => ⟨o.slots, k b o (fun z => hc (by simp [z])) e⟩) (fun _ _ _ _ n => n)
    (fun b o hc e => ⟨o, k b o (fun z => hc (by simp [z])) e⟩) (fun _ _ e => e) (fun _ _ _ e => e) (fun b ps e => ⟨#[], by rw [e]; simp⟩) (fun m hm => ?_) (fun b u e => ?_) I.bare
  · have e : b = it := by simpa using hb
    subst e
    exact ⟨h1, hL, h2, h3⟩
  · obtain ⟨o, es, ep, ho, r⟩ := hm
    exact ⟨o, es, ep, k _ o (Ne.symm hL) ho, r⟩
  · refine (I.hok b u e).stay (fun c v hc q => k c v ?_ q) (fun _ q => q) fun _ _ q => q
    rcases hc with z | z
    · rw [z]; exact nit b u e
    · exact nit c _ z
theorem Inv.tok (I : Inv X pins σ H s) (t : Nat) : Inv X pins σ H { s with toks := t } := I.un (h' := s.heap) (t' := t) Un.refl I.hok
theorem Inv.kept {t' : Nat} (I : Inv X pins σ H s) (k : ∀ b u, s.heap.get? b = some u → h'.get? b = some u) : Inv X pins σ H { s with heap := h', toks := t' } := I.un (Un.kept k) (I.hok.kept k)
theorem Inv.laid {a : Addr} {o : HO} {t' : Nat} (I : Inv X pins σ H s) (k : ∀ b u, s.heap.get? b = some u → h'.get? b = some u) (hp : s.heap.objs.size ≤ a) (new : ObjOk X.prog X.w (upd H a o) h' a o) :
    Inv X pins σ (upd H a o) { s with heap := h', toks := t' } := I.un (Un.laid k hp (I.hok.fresh hp)) (I.hok.laid k hp new)
theorem Inv.write {x e : Addr} {o : HO} {t' : Nat} (I : Inv X pins σ H s) (mu : Mut (H x)) (he : e = x ∨ H e = some (.own x)) (k : ∀ b u, b ≠ e → s.heap.get? b = some u → h'.get? b = some u) (heo : ∃ u, h'.get? e = some u)
    (new : ObjOk X.prog X.w (upd H x o) h' x o) : Inv X pins σ (upd H x o) { s with heap := h', toks := t' } := I.un (Un.write mu he k heo) (I.hok.write mu he k heo new)
theorem Inv.weak {σ' : List (Option V)} (I : Inv X pins σ H s) (hl : σ'.length = σ.length) (w : ∀ (i : Nat) v, σ'[i]? = some (some v) → σ[i]? = some (some v)) : Inv X pins σ' H s :=
  ⟨I.ok, I.os, I.bare, I.base, let ⟨m, hn, hl'⟩ := I.loc; ⟨m, hn, fun i x v e1 e2 e3 => hl' i x v e1 (w i v e2) e3⟩, I.cell, I.free, I.freeC, I.pin, I.hok, hl.trans I.len⟩
theorem Inv.pins_of {pins' : List (Addr × Obj)} (I : Inv X pins σ H s) (h : ∀ p ∈ pins', s.heap.get? p.1 = some p.2 ∧ H p.1 = none ∧ p.1 ≠ X.env.locals ∧ p.1 ∉ X.fs ∧ ∀ v, p.2.data ≠ .cell v) : Inv X pins' σ H s :=
  ⟨I.ok, I.os, I.bare, I.base, I.loc, I.cell, I.free, I.freeC, fun p hp => (List.mem_append.mp hp).elim (fun z => I.pin p (List.mem_append_left _ z)) (h p), I.hok, I.len⟩

theorem nodup_ix {N : List Str} (hN : N.Nodup) {i j : Nat} {x : Str} (a : N[i]? = some x) (b : N[j]? = some x) : i = j := by
  obtain ⟨h1, e1⟩ := List.getElem?_eq_some_iff.mp a
  obtain ⟨h2, e2⟩ := List.getElem?_eq_some_iff.mp b
  exact (List.getElem_inj hN).mp (e1.trans e2.symm)

theorem store_ok2 {M : Model} {A : Around} {E : Value → Shared → Prop} {i : Nat} {x : Str} {v : V} {u : Value} {Q : Unit → Shared → Prop} (I : Inv X pins σ H s) (hN : X.N.Nodup) (hi : X.N[i]? = some x) (hx : Loc X.env.scope x) (r : RelV v u)
    (h : ∀ s', Inv X pins (σ.set i (some v)) H s' → (∃ a, Heap.SameBut a s.heap s'.heap ∧ (a = X.env.locals ∨ X.env.cells.lookup x = some a)) → Q () s') (hf : X.fn x = true ∨ X.env.scope.names.lookup x = some .local := by first | exact .inl rfl | exact .inr rfl | assumption) : wpAny M A (storeName X.env x u) Q E s := by
  obtain ⟨m, hn, hl⟩ := id I.loc
  have hcls : (X.env.scope.kind == .class || (X.env.scope.kind == .module && X.env.locals != X.env.globals)) = false := by rw [I.ok.kind]; rfl
  have hiσ : i < σ.length := by rw [I.len]; exact (List.getElem?_eq_some_iff.mp hi).1
  have cne := I.cne
  have tracked : ∀ {a : Addr} {h' : Heap}, (∃ o, s.heap.get? a = some o ∧ H a = none) → Heap.SameBut a s.heap h' → HOk X.prog X.w H h' := fun {a h'} ha hs b ob e => by
    obtain ⟨_, _, hfree⟩ := ha
    refine (I.hok b ob e).stay (fun c w' hc q => (hs.2 c ?_).trans q) (fun _ q => q) fun _ _ q => q
    rintro rfl
    rcases hc with rfl | hc
    · rw [hfree] at e; cases e
    · rw [hfree] at hc; cases hc
  rcases hx with hk | hk
  · refine wpAny_storeName_local hk hn (fun h' hn' hs => ?_) hcls
    obtain ⟨oL, _, _, hoL, _⟩ := id hn
    refine h _ ⟨I.ok, I.os, I.bare, ⟨fun b o e n hb hx => ?_, fun b o e n hb hx => ?_, I.base.free, fun b o e hx => ?_, I.base.tups, I.base.frzs, I.base.tbls⟩, ⟨_, hn', fun j y v' e1 e2 e3 => ?_⟩, fun y c e => ?_, I.free, I.freeC, fun p hp => ?_, tracked ⟨oL, hoL, I.free⟩ hs, by simpa using I.len⟩ ⟨_, hs, .inl rfl⟩
    · exact (hs.2 b (Nat.ne_of_lt (Nat.lt_of_lt_of_le (Heap.lt_size e) I.ok.above))).trans (I.base.keep b o e n hb hx)
    · obtain ⟨sl, e1⟩ := I.base.slot b o e n hb hx
      exact ⟨sl, (hs.2 b (Nat.ne_of_lt (Nat.lt_of_lt_of_le (Heap.lt_size e) I.ok.above))).trans e1⟩
    · obtain ⟨o', e1⟩ := I.base.there b o e hx
      exact ⟨o', (hs.2 b (Nat.ne_of_lt (Nat.lt_of_lt_of_le (Heap.lt_size e) I.ok.above))).trans e1⟩
    · by_cases hj : j = i
      · subst hj
        rw [hi] at e1; cases e1
        rw [List.getElem?_set_self hiσ] at e2
        cases e2
        exact ⟨u, r, .inl ⟨hk, by simp⟩⟩
      · rw [List.getElem?_set_ne (Ne.symm hj)] at e2
        obtain ⟨u', r', q⟩ := hl j y v' e1 e2 e3
        refine ⟨u', r', ?_⟩
        rcases q with ⟨k, e⟩ | ⟨k, c, e, z⟩
        · refine .inl ⟨k, ?_⟩
          have : y ≠ x := fun e => hj (nodup_ix hN e1 (e ▸ hi))
          simp [this, e]
        · exact .inr ⟨k, c, e, z.sameBut hs (cne y c e)⟩
    · obtain ⟨w', z⟩ := I.cell y c e
      exact ⟨w', z.sameBut hs (cne y c e)⟩
    · obtain ⟨e, n, ne, nf, d⟩ := I.pin p hp
      exact ⟨(hs.2 p.1 ne).trans e, n, ne, nf, d⟩
  · have hfn : X.fn x = true := by
      rcases hf with z | z
      · exact z
      · rw [z] at hk; cases hk
    obtain ⟨c, hc⟩ := I.ok.has x (.inl hk)
    obtain ⟨w', z⟩ := I.cell x c hc
    refine wpAny_storeName_cell I.ok.kind hk hc z (fun h' hc' hs => ?_)
    obtain ⟨oc, hoc, hocd⟩ := id z
    refine h { s with heap := h' } ⟨I.ok, I.os, I.bare, ⟨fun b o e n hb hx => ?_, fun b o e n hb hx => ?_, I.base.free, fun b o e hx => ?_, I.base.tups, I.base.frzs, I.base.tbls⟩, ⟨m, hn.sameBut hs (Ne.symm (cne x c hc)), fun j y v' e1 e2 e3 => ?_⟩, fun y c' e => ?_, I.free, I.freeC, fun p hp => ?_, tracked ⟨oc, hoc, I.freeC x c hc⟩ hs, by simpa using I.len⟩ ⟨c, hs, .inr hc⟩
    · exact (hs.2 b (Nat.ne_of_lt (Nat.lt_of_lt_of_le (Heap.lt_size e) (I.ok.cab x c hfn hc)))).trans (I.base.keep b o e n hb hx)
    · obtain ⟨sl, e1⟩ := I.base.slot b o e n hb hx
      exact ⟨sl, (hs.2 b (Nat.ne_of_lt (Nat.lt_of_lt_of_le (Heap.lt_size e) (I.ok.cab x c hfn hc)))).trans e1⟩
    · obtain ⟨o', e1⟩ := I.base.there b o e hx
      exact ⟨o', (hs.2 b (Nat.ne_of_lt (Nat.lt_of_lt_of_le (Heap.lt_size e) (I.ok.cab x c hfn hc)))).trans e1⟩
    · by_cases hj : j = i
      · subst hj
        rw [hi] at e1; cases e1
        rw [List.getElem?_set_self hiσ] at e2
        cases e2
        exact ⟨u, r, .inr ⟨.inl hk, c, hc, hc'⟩⟩
      · rw [List.getElem?_set_ne (Ne.symm hj)] at e2
        obtain ⟨u', r', q⟩ := hl j y v' e1 e2 e3
        refine ⟨u', r', ?_⟩
        rcases q with q | ⟨k, c', e, z'⟩
        · exact .inl q
        · refine .inr ⟨k, c', e, z'.sameBut hs ?_⟩
          rintro rfl
          exact hj (nodup_ix hN e1 (I.ok.inj _ _ _ e hc ▸ hi))
    · by_cases hcc : c' = c
      · subst hcc; exact ⟨_, hc'⟩
      · obtain ⟨w2, z2⟩ := I.cell y c' e
        exact ⟨w2, z2.sameBut hs hcc⟩
    · obtain ⟨e, n, ne, nf, d⟩ := I.pin p hp
      refine ⟨(hs.2 p.1 ?_).trans e, n, ne, nf, d⟩
      intro q
      rw [q, hoc] at e
      have q' : oc = p.2 := Option.some.inj e
      exact d w' (by rw [← q']; exact hocd)
theorem store_ok {M : Model} {A : Around} {E : Value → Shared → Prop} {i : Nat} {x : Str} {v : V} {u : Value} {Q : Unit → Shared → Prop} (I : Inv X pins σ H s) (hN : X.N.Nodup) (hi : X.N[i]? = some x) (hx : Loc X.env.scope x) (r : RelV v u)
    (h : ∀ s', Inv X pins (σ.set i (some v)) H s' → Q () s') (hf : X.fn x = true ∨ X.env.scope.names.lookup x = some .local := by first | exact .inl rfl | exact .inr rfl | assumption) : wpAny M A (storeName X.env x u) Q E s :=
  store_ok2 I hN hi hx r (fun s' I' _ => h s' I') hf
theorem Inv.call' {s' : Shared} {ch : List Addr} (I : Inv X pins σ H s) (ho : s'.os = s.os) (u : Un (frs X.stack) ch H H' s.heap s'.heap) (hok : HOk X.prog X.w H' s'.heap) (hg : AllBare s'.gens)
    (hch : ∀ b ∈ ch, (b ∈ X.ex ∨ X.s₀.heap.objs.size ≤ b) ∧ b ≠ X.env.locals ∧ (∀ x c, X.env.cells.lookup x = some c → c ≠ b) ∧ ∀ p ∈ X.pn ++ pins, p.1 ≠ b) : Inv X pins σ H' s' := by
  obtain ⟨h', g', d', t', o'⟩ := s'
  have e : o' = s.os := ho
  subst e
  exact I.call (g' := g') (t' := t') (d' := d') u hok hg hch
end

/-! ### the judgements -/
noncomputable abbrev XK := Value → Option Addr → Hp → Prop
noncomputable abbrev St := List (Option V)
noncomputable abbrev VK := V → Hp → Prop
noncomputable abbrev TE := St → Hp → VK → Prop
noncomputable abbrev TT := St → Hp → (Bool → Hp → Prop) → Prop
noncomputable abbrev TA := St → Hp → (List V → Hp → Prop) → Prop
structure Ends where
  nx : St → Hp → Prop
  rt : VK
  bk : St → Hp → Prop := fun _ _ => False
  ct : St → Hp → Prop := fun _ _ => False
noncomputable abbrev TS := Ends → St → Hp → Prop

noncomputable def EP (X : Cx) (pins : List (Addr × Obj)) (σ : St) (Q : VK) (u : Value) (s' : Shared) : Prop := ∃ v H', Inv X pins σ H' s' ∧ RelV v u ∧ Q v H'
noncomputable def TP (X : Cx) (pins : List (Addr × Obj)) (σ : St) (Q : Bool → Hp → Prop) (b : Bool) (s' : Shared) : Prop := ∃ H', Inv X pins σ H' s' ∧ Q b H'
noncomputable def AP (X : Cx) (pins : List (Addr × Obj)) (σ : St) (Q : List V → Hp → Prop) (us : List Value) (s' : Shared) : Prop := ∃ vs H', Inv X pins σ H' s' ∧ Vals vs us ∧ Q vs H'
noncomputable def SP (X : Cx) (pins : List (Addr × Obj)) (D : Ends) (f : Flow) (s' : Shared) : Prop :=
  match f with
  | .next => ∃ σ' H', Inv X pins σ' H' s' ∧ D.nx σ' H'
  | .brk => ∃ σ' H', Inv X pins σ' H' s' ∧ D.bk σ' H'
  | .cont => ∃ σ' H', Inv X pins σ' H' s' ∧ D.ct σ' H'
  | .ret u => ∃ v σ' H', Inv X pins σ' H' s' ∧ RelV v u ∧ D.rt v H'

noncomputable def PE (X : Cx) (e : Expr) (t : TE) : Prop :=
  ∀ (pins : List (Addr × Obj)) (s : Shared) (σ : St) (H : Hp) (Q : VK), Inv X pins σ H s → t σ H Q → wpAny (model X.prog X.w) X.A (eval e X.env) (EP X pins σ Q) X.xe s
noncomputable def PT (X : Cx) (e : Expr) (t : TT) : Prop :=
  ∀ (pins : List (Addr × Obj)) (s : Shared) (σ : St) (H : Hp) (Q : Bool → Hp → Prop), Inv X pins σ H s → t σ H Q → wpAny (model X.prog X.w) X.A (isTrue e X.env (eval e X.env)) (TP X pins σ Q) X.xe s
noncomputable def PW (X : Cx) (e : Expr) (t : TT) : Prop :=
  ∀ (whole : Sem Value) (pins : List (Addr × Obj)) (s : Shared) (σ : St) (H : Hp) (Q : Bool → Hp → Prop), Inv X pins σ H s → t σ H Q → wpAny (model X.prog X.w) X.A (isTrue e X.env whole) (TP X pins σ Q) X.xe s
theorem PW.pt {X : Cx} {e : Expr} {t : TT} (h : PW X e t) : PT X e t := h _
noncomputable def PA (X : Cx) (es : List Expr) (t : TA) : Prop :=
  ∀ (pos : Pos) (pins : List (Addr × Obj)) (s : Shared) (σ : St) (H : Hp) (Q : List V → Hp → Prop), Inv X pins σ H s → t σ H Q → wpAny (model X.prog X.w) X.A (spliced (backTo pos (starEach es X.env))) (AP X pins σ Q) X.xe s
noncomputable def PS (X : Cx) (st : Stmt) (t : TS) : Prop :=
  ∀ (pins : List (Addr × Obj)) (s : Shared) (σ : St) (H : Hp) (D : Ends), Inv X pins σ H s → t D σ H → wpAny (model X.prog X.w) X.A (exec st X.env) (SP X pins D) X.xe s
noncomputable def PSs (X : Cx) (st : List Stmt) (t : TS) : Prop :=
  ∀ (pins : List (Addr × Obj)) (s : Shared) (σ : St) (H : Hp) (D : Ends), Inv X pins σ H s → t D σ H → wpAny (model X.prog X.w) X.A (execs st X.env) (SP X pins D) X.xe s
theorem thn {α : Type} {t : Sem α} {Q Q' : α → Shared → Prop} {M : Model} {A : Around} {E : Value → Shared → Prop} {s : Shared} (h : wpAny M A t Q E s) (hQ : ∀ a s, Q a s → Q' a s) : wpAny M A t Q' E s := wpAny_mono h hQ fun _ _ x => x
end L2

namespace L2
open PySem PySem.Spec PyProof.Rows
section
variable {X : Cx}

/-! ### names and constants -/
noncomputable def tVar (i : Nat) : TE := fun σ H Q => ∃ v, σ[i]? = some (some v) ∧ Q v H
noncomputable def tC (v : V) : TE := fun _ H Q => Q v H
theorem pe_var {i : Nat} {x : Str} {pos : Pos} (hN : X.N[i]? = some x) (hv : Vis X.env.scope x) (hd : (x == ("__debug__" : Str)) = false := by decide) (hcd : (x == ("__classdict__" : Str)) = false := by decide) : PE X (.Name x pos) (tVar i) := by
  intro pins s σ H Q I h
  obtain ⟨v, e, h⟩ := h
  obtain ⟨m, hn, hl⟩ := I.loc
  obtain ⟨u, r, l⟩ := hl i x v hN e hv
  have fin : EP X pins σ Q u s := ⟨v, H, I, r, h⟩
  rcases l with ⟨hk, hm⟩ | ⟨hk, c, hc, hcell⟩
  · exact wpAny_Name (wpAny_loadName_local I.ok.kind hk hn hm fin) hd
  · rcases hk with hk | hk
    · exact wpAny_Name (wpAny_loadName_cell I.ok.kind hk hc hcell fin) hd
    · exact wpAny_Name (wpAny_loadName_free I.ok.kind hk hc hcell fin hcd) hd
theorem pe_int {i j pos} : PE X (.Constant (.int i) j pos) (tC (.int i)) := fun _ _ _ H _ I h => wpAny_Constant_int ⟨.int i, H, I.tok _, ⟨_, rfl⟩, h⟩
theorem pe_bl {b j pos} : PE X (.Constant (.bool b) j pos) (tC (.bl b)) := fun _ _ _ H _ I h => Constant_bool ⟨.bl b, H, I, rfl, h⟩
theorem pe_non {j pos} : PE X (.Constant .none j pos) (tC .non) := fun _ _ _ H _ I h => Constant_none ⟨.non, H, I, rfl, h⟩
noncomputable def Gl (X : Cx) (x : Str) : Prop := X.env.kindOf x = some .globalImplicit
theorem ld_glob {E : Value → Shared → Prop} {pins : List (Addr × Obj)} {s : Shared} {σ : St} {H : Hp} {x : Str} {u : Value} {pos : Pos} {Q : Value → Shared → Prop} (I : Inv X pins σ H s) (hg : Gl X x) (hm : X.mg x = some u) (h : Q u s)
    (hd : (x == ("__debug__" : Str)) = false := by decide) : wpAny (model X.prog X.w) X.A (eval (.Name x pos) X.env) Q E s :=
  Calls.Name_function_global I.ok.kind hg (Calls.loadGlobal_global (by rw [I.ok.glob]; exact I.mod.glob.keeps I.bk) hm h) hd
theorem ld_blt {E : Value → Shared → Prop} {pins : List (Addr × Obj)} {s : Shared} {σ : St} {H : Hp} {x : Str} {u : Value} {pos : Pos} {Q : Value → Shared → Prop} (I : Inv X pins σ H s) (hg : Gl X x) (hm : X.mg x = none) (hv : bootBuiltins x = some u) (h : Q u s)
    (hn : x ≠ "__name__" := by decide) (hd : (x == ("__debug__" : Str)) = false := by decide) : wpAny (model X.prog X.w) X.A (eval (.Name x pos) X.env) Q E s := by
  obtain ⟨mb, h1, h2⟩ := I.mod.blt
  exact Calls.Name_function_global I.ok.kind hg (Calls.loadGlobal_builtin (by rw [I.ok.glob]; exact I.mod.glob.keeps I.bk) hm (by rw [I.ok.blt]; exact h1.keeps I.bk) ((h2 x hn).trans hv) h) hd
theorem pe_bltn {x : Str} {v : V} {u : Value} {pos : Pos} (hg : Gl X x) (hm : X.mg x = none) (hv : bootBuiltins x = some u) (r : RelV v u) (hn : x ≠ "__name__" := by decide) (hd : (x == ("__debug__" : Str)) = false := by decide) : PE X (.Name x pos) (tC v) :=
  fun _ _ _ H _ I h => ld_blt I hg hm hv ⟨v, H, I, r, h⟩ hn hd

/-! ### arithmetic -/
variable {a b : Expr} {ta tb : TE} {pos : Pos}
/-! ### comparisons -/
noncomputable def tB (t : TE) : TT := fun σ H Q => t σ H fun x H1 => ∃ c, x = .bl c ∧ Q c H1
theorem pt_val {e : Expr} {t : TE} (h : PE X e t) (he : ∀ whole, isTrue e X.env whole = (do let v ← whole; standAt e.pos; holding [v] (truthy v)) := by intro _; rfl) : PT X e (tB t) := by
  intro pins s σ H Q I hw
  refine isTrue_plain (thn (h pins s σ H _ I hw) fun v s1 ⟨x, H1, I1, r1, q1⟩ => ?_) (he _)
  obtain ⟨d, rfl, q⟩ := q1
  cases r1
  exact wpAny_truthy_bool ⟨H1, I1, q⟩

/-! ### and, or, not -/
variable {tA tB' : TT} {rest : List Expr}
noncomputable def tAnd (t u : TT) : TT := fun σ H Q => t σ H fun c H1 => if c = true then u σ H1 Q else Q false H1
noncomputable def tOr (t u : TT) : TT := fun σ H Q => t σ H fun c H1 => if c = true then Q true H1 else u σ H1 Q
noncomputable def tNot (t : TT) : TT := fun σ H Q => t σ H fun c H1 => Q (!c) H1
theorem pw_and1 (ha : PT X a tA) : PW X (.BoolOp .And [a] pos) tA := by
  intro wh pins s σ H Q I h
  refine isTrue_and (thn (ha pins s σ H Q I h) fun c s1 e => ?_)
  cases c with
  | true => exact isTrue_and_nil e
  | false => exact e
theorem pw_or1 (ha : PT X a tA) : PW X (.BoolOp .Or [a] pos) tA := by
  intro wh pins s σ H Q I h
  refine isTrue_or (thn (ha pins s σ H Q I h) fun c s1 e => ?_)
  cases c with
  | false => exact isTrue_or_nil e
  | true => exact e
theorem pw_and (ha : PT X a tA) (hb : PW X (.BoolOp .And (b :: rest) pos) tB') : PW X (.BoolOp .And (a :: b :: rest) pos) (tAnd tA tB') := by
  intro wh pins s σ H Q I h
  refine isTrue_and (thn (ha pins s σ H _ I h) fun c s1 ⟨H1, I1, q1⟩ => ?_)
  cases c with
  | true => exact hb wh pins s1 σ H1 Q I1 q1
  | false => exact ⟨H1, I1, q1⟩
theorem pw_or (ha : PT X a tA) (hb : PW X (.BoolOp .Or (b :: rest) pos) tB') : PW X (.BoolOp .Or (a :: b :: rest) pos) (tOr tA tB') := by
  intro wh pins s σ H Q I h
  refine isTrue_or (thn (ha pins s σ H _ I h) fun c s1 ⟨H1, I1, q1⟩ => ?_)
  cases c with
  | true => exact ⟨H1, I1, q1⟩
  | false => exact hb wh pins s1 σ H1 Q I1 q1
theorem pt_not (ha : PT X a tA) : PT X (.UnaryOp .Not a pos) (tNot tA) := by
  intro pins s σ H Q I h
  exact isTrue_not (ha pins s σ H (fun c H1 => Q (!c) H1) I h)
noncomputable def tAndV (ta tb : TE) : TE := fun σ H Q => ta σ H fun x H1 => ∃ c, x = .bl c ∧ if c = true then tb σ H1 Q else Q (.bl false) H1
noncomputable def tOrV (ta tb : TE) : TE := fun σ H Q => ta σ H fun x H1 => ∃ c, x = .bl c ∧ if c = true then Q (.bl true) H1 else tb σ H1 Q
noncomputable def tNotV (ta : TE) : TE := fun σ H Q => ta σ H fun x H1 => ∃ c, x = .bl c ∧ Q (.bl (!c)) H1
noncomputable def tIf (t : TT) (ta tb : TE) : TE := fun σ H Q => t σ H fun c H1 => if c = true then ta σ H1 Q else tb σ H1 Q
theorem pe_ifExp {c : Expr} (hc : PT X c tA) (ha : PE X a ta) (hb : PE X b tb) : PE X (.IfExp c a b pos) (tIf tA ta tb) := by
  intro pins s σ H Q I h
  refine wpAny_IfExp (thn (hc pins s σ H _ I h) fun d s1 ⟨H1, I1, q1⟩ => ?_)
  cases d with
  | true => exact ha pins s1 σ H1 Q I1 q1
  | false => exact hb pins s1 σ H1 Q I1 q1
end
end L2

namespace L2
open PySem PySem.Spec PyProof.Rows

/-! ### a list, a tuple that is read: tracked, frozen, or an object of the module -/
noncomputable def SqL (K : PySem.W.Frag) (H : Hp) (a : Addr) (xs : List V) : Prop :=
  Rd H a (.lst xs) ∨
    ∃ (o : Obj) (its : Array Value) (n : Nat), K.lookup a = some o ∧ o.cls = .type "list" ∧ o.dict = none ∧ o.data = .seq its n ∧ its.size ≤ sizeLine ∧ Vals xs its.toList
noncomputable def SqT (K : PySem.W.Frag) (H : Hp) (a : Addr) (xs : List V) : Prop :=
  Rd H a (.tup xs) ∨
    ∃ (o : Obj) (its : Array Value) (n : Nat), K.lookup a = some o ∧ o.cls = .type "tuple" ∧ o.data = .seq its n ∧ its.size ≤ sizeLine ∧ Vals xs its.toList
noncomputable def absV : Value → Option V
  | .none => some .non
  | .bool b => some (.bl b)
  | .int i _ => some (.int i)
  | .str x _ => some (.str x)
  | .bytes b _ => some (.byt b)
  | .float b _ => some (.flt b)
  | .ref a => some (.ref a)
  | .type n => some (.ty n)
  | _ => none
theorem RelV.abs {x : V} {u : Value} (r : RelV x u) : absV u = some x := by
  cases x with
  | non => cases r; rfl
  | bl _ => cases r; rfl
  | int _ => obtain ⟨t, rfl⟩ := r; rfl
  | str _ => obtain ⟨t, rfl⟩ := r; rfl
  | byt _ => obtain ⟨t, rfl⟩ := r; rfl
  | flt _ => obtain ⟨t, rfl⟩ := r; rfl
  | ref _ => cases r; rfl
  | ty _ => cases r; rfl
theorem RelV.inj {x y : V} {u : Value} (r : RelV x u) (q : RelV y u) : x = y := Option.some.inj (r.abs.symm.trans q.abs)
theorem Vals.inj {xs ys : List V} {us : List Value} (h : Vals xs us) : Vals ys us → xs = ys := by
  induction h generalizing ys with
  | nil => intro h; cases h; rfl
  | cons r t ih => intro h; cases h with
    | cons r' t' => rw [r.inj r', ih t']
section
variable {X : Cx} {pins : List (Addr × Obj)} {σ : St} {H : Hp} {s : Shared} {a : Addr} {xs ys : List V}
theorem SqL.of {K : PySem.W.Frag} (h : H a = some (.lst xs)) : SqL K H a xs := .inl (.inl h)
theorem SqT.of {K : PySem.W.Frag} (h : H a = some (.tup xs)) : SqT K H a xs := .inl (.inl h)
theorem Inv.list (I : Inv X pins σ H s) (h : SqL X.K H a xs) : ∃ its : List Value, Vals xs its ∧ PlainL s.heap a its.toArray ∧ xs.length ≤ sizeLine := by
  rcases h with h | ⟨o, its, n, hk, hc, hd, hs, hz, r⟩
  · obtain ⟨z, its, n, r, e⟩ := h.ok I.hok
    exact ⟨its, r, ⟨_, n, e, rfl, rfl, rfl⟩, z⟩
  · refine ⟨its.toList, r, ⟨o, n, I.kIn a o hk, hc, hd, by simpa using hs⟩, ?_⟩
    have e := r.length
    simp only [Array.length_toList] at e
    omega
theorem Inv.tuple (I : Inv X pins σ H s) (h : SqT X.K H a xs) : ∃ its : List Value, Vals xs its ∧ IsTup s.heap a its.toArray ∧ xs.length ≤ sizeLine := by
  rcases h with h | ⟨o, its, n, hk, hc, hs, hz, r⟩
  · obtain ⟨z, its, r, p⟩ := h.ok I.hok
    exact ⟨its, r, p.tup, z⟩
  · refine ⟨its.toList, r, ⟨o, I.kIn a o hk, hc, n, by simpa using hs⟩, ?_⟩
    have e := r.length
    simp only [Array.length_toList] at e
    omega
theorem Inv.list_inj (I : Inv X pins σ H s) (h : SqL X.K H a xs) (h' : SqL X.K H a ys) : xs = ys := by
  obtain ⟨its, r, ⟨o, n, e, _, _, d⟩, _⟩ := I.list h
  obtain ⟨its', r', ⟨o', n', e', _, _, d'⟩, _⟩ := I.list h'
  rw [e] at e'; cases e'
  rw [d] at d'
  injection d' with d1 _
  have : its = its' := by simpa using congrArg Array.toList d1
  subst this
  exact r.inj r'
end

/-! ### another wish about exceptions -/
noncomputable abbrev Cx.wish (X : Cx) (E : Value → Shared → Prop) : Cx := { X with xe := E }
noncomputable abbrev Cx.nox (X : Cx) : Cx := X.wish fun _ _ => False
theorem Cx.Ok.wish {X : Cx} (ok : X.Ok) (E : Value → Shared → Prop) : (X.wish E).Ok :=
  ⟨ok.mod, ok.kind, ok.glob, ok.blt, ok.above, ok.inj, ok.has, ok.cab, ok.hd, ok.frames, ok.stk, ok.exf, ok.bs, ok.bsz, ok.noex, ok.exfs, ok.funs, ok.frf⟩
theorem Cx.Ok.unwish {X : Cx} {E : Value → Shared → Prop} (ok : (X.wish E).Ok) : X.Ok :=
  ⟨ok.mod, ok.kind, ok.glob, ok.blt, ok.above, ok.inj, ok.has, ok.cab, ok.hd, ok.frames, ok.stk, ok.exf, ok.bs, ok.bsz, ok.noex, ok.exfs, ok.funs, ok.frf⟩
section
variable {X : Cx} {pins : List (Addr × Obj)} {σ : St} {H : Hp} {s : Shared} {E : Value → Shared → Prop}
theorem Inv.wish (I : Inv X pins σ H s) (E : Value → Shared → Prop) : Inv (X.wish E) pins σ H s := ⟨I.ok.wish E, I.os, I.bare, I.base, I.loc, I.cell, I.free, I.freeC, I.pin, I.hok, I.len⟩
theorem Inv.unwish (I : Inv (X.wish E) pins σ H s) : Inv X pins σ H s := ⟨I.ok.unwish, I.os, I.bare, I.base, I.loc, I.cell, I.free, I.freeC, I.pin, I.hok, I.len⟩
theorem SP.unwish {D : Ends} {f : Flow} {s' : Shared} (h : SP (X.wish E) pins D f s') : SP X pins D f s' := by
  cases f with
  | next => obtain ⟨σ', H', I, q⟩ := h; exact ⟨σ', H', I.unwish, q⟩
  | brk => obtain ⟨σ', H', I, q⟩ := h; exact ⟨σ', H', I.unwish, q⟩
  | cont => obtain ⟨σ', H', I, q⟩ := h; exact ⟨σ', H', I.unwish, q⟩
  | ret u => obtain ⟨v, σ', H', I, r, q⟩ := h; exact ⟨v, σ', H', I.unwish, r, q⟩
theorem PE.nox {e : Expr} {t : TE} (h : PE X.nox e t) : PE X e t := fun pins s σ H Q I hw =>
  wpAny_mono (h pins s σ H Q (I.wish _) hw) (fun _ _ ⟨v, H', I', r, q⟩ => ⟨v, H', I'.unwish, r, q⟩) fun _ _ z => False.elim z
theorem PT.nox {e : Expr} {t : TT} (h : PT X.nox e t) : PT X e t := fun pins s σ H Q I hw =>
  wpAny_mono (h pins s σ H Q (I.wish _) hw) (fun _ _ ⟨H', I', q⟩ => ⟨H', I'.unwish, q⟩) fun _ _ z => False.elim z
theorem PSs.nox {st : List Stmt} {t : TS} (h : PSs X.nox st t) : PSs X st t := fun pins s σ H D I hw =>
  wpAny_mono (h pins s σ H D (I.wish _) hw) (fun _ _ q => q.unwish) fun _ _ z => False.elim z
end

/-! ### blocks and small statements -/
section
variable {X : Cx} {st : Stmt} {rest : List Stmt} {t u : TS} {e : Expr} {te : TE} {pos : Pos}
noncomputable def tNext : TS := fun D σ H => D.nx σ H
noncomputable def tSeq (t u : TS) : TS := fun D σ H => t { D with nx := u D } σ H
theorem pss_nil : PSs X [] tNext := fun _ _ σ H _ I h => wpAny_execs_nil ⟨σ, H, I, h⟩
theorem pss_cons (h1 : PS X st t) (h2 : PSs X rest u) : PSs X (st :: rest) (tSeq t u) := by
  intro pins s σ H D I h
  refine wpAny_execs_cons (thn (h1 pins s σ H { D with nx := u D } I h) fun f s1 q => ?_)
  cases f with
  | next =>
    obtain ⟨σ', H', I', q⟩ := q
    exact h2 pins s1 σ' H' D I' q
  | ret v => exact q
  | brk => exact q
  | cont => exact q
theorem pss_one (h1 : PS X st t) : PSs X [st] t := by
  intro pins s σ H D I h
  refine wpAny_execs_cons (thn (h1 pins s σ H D I h) fun f s1 q => ?_)
  cases f with
  | next => exact wpAny_execs_nil q
  | ret v => exact q
  | brk => exact q
  | cont => exact q
noncomputable def tBreak : TS := fun D σ H => D.bk σ H
noncomputable def tCont : TS := fun D σ H => D.ct σ H
theorem Inv.quiet {pins : List (Addr × Obj)} {σ : St} {H : Hp} {s : Shared} (I : Inv X pins σ H s) : interactive X.env = false := by simp [interactive, I.ok.kind]
noncomputable def tDrop (te : TE) : TS := fun D σ H => te σ H fun _ H1 => D.nx σ H1
theorem ps_expr (he : PE X e te) (hs : swapsWith e none pos.line X.env = pure false := by rfl) : PS X (.Expr e pos) (tDrop te) := by
  intro pins s σ H D I h
  exact wpAny_Expr_any (thn (he pins s σ H _ I h) fun v s1 ⟨x, H1, I1, r1, q1⟩ => ⟨σ, H1, I1, q1⟩) I.quiet hs
noncomputable def tRet (te : TE) : TS := fun D σ H => te σ H D.rt
theorem ps_ret (he : PE X e te) : PS X (.Return (some e) pos) (tRet te) := by
  intro pins s σ H D I h
  exact wpAny_Return_some (thn (he pins s σ H _ I h) fun v s1 ⟨x, H1, I1, r1, q1⟩ => ⟨x, σ, H1, I1, r1, q1⟩)
noncomputable def tRetN : TS := fun D _ H => D.rt .non H
noncomputable def tIfS (c : TT) (t u : TS) : TS := fun D σ H => c σ H fun b H1 => if b = true then t D σ H1 else u D σ H1
theorem ps_if {c : Expr} {a b : List Stmt} {tc : TT} (hc : PT X c tc) (ha : PSs X a t) (hb : PSs X b u) : PS X (.If c a b pos) (tIfS tc t u) := by
  intro pins s σ H D I h
  refine wpAny_If (thn (hc pins s σ H _ I h) fun d s1 ⟨H1, I1, q1⟩ => ?_)
  cases d with
  | true => exact ha pins s1 σ H1 D I1 q1
  | false => exact hb pins s1 σ H1 D I1 q1
end

/-! ### targets -/
noncomputable abbrev TG := V → St → Hp → (St → Hp → Prop) → Prop
noncomputable abbrev TGs := List V → St → Hp → (St → Hp → Prop) → Prop
noncomputable def PG (X : Cx) (target : Expr) (t : TG) : Prop :=
  ∀ (pins : List (Addr × Obj)) (s : Shared) (σ : St) (H : Hp) (v : V) (u : Value) (Q : St → Hp → Prop), Inv X pins σ H s → RelV v u → t v σ H Q →
    wpAny (model X.prog X.w) X.A (assign target X.env u) (fun _ s' => ∃ σ' H', Inv X pins σ' H' s' ∧ Q σ' H') X.xe s
noncomputable def PGs (X : Cx) (ts : List Expr) (t : TGs) : Prop :=
  ∀ (pins : List (Addr × Obj)) (s : Shared) (σ : St) (H : Hp) (vs : List V) (us : List Value) (Q : St → Hp → Prop), Inv X pins σ H s → Vals vs us → t vs σ H Q →
    wpAny (model X.prog X.w) X.A (assignInOrder ((assignEach ts X.env).map (·.2)) us) (fun _ s' => ∃ σ' H', Inv X pins σ' H' s' ∧ Q σ' H') X.xe s
noncomputable abbrev TSet := V → V → V → Hp → (Hp → Prop) → Prop
noncomputable def PSet (X : Cx) (t : TSet) : Prop :=
  ∀ (pins : List (Addr × Obj)) (s : Shared) (σ : St) (H : Hp) (o i v : V) (ov iv u : Value) (Q : Hp → Prop), Inv X pins σ H s → RelV o ov → RelV i iv → RelV v u → t o i v H Q →
    wpAny (model X.prog X.w) X.A (setItem ov iv u) (fun _ s' => ∃ H', Inv X pins σ H' s' ∧ Q H') X.xe s
section
variable {X : Cx} {pos : Pos}
noncomputable def gName (i : Nat) : TG := fun v σ H Q => Q (σ.set i (some v)) H
theorem pg_name {i : Nat} {x : Str} (hN : X.N.Nodup) (hi : X.N[i]? = some x) (hx : Loc X.env.scope x) (hf : X.fn x = true ∨ X.env.scope.names.lookup x = some .local := by first | exact .inl rfl | exact .inr rfl | assumption) : PG X (.Name x pos) (gName i) := by
  intro pins s σ H v u Q I r h
  exact wpAny_assign_Name (store_ok I hN hi hx r (fun s' I' => ⟨_, H, I', h⟩) hf)
noncomputable def gNil : TGs := fun vs σ H Q => vs = [] ∧ Q σ H
noncomputable def gCons (t : TG) (u : TGs) : TGs := fun vs σ H Q => ∃ v r, vs = v :: r ∧ t v σ H fun σ' H' => u r σ' H' Q
theorem pgs_nil : PGs X [] gNil := by
  intro pins s σ H vs us Q I r h
  obtain ⟨e, h⟩ := h
  subst e
  cases r
  exact assignInOrder_nil ⟨σ, H, I, h⟩
theorem pgs_cons {e : Expr} {es : List Expr} {t : TG} {u : TGs} (h1 : PG X e t) (h2 : PGs X es u)
    (hs : (assignEach (e :: es) X.env).map (·.2) = assign e X.env :: (assignEach es X.env).map (·.2) := by rfl) : PGs X (e :: es) (gCons t u) := by
  intro pins s σ H vs us Q I r h
  obtain ⟨v, vr, e1, h⟩ := h
  subst e1
  cases r with
  | cons r rr =>
    rw [hs]
    refine assignInOrder_cons (thn (h1 pins s σ H _ _ _ I r h) fun _ s1 ⟨σ1, H1, I1, q1⟩ => ?_)
    exact h2 pins s1 σ1 H1 _ _ Q I1 rr q1
noncomputable def gTup (K : PySem.W.Frag) (n : Nat) (t : TGs) : TG := fun v σ H Q => ∃ a xs, v = .ref a ∧ SqT K H a xs ∧ xs.length = n ∧ t xs σ H Q
theorem pg_tup {es : List Expr} {k : Nat} {t : TGs} {n : Nat} (hc : X.calm = true) (h : PGs X es t)
    (hn : (assignEach es X.env).length = n := by rfl) (hst : (assignEach es X.env).findIdx? (·.1) = none := by rfl) : PG X (.Tuple es k pos) (gTup X.K n t) := by
  intro pins s σ H v u Q I r hw
  obtain ⟨a, xs, e1, hq, hl, hw⟩ := hw
  subst e1
  cases r
  obtain ⟨its, rv, ht, hz⟩ := I.tuple hq
  refine assign_Tuple_tuple (I.ok.hd hc) ht (by simp [hn, ← hl, rv.length]) hst fun h' hx => ?_
  have I1 : Inv X pins σ H { s with heap := h' } := I.kept (t' := s.toks) fun b o e => hx b o (Nat.ne_of_lt (Heap.lt_size e)) e
  exact h pins _ σ H xs _ Q I1 (by simpa using rv) hw
noncomputable def gSub (to ti : TE) (t : TSet) : TG := fun v σ H Q => to σ H fun o H1 => ti σ H1 fun i H2 => t o i v H2 fun H3 => Q σ H3
theorem pg_sub {o i : Expr} {to ti : TE} {t : TSet} (ho : PE X o to) (hi : PE X i ti) (hs : PSet X t)
    (ha : ∀ v, assign (.Subscript o i pos) X.env v = (do
      let ov ← holding [v] (eval o X.env)
      let iv ← holding [v, ov] (eval i X.env)
      standAt pos
      holding [v, ov, iv] (setItem ov iv v)
      release [v, ov, iv] []) := by intro _; rfl) : PG X (.Subscript o i pos) (gSub to ti t) := by
  intro pins s σ H v u Q I r h
  rw [ha]
  refine wpAny_bind (wpAny_holding (thn (ho pins s σ H _ I h) fun ov s1 ⟨x, H1, I1, r1, q1⟩ => ?_))
  refine wpAny_bind (wpAny_holding (thn (hi pins s1 σ H1 _ I1 q1) fun iv s2 ⟨y, H2, I2, r2, q2⟩ => ?_))
  refine wpAny_bind (wpAny_standAt (wpAny_bind (wpAny_holding (thn (hs pins s2 σ H2 x y v ov iv u _ I2 r1 r2 r q2) fun _ s3 ⟨H3, I3, q3⟩ => ?_))))
  exact wpAny_release ⟨σ, H3, I3, q3⟩
noncomputable def tAsg (te : TE) (g : TG) : TS := fun D σ H => te σ H fun x H1 => g x σ H1 D.nx
theorem ps_asg {tg e : Expr} {te : TE} {g : TG} (he : PE X e te) (hg : PG X tg g) (hs : swapsWithSole [tg] e pos.line X.env = pure false := by rfl) (hw : swappedStores [tg] e X.env = pure none := by rfl)
    (h1 : (assignEach [tg] X.env).map (·.2) = [assign tg X.env] := by rfl) : PS X (.Assign [tg] e pos) (tAsg te g) := by
  intro pins s σ H D I h
  refine wpAny_Assign_stores (thn (he pins s σ H _ I h) fun v s1 ⟨x, H1, I1, r1, q1⟩ => ?_) hs hw
  rw [h1]
  exact thn (hg pins s1 σ H1 x v _ I1 r1 q1) fun _ s2 q => q
theorem ps_set {i : Nat} {x : Str} {e : Expr} {te : TE} {pos' : Pos} (hN : X.N.Nodup) (hi : X.N[i]? = some x) (hx : Loc X.env.scope x) (he : PE X e te) (hs : swapsWith e (some (.Name x pos')) pos.line X.env = pure false := by rfl) (hf : X.fn x = true ∨ X.env.scope.names.lookup x = some .local := by first | exact .inl rfl | exact .inr rfl | assumption) :
    PS X (.Assign [.Name x pos'] e pos) (tAsg te (gName i)) := by
  intro pins s σ H D I h
  refine wpAny_Assign_Name (thn (he pins s σ H _ I h) fun v s1 ⟨y, H1, I1, r1, q1⟩ => ?_) hs
  exact store_ok I1 hN hi hx r1 (fun s2 I2 => ⟨_, H1, I2, q1⟩) hf
end

/-! ### while -/
section
variable {X : Cx} {pos : Pos}
noncomputable def tWhile (c : TT) (tb : TS) : TS := fun D σ H => ∃ W : Nat → St → Hp → Prop, (∃ m, W m σ H) ∧ ∀ m σ H, W m σ H →
  c σ H fun b H1 => if b = true then ∃ N : St → Hp → Prop, (∀ σ' H', N σ' H' → ∃ m', m' < m ∧ W m' σ' H') ∧ tb { D with nx := N, ct := N, bk := D.nx } σ H1 else D.nx σ H1
theorem ps_while {c : Expr} {body : List Stmt} {tc : TT} {tb : TS} (hp : PassesOwn (model X.prog X.w) X.A X.env X.xe) (hc : PT X c tc) (hb : PSs X body tb) : PS X (.While c body [] pos) (tWhile tc tb) := by
  intro pins s σ H D I h
  obtain ⟨W, ⟨m0, w0⟩, turn⟩ := h
  refine wpAny_While (codeAny_whileLoop (fun n s' => ∃ σ' H', Inv X pins σ' H' s' ∧ W n σ' H') ?_ m0 ⟨σ, H, I, w0⟩)
  rintro n s1 ⟨σ1, H1, I1, w1⟩
  refine wpAny_passesOwn hp (thn (hc pins s1 σ1 H1 _ I1 (turn n σ1 H1 w1)) fun b s2 ⟨H2, I2, q2⟩ => ?_)
  cases b with
  | true =>
    obtain ⟨N, hN, q2⟩ := q2
    rw [if_pos rfl]
    refine wpAny_passesOwn hp (thn (hb pins s2 σ1 H2 _ I2 q2) fun f s3 q3 => ?_)
    cases f with
    | next =>
      obtain ⟨σ3, H3, I3, n3⟩ := q3
      obtain ⟨m', hm, w3⟩ := hN σ3 H3 n3
      exact ⟨m', hm, σ3, H3, I3, w3⟩
    | cont =>
      obtain ⟨σ3, H3, I3, n3⟩ := q3
      obtain ⟨m', hm, w3⟩ := hN σ3 H3 n3
      exact ⟨m', hm, σ3, H3, I3, w3⟩
    | brk => exact q3
    | ret v => exact q3
  | false =>
    rw [if_neg Bool.false_ne_true]
    exact wpAny_execs_nil ⟨σ1, H2, I2, q2⟩
end

/-! ### what a loop or a comprehension walks -/
structure It where
  go : Nat → Hp → Prop
  yld : Nat → Hp → V → Hp → Prop
  stop : Nat → Hp → Prop
noncomputable def FpOk (X : Cx) (pins : List (Addr × Obj)) (H : Hp) (b : Addr) : Prop :=
  H b = none ∧ b ≠ X.env.locals ∧ b ∉ X.fs ∧ (b ∈ X.ex ∨ X.s₀.heap.objs.size ≤ b) ∧ (∀ x c, X.env.cells.lookup x = some c → c ≠ b) ∧ ∀ p ∈ X.pn ++ pins, p.1 ≠ b
theorem Inv.fpOk {X : Cx} {pins : List (Addr × Obj)} {σ : St} {H H' : Hp} {s : Shared} {b : Addr} (I : Inv X pins σ H s) (hb : s.heap.objs.size ≤ b) (hn : H' b = none) : FpOk X pins H' b := by
  refine ⟨hn, Nat.ne_of_gt (Nat.lt_of_lt_of_le I.lt hb), I.nofs hb, .inr (Nat.le_trans I.sz hb), fun x c e z => ?_, fun p hp z => ?_⟩
  · obtain ⟨v, q⟩ := I.cell x c e
    exact absurd (Nat.lt_of_lt_of_le q.lt (by rw [z]; exact hb)) (Nat.lt_irrefl _)
  · exact absurd (Nat.lt_of_lt_of_le (Heap.lt_size (I.pin p hp).1) (by rw [z]; exact hb)) (Nat.lt_irrefl _)
structure Turn (P : Program) (w : World) (K : PySem.W.Frag) (tg : Expr) (J : It) (fp : List Addr) (it : Addr) (tn : Nat → Heap → Prop) : Prop where
  mem : it ∈ fp
  obj : ∀ i h, tn i h → ∀ b ∈ fp, ∃ o, h.get? b = some o ∧ ∀ v, o.data ≠ .cell v
  keep : ∀ i h h', tn i h → (∀ b ∈ fp, ∀ o, h.get? b = some o → h'.get? b = some o) → tn i h'
  item : ∀ (X : Cx), X.prog = P → X.w = w → X.K = K → X.calm = true → ∀ (i : Nat) (pins : List (Addr × Obj)) (s : Shared) (σ : St) (H : Hp) (E : Value → Shared → Prop), Inv X pins σ H s → (∀ b ∈ fp, FpOk X pins H b) → tn i s.heap → J.go i H →
    wpAny (model P w) X.A (pyNext (.ref it)) (fun r s1 => ∃ u, r = some u ∧
      wpAny (model P w) X.A (letOwnedTupleGo tg (.ref it) u) (fun _ s2 => ∃ x H', Inv X pins σ H' s2 ∧ RelV x u ∧ J.yld i H x H' ∧ tn (i + 1) s2.heap ∧ ∀ b ∈ fp, H' b = none) E s1) E s
  done : ∀ (X : Cx), X.prog = P → X.w = w → X.K = K → X.calm = true → ∀ (i : Nat) (pins : List (Addr × Obj)) (s : Shared) (σ : St) (H : Hp) (E : Value → Shared → Prop), Inv X pins σ H s → (∀ b ∈ fp, FpOk X pins H b) → tn i s.heap → J.stop i H →
    wpAny (model P w) X.A (pyNext (.ref it)) (fun r s1 => r = none ∧ Inv X pins σ H s1) E s
  self : ∀ (A : Around) (i : Nat) (s : Shared) (Q : Value → Shared → Prop) (E : Value → Shared → Prop), tn i s.heap → Q (.ref it) s → wpAny (model P w) A (pyIter (.ref it)) Q E s
noncomputable abbrev TI := St → Hp → (It → Hp → Prop) → Prop
noncomputable def PIE (X : Cx) (pins : List (Addr × Obj)) (σ : St) (tg : Expr) (R : It → Hp → Prop) (itv : Value) (s2 : Shared) : Prop :=
  ∃ (it : Addr) (fp : List Addr) (tn : Nat → Heap → Prop) (J : It) (H' : Hp), itv = .ref it ∧ Inv X pins σ H' s2 ∧ Turn X.prog X.w X.K tg J fp it tn ∧ tn 0 s2.heap ∧ (∀ b ∈ fp, FpOk X pins H' b) ∧ R J H'
noncomputable def PI (X : Cx) (tg iter : Expr) (wi : TI) : Prop :=
  ∀ (pins : List (Addr × Obj)) (s : Shared) (σ : St) (H : Hp) (R : It → Hp → Prop), Inv X pins σ H s → wi σ H R →
    wpAny (model X.prog X.w) X.A (eval iter X.env) (fun v s1 => wpAny (model X.prog X.w) X.A (pyIter v) (PIE X pins σ tg R) X.xe s1) X.xe s

theorem go_of {M : Model} {A : Around} {E : Value → Shared → Prop} {s : Shared} {tg : Expr} {it : Addr} {u : Value} {o : Obj} {n : String} {vs : Array Value} {Q : Unit → Shared → Prop} (ho : s.heap.get? it = some o) (hc : o.cls = .type n) (hd : o.data = .fields vs)
    (hn : ["enumerate", "zip", "dict_itemiterator", "dict_reverseitemiterator", "odict_iterator", "itertools.zip_longest", "itertools.pairwise"].contains n = false) (hQ : Q () s) : wpAny M A (letOwnedTupleGo tg (.ref it) u) Q E s := by
  unfold letOwnedTupleGo
  cases tg <;> first
    | exact wpAny_pure hQ
    | (cases u <;> first
        | exact wpAny_pure hQ
        | (refine wpAny_bind (wpAny_load ho ?_)
           rw [hc, hd]
           show wpAny M A (if (["enumerate", "zip", "dict_itemiterator", "dict_reverseitemiterator", "odict_iterator", "itertools.zip_longest", "itertools.pairwise"].contains n && vs[0]? == some (rawInt _)) = true then _ else _) Q E s
           rw [if_neg (by intro h; rw [hn, Bool.false_and] at h; cases h)]
           exact wpAny_pure hQ))

noncomputable def Itl (K : PySem.W.Frag) (a : Addr) : It :=
  ⟨fun i H => ∃ xs x, SqL K H a xs ∧ xs[i]? = some x, fun i H x H' => H' = H ∧ ∀ xs, SqL K H a xs → xs[i]? = some x, fun i H => ∃ xs, SqL K H a xs ∧ xs.length ≤ i⟩
noncomputable def Itt (K : PySem.W.Frag) (a : Addr) : It :=
  ⟨fun i H => ∃ xs x, SqT K H a xs ∧ xs[i]? = some x, fun i H x H' => H' = H ∧ ∀ xs, SqT K H a xs → xs[i]? = some x, fun i H => ∃ xs, SqT K H a xs ∧ xs.length ≤ i⟩
noncomputable def Itr (lo : Int) (n : Nat) : It := ⟨fun i _ => i < n, fun i H x H' => H' = H ∧ x = .int (lo + i), fun i _ => n ≤ i⟩
theorem turn_list {P : Program} {w : World} {K : PySem.W.Frag} {tg : Expr} (a it : Addr) : Turn P w K tg (Itl K a) [it] it (fun i h => h.IsListIter it a i) where
  mem := by simp
  obj := fun i h st b hb => by
    have e : b = it := by simpa using hb
    subst e
    obtain ⟨o, e, c, d⟩ := st
    exact ⟨o, e, fun v z => by rw [d] at z; cases z⟩
  keep := fun i h h' st k => st.at fun o e => k it (by simp) o e
  item := by
    intro X hP hw hK hc i pins s σ H E I hf st hg
    subst hP hw hK
    obtain ⟨xs, x, hq, hx⟩ := hg
    obtain ⟨its, rv, p, hz⟩ := I.list hq
    obtain ⟨u, hu, ru⟩ := rv.get hx
    obtain ⟨f0, f1, f2, f3, f4, f5⟩ := hf it (by simp)
    refine wpAny_pyNext_list_item st p.isList (x := u) (by simpa using hu) fun h' st' sb => ?_
    have I1 : Inv X pins σ H { s with heap := h' } := I.turned (t' := s.toks) (fun b o hb e => (sb.2 b hb).trans e) f0 f1 f3 f4 f5
    obtain ⟨o, e, c, d⟩ := id st'
    exact ⟨u, rfl, go_of (s := { s with heap := h' }) e c d (by decide) ⟨x, H, I1, ru, ⟨rfl, fun ys hy => by rw [I.list_inj hy hq]; exact hx⟩, st', fun b hb => (hf b hb).1⟩⟩
  done := by
    intro X hP hw hK hc i pins s σ H E I hf st hg
    subst hP hw hK
    obtain ⟨xs, hq, hx⟩ := hg
    obtain ⟨its, rv, p, hz⟩ := I.list hq
    obtain ⟨f0, f1, f2, f3, f4, f5⟩ := hf it (by simp)
    have hl := rv.length
    exact wpAny_pyNext_list_end (I.ok.hd hc) st p.isList (by simp; omega) fun h' eb => ⟨rfl, I.turned (t' := s.toks) (fun b o hb e => eb b o hb e) f0 f1 f3 f4 f5⟩
  self := fun _ _ _ _ _ st h => wpAny_pyIter_listiter st h
theorem turn_range {P : Program} {w : World} {K : PySem.W.Frag} {tg : Expr} (it : Addr) (lo : Int) (n : Nat) : Turn P w K tg (Itr lo n) [it] it (fun i h => IsRangeIter h it (lo + (i : Nat) * 1) ((n : Int) - (i : Nat)) 1) where
  mem := by simp
  obj := fun i h st b hb => by
    have e : b = it := by simpa using hb
    subst e
    exact ⟨_, st, fun v z => by
      have z' : Data.fields _ = Data.cell v := z
      cases z'⟩
  keep := fun i h h' st k => k it (by simp) _ st
  item := by
    intro X hP hw hK hc i pins s σ H E I hf st hg
    subst hP hw hK
    obtain ⟨f0, f1, f2, f3, f4, f5⟩ := hf it (by simp)
    have W := Walks.range (prog := X.prog) (w := X.w) (I.ok.hd hc) it lo 1 n
    refine W.item i s _ _ hg st fun v h' tk hv st' kk => ?_
    obtain ⟨t, rfl⟩ := hv
    have I1 : Inv X pins σ H { s with heap := h', toks := tk } := I.turned (fun b o hb e => kk b o (by simpa using hb) e) f0 f1 f3 f4 f5
    refine ⟨_, rfl, go_of (s := { s with heap := h', toks := tk }) (n := "range_iterator") st' rfl rfl (by decide) ⟨.int (lo + i), H, I1, ⟨t, ?_⟩, ⟨rfl, rfl⟩, st', fun b hb => (hf b hb).1⟩⟩
    rw [Int.mul_one]
  done := by
    intro X hP hw hK hc i pins s σ H E I hf st hg
    subst hP hw hK
    obtain ⟨f0, f1, f2, f3, f4, f5⟩ := hf it (by simp)
    exact wpAny_pyNext_range_end (I.ok.hd hc) st (by have : n ≤ i := hg; omega) fun h' eb => ⟨rfl, I.turned (t' := s.toks) (fun b o hb e => eb b o hb e) f0 f1 f3 f4 f5⟩
  self := fun _ _ _ _ _ st h => wpAny_pyIter_rangeiter st h
end L2

namespace L2
open PySem PySem.Spec PyProof.Rows
section
variable {X : Cx} {tg : Expr}
noncomputable def iList (K : PySem.W.Frag) (tl : TE) : TI := fun σ H R => tl σ H fun x H1 => ∃ a, x = .ref a ∧ (∃ xs, SqL K H1 a xs) ∧ R (Itl K a) H1
noncomputable def iTup (K : PySem.W.Frag) (tl : TE) : TI := fun σ H R => tl σ H fun x H1 => ∃ a, x = .ref a ∧ (∃ xs, SqT K H1 a xs) ∧ R (Itt K a) H1
theorem pi_list {l : Expr} {tl : TE} (hl : PE X l tl) : PI X tg l (iList X.K tl) := by
  intro pins s σ H R I h
  refine thn (hl pins s σ H _ I h) fun v s1 ⟨x, H1, I1, r1, q1⟩ => ?_
  obtain ⟨a, e, ⟨xs, hq⟩, q⟩ := q1
  subst e
  cases r1
  obtain ⟨its, rv, p, hz⟩ := I1.list hq
  refine wpAny_pyIter_list p.isList ?_
  refine ⟨s1.heap.objs.size, [s1.heap.objs.size], _, _, H1, rfl, I1.kept (t' := s1.toks) fun b o e => Heap.get?_push_of_some _ e, turn_list a _, ⟨_, Heap.get?_push_size _ rfl, rfl, rfl⟩, fun b hb => ?_, q⟩
  have e : b = s1.heap.objs.size := by simpa using hb
  subst e
  exact I1.fpOk (Nat.le_refl _) (I1.hok.fresh (Nat.le_refl _))
theorem range_it {pins : List (Addr × Obj)} {σ : St} {H : Hp} {s : Shared} {R : It → Hp → Prop} {E : Value → Shared → Prop} {lo hi : Int} {t u v : Tok} {tk : Nat} (I : Inv X pins σ H s) (h1 : -(2 ^ 62) ≤ lo) (h2 : lo < 2 ^ 62) (h3 : -(2 ^ 62) ≤ hi) (h4 : hi < 2 ^ 62)
    (q : R (Itr lo (hi - lo).toNat) H) : wpAny (model X.prog X.w) X.A (pyIter (.ref s.heap.objs.size)) (PIE X pins σ tg R) E { s with heap := s.heap.push { cls := .type "range", data := .fields #[.int lo t, .int hi u, .int 1 v] }, toks := tk } := by
  refine wpAny_pyIter_range (IsRange.new ..) (small_one h1 h2 h3 h4) ?_
  have I1 : Inv X pins σ H { s with heap := s.heap.push { cls := .type "range", data := .fields #[.int lo t, .int hi u, .int 1 v] }, toks := tk } := I.kept fun b o e => Heap.get?_push_of_some _ e
  refine ⟨(s.heap.push { cls := .type "range", data := .fields #[.int lo t, .int hi u, .int 1 v] }).objs.size, [(s.heap.push { cls := .type "range", data := .fields #[.int lo t, .int hi u, .int 1 v] }).objs.size], _, _, H, rfl,
    I1.kept (t' := tk) fun b o e => Heap.get?_push_of_some _ e, turn_range _ lo (hi - lo).toNat, ?_, fun b hb => ?_, q⟩
  · have e1 : lo + ((0 : Nat) : Int) * 1 = lo := by simp
    have e2 : (((hi - lo).toNat : Nat) : Int) - ((0 : Nat) : Int) = Builtin.Range.rangeSize lo hi 1 := by rw [rangeSize_one]; split <;> omega
    show IsRangeIter _ _ (lo + ((0 : Nat) : Int) * 1) ((((hi - lo).toNat : Nat) : Int) - ((0 : Nat) : Int)) 1
    rw [e1, e2]
    exact Heap.get?_push_size _ rfl
  · have e : b = (s.heap.push { cls := .type "range", data := .fields #[.int lo t, .int hi u, .int 1 v] }).objs.size := by simpa using hb
    subst e
    exact I1.fpOk (Nat.le_refl _) (I1.hok.fresh (Nat.le_refl _))
noncomputable def iRng1 (ta : TA) : TI := fun σ H R => ta σ H fun vs H1 => ∃ j : Int, vs = [.int j] ∧ -(2 ^ 62) ≤ j ∧ j < 2 ^ 62 ∧ R (Itr 0 j.toNat) H1
noncomputable def iRng2 (ta : TA) : TI := fun σ H R => ta σ H fun vs H1 => ∃ i j : Int, vs = [.int i, .int j] ∧ (-(2 ^ 62) ≤ i ∧ i < 2 ^ 62 ∧ -(2 ^ 62) ≤ j ∧ j < 2 ^ 62) ∧ R (Itr i (j - i).toNat) H1
theorem pi_range1 {a : Expr} {ta : TA} {p pos : Pos} (hg : Gl X "range") (hm : X.mg "range" = none) (ha : PA X [a] ta) (hs : starEach [a] X.env = [(false, eval a X.env)] := by rfl) : PI X tg (.Call (.Name "range" p) [a] [] pos) (iRng1 ta) := by
  intro pins s σ H R I h
  refine Call_ (ld_blt I hg hm boot_range (PyProof.Rows.callWith_type1 (thn (ha pos pins s σ H _ I h) fun us s1 ⟨vs, H1, I1, r1, q1⟩ => ?_) hs rfl))
  obtain ⟨j, e, q1, q2, q⟩ := q1
  subst e
  cases r1 with
  | cons r rr =>
    cases rr
    obtain ⟨t, rfl⟩ := r
    exact call_range_1 (range_it I1 (by omega) (by omega) q1 q2 (by simpa using q))
/-! ### for -/
noncomputable def tFor (wi : TI) (g : TG) (tb : TS) : TS := fun D σ H => wi σ H fun J H1 => ∃ W : Nat → Nat → St → Hp → Prop, (∃ m, W 0 m σ H1) ∧ ∀ i m σ H, W i m σ H →
  (J.stop i H ∧ D.nx σ H) ∨ (J.go i H ∧ ∃ N : St → Hp → Prop, (∀ σ' H', N σ' H' → ∃ m', m' < m ∧ W (i + 1) m' σ' H') ∧ ∀ x H', J.yld i H x H' → g x σ H' fun σ2 H2 => tb { D with nx := N, ct := N, bk := D.nx } σ2 H2)
noncomputable def pinsAt (fp : List Addr) (h : Heap) : List (Addr × Obj) := fp.filterMap fun b => (h.get? b).map fun o => (b, o)
theorem mem_pinsAt {fp : List Addr} {h : Heap} {b : Addr} {o : Obj} (hb : b ∈ fp) (e : h.get? b = some o) : (b, o) ∈ pinsAt fp h := List.mem_filterMap.mpr ⟨b, hb, by rw [e]; rfl⟩
theorem of_pinsAt {fp : List Addr} {h : Heap} {p : Addr × Obj} (hp : p ∈ pinsAt fp h) : p.1 ∈ fp ∧ h.get? p.1 = some p.2 := by
  obtain ⟨b, hb, e⟩ := List.mem_filterMap.mp hp
  cases q : h.get? b with
  | none => rw [q] at e; cases e
  | some o =>
    rw [q] at e
    have e' : (b, o) = p := Option.some.inj e
    subst e'
    exact ⟨hb, q⟩
theorem Inv.pinned {pins : List (Addr × Obj)} {σ : St} {H : Hp} {s : Shared} {fp : List Addr} (I : Inv X pins σ H s) (hf : ∀ b ∈ fp, FpOk X pins H b) (ho : ∀ b ∈ fp, ∃ o, s.heap.get? b = some o ∧ ∀ v, o.data ≠ .cell v) : Inv X (pins ++ pinsAt fp s.heap) σ H s :=
  I.pins_of fun p hp => (List.mem_append.mp hp).elim (fun z => I.pin p (List.mem_append_right _ z)) fun z => by
    obtain ⟨hb, e⟩ := of_pinsAt z
    obtain ⟨f0, f1, f2, _⟩ := hf p.1 hb
    obtain ⟨o, e', d⟩ := ho p.1 hb
    rw [e] at e'; cases e'
    exact ⟨e, f0, f1, f2, d⟩
theorem Inv.unpinned {pins pl : List (Addr × Obj)} {σ : St} {H : Hp} {s : Shared} (I : Inv X (pins ++ pl) σ H s) : Inv X pins σ H s := I.pins_of fun p hp => I.pin p (List.mem_append_right _ (List.mem_append_left _ hp))
theorem ps_for {iter : Expr} {body : List Stmt} {wi : TI} {g : TG} {tb : TS} {pos : Pos} (hp : PassesOwn (model X.prog X.w) X.A X.env X.xe) (hc : X.calm = true) (hi : PI X tg iter wi) (hg : PG X tg g) (hb : PSs X body tb)
    (hs : ∀ x, foldedSetIterable iter X.env x = pure x := by intro _; rfl) : PS X (.For tg iter body [] pos) (tFor wi g tb) := by
  intro pins s σ H D I h
  refine wpAny_For (thn (hi pins s σ H _ I h) fun v s1 h1 => thn h1 fun itv s2 h2 => ?_) hs
  obtain ⟨it, fp, tn, J, H2, e, I2, T, st2, f2, W, ⟨m0, w0⟩, turn⟩ := h2
  subst e
  -- what stays true of the iterator's objects through the loop
  have stat : ∀ {H' : Hp}, (∀ b ∈ fp, H' b = none) → ∀ b ∈ fp, FpOk X pins H' b := fun hn b hb => ⟨hn b hb, (f2 b hb).2⟩
  refine codeAny_forLoop_any (fun n s' => ∃ i σ' H', Inv X pins σ' H' s' ∧ tn i s'.heap ∧ (∀ b ∈ fp, H' b = none) ∧ W i n σ' H') ?_ m0 ⟨0, σ, H2, I2, st2, fun b hb => (f2 b hb).1, w0⟩
  rintro n s3 ⟨i, σ3, H3, I3, st3, fr3, w3⟩
  rcases turn i n σ3 H3 w3 with ⟨stop, qn⟩ | ⟨go, N, hN, step⟩
  · refine wpAny_passesOwn hp (thn (T.done X rfl rfl rfl hc i pins s3 σ3 H3 X.xe I3 (stat fr3) st3 stop) fun r s4 ⟨hr, I4⟩ => ?_)
    subst hr
    exact wpAny_execs_nil ⟨σ3, H3, I4, qn⟩
  · refine wpAny_passesOwn hp (thn (T.item X rfl rfl rfl hc i pins s3 σ3 H3 X.xe I3 (stat fr3) st3 go) fun r s4 ⟨u, hr, h4⟩ => ?_)
    subst hr
    refine wpAny_passesOwn hp (thn h4 fun _ s5 ⟨x, H5, I5, r5, y5, st5, fr5⟩ => ?_)
    have I5' := I5.pinned (stat fr5) (T.obj _ _ st5)
    refine wpAny_passesOwn hp (thn (hg _ s5 σ3 H5 x u _ I5' r5 (step x H5 y5)) fun _ s6 ⟨σ6, H6, I6, q6⟩ => ?_)
    refine wpAny_passesOwn hp (thn (hb _ s6 σ6 H6 _ I6 q6) fun f s7 q7 => ?_)
    have again : ∀ {σ7 : St} {H7 : Hp}, Inv X (pins ++ pinsAt fp s5.heap) σ7 H7 s7 → N σ7 H7 → ∃ m, m < n ∧ ∃ i σ' H', Inv X pins σ' H' s7 ∧ tn i s7.heap ∧ (∀ b ∈ fp, H' b = none) ∧ W i m σ' H' := fun {σ7 H7} I7 n7 => by
      obtain ⟨m', hm, w7⟩ := hN σ7 H7 n7
      refine ⟨m', hm, i + 1, σ7, H7, I7.unpinned, T.keep _ _ _ st5 fun b hb o e => (I7.pin (b, o) (List.mem_append_right _ (List.mem_append_right _ (mem_pinsAt hb e)))).1, fun b hb => ?_, w7⟩
      obtain ⟨o, e, d⟩ := T.obj _ _ st5 b hb
      exact (I7.pin (b, o) (List.mem_append_right _ (List.mem_append_right _ (mem_pinsAt hb e)))).2.1
    cases f with
    | next => obtain ⟨σ7, H7, I7, n7⟩ := q7; exact again I7 n7
    | cont => obtain ⟨σ7, H7, I7, n7⟩ := q7; exact again I7 n7
    | brk => obtain ⟨σ7, H7, I7, q7⟩ := q7; exact ⟨σ7, H7, I7.unpinned, q7⟩
    | ret v => obtain ⟨x7, σ7, H7, I7, r7, q7⟩ := q7; exact ⟨x7, σ7, H7, I7.unpinned, r7, q7⟩
end

/-! ### the forms one uses -/
theorem for_list {K : PySem.W.Frag} {a : Addr} {xs : List V} {g : TG} {tb : TS} {D : Ends} {σ : St} {H : Hp} (Pv : Nat → St → Hp → Prop) (h0 : Pv 0 σ H) (hl : ∀ i σ H, i ≤ xs.length → Pv i σ H → SqL K H a xs)
    (hs : ∀ i x σ H, xs[i]? = some x → Pv i σ H → g x σ H fun σ2 H2 => tb { D with nx := Pv (i + 1), ct := Pv (i + 1), bk := D.nx } σ2 H2) (hd : ∀ σ H, Pv xs.length σ H → D.nx σ H) :
    ∃ W : Nat → Nat → St → Hp → Prop, (∃ m, W 0 m σ H) ∧ ∀ i m σ H, W i m σ H →
      ((Itl K a).stop i H ∧ D.nx σ H) ∨ ((Itl K a).go i H ∧ ∃ N : St → Hp → Prop, (∀ σ' H', N σ' H' → ∃ m', m' < m ∧ W (i + 1) m' σ' H') ∧ ∀ x H', (Itl K a).yld i H x H' → g x σ H' fun σ2 H2 => tb { D with nx := N, ct := N, bk := D.nx } σ2 H2) := by
  refine ⟨fun i m σ H => m = xs.length - i ∧ i ≤ xs.length ∧ Pv i σ H, ⟨xs.length, by simp, Nat.zero_le _, h0⟩, ?_⟩
  rintro i m σ H ⟨rfl, hi, p⟩
  have q := hl i σ H hi p
  by_cases hlt : i < xs.length
  · refine .inr ⟨⟨xs, xs[i], q, by simp [hlt]⟩, Pv (i + 1), fun σ' H' p' => ⟨xs.length - (i + 1), by omega, rfl, hlt, p'⟩, fun x H' y => ?_⟩
    obtain ⟨e, y⟩ := y
    subst e
    exact hs i x σ _ (y xs q) p
  · have e : i = xs.length := by omega
    subst e
    exact .inl ⟨⟨xs, q, Nat.le_refl _⟩, hd σ H p⟩
theorem for_range {lo : Int} {n : Nat} {g : TG} {tb : TS} {D : Ends} {σ : St} {H : Hp} (Pv : Nat → St → Hp → Prop) (h0 : Pv 0 σ H)
    (hs : ∀ i σ H, i < n → Pv i σ H → g (.int (lo + i)) σ H fun σ2 H2 => tb { D with nx := Pv (i + 1), ct := Pv (i + 1), bk := D.nx } σ2 H2) (hd : ∀ σ H, Pv n σ H → D.nx σ H) :
    ∃ W : Nat → Nat → St → Hp → Prop, (∃ m, W 0 m σ H) ∧ ∀ i m σ H, W i m σ H →
      ((Itr lo n).stop i H ∧ D.nx σ H) ∨ ((Itr lo n).go i H ∧ ∃ N : St → Hp → Prop, (∀ σ' H', N σ' H' → ∃ m', m' < m ∧ W (i + 1) m' σ' H') ∧ ∀ x H', (Itr lo n).yld i H x H' → g x σ H' fun σ2 H2 => tb { D with nx := N, ct := N, bk := D.nx } σ2 H2) := by
  refine ⟨fun i m σ H => m = n - i ∧ i ≤ n ∧ Pv i σ H, ⟨n, by simp, Nat.zero_le _, h0⟩, ?_⟩
  rintro i m σ H ⟨rfl, hi, p⟩
  by_cases hlt : i < n
  · refine .inr ⟨hlt, Pv (i + 1), fun σ' H' p' => ⟨n - (i + 1), by omega, rfl, hlt, p'⟩, fun x H' y => ?_⟩
    obtain ⟨e, y⟩ := y
    subst e y
    exact hs i σ _ hlt p
  · have e : i = n := by omega
    subst e
    exact .inl ⟨Nat.le_refl _, hd σ H p⟩
end L2

namespace L2
open PySem PySem.Spec PyProof.Rows

noncomputable abbrev R2 := V → V → Hp → VK → Prop
noncomputable def OpR (X : Cx) (f : Value → Value → Sem Value) (r : R2) : Prop :=
  ∀ (pins : List (Addr × Obj)) (s : Shared) (σ : St) (H : Hp) (x y : V) (v u : Value) (Q : VK), Inv X pins σ H s → RelV x v → RelV y u → r x y H Q →
    wpAny (model X.prog X.w) X.A (f v u) (EP X pins σ Q) X.xe s
noncomputable def UnR (X : Cx) (f : Value → Sem Value) (r : V → Hp → VK → Prop) : Prop :=
  ∀ (pins : List (Addr × Obj)) (s : Shared) (σ : St) (H : Hp) (x : V) (v : Value) (Q : VK), Inv X pins σ H s → RelV x v → r x H Q →
    wpAny (model X.prog X.w) X.A (f v) (EP X pins σ Q) X.xe s
noncomputable def CallR (X : Cx) (f : Value) (r : List V → Hp → VK → Prop) : Prop :=
  ∀ (pins : List (Addr × Obj)) (s : Shared) (σ : St) (H : Hp) (xs : List V) (us : List Value) (Q : VK), Inv X pins σ H s → Vals xs us → r xs H Q →
    wpAny (model X.prog X.w) X.A (call f us) (EP X pins σ Q) X.xe s
noncomputable def tOp (r : R2) (ta tb : TE) : TE := fun σ H Q => ta σ H fun x H1 => tb σ H1 fun y H2 => r x y H2 Q
noncomputable def tUn (r : V → Hp → VK → Prop) (ta : TE) : TE := fun σ H Q => ta σ H fun x H1 => r x H1 Q
noncomputable def rI (C : Int → Int → Prop) (g : Int → Int → V) : R2 := fun x y H Q => ∃ i j, x = .int i ∧ y = .int j ∧ C i j ∧ Q (g i j) H
noncomputable def rI0 (g : Int → Int → V) : R2 := fun x y H Q => ∃ i j, x = .int i ∧ y = .int j ∧ Q (g i j) H
noncomputable def rU (g : Int → V) : V → Hp → VK → Prop := fun x H Q => ∃ i, x = .int i ∧ Q (g i) H

section
variable {X : Cx} {a b c : Expr} {ta tb tc : TE} {pos : Pos}

theorem binT (ha : PE X a ta) (hb : PE X b tb) {pins : List (Addr × Obj)} {s : Shared} {σ : St} {H : Hp} {R : V → V → Hp → Prop} (I : Inv X pins σ H s)
    (h : ta σ H fun x H1 => tb σ H1 fun y H2 => R x y H2) {Q : Value → Shared → Prop} {f : Value → Value → Sem Value}
    (hf : ∀ v u s2 x y H2, Inv X pins σ H2 s2 → RelV x v → RelV y u → R x y H2 → wpAny (model X.prog X.w) X.A (f v u) Q X.xe s2) :
    wpAny (model X.prog X.w) X.A (eval a X.env) (fun v s₁ => wpAny (model X.prog X.w) X.A (eval b X.env) (fun u s₂ => wpAny (model X.prog X.w) X.A (f v u) Q X.xe s₂) X.xe s₁) X.xe s := by
  refine thn (ha pins s σ H _ I h) fun v s1 ⟨x, H1, I1, r1, q1⟩ => ?_
  refine thn (hb pins s1 σ H1 _ I1 q1) fun u s2 ⟨y, H2, I2, r2, q2⟩ => ?_
  exact hf v u s2 x y H2 I2 r1 r2 q2

theorem pe_op {op : Operator} {r : R2} (ho : OpR X (binaryOp op) r) (ha : PE X a ta) (hb : PE X b tb) : PE X (.BinOp a op b pos) (tOp r ta tb) := by
  intro pins s σ H Q I h
  exact wpAny_BinOp (binT ha hb I h fun v u s2 x y H2 I2 rx ry q => ho pins s2 σ H2 x y v u Q I2 rx ry q)
/-! ### ints -/
theorem opI {f : Value → Value → Sem Value} {C : Int → Int → Prop} {g : Int → Int → Int}
    (rule : ∀ (i j : Int) (t u : Tok) (s : Shared) (Q : Value → Shared → Prop) (E : Value → Shared → Prop), C i j → Q (.int (g i j) s.toks) { s with toks := s.toks + 1 } → wpAny (model X.prog X.w) X.A (f (.int i t) (.int j u)) Q E s) :
    OpR X f (rI C fun i j => .int (g i j)) := by
  intro pins s σ H x y v u Q I rx ry h
  obtain ⟨i, j, rfl, rfl, hc, q⟩ := h
  obtain ⟨t, rfl⟩ := rx
  obtain ⟨t', rfl⟩ := ry
  exact rule i j t t' s _ _ hc ⟨.int (g i j), H, I.tok _, ⟨_, rfl⟩, q⟩
theorem opI0 {f : Value → Value → Sem Value} {g : Int → Int → Int}
    (rule : ∀ (i j : Int) (t u : Tok) (s : Shared) (Q : Value → Shared → Prop) (E : Value → Shared → Prop), Q (.int (g i j) s.toks) { s with toks := s.toks + 1 } → wpAny (model X.prog X.w) X.A (f (.int i t) (.int j u)) Q E s) :
    OpR X f (rI0 fun i j => .int (g i j)) := by
  intro pins s σ H x y v u Q I rx ry h
  obtain ⟨i, j, rfl, rfl, q⟩ := h
  obtain ⟨t, rfl⟩ := rx
  obtain ⟨t', rfl⟩ := ry
  exact rule i j t t' s _ _ ⟨.int (g i j), H, I.tok _, ⟨_, rfl⟩, q⟩
theorem opB0 {f : Value → Value → Sem Value} {g : Int → Int → Bool}
    (rule : ∀ (i j : Int) (t u : Tok) (s : Shared) (Q : Value → Shared → Prop) (E : Value → Shared → Prop), Q (.bool (g i j)) s → wpAny (model X.prog X.w) X.A (f (.int i t) (.int j u)) Q E s) :
    OpR X f (rI0 fun i j => .bl (g i j)) := by
  intro pins s σ H x y v u Q I rx ry h
  obtain ⟨i, j, rfl, rfl, q⟩ := h
  obtain ⟨t, rfl⟩ := rx
  obtain ⟨t', rfl⟩ := ry
  exact rule i j t t' s _ _ ⟨.bl (g i j), H, I, rfl, q⟩

noncomputable def CDiv (i j : Int) : Prop := 0 < j ∧ j < 1073741824
noncomputable def CPow (i j : Int) : Prop := 0 ≤ j ∧ j ≤ 1000000 ∧ i.natAbs < 2 ^ 64
noncomputable def CMul (i j : Int) : Prop := (-(2 ^ 64) < i ∧ i < 2 ^ 64) ∨ (-(2 ^ 64) < j ∧ j < 2 ^ 64)
theorem CMul.ok {i j : Int} (h : CMul i j) : IntMulOk i j := by
  rcases h with ⟨h1, h2⟩ | ⟨h1, h2⟩
  · exact .of_left (intBits_le_64 h1 h2)
  · exact .of_right (intBits_le_64 h1 h2)
theorem op_add : OpR X (binaryOp .Add) (rI0 fun i j => .int (i + j)) := opI0 fun _ _ _ _ _ _ _ q => add_int q
theorem op_sub : OpR X (binaryOp .Sub) (rI0 fun i j => .int (i - j)) := opI0 fun _ _ _ _ _ _ _ q => sub_int q
theorem op_fdiv : OpR X (binaryOp .FloorDiv) (rI CDiv fun i j => .int (i / j)) := opI fun i j _ _ _ _ _ hc q => by
  have h1 : (0 : Int) < j := hc.1
  have h2 : j < 1073741824 := hc.2
  exact floordiv_int (by omega) (by rw [Int.fdiv_eq_ediv_of_nonneg i (by omega)]; exact q) (.inl (PyProof.noPylong_small (by omega)))
theorem op_mod : OpR X (binaryOp .Mod) (rI (fun _ j => 0 < j) fun i j => .int (i % j)) := opI fun i j _ _ _ _ _ hc q => by
  have h1 : (0 : Int) < j := hc
  exact mod_int' (by omega) (by rw [Int.fmod_eq_emod_of_nonneg i (by omega)]; exact q)
theorem op_pow : OpR X (binaryOp .Pow) (rI CPow fun i j => .int (i ^ j.toNat)) := opI fun _ _ _ _ _ _ _ hc q => pow_int_small hc.1 hc.2.1 hc.2.2 q
/-! ### bools among ints: n += (a < b) -/
end

/-! ### comparisons -/
noncomputable def scal : V → V → Bool
  | .non, .non => true | .non, .int _ => true | .int _, .non => true | .non, .bl _ => true | .bl _, .non => true | .non, .str _ => true | .str _, .non => true
  | .int _, .int _ => true | .bl _, .bl _ => true | .str _, .str _ => true | .byt _, .byt _ => true
  | .int _, .str _ => true | .str _, .int _ => true | .bl _, .str _ => true | .str _, .bl _ => true
  | _, _ => false
noncomputable def rEq : R2 := fun x y H Q => scal x y = true ∧ Q (.bl (decide (x = y))) H
noncomputable def rNe : R2 := fun x y H Q => scal x y = true ∧ Q (.bl (!decide (x = y))) H

theorem dec_int {i j : Int} : decide (V.int i = V.int j) = (i == j) := by
  rw [Bool.eq_iff_iff]
  simp
theorem dec_bl {i j : Bool} : decide (V.bl i = V.bl j) = (i == j) := by
  rw [Bool.eq_iff_iff]
  simp
theorem dec_str {i j : Str} : decide (V.str i = V.str j) = (i == j) := by
  rw [Bool.eq_iff_iff]
  simp
theorem dec_byt {i j : Array UInt8} : decide (V.byt i = V.byt j) = (i.toList == j.toList) := by
  rw [Bool.eq_iff_iff]
  cases i
  cases j
  simp

section
variable {X : Cx} {a b c : Expr} {ta tb tc : TE} {pos : Pos}
theorem fin_bl {pins : List (Addr × Obj)} {σ : St} {H : Hp} {s : Shared} {Q : VK} {k k' : Bool} (I : Inv X pins σ H s) (q : Q (.bl k) H) (e : k = k') : EP X pins σ Q (.bool k') s := by
  subst e
  exact ⟨.bl k, H, I, rfl, q⟩
theorem op_eq : OpR X (compareOp .Eq) rEq := by
  intro pins s σ H x y v u Q I rx ry h
  obtain ⟨hs, q⟩ := h
  cases x with
  | non =>
    cases rx
    cases y with
    | non => cases ry; exact PySem.EqNone.eq_none_none (fin_bl I q (by simp))
    | bl j => cases ry; exact PySem.EqNone.eq_none_bool (fin_bl I q (by simp))
    | int j => obtain ⟨t', rfl⟩ := ry; exact PySem.EqNone.eq_none_int (fin_bl I q (by simp))
    | str j => obtain ⟨t', rfl⟩ := ry; exact PySem.EqNone.eq_none_str (fin_bl I q (by simp))
    | _ => exact absurd (show false = true from hs) Bool.false_ne_true
  | bl i =>
    cases rx
    cases y with
    | non => cases ry; exact PySem.EqNone.eq_bool_none (fin_bl I q (by simp))
    | bl j => cases ry; exact eq_bool (fin_bl I q dec_bl)
    | str j => obtain ⟨t', rfl⟩ := ry; exact PySem.EqMixed.eq_bool_str (fin_bl I q (by simp))
    | _ => exact absurd (show false = true from hs) Bool.false_ne_true
  | int i =>
    obtain ⟨t, rfl⟩ := rx
    cases y with
    | non => cases ry; exact PySem.EqNone.eq_int_none (fin_bl I q (by simp))
    | int j => obtain ⟨t', rfl⟩ := ry; exact eq_int (fin_bl I q dec_int)
    | str j => obtain ⟨t', rfl⟩ := ry; exact PySem.EqMixed.eq_int_str (fin_bl I q (by simp))
    | _ => exact absurd (show false = true from hs) Bool.false_ne_true
  | str i =>
    obtain ⟨t, rfl⟩ := rx
    cases y with
    | non => cases ry; exact PySem.EqNone.eq_str_none (fin_bl I q (by simp))
    | bl j => cases ry; exact PySem.EqMixed.eq_str_bool (fin_bl I q (by simp))
    | int j => obtain ⟨t', rfl⟩ := ry; exact PySem.EqMixed.eq_str_int (fin_bl I q (by simp))
    | str j => obtain ⟨t', rfl⟩ := ry; exact eq_str (fin_bl I q dec_str)
    | _ => exact absurd (show false = true from hs) Bool.false_ne_true
  | byt i =>
    obtain ⟨t, rfl⟩ := rx
    cases y with
    | byt j => obtain ⟨t', rfl⟩ := ry; exact PySem.W.eq_bytes (fin_bl I q dec_byt)
    | _ => exact absurd (show false = true from hs) Bool.false_ne_true
  | _ => cases y <;> exact absurd (show false = true from hs) Bool.false_ne_true
theorem op_ne : OpR X (compareOp .NotEq) rNe := by
  intro pins s σ H x y v u Q I rx ry h
  obtain ⟨hs, q⟩ := h
  cases x with
  | non =>
    cases rx
    cases y with
    | non => cases ry; exact PySem.EqNone.ne_none_none (fin_bl I q (by simp))
    | bl j => cases ry; exact PySem.EqNone.ne_none_bool (fin_bl I q (by simp))
    | int j => obtain ⟨t', rfl⟩ := ry; exact PySem.EqNone.ne_none_int (fin_bl I q (by simp))
    | str j => obtain ⟨t', rfl⟩ := ry; exact PySem.EqNone.ne_none_str (fin_bl I q (by simp))
    | _ => exact absurd (show false = true from hs) Bool.false_ne_true
  | bl i =>
    cases rx
    cases y with
    | non => cases ry; exact PySem.EqNone.ne_bool_none (fin_bl I q (by simp))
    | bl j => cases ry; exact ne_bool (fin_bl I q (congrArg not dec_bl))
    | str j => obtain ⟨t', rfl⟩ := ry; exact PySem.EqMixed.ne_bool_str (fin_bl I q (by simp))
    | _ => exact absurd (show false = true from hs) Bool.false_ne_true
  | int i =>
    obtain ⟨t, rfl⟩ := rx
    cases y with
    | non => cases ry; exact PySem.EqNone.ne_int_none (fin_bl I q (by simp))
    | int j => obtain ⟨t', rfl⟩ := ry; exact ne_int (fin_bl I q (congrArg not dec_int))
    | str j => obtain ⟨t', rfl⟩ := ry; exact PySem.EqMixed.ne_int_str (fin_bl I q (by simp))
    | _ => exact absurd (show false = true from hs) Bool.false_ne_true
  | str i =>
    obtain ⟨t, rfl⟩ := rx
    cases y with
    | non => cases ry; exact PySem.EqNone.ne_str_none (fin_bl I q (by simp))
    | bl j => cases ry; exact PySem.EqMixed.ne_str_bool (fin_bl I q (by simp))
    | int j => obtain ⟨t', rfl⟩ := ry; exact PySem.EqMixed.ne_str_int (fin_bl I q (by simp))
    | str j => obtain ⟨t', rfl⟩ := ry; exact ne_str (fin_bl I q (congrArg not dec_str))
    | _ => exact absurd (show false = true from hs) Bool.false_ne_true
  | byt i =>
    obtain ⟨t, rfl⟩ := rx
    cases y with
    | byt j => obtain ⟨t', rfl⟩ := ry; exact PySem.W.ne_bytes (fin_bl I q (congrArg not dec_byt))
    | _ => exact absurd (show false = true from hs) Bool.false_ne_true
  | _ => cases y <;> exact absurd (show false = true from hs) Bool.false_ne_true

theorem op_lt : OpR X (compareOp .Lt) (rI0 fun i j => .bl (decide (i < j))) := opB0 fun _ _ _ _ _ _ _ q => lt_int q
theorem op_gt : OpR X (compareOp .Gt) (rI0 fun i j => .bl (decide (j < i))) := opB0 fun _ _ _ _ _ _ _ q => gt_int q
theorem OpR.or {f : Value → Value → Sem Value} {r r' : R2} (h : OpR X f r) (h' : OpR X f r') : OpR X f (fun x y H Q => r x y H Q ∨ r' x y H Q) := by
  intro pins s σ H x y v u Q I rx ry q
  rcases q with q | q
  · exact h pins s σ H x y v u Q I rx ry q
  · exact h' pins s σ H x y v u Q I rx ry q

theorem nomark (b : Expr) {op : CmpOp} (h : op ≠ .In := by decide) (h2 : op ≠ .NotIn := by decide) : behindInMarks op b = false := by
  have e1 : (op == CmpOp.In) = false := by cases op <;> first | rfl | exact absurd rfl h
  have e2 : (op == CmpOp.NotIn) = false := by cases op <;> first | rfl | exact absurd rfl h2
  cases b <;> simp [behindInMarks, e1, e2]
theorem pe_cmpR {op : CmpOp} {r : R2} (ho : OpR X (compareOp op) r) (ha : PE X a ta) (hb : PE X b tb) (hm : behindInMarks op b = false) : PE X (.Compare a [op] [b] pos) (tOp r ta tb) := by
  intro pins s σ H Q I h
  exact wpAny_Compare1 (binT ha hb I h fun v u s2 x y H2 I2 rx ry q => ho pins s2 σ H2 x y v u Q I2 rx ry q) hm
noncomputable def tTest (t : TE) : TT := fun σ H Q => t σ H fun x H' => ∃ k, x = .bl k ∧ Q k H'
theorem pt_cmpR {op : CmpOp} {r : R2} (ho : OpR X (compareOp op) r) (ha : PE X a ta) (hb : PE X b tb) (hm : behindInMarks op b = false) : PT X (.Compare a [op] [b] pos) (tTest (tOp r ta tb)) := by
  intro pins s σ H Q I h
  refine wpAny_isTrue_Compare1 (thn (ha pins s σ H _ I h) fun v s1 ⟨x, H1, I1, r1, q1⟩ => thn (hb pins s1 σ H1 _ I1 q1) fun u s2 ⟨y, H2, I2, r2, q2⟩ =>
    thn (ho pins s2 σ H2 x y v u _ I2 r1 r2 q2) fun c s3 ⟨z, H3, I3, r3, k, e, q3⟩ => ?_) hm
  subst e
  cases r3
  exact wpAny_truthy_bool ⟨H3, I3, q3⟩
noncomputable def tChain (r r' : R2) (ta tb tc : TE) : TE := fun σ H Q => ta σ H fun x H1 => tb σ H1 fun y H2 => r x y H2 fun z H3 => ∃ k, z = .bl k ∧
  (if k = true then tc σ H3 fun w' H4 => r' y w' H4 Q else Q (.bl false) H3)
/-! ### truth -/
theorem line63 : (sizeLine : Nat) < 2 ^ 63 := by rw [sizeLine_eq]; decide
/-! ### strs and bytes -/
/-! ### scalar builtins, by CallR -/
theorem vals1 {x : V} {us : List Value} (r : Vals [x] us) : ∃ u, us = [u] ∧ RelV x u := by
  cases r with
  | cons r1 r2 => cases r2; exact ⟨_, rfl, r1⟩
theorem vals2 {x y : V} {us : List Value} (r : Vals [x, y] us) : ∃ u w', us = [u, w'] ∧ RelV x u ∧ RelV y w' := by
  cases r with
  | cons r1 r2 =>
    cases r2 with
    | cons r3 r4 => cases r4; exact ⟨_, _, rfl, r1, r3⟩
theorem call_max2 (hc : X.calm = true) : CallR X (.builtin "max") (fun xs H Q => ∃ i j, xs = [.int i, .int j] ∧ Q (.int (if j > i then j else i)) H) := by
  intro pins s σ H xs us Q I r h
  obtain ⟨i, j, rfl, q⟩ := h
  obtain ⟨u, w', rfl, ⟨t, rfl⟩, ⟨t', rfl⟩⟩ := vals2 r
  refine max_two_ints (I.ok.hd hc) fun h' tk k => ⟨_, H, I.kept k, ?_, q⟩
  by_cases hj : j > i
  · rw [if_pos hj, if_pos hj]; exact ⟨_, rfl⟩
  · rw [if_neg hj, if_neg hj]; exact ⟨_, rfl⟩
theorem call_min2 (hc : X.calm = true) : CallR X (.builtin "min") (fun xs H Q => ∃ i j, xs = [.int i, .int j] ∧ Q (.int (if j < i then j else i)) H) := by
  intro pins s σ H xs us Q I r h
  obtain ⟨i, j, rfl, q⟩ := h
  obtain ⟨u, w', rfl, ⟨t, rfl⟩, ⟨t', rfl⟩⟩ := vals2 r
  refine min_two_ints (I.ok.hd hc) fun h' tk k => ⟨_, H, I.kept k, ?_, q⟩
  by_cases hj : j < i
  · rw [if_pos hj, if_pos hj]; exact ⟨_, rfl⟩
  · rw [if_neg hj, if_neg hj]; exact ⟨_, rfl⟩
end
end L2

namespace L2
open PySem PySem.Spec PyProof.Rows

/-! ### an instance, its attributes a map -/
structure ObjM (h : Heap) (x dx C : Addr) (mA : Str → Option Value) : Prop where
  obj : h.get? x = some (PySem.W.instObj C dx)
  ns : h.Ns1 dx mA
  ne : dx ≠ x

theorem lookIn_ns {h : Heap} {dx : Addr} {mA : Str → Option Value} (n : h.Ns1 dx mA) : ∃ od, h.get? dx = some od ∧ ∀ name, PySem.W.lookIn name od = some (mA name) := by
  obtain ⟨o, es, ep, ho, hd, hk, _, hm⟩ := n
  refine ⟨o, ho, fun name => ?_⟩
  have e := hm name
  unfold nsFind findBy at e
  rw [← Array.find?_toList] at e
  unfold PySem.W.lookIn
  rw [hd]
  dsimp only
  split
  · rename_i y q
    rw [q] at e
    exact congrArg some e
  · rename_i q
    rw [q] at e
    have a : es.toList.any (·.refKey) = false := by
      rw [List.any_eq_false]
      intro y hy
      obtain ⟨z, t, hkey⟩ := hk y (Array.mem_toList_iff.mp hy)
      simp [DictEntry.refKey, hkey]
    have a' : ¬ es.toList.any (·.refKey) = true := by rw [a]; exact Bool.false_ne_true
    rw [if_neg a']
    exact congrArg some e

theorem ObjM.look {h : Heap} {x dx C : Addr} {mA : Str → Option Value} (I : ObjM h x dx C mA) : ∃ od, PySem.W.InstAt h x (PySem.W.instObj C dx) C (some od) ∧ ∀ name, PySem.W.lookIn name od = some (mA name) :=
  let ⟨od, ho, hl⟩ := lookIn_ns I.ns
  ⟨od, ⟨I.obj, rfl, rfl, ho⟩, hl⟩

section
variable {prog : Program} {w : World} {A : Around} {E : Value → Shared → Prop} {s : Shared} {K : PySem.W.Frag} {x dx C f : Addr} {mA : Str → Option Value} {name : Str} {v : Value}

end

/-! ### the attributes as a list of pairs -/
theorem RelO.some_of {v : V} {o : Option Value} (r : RelO (some v) o) : ∃ u, o = some u ∧ RelV v u := by
  cases o with
  | none => exact (show False from r).elim
  | some u => exact ⟨u, rfl, r⟩
section
variable {P : Program} {w : World} {H H' : Hp} {h h' : Heap} {a C dx : Addr} {fs fs' : List (Str × V)}
theorem ins_get (hok : HOk P w H h) (e : H a = some (.ins C dx fs)) : ∃ mA, ObjM h a dx C mA ∧ (∀ f, RelO (fs.lookup f) (mA f)) ∧ PySem.Within mA (fs.map (·.1)) ∧ fs.length ≤ 1000 ∧ H dx = some (.own a) := by
  obtain ⟨d, z, ne, ob, mA, n, r, q⟩ := (show ObjOk P w H h a (.ins C dx fs) from hok a _ e)
  exact ⟨mA, ⟨ob, n, ne⟩, r, q, z, d⟩
end

/-! ### what of the text a class must have -/
structure Cls (K : PySem.W.Frag) (C : Addr) : Prop where
  pg : PySem.W.plainGet K C Str.empty = true
  hd : PySem.W.hasDictIn K C = true
  po : PySem.W.plainOver K C = true
  sa : PySem.W.findIn K (.ref C) "__setattr__" = some (some (.builtin "object.__setattr__"))
theorem Cls.get {K : PySem.W.Frag} {C : Addr} (c : Cls K C) (f : Str) : PySem.W.plainGet K C f = true := c.pg
structure Con (K : PySem.W.Frag) (C : Addr) (f : Str) (v : V) (u : Value) : Prop where
  at_ : PySem.W.findIn K (.ref C) f = some (some u)
  rel : RelV v u
  get : PySem.W.specialIn K u "__get__" = some none
  cp : PySem.W.copiedNames.contains f = false
structure Meth (K : PySem.W.Frag) (C : Addr) (m : Str) (f : Addr) : Prop where
  at_ : PySem.W.findIn K (.ref C) m = some (some (.ref f))
  fn : PySem.W.isFn K (.ref f) = true
  kp : PySem.W.keepIn K (.ref f) = true

section
variable {X : Cx} {pins : List (Addr × Obj)} {σ : St} {H : Hp} {s : Shared} {a C dx : Addr} {fs : List (Str × V)} {f : Str} {v : V} {A : Around} {E : Value → Shared → Prop}

end

/-! ### readings and rules -/
section
variable {X : Cx} {o e value : Expr} {f : Str} {pos pos' tpos : Pos} {ta tv : TE}
end

/-! ### isinstance -/
section
variable {X : Cx} {pins : List (Addr × Obj)} {σ : St} {H : Hp} {s : Shared} {A : Around} {E : Value → Shared → Prop} {Q : Value → Shared → Prop} {c : Value} {b : Bool}
inductive TyOf (K : PySem.W.Frag) (H : Hp) : V → Value → Prop where
  | non : TyOf K H .non (.type "NoneType")
  | bl (x : Bool) : TyOf K H (.bl x) (.type "bool")
  | int (i : Int) : TyOf K H (.int i) (.type "int")
  | str (x : Str) : TyOf K H (.str x) (.type "str")
  | flt (x : UInt64) : TyOf K H (.flt x) (.type "float")
  | lst {a : Addr} {xs : List V} (e : H a = some (.lst xs)) : TyOf K H (.ref a) (.type "list")
  | frz {a : Addr} {o : Obj} {xs : List V} (e : H a = some (.frz o (.lst xs))) : TyOf K H (.ref a) (.type "list")
  | tup {a : Addr} {xs : List V} (e : H a = some (.tup xs)) : TyOf K H (.ref a) (.type "tuple")
  | dK {a : Addr} {kvs : List (Key × V)} (e : H a = some (.dK kvs)) : TyOf K H (.ref a) (.type "dict")
  | dT {a : Addr} {kvs : List (List Key × V)} (e : H a = some (.dT kvs)) : TyOf K H (.ref a) (.type "dict")
  | ins {a C dx : Addr} {fs : List (Str × V)} (e : H a = some (.ins C dx fs)) (cl : Cls K C) (ha : PySem.W.findIn K (.ref C) "__class__" = some (some (.builtin "object.__class__")))
      (hn : PySem.W.specialIn K (.builtin "object.__class__") "__get__" = some (some (.builtin "getset_descriptor.__get__"))) (htk : PySem.W.takesIn K (.builtin "object.__class__") = some true)
      (hm : PySem.W.mroIn K C (.type "object") = some true) : TyOf K H (.ref a) (.ref C)
theorem isinst_ok {x : V} {u t : Value} (I : Inv X pins σ H s) (rx : RelV x u) (ty : TyOf X.K H x t) (e : PySem.W.kitOne X.K t c = some b) (h : ∀ tk, Q (.bool b) { s with toks := tk }) :
    wpAny (model X.prog X.w) A (call (.builtin "isinstance") [u, c]) Q E s := by
  cases ty with
  | non => cases (show u = Value.none from rx); exact PySem.W.kia_one PySem.W.kitx_none I.kIn True.intro e (fun z => nomatch z) h
  | bl y => cases (show u = Value.bool y from rx); exact PySem.W.kia_one PySem.W.kitx_bool I.kIn True.intro e (fun z => nomatch z) h
  | int i => obtain ⟨t, q⟩ := (show ∃ t, u = Value.int i t from rx); cases q; exact PySem.W.kia_one PySem.W.kitx_int I.kIn True.intro e (fun z => nomatch z) h
  | str y => obtain ⟨t, q⟩ := (show ∃ t, u = Value.str y t from rx); cases q; exact PySem.W.kia_one PySem.W.kitx_str I.kIn True.intro e (fun z => nomatch z) h
  | flt y => obtain ⟨t, q⟩ := (show ∃ t, u = Value.float y t from rx); cases q; exact PySem.W.kia_one PySem.W.kitx_float I.kIn True.intro e (fun z => nomatch z) h
  | @lst a xs ea =>
    cases (show u = Value.ref a from rx)
    obtain ⟨_, _, n, _, h1⟩ := (show ObjOk X.prog X.w H s.heap a (.lst xs) from I.hok a _ ea)
    exact PySem.W.kia_one PySem.W.kitx_list I.kIn ⟨_, h1, rfl⟩ e (fun z => nomatch z) h
  | @frz a ob xs ea =>
    cases (show u = Value.ref a from rx)
    obtain ⟨_, _, _, n, _, h1⟩ := (show ObjOk X.prog X.w H s.heap a (.frz ob (.lst xs)) from I.hok a _ ea)
    exact PySem.W.kia_one PySem.W.kitx_list I.kIn ⟨_, h1, rfl⟩ e (fun z => nomatch z) h
  | @tup a xs ea =>
    cases (show u = Value.ref a from rx)
    obtain ⟨_, _, _, p⟩ := (show ObjOk X.prog X.w H s.heap a (.tup xs) from I.hok a _ ea)
    obtain ⟨o, h1, h2, _⟩ := p
    exact PySem.W.kia_one PySem.W.kitx_tuple I.kIn ⟨o, h1, h2⟩ e (fun z => nomatch z) h
  | @dK a kvs ea =>
    cases (show u = Value.ref a from rx)
    obtain ⟨_, _, vs, _, p⟩ := (show ObjOk X.prog X.w H s.heap a (.dK kvs) from I.hok a _ ea)
    obtain ⟨o, es, ep, h1, h2, _⟩ := p
    exact PySem.W.kia_one PySem.W.kitx_dict I.kIn ⟨o, h1, h2.1⟩ e (fun z => nomatch z) h
  | @dT a kvs ea =>
    cases (show u = Value.ref a from rx)
    obtain ⟨_, _, xs, _, o, es, ep, h1, h2, _⟩ := (show ObjOk X.prog X.w H s.heap a (.dT kvs) from I.hok a _ ea)
    exact PySem.W.kia_one PySem.W.kitx_dict I.kIn ⟨o, h1, h2.1⟩ e (fun z => nomatch z) h
  | @ins a C dx fs ea cl ha hn htk hm =>
    cases (show u = Value.ref a from rx)
    obtain ⟨mA, O, _⟩ := ins_get I.hok ea
    obtain ⟨od, J, _⟩ := O.look
    exact PySem.W.kia_one (PySem.W.kitx_own (cl.get _) cl.hd ha hn htk hm) I.kIn J e (fun z => nomatch z) h
end
end L2

namespace L2
open PySem PySem.Spec PyProof.Rows

/-! ### room -/
structure Room (k : Nat) (A : Around) : Prop where
  hd : A.handled = none
  dp : A.depth + 3 * k + 5 < recursionLimit
  un : A.units + 16 * k + 200 < cLine
theorem Room.mono {j k : Nat} {A : Around} (r : Room k A) (h : j ≤ k) : Room j A := ⟨r.hd, by have := r.dp; omega, by have := r.un; omega⟩
theorem Room.deeper {k : Nat} {A : Around} (r : Room (k + 1) A) (env : Env) : Room k (A.deeper env) :=
  ⟨r.hd, by have := r.dp; show A.depth + 1 + 3 * k + 5 < _; omega, by have := r.un; show A.units + 3 + 16 * k + 200 < _; omega⟩
theorem Room.in1 {k : Nat} {A : Around} (r : Room (k + 1) A) : Room k A.in1 :=
  ⟨r.hd, by have := r.dp; show A.depth + 3 * k + 5 < _; omega, by have := r.un; show A.units + 1 + 16 * k + 200 < _; omega⟩
theorem Room.depth {k : Nat} {A : Around} (r : Room k A) : A.depth < recursionLimit := by have := r.dp; omega
theorem Room.units {k : Nat} {A : Around} (r : Room k A) : A.units + 64 < cLine := by have := r.un; omega
theorem Room.units0 {k : Nat} {A : Around} (r : Room k A) : A.units < cLine := by have := r.un; omega

/-! ### argument lists and displays -/
noncomputable def tNil : TA := fun _ H Q => Q [] H
noncomputable def tCons (ta : TE) (tr : TA) : TA := fun σ H Q => ta σ H fun x H1 => tr σ H1 fun xs H2 => Q (x :: xs) H2
section
variable {X : Cx} {e : Expr} {es : List Expr} {te : TE} {t : TA} {pos : Pos}
theorem pa_nil : PA X [] tNil := fun _ _ _ _ H Q I h => Calls.spliced_nil ⟨[], H, I, .nil, h⟩
theorem pa_cons (ha : PE X e te) (hr : PA X es t) (hs : starEach (e :: es) X.env = (false, eval e X.env) :: starEach es X.env := by rfl) : PA X (e :: es) (tCons te t) := by
  intro pos pins s σ H Q I h
  rw [hs]
  show wpAny _ _ (spliced ((false, eval e X.env) :: backTo pos (starEach es X.env))) _ _ s
  refine Calls.spliced_cons (thn (ha pins s σ H _ I h) fun u s1 ⟨x, H1, I1, r1, q1⟩ => ?_)
  exact thn (hr pos pins s1 σ H1 _ I1 q1) fun us s2 ⟨xs, H2, I2, r2, q2⟩ => ⟨x :: xs, H2, I2, .cons r1 r2, q2⟩

noncomputable def tTup (t : TA) : TE := fun σ H Q => t σ H fun xs H1 => xs.length ≤ sizeLine ∧ ∀ p, H1 p = none → Q (.ref p) (upd H1 p (.tup xs))
noncomputable def tLst (t : TA) : TE := fun σ H Q => t σ H fun xs H1 => xs.length ≤ sizeLine ∧ ∀ p, H1 p = none → Q (.ref p) (upd H1 p (.lst xs))
end

/-! ### what a def promises -/
noncomputable abbrev Sp := List V → Hp → VK → XK → Prop
noncomputable abbrev CXT := List Env → Hp → Shared → XK → Value → Shared → Prop

structure Env0 (P : Program) (w : World) (K : PySem.W.Frag) (mg : Str → Option Value) (base : Heap) (A : Around) (outer : List Env) (s : Shared) (H : Hp) : Prop where
  frames : A.frames = some outer
  mod : Mod K mg base
  bs : ∀ b o, base.get? b = some o → s.heap.get? b = some o ∧ H b = none
  bsz : base.objs.size ≤ s.heap.objs.size
  funs : s.heap.FunFrames base outer
  frf : ∀ b ∈ frs outer, H b = none
  hok : HOk P w H s.heap
  bare : AllBare s.gens
noncomputable def CE (outer : List Env) (P : Program) (w : World) (H : Hp) (s : Shared) (Q : VK) (u : Value) (s' : Shared) : Prop :=
  ∃ v H', s'.os = s.os ∧ AllBare s'.gens ∧ Un (frs outer) [] H H' s.heap s'.heap ∧ HOk P w H' s'.heap ∧ RelV v u ∧ Q v H'
noncomputable def CR (CX : CXT) (outer : List Env) (P : Program) (w : World) (H : Hp) (s : Shared) (Q : VK) (E : XK) (r : Result) (s' : Shared) : Prop :=
  match r with
  | .ok (.ret u) => CE outer P w H s Q u s'
  | .ok _ => False
  | .error e => CX outer H s E e s'
structure FnOk (P : Program) (w : World) (K : PySem.W.Frag) (mg : Str → Option Value) (base : Heap) (CX : CXT) (k : Nat) (f : Addr) (fd : FuncData) (ps : List Str) (sp : Sp) : Prop where
  len : ∀ vs H Q E, sp vs H Q E → vs.length = ps.length
  run : ∀ (A : Around) (outer : List Env) (s : Shared) (H : Hp) (args : Args) (us : List Value) (vs : List V) (Q : VK) (E : XK), Room k A → Env0 P w K mg base A outer s H → BindsTo s fd args (ps.zip us) → Vals vs us → sp vs H Q E →
    codeAny (model P w) A (.call (.ref f) args) (CR CX outer P w H s Q E) s
theorem FnOk.mono {P : Program} {w : World} {K : PySem.W.Frag} {mg : Str → Option Value} {base : Heap} {CX : CXT} {j k : Nat} {f : Addr} {fd : FuncData} {ps : List Str} {sp : Sp} (F : FnOk P w K mg base CX j f fd ps sp) (h : j ≤ k) :
    FnOk P w K mg base CX k f fd ps sp := ⟨F.len, fun A outer s H args us vs Q E hr => F.run A outer s H args us vs Q E (hr.mono h)⟩
theorem Env0.in1 {P : Program} {w : World} {K : PySem.W.Frag} {mg : Str → Option Value} {base : Heap} {A : Around} {outer : List Env} {s : Shared} {H : Hp} (e : Env0 P w K mg base A outer s H) :
    Env0 P w K mg base A.in1 outer s H := ⟨e.frames, e.mod, e.bs, e.bsz, e.funs, e.frf, e.hok, e.bare⟩

section
variable {X : Cx} {pins : List (Addr × Obj)} {σ : St} {H : Hp} {s s' : Shared}
theorem Inv.env0 (I : Inv X pins σ H s) : Env0 X.prog X.w X.K X.mg X.base X.A X.stack s H :=
  ⟨I.ok.frames, I.ok.mod, I.bs, Nat.le_trans I.ok.bsz I.sz, I.stack, I.stkFree, I.hok, I.bare⟩
theorem Inv.after {Q : VK} {u : Value} (I : Inv X pins σ H s) (h : CE X.stack X.prog X.w H s Q u s') : EP X pins σ Q u s' := by
  obtain ⟨v, H', os, bare, un, hok, r, q⟩ := h
  obtain ⟨hh, g, d, t, os'⟩ := s'
  obtain rfl : os' = s.os := os
  exact ⟨v, H', I.call (h' := hh) (g' := g) (d' := d) (t' := t) (ch := []) un hok bare (fun b z => absurd z (by simp)), r, q⟩
end

/-! ### calls -/
noncomputable def tCall (sp : Sp) (dvs : List V) (E : XK) (t : TA) : TE := fun σ H Q => t σ H fun vs H1 => sp (vs ++ dvs) H1 Q E
noncomputable def Binds (K : PySem.W.Frag) (fd : FuncData) (ps : List Str) (ds : List Value) : Prop :=
  ∀ (s : Shared) (us : List Value), K.In s.heap → (us ++ ds).length = ps.length → BindsTo s fd ⟨us, []⟩ (ps.zip (us ++ ds))
theorem Binds.all {K : PySem.W.Frag} {fd : FuncData} {ps : List Str} (h : ∀ us : List Value, us.length = ps.length → bindArgs fd ⟨us, []⟩ = pure (ps.zip us)) : Binds K fd ps [] := fun s us _ hl => by
  rw [List.append_nil] at hl ⊢
  exact .of_eq (h us hl)

noncomputable def Passes (CX : CXT) (X : Cx) (E : XK) : Prop := ∀ (pins : List (Addr × Obj)) (σ : St) (H : Hp) (s : Shared) (e : Value) (s' : Shared), Inv X pins σ H s → CX X.stack H s E e s' → X.xe e s'

section
variable {X : Cx} {CX : CXT} {k : Nat} {f C : Addr} {fd : FuncData} {ps : List Str} {sp : Sp} {dvs : List V} {ds : List Value} {E : XK} {x m : Str} {p pos apos : Pos} {e o : Expr} {es : List Expr} {ta : TE} {t : TA}

theorem run_fn {pins : List (Addr × Obj)} {σ : St} {H : Hp} {s : Shared} {Q : VK} {us : List Value} {vs : List V} (F : FnOk X.prog X.w X.K X.mg X.base CX k f fd ps sp) (hr : Room k X.A) (hb : Binds X.K fd ps ds) (hd : Vals dvs ds) (hx : Passes CX X E)
    (I : Inv X pins σ H s) (r : Vals vs us) (h : sp (vs ++ dvs) H Q E) : wpAny (model X.prog X.w) X.A (call (.ref f) us) (EP X pins σ Q) X.xe s := by
  have r2 : Vals (vs ++ dvs) (us ++ ds) := r.append hd
  have hl : (us ++ ds).length = ps.length := by rw [← r2.length]; exact F.len _ _ _ _ h
  refine wpAny_call (codeAny_mono (F.run X.A X.stack s H ⟨us, []⟩ (us ++ ds) (vs ++ dvs) Q E hr I.env0 (hb s us I.kIn hl) r2 h) fun r s' hq => ?_)
  cases r with
  | error e => exact hx pins σ H s e s' I hq
  | ok fl =>
    cases fl with
    | ret u => exact I.after hq
    | next => exact False.elim hq
    | brk => exact False.elim hq
    | cont => exact False.elim hq

theorem pe_call (F : FnOk X.prog X.w X.K X.mg X.base CX k f fd ps sp) (hr : Room k X.A) (hg : Gl X x) (hm : X.mg x = some (.ref f)) (hk : PySem.W.keepIn X.K (.ref f) = true) (hb : Binds X.K fd ps ds) (hd : Vals dvs ds) (hx : Passes CX X E)
    (ha : PA X (e :: es) t) (hdb : (x == ("__debug__" : Str)) = false := by decide) (he : starEach (e :: es) X.env = (false, eval e X.env) :: starEach es X.env := by rfl) (hpl : (backTo pos (starEach es X.env)).any (·.1) = false := by rfl) :
    PE X (.Call (.Name x p) (e :: es) [] pos) (tCall sp dvs E t) := by
  intro pins s σ H Q I h
  refine wpAny_Call_Name_kw (ld_glob I hg hm ?_ hdb)
  refine PySem.W.callWith_K (h₀ := X.base) I.ok.mod.kin hk (thn (ha pos pins s σ H _ I h) fun us s1 ⟨vs, H1, I1, r, q⟩ => ⟨I1.kIn, ?_⟩) he hpl
  exact run_fn F hr hb hd hx I1 r q
structure Mk (K : PySem.W.Frag) (C f : Addr) : Prop where
  makes : PySem.W.makesIn K C = true
  init : PySem.W.findIn K (.ref C) "__init__" = some (some (.ref f))
  fn : PySem.W.isFn K (.ref f) = true
  kp : PySem.W.keepIn K (.ref C) = true

end

/-! ### keywords -/
section
variable {X : Cx} {CX : CXT} {k : Nat} {f C : Addr} {fd : FuncData} {ps ks : List Str} {sp : Sp} {E : XK} {x m : Str} {p pos apos kpos : Pos} {e o : Expr} {es : List Expr} {kws : List Keyword} {te ta : TE} {t tk : TA} {nm : Option Str}
structure KBinds (K : PySem.W.Frag) (fd : FuncData) (ps ks : List Str) (g : List Value → List Value → List Value) (gV : List V → List V → List V) : Prop where
  to : ∀ (s : Shared) (us ws : List Value), K.In s.heap → (g us ws).length = ps.length → BindsTo s fd ⟨us, ks.zip ws⟩ (ps.zip (g us ws))
  rel : ∀ {vs : List V} {us : List Value} {zs : List V} {ws : List Value}, Vals vs us → Vals zs ws → Vals (gV vs zs) (g us ws)
variable {g : List Value → List Value → List Value} {gV : List V → List V → List V}
end

/-! ### a def's body keeps its promise -/
structure FnScope (N P : List Str) (sc : Scope) : Prop where
  kind : sc.kind = .function
  co : sc.isCoroutine = false
  gen : sc.isGenerator = false
  nd : N.Nodup
  pre : N.take P.length = P
  par : ∀ x ∈ P, sc.names.lookup x = some .local ∨ sc.names.lookup x = some .cell
  nofree : ∀ y ∈ sc.names, y.2 ≠ .free

theorem bindL_out {kindOf : Str → Option NameKind} {x : Str} : ∀ {binds : List (Str × Value)} {m : Str → Option Value}, (∀ v, (x, v) ∉ binds) → bindL kindOf binds m x = m x
  | [], _, _ => rfl
  | (n, v) :: r, m, h => by
    unfold bindL
    rw [bindL_out fun w hw => h w (List.mem_cons_of_mem _ hw)]
    split
    · have : x ≠ n := by rintro rfl; exact h v List.mem_cons_self
      simp [this]
    · rfl
theorem bindC_out {kindOf : Str → Option NameKind} {x : Str} : ∀ {binds : List (Str × Value)} {m : Str → Option Value}, (∀ v, (x, v) ∉ binds) → bindC kindOf binds m x = m x
  | [], _, _ => rfl
  | (n, v) :: r, m, h => by
    unfold bindC
    rw [bindC_out fun w hw => h w (List.mem_cons_of_mem _ hw)]
    split
    · rfl
    · have : x ≠ n := by rintro rfl; exact h v List.mem_cons_self
      simp [this]
theorem bindL_get {kindOf : Str → Option NameKind} {x : Str} {v : Value} : ∀ {P : List Str} {vs : List Value} {i : Nat} {m : Str → Option Value}, P.Nodup → P[i]? = some x → vs[i]? = some v → kindOf x = some .local →
    bindL kindOf (P.zip vs) m x = some v
  | [], _, _, _, _, h, _, _ => by simp at h
  | _ :: _, [], _, _, _, _, h, _ => by simp at h
  | p :: P, w :: vs, 0, m, nd, h1, h2, hk => by
    simp at h1 h2; subst h1; subst h2
    show bindL kindOf ((p, w) :: P.zip vs) m p = _
    unfold bindL
    rw [bindL_out fun v hv => (List.nodup_cons.mp nd).1 (List.of_mem_zip hv).1, if_pos hk]
    simp
  | p :: P, w :: vs, i + 1, m, nd, h1, h2, hk => by
    show bindL kindOf ((p, w) :: P.zip vs) m x = _
    unfold bindL
    exact bindL_get (i := i) (List.nodup_cons.mp nd).2 (by simpa using h1) (by simpa using h2) hk
theorem bindC_get {kindOf : Str → Option NameKind} {x : Str} {v : Value} : ∀ {P : List Str} {vs : List Value} {i : Nat} {m : Str → Option Value}, P.Nodup → P[i]? = some x → vs[i]? = some v → kindOf x ≠ some .local →
    bindC kindOf (P.zip vs) m x = some v
  | [], _, _, _, _, h, _, _ => by simp at h
  | _ :: _, [], _, _, _, _, h, _ => by simp at h
  | p :: P, w :: vs, 0, m, nd, h1, h2, hk => by
    simp at h1 h2; subst h1; subst h2
    show bindC kindOf ((p, w) :: P.zip vs) m p = _
    unfold bindC
    rw [bindC_out fun v hv => (List.nodup_cons.mp nd).1 (List.of_mem_zip hv).1, if_neg hk]
    simp
  | p :: P, w :: vs, i + 1, m, nd, h1, h2, hk => by
    show bindC kindOf ((p, w) :: P.zip vs) m x = _
    unfold bindC
    exact bindC_get (i := i) (List.nodup_cons.mp nd).2 (by simpa using h1) (by simpa using h2) hk

noncomputable def start (N : List Str) (vs : List V) : St := vs.map some ++ List.replicate (N.length - vs.length) none

noncomputable def cxOf (CX : CXT) (P : Program) (w : World) (K : PySem.W.Frag) (mg : Str → Option Value) (base : Heap) (N : List Str) (qual : Str) (scope : Scope) (f : Addr) (cd : Value) (A : Around) (outer : List Env) (s : Shared) (H : Hp) (E : XK) : Cx where
  prog := P
  w := w
  K := K
  mg := mg
  base := base
  A := A.deeper (envOfC qual scope s.heap.objs.size f cd)
  N := N
  s₀ := s
  H₀ := H
  env := envOfC qual scope s.heap.objs.size f cd
  outer := outer
  stack := envOfC qual scope s.heap.objs.size f cd :: outer
  ex := []
  calm := true
  fn := fun _ => true
  pn := []
  xe := fun e s' => wpAny (model P w) (A.deeper (envOfC qual scope s.heap.objs.size f cd)) («leaving» (envOfC qual scope s.heap.objs.size f cd) e) (fun _ s'' => CX outer H s E e s'') (fun e' s'' => CX outer H s E e' s'') s'

theorem cell_has {sc : Scope} {n : Nat} {x : Str} (h : sc.names.lookup x = some .cell) : ∃ c, (cellsFrom n sc.names []).lookup x = some c := by
  have q := PySem.W.cellsFrom_some sc.names n [] (.inl h)
  exact Option.isSome_iff_exists.mp q

theorem inv_start {CX : CXT} {P : Program} {w : World} {K : PySem.W.Frag} {mg : Str → Option Value} {base : Heap} {N ps : List Str} {qual : Str} {scope : Scope} {f : Addr} {cd : Value} {A : Around} {outer : List Env} {s s1 : Shared} {H : Hp} {E : XK} {us : List Value} {vs : List V}
    (S : FnScope N ps scope) (hd : A.handled = none) (e0 : Env0 P w K mg base A outer s H) (hl : vs.length = ps.length) (r : Vals vs us)
    (x : InCallC s s.heap.objs.size (bindL (envOfC qual scope s.heap.objs.size f cd).kindOf (ps.zip us) fun _ => none) (cellsFrom (s.heap.objs.size + 1) scope.names []) (bindC (envOfC qual scope s.heap.objs.size f cd).kindOf (ps.zip us) fun _ => none) s1) :
    Inv (cxOf CX P w K mg base N qual scope f cd A outer s H E) [] (start N vs) H s1 := by
  have hpl : ps.length ≤ N.length := by have := congrArg List.length S.pre; rw [List.length_take] at this; omega
  obtain ⟨h1, tk, rfl, hk⟩ := x.done
  have noA : ∀ b : Addr, b ∉ (cxOf CX P w K mg base N qual scope f cd A outer s H E).ex := fun b z => absurd (show b ∈ ([] : List Addr) from z) (by simp)
  refine ⟨⟨e0.mod, S.kind, rfl, rfl, Nat.le_refl _, fun y z c h1 h2 => ?_, fun y hy => ?_, fun y c _ h => ?_, fun _ => hd, Around.frames_deeper e0.frames, .inr ⟨rfl, rfl⟩, fun b z => absurd z (noA b), e0.bs, e0.bsz, fun b _ _ => noA b, fun b z => absurd z (noA b), e0.funs, e0.frf⟩,
    rfl, e0.bare, Un.kept hk, ⟨_, x.toInCall.ns, fun i y v h1 h2 h3 => ?_⟩, fun y c h => ⟨_, x.cell y c h⟩, e0.hok.fresh (Nat.le_refl _), fun y c h => ?_, fun p hp => absurd (show p ∈ ([] : List (Addr × Obj)) from hp) (by simp), e0.hok.kept hk, ?_⟩
  · exact name_of_addr x.apart (PySem.mem_of_lookup h1) (PySem.mem_of_lookup h2)
  · have hy : scope.names.lookup y = some .cell ∨ scope.names.lookup y = some .free := hy
    rcases hy with hy | hy
    · exact cell_has hy
    · exact absurd rfl (S.nofree _ (PySem.mem_of_lookup hy))
  · exact Nat.le_of_lt (x.above y c (PySem.mem_of_lookup h))
  · have hi : i < vs.length := by
      unfold start at h2
      by_cases hi : i < vs.length
      · exact hi
      · rw [List.getElem?_append_right (by simpa using hi)] at h2
        rw [List.getElem?_replicate] at h2
        split at h2 <;> cases h2
    have ha : vs[i]? = some v := by
      unfold start at h2
      rw [List.getElem?_append_left (by simpa using hi), List.getElem?_map] at h2
      cases e : vs[i]? with
      | none => rw [e] at h2; cases h2
      | some a => rw [e] at h2; cases h2; rfl
    obtain ⟨u, hu, rv⟩ := r.get ha
    have hp : ps[i]? = some y := by
      rw [← S.pre, List.getElem?_take_of_lt (by omega)]; exact h1
    have ndP : ps.Nodup := by rw [← S.pre]; exact S.nd.sublist (List.take_sublist _ _)
    refine ⟨u, rv, ?_⟩
    rcases S.par y (List.mem_of_getElem? hp) with k | k
    · exact .inl ⟨k, bindL_get ndP hp hu k⟩
    · obtain ⟨c, e⟩ := cell_has (n := s.heap.objs.size + 1) k
      refine .inr ⟨.inl k, c, e, ?_⟩
      have q := x.cell y c e
      rw [bindC_get ndP hp hu (by show scope.names.lookup y ≠ _; rw [k]; decide)] at q
      exact q
  · exact e0.hok.fresh (Nat.le_of_lt (x.above y c (PySem.mem_of_lookup h)))
  · unfold start
    show _ = N.length
    rw [List.length_append, List.length_map, List.length_replicate]
    omega

theorem fn_of {CX : CXT} {P : Program} {w : World} {K : PySem.W.Frag} {mg : Str → Option Value} {base : Heap} {k : Nat} {f : Addr} {name qual : Str} {params : Arguments} {body : List Stmt} {scope : Scope} {dV kV doc pm cdv ct oc : Value} {an od : Option Addr}
    {osl : Array (Option Value)} {N ps : List Str} {sp : Sp} (lk : K.lookup f = some ⟨oc, od, .func (PySem.W.fnOf name qual params body scope dV kV doc pm an cdv ct), osl⟩) (hcd : PySem.W.codeIn K cdv qual = true) (S : FnScope N ps scope)
    (len : ∀ vs H Q E, sp vs H Q E → vs.length = ps.length)
    (hbody : ∀ (A : Around) (outer : List Env) (s : Shared) (H : Hp) (vs : List V) (Q : VK) (E : XK), Room k (A.deeper (envOfC qual scope s.heap.objs.size f cdv)) → sp vs H Q E →
      ∃ t, PSs (cxOf CX P w K mg base N qual scope f cdv A outer s H E) body t ∧ t { nx := fun _ H' => Q .non H', rt := Q } (start N vs) H) :
    FnOk P w K mg base CX (k + 1) f (PySem.W.fnOf name qual params body scope dV kV doc pm an cdv ct) ps sp := by
  refine ⟨len, fun A outer s H args us vs Q E hr e0 hb r hsp => ?_⟩
  have hl := len _ _ _ _ hsp
  have KX : K.In s.heap := e0.mod.kin.keeps fun b o e => (e0.bs b o e).1
  have lim : s.heap.NoLimit := e0.mod.nolimit.keeps fun b o e => (e0.bs b o e).1
  have hkind : ∀ y ∈ ps.zip us, scope.names.lookup y.1 = some .local ∨ (scope.names.lookup y.1 = some .cell ∧ ((cellsFrom (s.heap.objs.size + 1) scope.names []).lookup y.1).isSome = true) := fun ⟨n, v⟩ hy => by
    rcases S.par n (List.of_mem_zip hy).1 with q | q
    · exact .inl q
    · exact .inr ⟨q, PySem.W.cellsFrom_some _ _ _ (.inl q)⟩
  refine codeAny_call_function hr.depth (KX _ _ lk) rfl S.co S.gen rfl (PySem.W.codeRec_of KX hcd) (hb _ _ _ _ ?_)
  refine wpAny_newFunctionEnv_cells S.kind hkind fun env he s1 x => ?_
  subst he
  refine ⟨lim.keeps x.toInCall.keep, codeAny_func ?_⟩
  obtain ⟨t, ht, hq⟩ := hbody A outer s H vs Q E (hr.deeper _) hsp
  have I : Inv (cxOf CX P w K mg base N qual scope f cdv A outer s H E) [] (start N vs) H s1 := inv_start S hr.hd e0 hl r x
  refine wpAny_mono (ht [] s1 (start N vs) H _ I hq) (fun fl s' hs => ?_) fun e s' hs => hs
  have fin : ∀ {σ' : St} {H' : Hp} {v : V} {u : Value}, Inv (cxOf CX P w K mg base N qual scope f cdv A outer s H E) [] σ' H' s' → RelV v u → Q v H' → CE outer P w H s Q u s' :=
    fun {σ' H' v u} J rv q => ⟨v, H', J.os, J.bare, J.base, J.hok, rv, q⟩
  cases fl with
  | ret u =>
    obtain ⟨v, σ', H', J, rv, q⟩ := hs
    exact fin J rv q
  | next =>
    obtain ⟨σ', H', J, q⟩ := hs
    exact fin (v := V.non) (u := Value.none) J rfl q
  | brk =>
    obtain ⟨_, _, _, q⟩ := hs
    exact False.elim q
  | cont =>
    obtain ⟨_, _, _, q⟩ := hs
    exact False.elim q
end L2

namespace L2
open PySem PySem.Spec PyProof.Rows
section
variable {X : Cx} {x : Str} {p pos : Pos} {e : Expr} {es : List Expr} {t : TA} {id T : String} {r : List V → Hp → VK → Prop}

noncomputable def tCB (r : List V → Hp → VK → Prop) (t : TA) : TE := fun σ H Q => t σ H fun vs H1 => r vs H1 Q
theorem pe_callB (hc : CallR X (.builtin id) r) (hg : Gl X x) (hm : X.mg x = none) (hv : bootBuiltins x = some (.builtin id)) (ha : PA X (e :: es) t) (hn : x ≠ "__name__" := by decide) (hdb : (x == ("__debug__" : Str)) = false := by decide)
    (he : starEach (e :: es) X.env = (false, eval e X.env) :: starEach es X.env := by rfl) (hpl : (backTo pos (starEach es X.env)).any (·.1) = false := by rfl) : PE X (.Call (.Name x p) (e :: es) [] pos) (tCB r t) := by
  intro pins s σ H Q I h
  refine wpAny_Call_Name_kw (ld_blt I hg hm hv ?_ hn hdb)
  exact PyProof.Rows.callWith_builtin1 (thn (ha pos pins s σ H _ I h) fun us s1 ⟨vs, H1, I1, r1, q1⟩ => hc pins s1 σ H1 vs us Q I1 r1 q1) he hpl
theorem pe_callTy (hc : CallR X (.type T) r) (hg : Gl X x) (hm : X.mg x = none) (hv : bootBuiltins x = some (.type T)) (ha : PA X (e :: es) t) (hn : x ≠ "__name__" := by decide) (hdb : (x == ("__debug__" : Str)) = false := by decide)
    (he : starEach (e :: es) X.env = (false, eval e X.env) :: starEach es X.env := by rfl) (hpl : (backTo pos (starEach es X.env)).any (·.1) = false := by rfl) : PE X (.Call (.Name x p) (e :: es) [] pos) (tCB r t) := by
  intro pins s σ H Q I h
  refine wpAny_Call_Name_kw (ld_blt I hg hm hv ?_ hn hdb)
  exact PyProof.Rows.callWith_type1 (thn (ha pos pins s σ H _ I h) fun us s1 ⟨vs, H1, I1, r1, q1⟩ => hc pins s1 σ H1 vs us Q I1 r1 q1) he hpl
end
end L2

namespace HT
open PySem PyProof.Rows

section
open PySem.SeqAt
open PySem.AutoSeq1 (wpAny_loadPart')
open PySem.MeetsSeq PySem.MeetsSeq2 PySem.MeetsSeq3

end

section
variable {prog : Program} {w : World} {A : Around} {E : Value → Shared → Prop} {s : Shared}

/-! ### t[a:b], not the whole -/
end
end HT

namespace L2
open PySem PySem.Spec PyProof.Rows

/-! ### the parts of a slice -/
noncomputable abbrev TO := St → Hp → (Option Int → Hp → Prop) → Prop
noncomputable def PO (X : Cx) (e : Option Expr) (t : TO) : Prop :=
  ∀ (pins : List (Addr × Obj)) (s : Shared) (σ : St) (H : Hp) (Q : Option Int → Hp → Prop), Inv X pins σ H s → t σ H Q →
    wpAny (model X.prog X.w) X.A (evalPart e X.env) (fun u s' => ∃ o H', Inv X pins σ H' s' ∧ IsPart u o ∧ Q o H') X.xe s
noncomputable def tNoPart : TO := fun _ H Q => Q none H
noncomputable def tPart (t : TE) : TO := fun σ H Q => t σ H fun x H1 => ∃ i, x = .int i ∧ Q (some i) H1

section
variable {X : Cx} {e : Expr} {te : TE} {lo hi : Option Expr} {tl th : TO} {pos p2 : Pos}

noncomputable def SlR (X : Cx) (r : V → Option Int → Option Int → Hp → VK → Prop) : Prop :=
  ∀ (pins : List (Addr × Obj)) (s : Shared) (σ : St) (H : Hp) (x : V) (v vl vu : Value) (lo hi : Option Int) (sl : Addr) (Q : VK), Inv X pins σ H s → RelV x v → s.heap.IsSliceOf sl vl vu .none → IsPart vl lo → IsPart vu hi → r x lo hi H Q →
    ∃ T id, typeLookup (.type T) "__getitem__" = pure (some (.builtin id)) ∧ s.TypeIs v T ∧ wpAny (model X.prog X.w) X.A (getItem v (.ref sl)) (EP X pins σ Q) X.xe s
theorem SlR.or {r r' : V → Option Int → Option Int → Hp → VK → Prop} (h : SlR X r) (h' : SlR X r') : SlR X (fun x lo hi H Q => r x lo hi H Q ∨ r' x lo hi H Q) := by
  intro pins s σ H x v vl vu lo hi sl Q I rx hs pl pu q
  rcases q with q | q
  · exact h pins s σ H x v vl vu lo hi sl Q I rx hs pl pu q
  · exact h' pins s σ H x v vl vu lo hi sl Q I rx hs pl pu q
noncomputable def tSl (r : V → Option Int → Option Int → Hp → VK → Prop) (te : TE) (tl th : TO) : TE := fun σ H Q => te σ H fun x H1 => tl σ H1 fun l H2 => th σ H2 fun u H3 => r x l u H3 Q
/-! ### t < u, t + u -/
end
end L2

namespace L2
open PySem PySem.Spec PyProof.Rows

/-! ### places -/
noncomputable def ixN (n : Nat) (i : Int) : Option Nat := if 0 ≤ i then (if i < n then some i.toNat else none) else if -(n : Int) ≤ i then some (i + n).toNat else none
noncomputable def atI {α : Type} (xs : List α) (i : Int) : Option α := (ixN xs.length i).bind fun j => xs[j]?
theorem ixN_seq {n : Nat} {i : Int} {j : Nat} (h : ixN n i = some j) : seqIndex? i n = some j ∧ j < n ∧ -(n : Int) ≤ i ∧ i < n := by
  unfold ixN at h
  by_cases h0 : 0 ≤ i
  · rw [if_pos h0] at h
    by_cases h1 : i < n
    · rw [if_pos h1] at h
      have e : i.toNat = j := Option.some.inj h
      exact ⟨by rw [seqIndex_of h0 h1, e], by omega, by omega, h1⟩
    · rw [if_neg h1] at h; cases h
  · rw [if_neg h0] at h
    by_cases h1 : -(n : Int) ≤ i
    · rw [if_pos h1] at h
      have e : (i + n).toNat = j := Option.some.inj h
      exact ⟨by rw [seqIndex_neg (by omega) h1, e], by omega, h1, by omega⟩
    · rw [if_neg h1] at h; cases h
theorem atI_get {α : Type} {xs : List α} {i : Int} {v : α} (h : atI xs i = some v) : ∃ j, seqIndex? i xs.length = some j ∧ xs[j]? = some v ∧ j < xs.length ∧ -(xs.length : Int) ≤ i ∧ i < xs.length := by
  unfold atI at h
  cases e : ixN xs.length i with
  | none => rw [e] at h; cases h
  | some j =>
    rw [e] at h
    obtain ⟨h1, h2, h3, h4⟩ := ixN_seq e
    exact ⟨j, h1, h, h2, h3, h4⟩
theorem atI_nat {α : Type} {xs : List α} {j : Nat} {v : α} (h : xs[j]? = some v) : atI xs (j : Int) = some v := by
  have hj : j < xs.length := (List.getElem?_eq_some_iff.mp h).1
  have e : ixN xs.length (j : Int) = some j := by
    unfold ixN
    rw [if_pos (by omega), if_pos (by omega)]; simp
  unfold atI; rw [e]; exact h
/-! ### what may be subscripted -/
noncomputable def PlainIx (b : Expr) : Prop := ∀ o i, subscripted b false o i = operate [o, i] (getItem o i)
noncomputable def IxR (X : Cx) (r : R2) : Prop :=
  ∀ (value slice : Expr) (pins : List (Addr × Obj)) (s : Shared) (σ : St) (H : Hp) (x y : V) (v u : Value) (Q : VK), Inv X pins σ H s → RelV x v → RelV y u → r x y H Q →
    subscripted slice false v u = operate [v, u] (getItem v u) → wpAny (model X.prog X.w) X.A (subscriptTail value slice v u) (EP X pins σ Q) X.xe s
noncomputable def MtR (X : Cx) (id : String) (r : V → List V → Hp → VK → Prop) : Prop :=
  ∀ (pins : List (Addr × Obj)) (s : Shared) (σ : St) (H : Hp) (x : V) (xs : List V) (v : Value) (us : List Value) (Q : VK), Inv X pins σ H s → RelV x v → Vals xs us → r x xs H Q →
    wpAny (model X.prog X.w) X.A (call (.builtin id) (v :: us)) (EP X pins σ Q) X.xe s
section
variable {X : Cx} {a b : Expr} {ta tb : TE} {pos : Pos}
theorem IxR.or {r r' : R2} (h : IxR X r) (h' : IxR X r') : IxR X (fun x y H Q => r x y H Q ∨ r' x y H Q) := by
  intro value slice pins s σ H x y v u Q I rx ry q hs
  rcases q with q | q
  · exact h value slice pins s σ H x y v u Q I rx ry q hs
  · exact h' value slice pins s σ H x y v u Q I rx ry q hs
theorem MtR.or {id : String} {r r' : V → List V → Hp → VK → Prop} (h : MtR X id r) (h' : MtR X id r') : MtR X id (fun x xs H Q => r x xs H Q ∨ r' x xs H Q) := by
  intro pins s σ H x xs v us Q I rx rs q
  rcases q with q | q
  · exact h pins s σ H x xs v us Q I rx rs q
  · exact h' pins s σ H x xs v us Q I rx rs q
theorem pe_ix {r : R2} (hr : IxR X r) (ha : PE X a ta) (hb : PE X b tb) (hs : PlainIx b) : PE X (.Subscript a b pos) (tOp r ta tb) := by
  intro pins s σ H Q I h
  exact Subscript_ (binT ha hb I h fun v u s2 x y H2 I2 rx ry q => hr a b pins s2 σ H2 x y v u Q I2 rx ry q (hs _ _))

noncomputable def rIxL (K : PySem.W.Frag) : R2 := fun x y H Q => ∃ p xs i v, x = .ref p ∧ y = .int i ∧ SqL K H p xs ∧ atI xs i = some v ∧ Q v H
noncomputable def rIxT (K : PySem.W.Frag) : R2 := fun x y H Q => ∃ p xs i v, x = .ref p ∧ y = .int i ∧ SqT K H p xs ∧ atI xs i = some v ∧ Q v H
theorem ix_list : IxR X (rIxL X.K) := by
  intro value slice pins s σ H x y v u Q I rx ry h hs
  obtain ⟨p, xs, i, z, rfl, rfl, hq, he, q⟩ := h
  cases rx
  obtain ⟨t, rfl⟩ := ry
  obtain ⟨its, r, pl, hz⟩ := I.list hq
  obtain ⟨j, h1, h2, h3, h4, h5⟩ := atI_get he
  obtain ⟨w, ew, rw'⟩ := r.get h2
  have hl := r.length
  have hn := line63
  have fin : EP X pins σ Q w s := ⟨z, H, I, rw', q⟩
  by_cases h0 : 0 ≤ i
  · have hj : i.toNat = j := by
      rw [seqIndex_of h0 h5] at h1
      exact Option.some.inj h1
    exact item_listR pl.isList h0 (by omega) (by rw [hj]; simpa using ew) fin hs
  · have hj : (i + (its.toArray.size : Int)).toNat = j := by
      rw [seqIndex_neg (by omega) h4] at h1
      rw [List.size_toArray, ← hl]
      exact Option.some.inj h1
    exact subscriptTail_builtinR (x := w) pl.isList.typeIs slot_list_getitem.lookup
      (wpAny_getItem_list_neg (Q := fun r s' => r = w ∧ EP X pins σ Q r s') pl.isList (by omega) (by rw [List.size_toArray] <;> omega) (by omega) (by rw [hj]; simpa using ew) ⟨rfl, fin⟩) hs
theorem ix_tup : IxR X (rIxT X.K) := by
  intro value slice pins s σ H x y v u Q I rx ry h hs
  obtain ⟨p, xs, i, z, rfl, rfl, hq, he, q⟩ := h
  cases rx
  obtain ⟨t, rfl⟩ := ry
  obtain ⟨its, r, pl, hz⟩ := I.tuple hq
  obtain ⟨j, h1, h2, h3, h4, h5⟩ := atI_get he
  obtain ⟨w, ew, rw'⟩ := r.get h2
  have hl := r.length
  have hn := line63
  have fin : EP X pins σ Q w s := ⟨z, H, I, rw', q⟩
  exact subscriptTail_builtinR (x := w) pl.typeIs slot_tuple_getitem.lookup
    (getItem_tuple (j := j) (Q := fun r s' => r = w ∧ EP X pins σ Q r s') pl (by omega) (by omega) (by rw [List.size_toArray, ← hl]; exact h1) (by simpa using ew) ⟨rfl, fin⟩) hs
/-! ### xs[i] = v, any sign -/
theorem mapSeq_set (its : List Value) (n j : Nat) (u : Value) : Obj.mapSeq (·.setIfInBounds j u) { cls := .type "list", data := .seq its.toArray n } = { cls := .type "list", data := .seq (its.set j u).toArray n } := by
  simp [Obj.mapSeq]
theorem Inv.lst {pins : List (Addr × Obj)} {σ : St} {H : Hp} {s : Shared} {p : Addr} {xs : List V} (I : Inv X pins σ H s) (h : H p = some (.lst xs)) :
    ∃ (its : List Value) (n : Nat), Vals xs its ∧ s.heap.get? p = some { cls := .type "list", data := .seq its.toArray n } ∧ xs.length ≤ sizeLine := by
  obtain ⟨z, its, n, r, e⟩ := I.hok p _ h
  exact ⟨its, n, r, e, z⟩
theorem Inv.lstUpd {pins : List (Addr × Obj)} {σ : St} {H : Hp} {s : Shared} {p : Addr} {xs ys : List V} {its its' : List Value} {n n' : Nat} {f : Obj → Obj} (I : Inv X pins σ H s) (h : H p = some (.lst xs))
    (ho : s.heap.get? p = some { cls := .type "list", data := .seq its.toArray n }) (hf : f { cls := .type "list", data := .seq its.toArray n } = { cls := .type "list", data := .seq its'.toArray n' }) (r : Vals ys its') (hz : ys.length ≤ sizeLine) (t : Nat) :
    Inv X pins σ (upd H p (.lst ys)) { s with heap := s.heap.update p f, toks := t } := by
  have e : (s.heap.update p f).get? p = some { cls := .type "list", data := .seq its'.toArray n' } := by
    rw [Heap.get?_update_self f ho (by rw [hf] <;> rfl), hf]
  refine I.write (x := p) (e := p) (by rw [h]; trivial) (.inl rfl) (fun b u hb q => (Heap.get?_update_other _ _ (Ne.symm hb)).trans q) ⟨_, e⟩ ?_
  exact ⟨hz, its', n', r, e⟩
noncomputable def rSetL : V → V → V → Hp → (Hp → Prop) → Prop := fun o i v H Q => ∃ p xs k j, o = .ref p ∧ i = .int k ∧ H p = some (.lst xs) ∧ ixN xs.length k = some j ∧ Q (upd H p (.lst (xs.set j v)))
theorem set_list : PSet X rSetL := by
  intro pins s σ H o i v ov iv u Q I ro ri rv h
  obtain ⟨p, xs, k, j, rfl, rfl, hp, hj, q⟩ := h
  cases ro
  obtain ⟨t, rfl⟩ := ri
  obtain ⟨its, n, r, ho, hz⟩ := I.lst hp
  obtain ⟨h1, h2, h3, h4⟩ := ixN_seq hj
  have hl := r.length
  have hn := line63
  have I' : Inv X pins σ (upd H p (.lst (xs.set j v))) { s with heap := s.heap.update p (Obj.mapSeq (·.setIfInBounds j u)) } :=
    I.lstUpd hp ho (mapSeq_set its n j u) (r.set rv j) (by rw [List.length_set]; exact hz) s.toks
  by_cases h0 : 0 ≤ k
  · have hk : k.toNat = j := by
      rw [seqIndex_of h0 h4] at h1
      exact Option.some.inj h1
    exact PySem.W.ki_setAt ho h0 (by omega) (by rw [List.size_toArray, ← hl]; exact h4) (by rw [hk]; exact ⟨_, I', q⟩)
  · have hk : (k + (its.toArray.size : Int)).toNat = j := by
      rw [seqIndex_neg (by omega) h3] at h1
      rw [List.size_toArray, ← hl]
      exact Option.some.inj h1
    exact PySem.W.ki_setBack ho (by omega) (by rw [List.size_toArray, ← hl]; exact h3) (by omega) (by rw [hk]; exact ⟨_, I', q⟩)

/-! ### slices -/
/-! ### in, not in: flat items -/
noncomputable def flatV : V → Bool
  | .non => true
  | .bl _ => true
  | .int _ => true
  | .str _ => true
  | _ => false
noncomputable def eqV : V → V → Bool
  | .non, .non => true
  | .bl a, .bl b => a == b
  | .bl a, .int b => (if a then 1 else 0) == b
  | .int a, .bl b => a == (if b then 1 else 0)
  | .int a, .int b => a == b
  | .str a, .str b => a == b
  | _, _ => false
theorem eqAt_V {A : Around} {s : Shared} {y x : V} {u v : Value} (ry : RelV y u) (rx : RelV x v) (fy : flatV y = true) (fx : flatV x = true) : SeqAt.EqAt A s u v (eqV y x) := by
  cases y with
  | non =>
    cases ry
    cases x with
    | non => cases rx; exact SeqAt.EqAt.same _
    | bl b => cases rx; exact SeqAt.EqAt.none_bool b
    | int b => obtain ⟨t, rfl⟩ := rx; exact SeqAt.EqAt.none_int b t
    | str b => obtain ⟨t, rfl⟩ := rx; exact SeqAt.EqAt.none_str b t
    | _ => exact absurd (show false = true from fx) Bool.false_ne_true
  | bl a =>
    cases ry
    cases x with
    | non => cases rx; exact SeqAt.EqAt.bool_none a
    | bl b => cases rx; exact SeqAt.EqAt.bool_bool a b
    | int b => obtain ⟨t, rfl⟩ := rx; exact SeqAt.EqAt.bool_int a b t
    | str b => obtain ⟨t, rfl⟩ := rx; exact SeqAt.EqAt.bool_str a b t
    | _ => exact absurd (show false = true from fx) Bool.false_ne_true
  | int a =>
    obtain ⟨t', rfl⟩ := ry
    cases x with
    | non => cases rx; exact SeqAt.EqAt.int_none a t'
    | bl b => cases rx; exact SeqAt.EqAt.int_bool a t' b
    | int b => obtain ⟨t, rfl⟩ := rx; exact SeqAt.EqAt.int_int a t' b t
    | str b => obtain ⟨t, rfl⟩ := rx; exact SeqAt.EqAt.int_str a t' b t
    | _ => exact absurd (show false = true from fx) Bool.false_ne_true
  | str a =>
    obtain ⟨t', rfl⟩ := ry
    cases x with
    | non => cases rx; exact SeqAt.EqAt.str_none a t'
    | bl b => cases rx; exact SeqAt.EqAt.str_bool a t' b
    | int b => obtain ⟨t, rfl⟩ := rx; exact SeqAt.EqAt.str_int a t' b t
    | str b => obtain ⟨t, rfl⟩ := rx; exact SeqAt.EqAt.str_str a t' b t
    | _ => exact absurd (show false = true from fx) Bool.false_ne_true
  | _ => exact absurd (show false = true from fy) Bool.false_ne_true
/-! ### len, list(x), tuple(x) of any list or tuple that is read -/
theorem call_len_seq : CallR X (.builtin "len") (fun xs H Q => ∃ p ys, xs = [.ref p] ∧ (SqL X.K H p ys ∨ SqT X.K H p ys) ∧ Q (.int ys.length) H) := by
  intro pins s σ H xs us Q I r h
  obtain ⟨p, ys, rfl, hq, q⟩ := h
  obtain ⟨u, rfl, rx⟩ := vals1 r
  cases rx
  have hn := line63
  rcases hq with hq | hq
  · obtain ⟨its, r', pl, hz⟩ := I.list hq
    have hlen := r'.length
    exact Calls.call_len_list pl.isList (by simp only [List.size_toArray] <;> omega) ⟨.int ys.length, H, I.tok _, ⟨s.toks + 1, by rw [List.size_toArray, hlen]⟩, q⟩
  · obtain ⟨its, r', pl, hz⟩ := I.tuple hq
    have hlen := r'.length
    exact len_tuple pl (by simp only [List.size_toArray] <;> omega) ⟨.int ys.length, H, I.tok _, ⟨s.toks + 1, by rw [List.size_toArray, hlen]⟩, q⟩
theorem CallR.or {f : Value} {r r' : List V → Hp → VK → Prop} (h : CallR X f r) (h' : CallR X f r') : CallR X f (fun xs H Q => r xs H Q ∨ r' xs H Q) := by
  intro pins s σ H xs us Q I rs q
  rcases q with q | q
  · exact h pins s σ H xs us Q I rs q
  · exact h' pins s σ H xs us Q I rs q
theorem call_list_of : CallR X (.type "list") (fun xs H Q => ∃ p ys, xs = [.ref p] ∧ (SqL X.K H p ys ∨ SqT X.K H p ys) ∧ ∀ l, H l = none → Q (.ref l) (upd H l (.lst ys))) := by
  intro pins s σ H xs us Q I r h
  obtain ⟨p, ys, rfl, hq, q⟩ := h
  obtain ⟨u, rfl, rx⟩ := vals1 r
  cases rx
  have fin : ∀ (its : List Value), Vals ys its → ys.length ≤ sizeLine → ∀ (h' : Heap) (c' : Nat), (∀ b o', s.heap.get? b = some o' → h'.get? b = some o') →
      h'.get? s.heap.objs.size = some { cls := .type "list", dict := none, data := .seq its.toArray c', slots := #[] } → EP X pins σ Q (.ref s.heap.objs.size) { s with heap := h' } := fun its r' hz h' c' kp e =>
    ⟨.ref s.heap.objs.size, _, I.laid (t' := s.toks) kp (Nat.le_refl _) (show ObjOk X.prog X.w _ h' _ (.lst ys) from ⟨hz, its, c', r', e⟩), rfl, q _ (I.hok.fresh (Nat.le_refl _))⟩
  rcases hq with hq | hq
  · obtain ⟨its, r', pl, hz⟩ := I.list hq
    have hlen := r'.length
    obtain ⟨o, ho, hc, n, hd⟩ := pl.isList
    exact call_list_seq p (.inl rfl) ho hc hd (fun h' c' kp e => fin its r' hz h' c' kp e) (by simp only [List.size_toArray] <;> omega)
  · obtain ⟨its, r', pl, hz⟩ := I.tuple hq
    have hlen := r'.length
    obtain ⟨o, ho, hc, n, hd⟩ := pl
    exact call_list_seq p (.inr rfl) ho hc hd (fun h' c' kp e => fin its r' hz h' c' kp e) (by simp only [List.size_toArray] <;> omega)
/-! ### the call of a builtin's method: o.m(..) -/
noncomputable def tyV (K : PySem.W.Frag) (T : String) (x : V) (H : Hp) : Prop := match x with
  | .str _ => T = "str"
  | .int _ => T = "int"
  | .ref p => (T = "list" ∧ ∃ xs, SqL K H p xs) ∨ (T = "tuple" ∧ ∃ o, K.lookup p = some o ∧ o.cls = .type "tuple" ∧ o.dict = none) ∨
      (T = "dict" ∧ ((∃ kvs, H p = some (.dK kvs)) ∨ ∃ kvs, H p = some (.dT kvs))) ∨ (T = "set" ∧ ∃ S n, H p = some (.set S n))
  | _ => False
theorem tyV_is {pins : List (Addr × Obj)} {σ : St} {H : Hp} {s : Shared} {T : String} {x : V} {v : Value} (I : Inv X pins σ H s) (r : RelV x v) (ty : tyV X.K T x H) :
    s.TypeIs v T ∧ ∀ a, v = .ref a → ∃ ob, s.heap.get? a = some ob ∧ ob.dict = none := by
  cases x with
  | str z =>
    obtain ⟨t, rfl⟩ := r
    cases (show T = "str" from ty)
    exact ⟨typeIs_str s z t, fun _ e => nomatch e⟩
  | int i =>
    obtain ⟨t, rfl⟩ := r
    cases (show T = "int" from ty)
    exact ⟨typeIs_int s i t, fun _ e => nomatch e⟩
  | ref p =>
    cases r
    rcases ty with ⟨rfl, xs, hq⟩ | ⟨rfl, o, hk, hc, hd⟩ | ⟨rfl, hk⟩ | ⟨rfl, S, n, hk⟩
    · obtain ⟨its, _, pl, _⟩ := I.list hq
      refine ⟨pl.isList.typeIs, fun a e => ?_⟩
      cases e
      obtain ⟨o, n, e, c, hd, _⟩ := pl
      exact ⟨o, e, hd⟩
    · refine ⟨⟨o, I.kIn p o hk, hc⟩, fun a e => ?_⟩
      cases e
      exact ⟨o, I.kIn _ o hk, hd⟩
    · have z : ∃ o, s.heap.get? p = some o ∧ o.ExactDict := by
        rcases hk with ⟨kvs, hk⟩ | ⟨kvs, hk⟩
        · obtain ⟨_, _, _, _, o, _, _, e, ex, _⟩ := I.hok p _ hk
          exact ⟨o, e, ex⟩
        · obtain ⟨_, _, _, _, o, _, _, e, ex, _⟩ := I.hok p _ hk
          exact ⟨o, e, ex⟩
      obtain ⟨o, e, ex⟩ := z
      refine ⟨⟨o, e, ex.1⟩, fun a e2 => ?_⟩
      cases e2
      exact ⟨o, e, ex.2.1⟩
    · obtain ⟨o, _, _, _, e, ex, _⟩ := I.hok p _ hk
      refine ⟨⟨o, e, ex.1⟩, fun a e2 => ?_⟩
      cases e2
      exact ⟨o, e, ex.2.1⟩
  | _ => exact False.elim ty
noncomputable def tBM0 (K : PySem.W.Frag) (T : String) (r : V → List V → Hp → VK → Prop) (to : TE) : TE := fun σ H Q => to σ H fun x H1 => tyV K T x H1 ∧ r x [] H1 Q
noncomputable def tBM (K : PySem.W.Frag) (T : String) (r : V → List V → Hp → VK → Prop) (to : TE) (t : TA) : TE := fun σ H Q => to σ H fun x H1 => tyV K T x H1 ∧ t σ H1 fun xs H2 => r x xs H2 Q
variable {o e : Expr} {es : List Expr} {to : TE} {t : TA} {name : Str} {apos cpos : Pos} {T id : String} {r : V → List V → Hp → VK → Prop}
theorem pe_bm0 (pa : PlainAttrs T) (slot : Slot T name id) (hty : typeOf (.builtin id) = pure (.type "method_descriptor")) (hm : MtR X id r) (ho : PE X o to)
    (hbase : attributeBase o name X.env (eval o X.env) = eval o X.env := by rfl) (hline : (apos.endLine == cpos.line) = true := by rfl) : PE X (.Call (.Attribute o name apos) [] [] cpos) (tBM0 X.K T r to) := by
  intro pins s σ H Q I h
  refine wpAny_Call_method0_late hbase hline (thn (ho pins s σ H _ I h) fun v s1 ⟨x, H1, I1, r1, ty, q1⟩ => ?_)
  obtain ⟨h1, h2⟩ := tyV_is I1 r1 ty
  exact ⟨T, id, pa, slot, hty, h1, h2, Calls.callWith_builtin rfl (PySem.evalArgs_none (hm pins s1 σ H1 x [] v [] Q I1 r1 .nil q1))⟩
theorem pe_bm (pa : PlainAttrs T) (slot : Slot T name id) (hty : typeOf (.builtin id) = pure (.type "method_descriptor")) (hm : MtR X id r) (ho : PE X o to) (ha : PA X (e :: es) t)
    (hbase : attributeBase o name X.env (eval o X.env) = eval o X.env := by rfl)
    (hfew : ((backTo cpos (starEach (e :: es) X.env)).all (fun x => !x.1) && (backToKw cpos (keywordEach [] X.env)).all (fun x => x.1.isSome)
      && decide ((e :: es).length + ([] : List Keyword).length + (if ([] : List Keyword).isEmpty then 0 else 1) < 30)) = true := by rfl)
    (hline : (apos.endLine == cpos.line) = true := by rfl) (hs : starEach (e :: es) X.env = (false, eval e X.env) :: starEach es X.env := by rfl) (hplain : (backTo cpos (starEach es X.env)).any (·.1) = false := by rfl) :
    PE X (.Call (.Attribute o name apos) (e :: es) [] cpos) (tBM X.K T r to t) := by
  intro pins s σ H Q I h
  refine wpAny_Call_method_late hbase hfew hline rfl (thn (ho pins s σ H _ I h) fun v s1 ⟨x, H1, I1, r1, ty, q1⟩ => ?_)
  obtain ⟨h1, h2⟩ := tyV_is I1 r1 ty
  refine ⟨T, id, pa, slot, hty, h1, h2, ?_⟩
  have hA := ha cpos pins s1 σ H1 _ I1 q1
  rw [hs] at hA ⊢
  refine Calls.callWith_builtin (by show (false || (backTo cpos (starEach es X.env)).any (·.1)) = false; rw [hplain] <;> rfl) (Calls.evalArgs_plain ?_)
  exact thn hA fun us s2 ⟨vs, H2, I2, r2, q2⟩ => hm pins s2 σ H2 x vs v us Q I2 r1 r2 q2
/- xs.append(e), list.index on a module's tuple .. are MtR facts of 06m -/
end
end L2

namespace L2
open PySem PySem.Spec PyProof.Rows

noncomputable def MtM (X : Cx) (id : String) (r : V → List V → Hp → VK → Prop) : Prop :=
  ∀ (pins : List (Addr × Obj)) (s : Shared) (σ : St) (H : Hp) (x : V) (xs : List V) (v : Value) (us : List Value) (Q : VK), Inv X pins σ H s → RelV x v → Vals xs us → r x xs H Q →
    wpAny (model X.prog X.w) X.A (call (.builtin id) (v :: us)) (EP X pins σ Q) X.xe s

/-! ### lists of values -/
theorem Vals.one {x : V} {us : List Value} (h : Vals [x] us) : ∃ u, us = [u] ∧ RelV x u := by
  cases h with
  | cons r t => cases t; exact ⟨_, rfl, r⟩
theorem Vals.two {x y : V} {us : List Value} (h : Vals [x, y] us) : ∃ u v, us = [u, v] ∧ RelV x u ∧ RelV y v := by
  cases h with
  | cons r t => cases t with
    | cons q z => cases z; exact ⟨_, _, rfl, r, q⟩
theorem Vals.zero : ∀ {us : List Value}, Vals [] us → us = []
  | _, .nil => rfl
theorem Vals.dropLast {xs : List V} {us : List Value} (h : Vals xs us) : Vals xs.dropLast us.dropLast := by
  induction h with
  | nil => exact .nil
  | cons r t ih =>
    cases t with
    | nil => exact .nil
    | cons q t' => exact .cons r ih
theorem Vals.eraseIdx : ∀ {xs : List V} {us : List Value} (i : Nat), Vals xs us → Vals (xs.eraseIdx i) (us.eraseIdx i)
  | _, _, _, .nil => .nil
  | _, _, 0, .cons _ t => t
  | _, _, i + 1, .cons r t => .cons r (Vals.eraseIdx i t)
theorem Vals.rep {xs : List V} {us : List Value} (h : Vals xs us) : ∀ k : Nat, Vals (List.replicate k xs).flatten (List.replicate k us).flatten
  | 0 => .nil
  | k + 1 => by
    rw [List.replicate_succ, List.replicate_succ, List.flatten_cons, List.flatten_cons]
    exact Vals.append h (Vals.rep h k)
theorem erase_last {α : Type} (l : List α) : l.eraseIdx (l.length - 1) = l.dropLast := by
  induction l with
  | nil => rfl
  | cons a r ih =>
    cases r with
    | nil => rfl
    | cons b r =>
      have e : (a :: b :: r).length - 1 = ((b :: r).length - 1) + 1 := by
        have h1 : (a :: b :: r).length = r.length + 2 := rfl
        have h2 : (b :: r).length = r.length + 1 := rfl
        omega
      rw [e, List.eraseIdx_cons_succ, ih]
      all_goals rfl
theorem foldl_rep (its : List Value) : ∀ (k : Nat) (acc : List Value),
    List.foldl (fun x1 x2 => x1 ++ x2) acc.toArray (List.replicate k its.toArray) = (acc ++ (List.replicate k its).flatten).toArray
  | 0, acc => by simp
  | k + 1, acc => by
    have e : acc.toArray ++ its.toArray = (acc ++ its).toArray := by simp
    have e2 : (acc ++ its) ++ (List.replicate k its).flatten = acc ++ (List.replicate (k + 1) its).flatten := by
      rw [List.replicate_succ, List.flatten_cons, List.append_assoc]
    rw [← e2, ← foldl_rep its k (acc ++ its), ← e, List.replicate_succ, List.foldl_cons]

section
variable {X : Cx} {pins : List (Addr × Obj)} {σ : St} {H : Hp} {s : Shared} {l b : Addr} {xs ys zs : List V}

/-! ### the two steps: a tracked list is rewritten, a new list is laid -/
theorem Inv.lset {its its' : List Value} {n : Nat} {f : Array Value → Array Value} {t' : Nat} (I : Inv X pins σ H s) (hH : H l = some (.lst xs))
    (e : s.heap.get? l = some { cls := .type "list", data := .seq its.toArray n }) (hf : f its.toArray = its'.toArray) (hv : Vals ys its') (hz : ys.length ≤ sizeLine) :
    Inv X pins σ (upd H l (.lst ys)) { s with heap := s.heap.update l (Obj.mapSeq f), toks := t' } := by
  have q := PySem.IsL.update e f
  rw [hf] at q
  refine I.write (x := l) (e := l) (by rw [hH]; exact trivial) (.inl rfl) (fun b' u hb hu => (Heap.get?_update_other s.heap (Obj.mapSeq f) (Ne.symm hb)).trans hu) ⟨_, q⟩ ?_
  exact ⟨hz, its', _, hv, q⟩
theorem Inv.lnew {its : List Value} {t' : Nat} (I : Inv X pins σ H s) (hv : Vals ys its) (hz : ys.length ≤ sizeLine) :
    Inv X pins σ (upd H s.heap.objs.size (.lst ys)) { s with heap := s.heap.push { cls := .type "list", data := .seq its.toArray }, toks := t' } :=
  I.laid (fun _ _ q => Heap.get?_push_of_some _ q) (Nat.le_refl _) ⟨hz, its, 0, hv, Heap.get?_push_size _ rfl⟩
theorem Inv.fresh (I : Inv X pins σ H s) : H s.heap.objs.size = none := I.hok.fresh (Nat.le_refl _)
theorem Inv.lstM (I : Inv X pins σ H s) (hH : H l = some (.lst xs)) : xs.length ≤ sizeLine ∧ ∃ (its : List Value) (n : Nat), Vals xs its ∧ xs.length = its.length ∧ s.heap.get? l = some { cls := .type "list", data := .seq its.toArray n } := by
  obtain ⟨z, its, n, r, e⟩ := I.hok l _ hH
  exact ⟨z, its, n, r, r.length, e⟩

theorem notLongL {n : Nat} (h : n ≤ sizeLine) : Builtin.List.listTooLong n = false := by
  unfold Builtin.List.listTooLong
  exact decide_eq_false (by omega)
end

section
variable {X : Cx}

/-! ### methods -/
noncomputable def rAppend : V → List V → Hp → VK → Prop := fun x vs H Q => ∃ l xs y, x = .ref l ∧ vs = [y] ∧ H l = some (.lst xs) ∧ xs.length < sizeLine ∧ Q .non (upd H l (.lst (xs ++ [y])))
theorem mt_append : MtM X "list.append" rAppend := by
  intro pins s σ H x vs v us Q I rx rv h
  obtain ⟨l, xs, y, rfl, rfl, hH, hz, q⟩ := h
  cases rx
  obtain ⟨u, rfl, ru⟩ := rv.one
  obtain ⟨z, its, n, r, hl, e⟩ := I.lstM hH
  refine call_meets F.slot_list_append ⟨_, e, rfl⟩ F.entry_list_append (F.args_list_append_2 _ _) (PySem.list_append l its.toArray n u (by rw [List.size_toArray]; omega)) ⟨e, ?_⟩
  refine ⟨.non, _, I.lset (its' := its ++ [u]) hH e (by simp) (r.append (.cons ru .nil)) ?_, rfl, q⟩
  rw [List.length_append, List.length_singleton]
  omega

noncomputable def rPop : V → List V → Hp → VK → Prop := fun x vs H Q => ∃ l xs y, x = .ref l ∧ vs = [] ∧ H l = some (.lst xs) ∧ xs[xs.length - 1]? = some y ∧ Q y (upd H l (.lst xs.dropLast))
theorem mt_pop : MtM X "list.pop" rPop := by
  intro pins s σ H x vs v us Q I rx rv h
  obtain ⟨l, xs, y, rfl, rfl, hH, hy, q⟩ := h
  cases rx
  have hus := rv.zero
  subst hus
  obtain ⟨z, its, n, r, hl, e⟩ := I.lstM hH
  obtain ⟨u, hu, ru⟩ := r.get hy
  have hy' : its.toArray[its.toArray.size - 1]? = some u := by
    show its.toArray[its.length - 1]? = some u
    rw [← Array.getElem?_toList, ← hl]
    exact hu
  refine call_meets F.slot_list_pop ⟨_, e, rfl⟩ F.entry_list_pop (F.args_list_pop_1 _) (MeetsSeq.list_pop_last l its.toArray n u hy' (by rw [List.size_toArray]; omega)) ⟨e, ?_⟩
  refine ⟨y, _, I.lset (its' := its.dropLast) hH e ?_ r.dropLast ?_, ru, q⟩
  · show its.toArray.eraseIdxIfInBounds (its.toArray.size - 1) = its.dropLast.toArray
    rw [List.size_toArray, List.eraseIdxIfInBounds_toArray, erase_last]
  · rw [List.length_dropLast]
    omega

/-! ### list + list, list += list, list * int -/
noncomputable def rRep : R2 := fun x y H Q => ∃ l k xs, x = .ref l ∧ y = .int k ∧ H l = some (.lst xs) ∧ -(2 ^ 63) ≤ k ∧ k < 2 ^ 63 ∧ xs.length * k.toNat ≤ sizeLine ∧
  ∀ p, H p = none → Q (.ref p) (upd H p (.lst (List.replicate k.toNat xs).flatten))
theorem len_rep {α : Type} (xs : List α) (k : Nat) : (List.replicate k xs).flatten.length = k * xs.length := by
  induction k with
  | zero => simp
  | succ k ih => rw [List.replicate_succ, List.flatten_cons, List.length_append, ih, Nat.succ_mul, Nat.add_comm]
theorem op_rep : OpR X (binaryOp .Mult) rRep := by
  intro pins s σ H x y v u Q I rx ry h
  obtain ⟨l, k, xs, rfl, rfl, hH, h1, h2, hz, q⟩ := h
  cases rx
  obtain ⟨t, rfl⟩ := ry
  obtain ⟨z, its, n, r, hl, e⟩ := I.lstM hH
  have hlen : its.toArray.size * k.toNat ≤ sizeLine := by rw [List.size_toArray, ← hl]; exact hz
  have hcap : ¬ its.toArray.size * k.toNat > (2 ^ 63 - 1) / 8 := by
    have : (sizeLine : Nat) ≤ (2 ^ 63 - 1) / 8 := by decide
    omega
  have hfit : ¬ (!Builtin.List.listFitsIndex k) = true := by
    rw [fitsIndex_both h1 h2]
    exact Bool.false_ne_true
  have hlong : ¬ Builtin.List.listTooLong (its.toArray.size * k.toNat) = true := by
    rw [notLongL hlen]
    exact Bool.false_ne_true
  have hnew : List.foldl (fun x1 x2 => x1 ++ x2) #[] (List.replicate (if its.toArray.isEmpty = true then 0 else k.toNat) its.toArray) = (List.replicate k.toNat its).flatten.toArray := by
    have f0 : ∀ m : Nat, List.foldl (fun x1 x2 => x1 ++ x2) #[] (List.replicate m its.toArray) = (List.replicate m its).flatten.toArray := fun m => by
      have := foldl_rep its m []
      rw [List.nil_append] at this
      exact this
    rw [f0]
    cases its with
    | nil => simp
    | cons a r' => rw [if_neg (by simp)]
  refine wpAny_binaryOp_repeat_ref (T := "list") (U := "int") (by decide) ⟨_, e, rfl⟩ (fun s' => typeIs_int s' k t) noFill_list_mul F.fills_int_mul F.slot_int_rmul repeat_list F.slot_int_index.lookup
    (call_meets F.slot_int_rmul (typeIs_int s k t) F.entry_int_rmul (F.args_int_rmul_2 _ _) (int___rmul___int_list k t l its.toArray n)
      ⟨e, rfl, ⟨_, e, rfl⟩, call_meets F.slot_list_mul ⟨_, e, rfl⟩ F.entry_list_mul (F.args_list_mul_2 _ _) (AutoListH.list___mul___list_int_3 l its.toArray n k t hfit hcap hlong) ⟨e, ?_⟩⟩)
  rw [hnew]
  exact ⟨.ref _, _, I.lnew (t' := s.toks) (r.rep k.toNat) (by rw [len_rep, Nat.mul_comm]; exact hz), rfl, q _ I.fresh⟩

/-! ### del xs[i] -/
end

/-! ### xs[a:b] = ys -/
section
variable {prog : Program} {w : World} {A : Around} {E : Value → Shared → Prop} {s : Shared}
end

section
variable {X : Cx}
end
end L2

namespace Att
open PySem PySem.W PySem.Calls PyProof.Rows

/-! ### the script -/
theorem ints_of_wellAll {P : Params} {h : Heap} : ∀ (ns : List Int) (vs : List Value), WellAll P h vs (ns.map WData.int) → IntsAre vs ns := by
  intro ns
  induction ns with
  | nil =>
    intro vs w
    rw [List.map_nil] at w
    cases w
    exact .nil
  | cons n ns ih =>
    intro vs w
    rw [List.map_cons] at w
    cases w with
    | cons a b =>
      cases a
      exact .cons _ _ (ih _ b)

theorem script_of {l : OpenLaw} {n : Nat} (hn : l.most = some n) {P : Params} {h : Heap} {args : List WData} {vals : List Value}
    (hpre : l.row.toRowW.claim.pre args = true) (hwl : WellAll P h vals args) :
    ∃ a vs ns, vals = [Value.ref a] ∧ args = [WData.list (ns.map WData.int)] ∧ h.get? a = some { cls := .type "list", data := .seq vs.toArray } ∧ IntsAre vs ns ∧ ns.length ≤ n := by
  have hsh : WShape.hasAll [] args [.list .int] = true := (pre_splitW hpre).1
  have hc : l.pre.holds [] { args := args } = true := (pre_splitW hpre).2
  obtain ⟨d, r, rfl, h1, h2⟩ := hasAllW_cons hsh
  obtain rfl := hasAllW_nil h2
  obtain ⟨xs, rfl, h3⟩ := hasW_list h1
  obtain ⟨ns, rfl⟩ := items_int h3
  have hlen : ns.length ≤ n := by
    unfold OpenLaw.pre at hc
    have h4 : (WTm.not (.lt (.lit (.int (n : Int))) (.len (.arg 0)))).holds [] { args := [.list (ns.map .int)] } = true := by
      have h4 := (holds_andW hc).1
      rw [hn] at h4
      exact h4
    have h5 := condW_of h4 (w_not (w_lt w_lit (w_len_list (w_arg rfl))))
    rw [List.length_map] at h5
    refine Nat.le_of_not_lt fun q => ?_
    have q' : (n : Int) < ((ns.length : Nat) : Int) := by omega
    first
      | (rw [decide_eq_true q'] at h5; exact absurd h5 (by decide))
      | (simp at h5; omega)
  cases hwl with
  | cons w1 w2 =>
    cases w2
    cases w1 with
    | list ho hall => exact ⟨_, _, ns, rfl, rfl, ho, ints_of_wellAll ns _ hall, hlen⟩

theorem post_true (l : OpenLaw) (args : List WData) : l.row.toRowW.claim.post args (.bool true) args = true :=
  postW_of (r := l.row.toRowW) (X := (true == true))
    (show WShape.has [] (.bool true) .bool = true by first | rfl | decide | simp [WShape.has, WShape.arms, WShape.armsAll])
    (show (WTm.eq .res (.lit (.bool true))).value [] { args := args, res := some (.bool true), after := args } = some (.bool (true == true)) from w_eq_bool (w_res rfl) w_lit) rfl

/-! ### the attachment: holds_open's last premise (the goal 'hc' behind k_head) from a wpAny of the law's body -/
theorem attach_call {l : OpenLaw} {n : Nat} {q : Program} {loose : List Str} {XP : (Str → Option Value) → Heap → Prop} {YP : World → Heap → Prop} {d : DefRec}
    (hn : l.most = some n) (hdf : d.params.defaults = [])
    (call : ∀ (w : World) (s₀ s₁ : Shared) (mg mb : Str → Option Value) (fa : Addr) (o : Obj) (pm cd doc : Value) (a : Addr) (vs : List Value) (ns : List Int),
      Ground q loose [] XP w s₀ mg mb s₁.heap → YP w s₁.heap →
      s₁.heap.get? fa = some o → o.data = .func (docDef d.name d.params d.body d.scope pm cd doc) → s₁.heap.CodeRec cd d.name → mg d.name = some (.ref fa) →
      s₁.heap.get? a = some { cls := .type "list", data := .seq vs.toArray } → IntsAre vs ns → ns.length ≤ n → s₁.gens = #[] →
      codeAny (model l.prog w) callerA (.call (.ref fa) ⟨[.ref a], []⟩) (fun r s' => r = .ok (.ret (.bool true)) ∧ OldK s₁.heap s'.heap ∧ s'.os = s₁.os ∧ AllBare s'.gens) s₁) :
    WalkO q loose XP YP l.row.toRowW d [] (fun f vs => PySem.call f vs) := by
  intro w s₀ s₁ mg mb G Y fa o pm cd doc dV kV ho hd hcd hD hmg hg args vals as hpre hlay hrd hwl hlo
  obtain rfl : dV = .none := Dflts.none hD hdf
  obtain rfl : kV = .none := Dflts.noKw hD
  obtain ⟨a, vs, ns, rfl, rfl, hobj, hints, hlen⟩ := script_of hn hpre hwl
  refine enter_call (codeAny_mono (call w s₀ s₁ mg mb fa o pm cd doc a vs ns G Y ho (fd_plain hd) hcd hmg hobj hints hlen hg) fun r s' hq => ?_)
  obtain ⟨rfl, h2, h3, h4⟩ := hq
  exact ⟨.inl ⟨.bool true, .bool true, [], rfl, fun _ => rfl, .bool true, post_true l _, fun _ => ⟨List.Pairwise.nil, fun _ hm => (nomatch hm)⟩⟩, h2, h3, h4⟩

/-! ### rules over ANY heap (no ledger) from facts about the written part K: the library's own take a ledger (News) for what they write -/
section
variable {prog : Program} {w : World} {A : Around} {E : Value → Shared → Prop} {s : Shared} {K : Frag}

/-! the whole heap as the ledger: makes every rule that writes through a ledger a rule over any heap -/
noncomputable def ledger (h : Heap) (L d : Addr) : List (Addr × Obj) := (List.range h.objs.size).filterMap fun a => if a = L ∨ a = d then none else (h.get? a).map fun o => (a, o)
end
end Att

namespace L2
open PySem PySem.Spec PyProof.Rows

theorem vals_ints : ∀ {vs : List Value} {ns : List Int}, IntsAre vs ns → Vals (ns.map V.int) vs
  | _, _, .nil => .nil
  | _, _, .cons n t h => .cons ⟨t, rfl⟩ (vals_ints h)

noncomputable def Only (H : Hp) : Prop := ∀ b, H b = none ∨ ∃ o xs, H b = some (.frz o (.lst xs))

theorem law_call {P : Program} {w : World} {K : PySem.W.Frag} {mg mb : Str → Option Value} {CX : CXT} {k : Nat} {fa a : Addr} {fd : FuncData} {x : Str} {sp : Sp} {s₁ : Shared} {vs : List Value} {ns : List Int}
    (KX : K.In s₁.heap) (hns : s₁.heap.Ns mainGlobals mg) (hb : s₁.heap.Ns builtinsNs mb) (hbb : ∀ x : Str, x ≠ "__name__" → mb x = bootBuiltins x) (hlim : s₁.heap.NoLimit) (hg : s₁.gens = #[])
    (ha : s₁.heap.get? a = some { cls := .type "list", data := .seq vs.toArray }) (hi : IntsAre vs ns) (hl : ns.length ≤ sizeLine) (hr : Room k callerA)
    (F : ∀ base : Heap, K.In base → base.Ns mainGlobals mg → FnOk P w K mg base CX k fa fd [x] sp) (hbind : ∀ (s : Shared) (u : Value), BindsTo s fd ⟨[u], []⟩ [(x, u)])
    (hsp : ∀ H : Hp, Only H → SqL K H a (ns.map V.int) → sp [.ref a] H (fun v _ => v = .bl true) fun _ _ _ => False)
    (hCX : ∀ H e s', CX [] H s₁ (fun _ _ _ => False) e s' → False) :
    codeAny (model P w) callerA (.call (.ref fa) ⟨[.ref a], []⟩) (fun r s' => r = .ok (.ret (.bool true)) ∧ OldK s₁.heap s'.heap ∧ s'.os = s₁.os ∧ AllBare s'.gens) s₁ := by
  have rv := vals_ints hi
  have lenV := hi.length
  -- from an abstract heap in which nothing but the script may be tracked
  have core : ∀ H : Hp, Only H → SqL K H a (ns.map V.int) → HOk P w H s₁.heap → (∀ b, H b ≠ none → b = a) → (H a ≠ none → K.lookup a = none) →
      codeAny (model P w) callerA (.call (.ref fa) ⟨[.ref a], []⟩) (fun r s' => r = .ok (.ret (.bool true)) ∧ OldK s₁.heap s'.heap ∧ s'.os = s₁.os ∧ AllBare s'.gens) s₁ := by
    intro H hO hS hok hA hK
    have base_of : ∀ {b : Addr} {o : Obj}, s₁.heap.get? b = some o → H b = none → (hidT s₁.heap H).get? b = some o := fun e n => hidT_get e n
    have noA : ∀ {b : Addr} {o : Obj} {es : Array DictEntry} {ep : Nat}, s₁.heap.get? b = some o → o.data = .dict es ep → H b = none := fun {b o es ep} e d => by
      cases q : H b with
      | none => rfl
      | some u =>
        have e' : b = a := hA b (by rw [q]; simp)
        subst e'
        rw [ha] at e; cases e
        have d' : Data.seq vs.toArray _ = Data.dict es ep := d
        cases d'
    have nsK : ∀ {b : Addr} {m : Str → Option Value}, s₁.heap.Ns b m → (hidT s₁.heap H).Ns b m := fun {b m} ⟨o, es, ep, e, d, r⟩ => ⟨o, es, ep, base_of e (noA e d), d, r⟩
    have hKb : K.In (hidT s₁.heap H) := fun b o e => base_of (KX b o e) (by
      cases q : H b with
      | none => rfl
      | some u =>
        have e' : b = a := hA b (by rw [q]; simp)
        subst e'
        rw [hK (by rw [q]; simp)] at e; cases e)
    have hM : Mod K mg (hidT s₁.heap H) := ⟨hKb, nsK hns, ⟨mb, nsK hb, hbb⟩, let ⟨mc, h1, h2⟩ := hlim; ⟨mc, nsK h1, h2⟩⟩
    have e0 : Env0 P w K mg (hidT s₁.heap H) callerA [] s₁ H := ⟨rfl, hM, fun b o e => of_hidT e, Nat.le_of_eq (hidT_size _ _), trivial, fun b hb => absurd (show b ∈ ([] : List Addr) from hb) (by simp), hok, .of_eq hg⟩
    refine codeAny_mono ((F _ hKb (nsK hns)).run callerA [] s₁ H ⟨[.ref a], []⟩ [.ref a] [.ref a] _ _ hr e0 (hbind s₁ (.ref a)) (.cons rfl .nil) (hsp H hO hS)) fun r s' h => ?_
    cases r with
    | error e => exact (hCX H e s' h).elim
    | ok fl =>
      cases fl with
      | next => exact False.elim h
      | brk => exact False.elim h
      | cont => exact False.elim h
      | ret u =>
        obtain ⟨v, H', os, bare, un, hok', r', q⟩ := h
        have q' : v = .bl true := q
        subst q'
        obtain rfl : u = Value.bool true := r'
        refine ⟨rfl, OldK.of_keep fun b o e => ?_, os, bare⟩
        cases q : H b with
        | none => exact un.keep b o e q (by intro z; exact absurd (show b ∈ ([] : List Addr) from z) (by simp)) (by simp)
        | some u =>
          rcases hO b with z | ⟨ob, xs, z⟩
          · rw [q] at z; cases z
          · have z2 := un.frzs b ob _ z
            obtain ⟨e1, _⟩ := hok b _ z
            obtain ⟨e2, _⟩ := hok' b _ z2
            rw [e] at e1; cases e1
            exact e2
  cases hk : K.lookup a with
  | some o =>
    -- the script is one of the module's own objects
    have e := KX a o hk
    rw [ha] at e
    cases e
    refine core (fun _ => none) (fun _ => .inl rfl) (.inr ⟨_, vs.toArray, _, hk, rfl, rfl, rfl, by rw [List.size_toArray, lenV]; exact hl, by simpa using rv⟩) (fun b u z => by have z' : (none : Option HO) = some u := z; cases z') (fun b z => absurd rfl z) fun z => absurd rfl z
  | none =>
    refine core (fun b => if b = a then some (.frz { cls := .type "list", data := .seq vs.toArray } (.lst (ns.map V.int))) else none) (fun b => ?_) (.inl (.inr ⟨{ cls := .type "list", data := .seq vs.toArray }, if_pos rfl⟩)) (fun b u z => ?_) (fun b z => ?_) fun _ => hk
    · by_cases hb : b = a
      · exact .inr ⟨_, _, if_pos hb⟩
      · exact .inl (if_neg hb)
    · by_cases hb : b = a
      · have z' := (if_pos hb).symm.trans z
        cases z'
        subst hb
        exact ⟨ha, by rw [List.length_map]; exact hl, vs, _, rv, ha⟩
      · have z' := (if_neg hb).symm.trans z
        cases z'
    · by_cases hb : b = a
      · exact hb
      · exact absurd (if_neg hb) z
end L2

namespace L2
open PySem PySem.Spec PyProof.Rows

noncomputable abbrev KOf {K : PySem.W.Frag} {h : Heap} (_ : K.In h) : PySem.W.Frag := K

theorem walk_of {l : PySem.W.OpenLaw} {n k : Nat} {q : Program} {loose : List Str} {XP : (Str → Option Value) → Heap → Prop} {YP : World → Heap → Prop} {d : DefRec} {K : Params → PySem.W.Frag} {CX : World → CXT} {sp : World → Sp} {x : Str}
    (hn : l.most = some n) (hn2 : n ≤ sizeLine) (hdf : d.params.defaults = []) (hr : Room k callerA)
    (hY : ∀ (w : World) (h : Heap), YP w h → (K w.params).In h)
    (F : ∀ (w : World) (mg : Str → Option Value) (fa : Addr) (h : Heap), (K w.params).In h → h.Ns mainGlobals mg → mg d.name = some (.ref fa) →
      ∃ fd : FuncData, (∀ (s : Shared) (u : Value), BindsTo s fd ⟨[u], []⟩ [(x, u)]) ∧
        ∀ base : Heap, (K w.params).In base → base.Ns mainGlobals mg → FnOk l.prog w (K w.params) mg base (CX w) k fa fd [x] (sp w))
    (hsp : ∀ (w : World) (H : Hp) (a : Addr) (ns : List Int), ns.length ≤ n → Only H → SqL (K w.params) H a (ns.map V.int) → sp w [.ref a] H (fun v _ => v = .bl true) fun _ _ _ => False)
    (hCX : ∀ (w : World) (H : Hp) (s : Shared) (e : Value) (s' : Shared), CX w [] H s (fun _ _ _ => False) e s' → False) :
    PySem.W.WalkO q loose XP YP l.row.toRowW d [] (fun f vs => PySem.call f vs) := by
  refine Att.attach_call hn hdf fun w s₀ s₁ mg mb fa o pm cd doc a vs ns G Y ho hd hcd hmg hobj hints hlen hg => ?_
  have KX := hY w _ Y
  obtain ⟨fd, hb, hF⟩ := F w mg fa _ KX G.T.g hmg
  exact law_call KX G.T.g G.T.b G.T.builtins G.T.nolimit hg hobj hints (Nat.le_trans hlen hn2) hr hF hb (fun H hO hS => hsp w H a ns hlen hO hS) fun H e s' => hCX w H s₁ e s'
end L2

/- THE LAST THEOREM (shape; LID, My.* are yours):
   My.Adr: a structure of the addresses that your layer names (classes, functions); My.Txt K t: a structure (Prop) of the equations over K;
   My.txt_mk : {K} {implicit addresses ..} (e1 : nsIn K mainGlobals "law" = some (some (.ref f))) (e2 : K.lookup f = some ⟨oc, od, .func (fnOf "law" "law" params body scope dV kV doc pm an cdv ct), sl⟩) (e3 : codeIn K cdv "law" = true) .. : ∃ t, My.Txt K t

set_option maxRecDepth 100000 in
set_option maxHeartbeats 0 in
theorem PySem.Challenge.cw_LID_holds : PySem.Challenge.rw_LID.Holds := by
  w_on; o_law; k_head; (case hw => w_witness2)
  k_fill
  refine L2.walk_of (l := PySem.Challenge.rw_LID) (n := 63) (k := 40) (x := "script") (CX := fun w => ..) (sp := fun _ => My.sp_law) rfl (by decide) rfl ⟨rfl, by decide, by decide⟩ (fun w h Y => PySem.W.kIn_of Y) ?F ?S ?C
  case F =>
    intro w mg fa h KX G hmg
    have T : ∃ t, My.Txt (L2.KOf KX) t := by
      dsimp only [L2.KOf]                          -- K must stand as «<heap const> w.params» for k_is
      refine' My.txt_mk ?e1 ?e2 ?e3 ..
      (case e1 => PySem.W.k_is)                    -- in the order: a name -> its address -> its object -> its parts
      (case e2 => PySem.W.k_is)
      ..
    obtain ⟨t, T⟩ := T
    have e0 := hmg.symm.trans (PySem.W.mg_of KX G T.law)
    cases e0                                       -- fa is the law's own address
    exact ⟨_, fun s u => .of_eq rfl, fun base kb nb => My.law_fn T kb nb⟩     -- if «.of_eq rfl» comes too early: refine' ⟨_, ?b, fun base kb nb => My.law_fn T kb nb⟩; exact fun s u => .of_eq rfl
  case S => exact fun w H a ns hl hO hS => ..
  case C => exact ..
(the tactic k_is has no namespace: write k_is) -/

/-! SHORT WORDS over the layer: a def of the text, its body, what a loop and a test want. -/
namespace L2
open PySem PySem.Spec PyProof.Rows

/-! ### the text by places -/
noncomputable def defArgs (s : Stmt) : Arguments := match s with
  | .FunctionDef _ a _ _ _ _ _ _ _ _ => a
  | _ => { posonlyargs := [], args := [], vararg := none, kwonlyargs := [], kw_defaults := [], kwarg := none, defaults := [] }
noncomputable def defBody (s : Stmt) : List Stmt := match s with
  | .FunctionDef _ _ b _ _ _ _ _ _ _ => b
  | _ => []
noncomputable def defScope (s : Stmt) : Scope := match s with
  | .FunctionDef _ _ _ _ _ _ sc _ _ _ => sc
  | _ => { kind := .function, names := [], isGenerator := false, isCoroutine := false }

/-! ### no exception leaves a def -/
noncomputable abbrev CX0 : CXT := fun _ _ _ _ _ _ => False
noncomputable abbrev E0 : XK := fun _ _ _ => False
theorem pass0 {X : Cx} : Passes CX0 X E0 := fun _ _ _ _ _ _ _ h => h.elim

/-! ### a def (or method) of the text as it stands behind the top -/
structure Fun (K : PySem.W.Frag) (x qual : Str) (st : Stmt) (f : Addr) (fd : FuncData) : Prop where
  ex : ∃ (oc : Value) (od : Option Addr) (kV doc pm : Value) (an : Option Addr) (cdv ct : Value) (osl : Array (Option Value)),
    fd = PySem.W.fnOf x qual (defArgs st) (defBody st) (defScope st) .none kV doc pm an cdv ct ∧ K.lookup f = some ⟨oc, od, .func fd, osl⟩ ∧ PySem.W.codeIn K cdv qual = true
  kp : PySem.W.keepIn K (.ref f) = true
section
variable {P : Program} {w : World} {K : PySem.W.Frag} {mg : Str → Option Value} {base : Heap}
theorem Fun.ok {x qual : Str} {st : Stmt} {f : Addr} {fd : FuncData} {N ps : List Str} {k : Nat} {sp : Sp} (F : Fun K x qual st f fd) (S : FnScope N ps (defScope st)) (len : ∀ vs H Q E, sp vs H Q E → vs.length = ps.length)
    (hbody : ∀ (cdv : Value) (A : Around) (outer : List Env) (s : Shared) (H : Hp) (vs : List V) (Q : VK) (E : XK), Room k (A.deeper (envOfC qual (defScope st) s.heap.objs.size f cdv)) → sp vs H Q E →
      ∃ t, PSs (cxOf CX0 P w K mg base N qual (defScope st) f cdv A outer s H E).nox (defBody st) t ∧ t { nx := fun _ H' => Q .non H', rt := Q } (start N vs) H) : FnOk P w K mg base CX0 (k + 1) f fd ps sp := by
  obtain ⟨oc, od, kV, doc, pm, an, cdv, ct, osl, rfl, lk, hcd⟩ := F.ex
  refine fn_of lk hcd S len fun A outer s H vs Q E hr hsp => ?_
  obtain ⟨t, h, q⟩ := hbody cdv A outer s H vs Q E hr hsp
  exact ⟨t, h.nox, q⟩
theorem Fun.binds {x qual : Str} {st : Stmt} {f : Addr} {fd : FuncData} {ps : List Str} (F : Fun K x qual st f fd)
    (h : ∀ (kV doc pm : Value) (an : Option Addr) (cdv ct : Value) (us : List Value), us.length = ps.length → bindArgs (PySem.W.fnOf x qual (defArgs st) (defBody st) (defScope st) .none kV doc pm an cdv ct) ⟨us, []⟩ = pure (ps.zip us)) : Binds K fd ps [] := by
  obtain ⟨oc, od, kV, doc, pm, an, cdv, ct, osl, rfl, lk, hcd⟩ := F.ex
  exact .all (h kV doc pm an cdv ct)
theorem fun_mk {x qual : Str} {st : Stmt} {f : Addr} {oc : Value} {od an : Option Addr} {osl : Array (Option Value)} {kV doc pm cdv ct : Value} (l : K.lookup f = some ⟨oc, od, .func (PySem.W.fnOf x qual (defArgs st) (defBody st) (defScope st) .none kV doc pm an cdv ct), osl⟩)
    (c : PySem.W.codeIn K cdv qual = true) (k : PySem.W.keepIn K (.ref f) = true) : Fun K x qual st f (PySem.W.fnOf x qual (defArgs st) (defBody st) (defScope st) .none kV doc pm an cdv ct) := ⟨⟨oc, od, kV, doc, pm, an, cdv, ct, osl, rfl, l, c⟩, k⟩
end
theorem small1000 {n : Nat} (h : n ≤ 1000) : n < sizeLine := Nat.lt_of_le_of_lt h (by decide)

/-! ### expressions in short: the name that stands in the i-th slot -/
section
variable {X : Cx}
theorem pv (i : Nat) {x : Str} {pos : Pos} (hN : X.N[i]? = some x := by rfl) (hv : Vis X.env.scope x := by first | exact Or.inl rfl | exact Or.inr (Or.inl rfl) | exact Or.inr (Or.inr rfl)) (hd : (x == ("__debug__" : Str)) = false := by decide)
    (hcd : (x == ("__classdict__" : Str)) = false := by decide) : PE X (.Name x pos) (tVar i) := pe_var hN hv hd hcd
end

/-! ### tests -/
theorem iteF {A B : Prop} (h : B) : if false = true then A else B := by
  rw [if_neg Bool.false_ne_true]
  exact h
theorem iteT {A B : Prop} (h : A) : if true = true then A else B := by
  rw [if_pos rfl]
  exact h
/-! ### heaps -/
noncomputable def Same (H H' : Hp) : Prop := ∀ b o, H b = some o → H' b = some o
theorem Same.refl (H : Hp) : Same H H := fun _ _ h => h
theorem Same.trans {H H1 H2 : Hp} (a : Same H H1) (b : Same H1 H2) : Same H H2 := fun c o h => b c o (a c o h)
theorem Same.free {H H' : Hp} (e : Same H H') {l : Addr} (h : H' l = Option.none) : H l = Option.none := by
  cases q : H l with
  | none => rfl
  | some o =>
    rw [e l o q] at h
    cases h
theorem Same.seq {K : PySem.W.Frag} {H H' : Hp} {a : Addr} {xs : List V} (e : Same H H') (h : SqL K H a xs) : SqL K H' a xs := by
  rcases h with (h | ⟨o, h⟩) | h
  · exact .inl (.inl (e _ _ h))
  · exact .inl (.inr ⟨o, e _ _ h⟩)
  · exact .inr h

end L2

end

section
-- KcComp
set_option Elab.async false
set_option linter.all false
set_option maxRecDepth 100000
set_option maxHeartbeats 4000000
namespace L2
open PySem PySem.Spec PyProof.Rows

/-! ### addresses -/
theorem ltNe {a b : Addr} {n : Nat} (h : a < n) (h' : n ≤ b) : a ≠ b := Nat.ne_of_lt (Nat.lt_of_lt_of_le h h')
theorem neLt {a b : Addr} {n : Nat} (h : n ≤ a) (h' : b < n) : a ≠ b := Nat.ne_of_gt (Nat.lt_of_lt_of_le h' h)
/-! ### a list comprehension's block: its own context over the enclosing one -/
noncomputable def clOf (env : Env) : List (Str × NameKind) → List (Str × Addr) → List (Str × Addr)
  | [], acc => acc
  | (n, k) :: r, acc => if k = .free then (match env.cells.lookup n with | some c => clOf env r ((n, c) :: acc) | none => clOf env r acc) else clOf env r acc
theorem clOf_sound {env : Env} : ∀ (ns : List (Str × NameKind)) (acc : List (Str × Addr)), (∀ p ∈ acc, env.cells.lookup p.1 = some p.2) → ∀ p ∈ clOf env ns acc, env.cells.lookup p.1 = some p.2
  | [], acc, h => by intro p hp; exact h p hp
  | (n, k) :: r, acc, h => by
    intro p hp
    rw [clOf] at hp
    split at hp
    · split at hp
      · rename_i c hc
        refine clOf_sound r _ (fun q hq => ?_) p hp
        rcases List.mem_cons.mp hq with rfl | hq
        · exact hc
        · exact h q hq
      · exact clOf_sound r acc h p hp
    · exact clOf_sound r acc h p hp
theorem clOf_acc {env : Env} : ∀ (ns : List (Str × NameKind)) (acc : List (Str × Addr)), ∀ p ∈ acc, p ∈ clOf env ns acc
  | [], acc => fun p hp => hp
  | (n, k) :: r, acc => fun p hp => by
    rw [clOf]
    split
    · split
      · exact clOf_acc r _ p (List.mem_cons_of_mem _ hp)
      · exact clOf_acc r acc p hp
    · exact clOf_acc r acc p hp
theorem clOf_has {env : Env} : ∀ (ns : List (Str × NameKind)) (acc : List (Str × Addr)) (x : Str) (c : Addr), (x, NameKind.free) ∈ ns → env.cells.lookup x = some c → (x, c) ∈ clOf env ns acc
  | [], acc, x, c => fun h _ => (nomatch h)
  | (n, k) :: r, acc, x, c => fun h hc => by
    rw [clOf]
    rcases List.mem_cons.mp h with e | h
    · cases e
      rw [if_pos rfl, hc]
      exact clOf_acc r _ _ List.mem_cons_self
    · split
      · split
        · exact clOf_has r _ x c h hc
        · exact clOf_has r acc x c h hc
      · exact clOf_has r acc x c h hc
theorem lookup_of_mem {α : Type} {x : Str} {c : α} : ∀ {l : List (Str × α)}, (x, c) ∈ l → ∃ d, l.lookup x = some d
  | (y, d) :: r, h => by
    rw [List.lookup_cons]
    cases e : x == y with
    | true => exact ⟨d, rfl⟩
    | false =>
      rcases List.mem_cons.mp h with q | q
      · cases q
        rw [beq_self_eq_true] at e
        cases e
      · exact lookup_of_mem q
theorem clOf_lookup {env : Env} {ns : List (Str × NameKind)} {x : Str} {c : Addr} (h : (clOf env ns []).lookup x = some c) : env.cells.lookup x = some c :=
  clOf_sound ns [] (fun _ hp => (nomatch hp)) (x, c) (PySem.mem_of_lookup h)
theorem clOf_some {env : Env} {ns : List (Str × NameKind)} {x : Str} {c : Addr} (hm : (x, NameKind.free) ∈ ns) (hc : env.cells.lookup x = some c) : (clOf env ns []).lookup x = some c := by
  obtain ⟨d, hd⟩ := lookup_of_mem (clOf_has ns [] x c hm hc)
  have e := clOf_lookup hd
  rw [hc] at e
  cases e
  exact hd
theorem closure_of {scope : Scope} {env : Env} (h : ∀ y ∈ scope.names, y.2 = .free → ∃ c, env.cells.lookup y.1 = some c) : closureFor scope env = pure (clOf env scope.names []) := by
  have go : ∀ (ns : List (Str × NameKind)) (acc : List (Str × Addr)), (∀ y ∈ ns, y.2 = .free → ∃ c, env.cells.lookup y.1 = some c) →
      (forIn ns acc fun (x : Str × NameKind) (cs : List (Str × Addr)) => (match x with
        | (name, kind) => if (kind == NameKind.free) = true then (do let c ← cellOf env name; pure (ForInStep.yield ((name, c) :: cs))) else pure (ForInStep.yield cs) : Sem (ForInStep (List (Str × Addr))))) = (pure (clOf env ns acc) : Sem (List (Str × Addr))) := by
    intro ns
    induction ns with
    | nil => intro acc _; rfl
    | cons y r ih =>
      intro acc hy
      obtain ⟨n, k⟩ := y
      have ih' := fun acc => ih acc fun z hz => hy z (List.mem_cons_of_mem _ hz)
      rw [List.forIn_cons, clOf]
      by_cases hk : k = .free
      · subst hk
        obtain ⟨c, hc⟩ := hy (n, .free) List.mem_cons_self rfl
        have hc' : env.cells.lookup n = some c := hc
        simp only [beq_self_eq_true, if_true, cellOf, hc', pure_bind]
        exact ih' _
      · have hb : (k == NameKind.free) = false := by simpa using hk
        simp only [hb, Bool.false_eq_true, if_false, pure_bind, if_neg hk]
        exact ih' _
  unfold closureFor
  have g := go scope.names [] h
  simp only [bind_pure]
  exact g

structure CompScope (sc scope : Scope) (NX N : List Str) (ix : List (Option Nat)) : Prop where
  kind : scope.kind = .function
  nocell : ∀ y ∈ scope.names, y.2 ≠ .cell
  names : ∀ y ∈ scope.names, y.2 = .local → scope.names.lookup y.1 = some .local
  free : ∀ y ∈ scope.names, y.2 = .free → sc.names.lookup y.1 = some .cell ∨ sc.names.lookup y.1 = some .free
  nd : N.Nodup
  len : ix.length = N.length
  at_ : ∀ p ∈ N.zip ix, ∀ i ∈ p.2, NX[i]? = some p.1 ∧ scope.names.lookup p.1 = some .free
noncomputable def sub (ix : List (Option Nat)) (σ : St) : St := ix.map fun o => match o with | some i => (match σ[i]? with | some v => v | none => none) | none => none

noncomputable def cxComp (X : Cx) (N : List Str) (scope : Scope) (C : Addr) (s : Shared) (H : Hp) (fp : List Addr) : Cx where
  prog := X.prog
  w := X.w
  K := X.K
  mg := X.mg
  base := X.base
  A := X.A
  N := N
  s₀ := s
  H₀ := H
  env := compEnvC scope (clOf X.env scope.names []) C X.env
  outer := X.stack
  stack := X.stack
  ex := fp
  fn := fun _ => false
  calm := X.calm
  pn := []
  xe := fun _ _ => False

theorem relabel_look {scope : Scope} {env : Env} {x : Str} {k : NameKind} (h : (relabel scope env).names.lookup x = some k) : scope.names.lookup x = some k ∨ (k = .cell ∧ scope.names.lookup x = some .free) := by
  have go : ∀ ns : List (Str × NameKind), (ns.map fun (n, k) => if (k == NameKind.free && env.scope.kind == .function && env.kindOf n == some .cell) then (n, NameKind.cell) else (n, k)).lookup x = some k →
      ns.lookup x = some k ∨ (k = .cell ∧ ns.lookup x = some .free) := by
    intro ns
    induction ns with
    | nil => intro q; simp at q
    | cons y r ih =>
      obtain ⟨n, k'⟩ := y
      intro q
      rw [List.map_cons] at q
      by_cases hc : (k' == NameKind.free && env.scope.kind == .function && env.kindOf n == some .cell) = true
      · simp only [hc, if_true] at q
        have hk' : k' = .free := by
          have := (Bool.and_eq_true _ _ ▸ hc)
          have h1 := (Bool.and_eq_true _ _ ▸ this.1)
          exact eq_of_beq h1.1
        subst hk'
        rw [List.lookup_cons] at q ⊢
        cases e : x == n with
        | true =>
          rw [e] at q
          cases q
          exact .inr ⟨rfl, rfl⟩
        | false =>
          rw [e] at q
          exact ih q
      · simp only [hc] at q
        rw [if_neg (by simp)] at q
        rw [List.lookup_cons] at q ⊢
        cases e : x == n with
        | true => rw [e] at q; exact .inl q
        | false => rw [e] at q; exact ih q
  exact go scope.names h
theorem relabel_free {scope : Scope} {env : Env} {x : Str} (h : scope.names.lookup x = some .free) : (relabel scope env).names.lookup x = some .cell ∨ (relabel scope env).names.lookup x = some .free := by
  have go : ∀ ns : List (Str × NameKind), ns.lookup x = some .free →
      (ns.map fun (n, k) => if (k == NameKind.free && env.scope.kind == .function && env.kindOf n == some .cell) then (n, NameKind.cell) else (n, k)).lookup x = some .cell ∨
      (ns.map fun (n, k) => if (k == NameKind.free && env.scope.kind == .function && env.kindOf n == some .cell) then (n, NameKind.cell) else (n, k)).lookup x = some .free := by
    intro ns
    induction ns with
    | nil => intro q; simp at q
    | cons y r ih =>
      obtain ⟨n, k'⟩ := y
      intro q
      rw [List.map_cons]
      rw [List.lookup_cons] at q
      cases e : x == n with
      | true =>
        rw [e] at q
        cases q
        by_cases hc : (NameKind.free == NameKind.free && env.scope.kind == .function && env.kindOf n == some .cell) = true
        · simp only [hc, if_true]
          rw [List.lookup_cons, e]
          exact .inl rfl
        · simp only [hc]
          rw [if_neg (by simp), List.lookup_cons, e]
          exact .inr rfl
      | false =>
        rw [e] at q
        have z := ih q
        by_cases hc : (k' == NameKind.free && env.scope.kind == .function && env.kindOf n == some .cell) = true
        · simp only [hc, if_true]
          rw [List.lookup_cons, e]
          exact z
        · simp only [hc]
          rw [if_neg (by simp), List.lookup_cons, e]
          exact z
  exact go scope.names h

theorem Inv.gone {X : Cx} {pins : List (Addr × Obj)} {σ σ₂ : St} {H H₂ : Hp} {s s₂ : Shared} {C : Addr} {h'' : Heap} (I : Inv X pins σ H s) (I2 : Inv X pins σ₂ H₂ s₂) (hC : s₂.heap.objs.size ≤ C) (hn : H C = none) (hs : Heap.SameBut C s.heap h'') : Inv X pins σ H { s with heap := h'' } :=
  I.turned (t' := s.toks) (it := C) (fun b o hb e => hs.extBut b o hb e) hn (Nat.ne_of_gt (Nat.lt_of_lt_of_le I2.lt hC)) (.inr (Nat.le_trans I2.sz hC))
    (fun x c e => by
      obtain ⟨v, o, ho, _⟩ := I2.cell x c e
      exact ltNe (Heap.lt_size ho) hC) fun q hq => ltNe (Heap.lt_size (I2.pin q hq).1) hC
/-! ### the tests of a clause -/
noncomputable def PTL (X : Cx) (ifs : List Expr) (t : TT) : Prop :=
  ∀ (pins : List (Addr × Obj)) (s : Shared) (σ : St) (H : Hp) (Q : Bool → Hp → Prop), Inv X pins σ H s → t σ H Q →
    wpAny (model X.prog X.w) X.A (forIn ifs true fun c r => if r = true then do let ok ← isTrue c X.env (eval c X.env); pure (ForInStep.yield ok) else pure (ForInStep.yield r)) (TP X pins σ Q) X.xe s
noncomputable def tAlways : TT := fun _ H Q => Q true H
theorem ptl_nil {X : Cx} : PTL X [] tAlways := fun _ _ _ H _ I h => wpAny_tests_nil ⟨H, I, h⟩
theorem ptl_one {X : Cx} {c : Expr} {t : TT} (h : PT X c t) : PTL X [c] t := fun pins s σ H Q I q => wpAny_tests_one (h pins s σ H Q I q)

/-! ### the rule -/
noncomputable def CompBody (J : It) (g : TG) (tt : TT) (te : TE) (σ₀ : St) (p : Addr) (Q : VK) (W : Nat → Nat → List V → Hp → Prop) : Prop :=
  ∀ i m acc H, W i m acc H → H p = some (.lst acc) ∧
    ((J.stop i H ∧ Q (.ref p) H) ∨ (J.go i H ∧ acc.length < sizeLine ∧ ∃ N : List V → Hp → Prop, (∀ acc' H', N acc' H' → ∃ m', m' < m ∧ W (i + 1) m' acc' H') ∧
      ∀ x H1, J.yld i H x H1 → g x σ₀ H1 fun σ2 H2 => tt σ2 H2 fun b H3 => if b = true then te σ2 H3 fun y H4 => H4 p = some (.lst acc) ∧ N (acc ++ [y]) (upd H4 p (.lst (acc ++ [y]))) else N acc H3))
noncomputable abbrev CF (α : Type) := Addr → Shared → Hp → List Addr → α
noncomputable def tComp (wi : TI) (g : CF TG) (tt : CF TT) (te : CF TE) (ix : List (Option Nat)) : TE := fun σ H Q => wi σ H fun J H1 => ∀ p, H1 p = none →
  ∃ W : Nat → Nat → List V → Hp → Prop, (∃ m, W 0 m [] (upd H1 p (.lst []))) ∧ ∀ C s' H' fp, CompBody J (g C s' H' fp) (tt C s' H' fp) (te C s' H' fp) (sub ix σ) p Q W
section
variable {X : Cx} {elt tg iter : Expr} {ifs : List Expr} {scope sc : Scope} {pos : Pos} {NX N : List Str} {ix : List (Option Nat)} {wi : TI} {g : CF TG} {tt : CF TT} {te : CF TE}

theorem comp_loop {prog : Program} {w : World} {A : Around} {R : Result → Shared → Prop} {s : Shared} {it acc : Value} {env : Env} (I : Nat → Shared → Prop)
    (turn : ∀ n s, I n s → wpAny (model prog w) A (pyNext it) (fun r s₁ => match r with
      | none => R (.ok .next) s₁
      | some v => wpAny (model prog w) A (letOwnedTupleGo tg it v) (fun _ s₁' => wpAny (model prog w) A (assign tg env v) (fun _ s₂ =>
          wpAny (model prog w) A (forIn ifs true fun c r => if r = true then do let ok ← isTrue c env (eval c env); pure (ForInStep.yield ok) else pure (ForInStep.yield r)) (fun ok s₃ =>
            if ok = true then wpAny (model prog w) A (eval elt env) (fun x s₄ =>
              wpAny (model prog w) A (call (.builtin "list.append") [acc, x]) (fun _ s₅ => ∃ m, m < n ∧ I m s₅) (fun _ _ => False) s₄) (fun _ _ => False) s₃
            else ∃ m, m < n ∧ I m s₃) (fun _ _ => False) s₂) (fun _ _ => False) s₁') (fun _ _ => False) s₁) (fun _ _ => False) s)
    (n : Nat) (h : I n s) : codeAny (model prog w) A (.compLoop (.ListComp elt [⟨tg, iter, ifs, 0⟩] scope pos) 0 it acc env) R s := by
  refine codeAny_loop rfl I (fun n s hI => ?_) n h
  show wpAny _ A ((compTurn (.ListComp elt [⟨tg, iter, ifs, 0⟩] scope pos) 0 it acc env).onRaise (fun x => do noteFrame x env; theTreesLotGoes x)) _ _ s
  refine wpAny_noted ?_
  rw [compTurn_list]
  refine wpAny_bind (wpAny_standAt (wpAny_bind (wpAny_mono (turn n s hI) (fun r s₁ h₁ => ?_) fun _ _ z => z.elim)))
  cases r with
  | none => exact wpAny_pure h₁
  | some v =>
    refine wpAny_bind (wpAny_mono h₁ (fun _ s₁' h₁' => ?_) fun _ _ z => z.elim)
    refine wpAny_bind (wpAny_mono h₁' (fun _ s₂ h₂ => wpAny_bind (wpAny_mono h₂ (fun ok s₃ h₃ => ?_) fun _ _ z => z.elim)) fun _ _ z => z.elim)
    cases ok with
    | false => exact wpAny_pure ⟨rfl, h₃⟩
    | true => exact wpAny_bind (wpAny_bind (wpAny_mono h₃ (fun x s₄ h₄ => wpAny_bind (wpAny_mono h₄ (fun _ s₅ h₅ => wpAny_pure (wpAny_pure ⟨rfl, h₅⟩)) fun _ _ z => z.elim)) fun _ _ z => z.elim))

theorem comp_block {pins : List (Addr × Obj)} {σ : St} {H : Hp} {s : Shared} {fp : List Addr} {it : Addr} {J : It} {tn : Nat → Heap → Prop} {Q : VK} {E : Value → Shared → Prop} {RR : Value → Addr → Result → Shared → Prop}
    (hc : X.calm = true) (hsc : X.env.scope = sc) (hNX : X.N = NX) (S : CompScope sc scope NX N ix)
    (hg : ∀ C s H fp, PG (cxComp X N scope C s H fp) tg (g C s H fp)) (ht : ∀ C s H fp, PTL (cxComp X N scope C s H fp) ifs (tt C s H fp)) (he : ∀ C s H fp, PE (cxComp X N scope C s H fp) elt (te C s H fp))
    (I : Inv X pins σ H s) (T : Turn X.prog X.w X.K tg J fp it tn) (st : tn 0 s.heap) (hf : ∀ b ∈ fp, FpOk X pins H b)
    (hq : ∀ p, H p = none → ∃ W : Nat → Nat → List V → Hp → Prop, (∃ m, W 0 m [] (upd H p (.lst []))) ∧ ∀ C s' H' fp, CompBody J (g C s' H' fp) (tt C s' H' fp) (te C s' H' fp) (sub ix σ) p Q W)
    (hR : ∀ p C s' H' m, s.heap.objs.size ≤ p → s.heap.objs.size ≤ C → s'.heap.Ns C m → H' C = none → Q (.ref p) H' → Inv X pins σ H' s' → RR (.ref p) C (.ok .next) s') :
    wpAny (model X.prog X.w) X.A (newList []) (fun acc s₃ => wpAny (model X.prog X.w) X.A (newFunctionEnv scope X.env.globals (clOf X.env scope.names []) [] X.env.qual none .none (some X.env)) (fun cenv s₄ =>
      codeAny (model X.prog X.w) X.A (.compStart (.ListComp elt [⟨tg, iter, ifs, 0⟩] scope pos) 0 (.ref it) acc { cenv with scope := relabel scope X.env }) (RR acc cenv.locals) s₄) E s₃) E s := by
  refine wpAny_newObj_type (wpAny_newFunctionEnv S.nocell (by intro y hy; simp at hy) (fun h₁ hns₁ hsb₁ => ?_) S.kind)
  dsimp only at hns₁ hsb₁ ⊢
  have hsz : (s.heap.push { cls := .type "list", dict := none, data := .seq ([] : List Value).toArray }).objs.size = s.heap.objs.size + 1 := Heap.size_push ..
  generalize hC : (s.heap.push { cls := .type "list", dict := none, data := .seq ([] : List Value).toArray }).objs.size = C at hns₁ hsb₁ ⊢
  rw [hsz] at hC
  generalize hp : s.heap.objs.size = p at hC
  have pC : p ≠ C := by omega
  have old : ∀ b o, s.heap.get? b = some o → h₁.get? b = some o := fun b o e => hsb₁.extBut b o (ltNe (Heap.lt_size e) (by omega)) (Heap.get?_push_of_some _ (Heap.get?_push_of_some _ e))
  have hnew : h₁.get? p = some { cls := .type "list", data := .seq ([] : List Value).toArray } := hsb₁.extBut _ _ pC (Heap.get?_push_of_some _ (by rw [← hp]; exact Heap.get?_push_size _ rfl))
  have hfp : H p = none := I.hok.fresh (by omega)
  have hfC : H C = none := I.hok.fresh (by omega)
  have lt : ∀ b ∈ fp, b < p := fun b hb => by
    obtain ⟨o, e, _⟩ := T.obj 0 _ st b hb
    rw [← hp]
    exact Heap.lt_size e
  -- the free names' cells
  have hcells : ∀ y ∈ scope.names, y.2 = .free → ∃ c, X.env.cells.lookup y.1 = some c := fun y hy hk => by
    refine I.ok.has y.1 ?_
    show X.env.scope.names.lookup y.1 = some .cell ∨ X.env.scope.names.lookup y.1 = some .free
    rw [hsc]
    exact S.free y hy hk
  have noown : ∀ x, scope.names.lookup x ≠ some .cell := fun x e => S.nocell _ (PySem.mem_of_lookup e) rfl
  have hok : (cxComp X N scope C s H fp).Ok := by
    refine ⟨I.ok.mod, S.kind, I.ok.glob, I.ok.blt, by show s.heap.objs.size ≤ C; omega, fun x y c h1 h2 => I.ok.inj x y c (clOf_lookup h1) (clOf_lookup h2), fun x hx => ?_, fun x c z => (by cases z), I.ok.hd, I.ok.frames, .inl rfl, fun b hb => ?_, I.bs, Nat.le_trans I.ok.bsz I.sz, fun b o e hb => ?_, fun b hb z => ?_, I.stack, I.stkFree⟩
    · have hx' : scope.names.lookup x = some .free := by
        rcases hx with hx | hx
        · rcases relabel_look hx with q | q
          · exact absurd q (noown x)
          · exact q.2
        · rcases relabel_look hx with q | q
          · exact q
          · exact q.2
      obtain ⟨c, hc'⟩ := hcells _ (PySem.mem_of_lookup hx') rfl
      exact ⟨c, clOf_some (PySem.mem_of_lookup hx') hc'⟩
    · refine ⟨?_, fun x c e => (hf b hb).2.2.2.2.1 x c (clOf_lookup e)⟩
      show b ≠ C
      exact ltNe (lt b hb) (by omega)
    · rcases (hf b hb).2.2.2.1 with z | z
      · exact I.ok.noex b o e z
      · exact absurd (Nat.lt_of_lt_of_le (Heap.lt_size e) (Nat.le_trans I.ok.bsz z)) (Nat.lt_irrefl _)
    · rcases List.mem_cons.mp (I.stkSub b z) with q | q
      · exact (hf b hb).2.1 q
      · exact (hf b hb).2.2.1 q
  -- the free names' values lie in cells that stay
  have locs : ∀ h' : Heap, (∀ x c o, X.env.cells.lookup x = some c → s.heap.get? c = some o → ∃ sl, h'.get? c = some { o with slots := sl }) →
      ∀ (i : Nat) (x : Str) (v : V), N[i]? = some x → (sub ix σ)[i]? = some (some v) → ∃ u, RelV v u ∧ ∀ m, Look (compEnvC scope (clOf X.env scope.names []) C X.env) h' m x u := by
    intro h' hk i x v h1 h2
    obtain ⟨k, hk', hv⟩ : ∃ k, ix[i]? = some (some k) ∧ σ[k]? = some (some v) := by
      unfold sub at h2
      rw [List.getElem?_map] at h2
      cases e : ix[i]? with
      | none => rw [e] at h2; cases h2
      | some o =>
        rw [e] at h2
        cases o with
        | none => cases h2
        | some k =>
          refine ⟨k, rfl, ?_⟩
          have h2' : (match σ[k]? with | some v => v | none => none) = some v := Option.some.inj h2
          cases e2 : σ[k]? with
          | none => rw [e2] at h2'; cases h2'
          | some z =>
            rw [e2] at h2'
            rw [show z = some v from h2']
    have hm : (x, some k) ∈ N.zip ix := by
      refine List.mem_of_getElem? (i := i) ?_
      rw [List.getElem?_zip_eq_some]
      exact ⟨h1, hk'⟩
    obtain ⟨a1, a2⟩ := S.at_ _ hm k (by simp)
    have hX := S.free _ (PySem.mem_of_lookup a2) rfl
    have hvis : Vis X.env.scope x := by
      show _ ∨ _ ∨ _
      rw [hsc]
      exact .inr hX
    obtain ⟨m, hn, hl⟩ := I.loc
    obtain ⟨u, r, l⟩ := hl k x v (by rw [hNX]; exact a1) hv hvis
    refine ⟨u, r, fun m' => .inr ⟨relabel_free a2, ?_⟩⟩
    rcases l with ⟨l, _⟩ | ⟨_, c, e, z⟩
    · have l' : X.env.scope.names.lookup x = some .local := l
      rw [hsc] at l'
      rcases hX with q | q <;> (rw [q] at l'; cases l')
    · obtain ⟨o, ho, hd⟩ := z
      obtain ⟨sl, e'⟩ := hk x c o e ho
      exact ⟨c, clOf_some (PySem.mem_of_lookup a2) e, _, e', hd⟩
  have hlen : (sub ix σ).length = N.length := by
    unfold sub
    rw [List.length_map]
    exact S.len
  have I1 : Inv (cxComp X N scope C s H fp) [] (sub ix σ) (upd H p (.lst [])) { s with heap := h₁, toks := s.toks + ([] : List (Str × Value)).length } := by
    refine ⟨hok, rfl, I.bare, Un.laid old (Nat.le_of_eq hp) hfp, ⟨_, hns₁, fun i x v h1 h2 h3 => ?_⟩, fun x c e => ?_, ?_, fun x c e => ?_, fun q hq => (nomatch hq), I.hok.laid old (Nat.le_of_eq hp) ⟨Nat.zero_le _, [], 0, .nil, hnew⟩, hlen⟩
    · obtain ⟨u, r, l⟩ := locs h₁ (fun y c o _ ho => ⟨o.slots, old c o ho⟩) i x v h1 h2
      exact ⟨u, r, l _⟩
    · obtain ⟨v, o, ho, hd⟩ := I.cell x c (clOf_lookup e)
      exact ⟨v, o, old c o ho, hd⟩
    · show upd H p _ C = none
      rw [upd_ne (Ne.symm pC)]
      exact hfC
    · have e' := clOf_lookup e
      obtain ⟨v, o, ho, hd⟩ := I.cell x c e'
      rw [upd_ne (ltNe (Heap.lt_size ho) (Nat.le_of_eq hp))]
      exact I.freeC x c e'
  -- back to the block's first names
  have back : ∀ {pl : List (Addr × Obj)} {σ' : St} {H' : Hp} {s' : Shared}, Inv (cxComp X N scope C s H fp) pl σ' H' s' → Inv (cxComp X N scope C s H fp) pl (sub ix σ) H' s' := fun {pl σ' H' s'} J => by
    obtain ⟨m, hn, _⟩ := J.loc
    refine ⟨J.ok, J.os, J.bare, J.base, ⟨m, hn, fun i x v h1 h2 h3 => ?_⟩, J.cell, J.free, J.freeC, J.pin, J.hok, hlen⟩
    obtain ⟨u, r, l⟩ := locs s'.heap (fun y c o hc' ho => J.base.any ho (I.freeC y c hc') fun hb => (hf c hb).2.2.2.2.1 y c hc' rfl) i x v h1 h2
    exact ⟨u, r, l _⟩
  obtain ⟨W, ⟨m0, w0⟩, turn⟩ := hq p hfp
  have st1 : tn 0 h₁ := T.keep 0 _ _ st fun b _ o e => old b o e
  have fp1 : ∀ {H' : Hp}, (∀ b ∈ fp, H' b = none) → ∀ b ∈ fp, FpOk (cxComp X N scope C s H fp) [] H' b := fun {H'} hn b hb =>
    ⟨hn b hb, (hok.exf b hb).1, hok.exfs b hb, .inl hb, (hok.exf b hb).2, fun q hq => (nomatch hq)⟩
  have loop : codeAny (model X.prog X.w) X.A (.compLoop (.ListComp elt [⟨tg, iter, ifs, 0⟩] scope pos) 0 (.ref it) (.ref p) (compEnvC scope (clOf X.env scope.names []) C X.env)) (RR (.ref p) C) { s with heap := h₁, toks := s.toks + ([] : List (Str × Value)).length } := by
    refine comp_loop (fun n s' => ∃ i acc H', Inv (cxComp X N scope C s H fp) [] (sub ix σ) H' s' ∧ tn i s'.heap ∧ (∀ b ∈ fp, H' b = none) ∧ W i n acc H') ?_ m0
      ⟨0, [], _, I1, st1, fun b hb => by rw [upd_ne (ltNe (lt b hb) (Nat.le_refl _))]; exact (hf b hb).1, w0⟩
    rintro n s3 ⟨i, acc, H3, I3, st3, fr3, w3⟩
    obtain ⟨hacc, w4⟩ := turn C s H fp i n acc H3 w3
    rcases w4 with ⟨stop, qn⟩ | ⟨go, hln, N', hN', step⟩
    · refine thn (T.done (cxComp X N scope C s H fp) rfl rfl rfl hc i [] s3 _ H3 (fun _ _ => False) I3 (fp1 fr3) st3 stop) fun r s4 ⟨hr, I4⟩ => ?_
      subst hr
      obtain ⟨m, hn, _⟩ := I4.loc
      refine hR p C s4 H3 m (by omega) (by omega) hn I4.free qn ?_
      exact I.call' I4.os I4.base I4.hok I4.bare fun b hb => ⟨(hf b hb).2.2.2.1, (hf b hb).2.1, (hf b hb).2.2.2.2.1, (hf b hb).2.2.2.2.2⟩
    · refine thn (T.item (cxComp X N scope C s H fp) rfl rfl rfl hc i [] s3 _ H3 (fun _ _ => False) I3 (fp1 fr3) st3 go) fun r s4 ⟨u, hr, h4⟩ => ?_
      subst hr
      refine thn h4 fun _ s5 ⟨x, H5, I5, r5, y5, st5, fr5⟩ => ?_
      have I5' := I5.pinned (fp1 fr5) (T.obj _ _ st5)
      refine thn (hg C s H fp _ s5 _ H5 x u _ I5' r5 (step x H5 y5)) fun _ s6 ⟨σ6, H6, I6, q6⟩ => ?_
      have later : ∀ {s7 : Shared} {H7 : Hp} {acc' : List V} {σ7 : St}, Inv (cxComp X N scope C s H fp) ([] ++ pinsAt fp s5.heap) σ7 H7 s7 → (∃ m', m' < n ∧ W (i + 1) m' acc' H7) →
          ∃ m, m < n ∧ ∃ i acc H', Inv (cxComp X N scope C s H fp) [] (sub ix σ) H' s7 ∧ tn i s7.heap ∧ (∀ b ∈ fp, H' b = none) ∧ W i m acc H' := fun {s7 H7 acc' σ7} I7 ⟨m', hm, w7⟩ => by
        refine ⟨m', hm, i + 1, acc', H7, back (I7.unpinned (pins := [])), T.keep _ _ _ st5 fun b hb o e => (I7.pin (b, o) (List.mem_append_right _ (List.mem_append_right _ (mem_pinsAt hb e)))).1, fun b hb => ?_, w7⟩
        obtain ⟨o, e, d⟩ := T.obj _ _ st5 b hb
        exact (I7.pin (b, o) (List.mem_append_right _ (List.mem_append_right _ (mem_pinsAt hb e)))).2.1
      refine thn (ht C s H fp _ s6 σ6 H6 _ I6 q6) fun ok s7 ⟨H7, I7, q7⟩ => ?_
      cases ok with
      | false => exact later I7 (hN' _ _ q7)
      | true =>
        refine thn (he C s H fp _ s7 σ6 H7 _ I7 q7) fun y s8 ⟨v8, H8, I8, r8, hacc8, w8⟩ => ?_
        refine thn (mt_append (X := cxComp X N scope C s H fp) _ s8 σ6 H8 (.ref p) [v8] (.ref p) [y] (fun _ H9 => H9 = upd H8 p (.lst (acc ++ [v8]))) I8 rfl (.cons r8 .nil) ⟨p, acc, v8, rfl, rfl, hacc8, hln, rfl⟩) fun _ s9 ⟨_, H9, I9, _, e9⟩ => ?_
        subst e9
        exact later I9 (hN' _ _ w8)
  exact codeAny_compStart_list loop (T.self _ 0 _ _ _ st1 loop)

theorem pe_comp (hc : X.calm = true) (S : CompScope sc scope NX N ix) (hi : PI X tg iter wi)
    (hg : ∀ C s H fp, PG (cxComp X N scope C s H fp) tg (g C s H fp)) (ht : ∀ C s H fp, PTL (cxComp X N scope C s H fp) ifs (tt C s H fp)) (he : ∀ C s H fp, PE (cxComp X N scope C s H fp) elt (te C s H fp))
    (hsc : X.env.scope = sc := by rfl) (hNX : X.N = NX := by rfl) (hs : ∀ x, foldedSetIterable iter X.env x = pure x := by intro _; rfl) :
    PE X (.ListComp elt [⟨tg, iter, ifs, 0⟩] scope pos) (tComp wi g tt te ix) := by
  intro pins s σ H Q I h
  rw [eval_ListComp]
  have hcells : closureFor scope X.env = pure (clOf X.env scope.names []) := closure_of fun y hy hk => by
    refine I.ok.has y.1 ?_
    show X.env.scope.names.lookup y.1 = some .cell ∨ X.env.scope.names.lookup y.1 = some .free
    rw [hsc]
    exact S.free y hy hk
  refine wpAny_comprehension_free (use := none) rfl hs hcells S.kind S.names (thn (hi pins s σ H _ I h) fun v s1 h1 => thn h1 fun itv s2 h2 => ?_)
  obtain ⟨it, fp, tn, J, H2, e, I2, T, st2, f2, hq⟩ := h2
  subst e
  refine comp_block (Q := Q) (RR := fun acc C => compPost (model X.prog X.w) X.A X.xe none (EP X pins σ Q) acc C) hc hsc hNX S hg ht he I2 T st2 f2 hq ?_
  intro p C s' H' m hp hC hn hfree q I'
  exact ⟨m, hn, fun h'' hs'' => ⟨.ref p, H', I'.gone I2 hC hfree hs'', rfl, q⟩⟩
theorem ps_setComp {i : Nat} {y : Str} {py spos : Pos} (hN : X.N.Nodup) (hy : X.N[i]? = some y) (hl : X.env.scope.names.lookup y = some .local) (hc : X.calm = true) (S : CompScope sc scope NX N ix) (hi : PI X tg iter wi)
    (hg : ∀ C s H fp, PG (cxComp X N scope C s H fp) tg (g C s H fp)) (ht : ∀ C s H fp, PTL (cxComp X N scope C s H fp) ifs (tt C s H fp)) (he : ∀ C s H fp, PE (cxComp X N scope C s H fp) elt (te C s H fp))
    (hsw : swapsWith (.ListComp elt [⟨tg, iter, ifs, 0⟩] scope pos) (some (.Name y py)) spos.line X.env = pure true := by rfl)
    (hsc : X.env.scope = sc := by rfl) (hNX : X.N = NX := by rfl) (hs : ∀ x, foldedSetIterable iter X.env x = pure x := by intro _; rfl) :
    PS X (.Assign [.Name y py] (.ListComp elt [⟨tg, iter, ifs, 0⟩] scope pos) spos) (tAsg (tComp wi g tt te ix) (gName i)) := by
  intro pins s σ H D I h
  rw [exec_Assign_Name_used _ _ _ _ hsw]
  have hcells : closureFor scope X.env = pure (clOf X.env scope.names []) := closure_of fun z hz hk => by
    refine I.ok.has z.1 ?_
    show X.env.scope.names.lookup z.1 = some .cell ∨ X.env.scope.names.lookup z.1 = some .free
    rw [hsc]
    exact S.free z hz hk
  refine wpAny_bind (wpAny_standAt (wpAny_bind ?_))
  show wpAny _ X.A (do let _ ← comprehension (.ListComp elt [⟨tg, iter, ifs, 0⟩] scope pos) scope X.env _ (newList []) false (eval iter X.env) (some (assign (.Name y py) X.env))) _ _ s
  refine wpAny_bind (thn (wpAny_comprehension_free (use := some (assign (.Name y py) X.env)) (Q := fun _ s' => SP X pins D .next s') rfl hs hcells S.kind S.names (thn (hi pins s σ H _ I h) fun v s1 h1 => thn h1 fun itv s2 h2 => ?_)) fun _ s' q => wpAny_pure (wpAny_pure q))
  obtain ⟨it, fp, tn, J, H2, e, I2, T, st2, f2, hq⟩ := h2
  subst e
  refine comp_block (Q := fun x H1 => gName i x σ H1 D.nx) (RR := fun acc C => compPost (model X.prog X.w) X.A X.xe (some (assign (.Name y py) X.env)) (fun _ s' => SP X pins D .next s') acc C) hc hsc hNX S hg ht he I2 T st2 f2 hq ?_
  intro p C s' H' m hp hC hn hfree q I'
  refine wpAny_assign_Name (store_ok2 (v := .ref p) I' hN hy (.inl hl) rfl (fun s'' I'' ⟨a, hsb, ha⟩ => ?_) (.inr hl))
  have ne : C ≠ a := by
    rcases ha with rfl | ha
    · exact Nat.ne_of_gt (Nat.lt_of_lt_of_le I2.lt hC)
    · obtain ⟨v, o, ho, _⟩ := I2.cell y a ha
      exact Nat.ne_of_gt (Nat.lt_of_lt_of_le (Heap.lt_size ho) hC)
  exact ⟨m, hn.sameBut hsb ne, fun h'' hs'' => ⟨_, H', I''.gone I2 hC hfree hs'', q⟩⟩
end

/-! ### the forms one uses: W from a word over the turn, the new list, the heap -/
section
variable {g : CF TG} {tt : CF TT} {te : CF TE} {σ₀ : St} {p : Addr} {Q : VK} {H : Hp}
theorem comp_of {J : It} {n : Nat} {Y : Nat → Hp → V → Hp → Prop} (Pv : Nat → List V → Hp → Prop) (h0 : Pv 0 [] (upd H p (.lst []))) (hp : ∀ i acc H, i ≤ n → Pv i acc H → H p = some (.lst acc) ∧ acc.length ≤ i) (hz : n ≤ sizeLine)
    (hgo : ∀ i acc H, i < n → Pv i acc H → J.go i H) (hst : ∀ acc H, Pv n acc H → J.stop n H) (hy : ∀ i acc H x H1, i < n → Pv i acc H → J.yld i H x H1 → Y i H x H1)
    (hs : ∀ C s' H' fp, ∀ i x acc H H1, i < n → Pv i acc H → Y i H x H1 → g C s' H' fp x σ₀ H1 fun σ2 H2 => tt C s' H' fp σ2 H2 fun b H3 => if b = true then te C s' H' fp σ2 H3 fun y H4 => H4 p = some (.lst acc) ∧ Pv (i + 1) (acc ++ [y]) (upd H4 p (.lst (acc ++ [y]))) else Pv (i + 1) acc H3)
    (hd : ∀ acc H, Pv n acc H → Q (.ref p) H) :
    ∃ W : Nat → Nat → List V → Hp → Prop, (∃ m, W 0 m [] (upd H p (.lst []))) ∧ ∀ C s' H' fp, CompBody J (g C s' H' fp) (tt C s' H' fp) (te C s' H' fp) σ₀ p Q W := by
  refine ⟨fun i m acc H => m = n - i ∧ i ≤ n ∧ Pv i acc H, ⟨n, by simp, Nat.zero_le _, h0⟩, ?_⟩
  rintro C s' H' fp i m acc H ⟨rfl, hi, w⟩
  obtain ⟨h1, h2⟩ := hp i acc H hi w
  refine ⟨h1, ?_⟩
  by_cases hlt : i < n
  · exact .inr ⟨hgo i acc H hlt w, by omega, Pv (i + 1), fun acc' H' q => ⟨n - (i + 1), by omega, rfl, hlt, q⟩, fun x H1 y => hs C s' H' fp i x acc H H1 hlt w (hy i acc H x H1 hlt w y)⟩
  · have e : i = n := by omega
    subst e
    exact .inl ⟨hst acc H w, hd acc H w⟩
theorem comp_list {K : PySem.W.Frag} {a : Addr} {xs : List V} (Pv : Nat → List V → Hp → Prop) (h0 : Pv 0 [] (upd H p (.lst []))) (hp : ∀ i acc H, i ≤ xs.length → Pv i acc H → H p = some (.lst acc) ∧ acc.length ≤ i) (hl : ∀ i acc H, i ≤ xs.length → Pv i acc H → SqL K H a xs) (hz : xs.length ≤ sizeLine)
    (hs : ∀ C s' H' fp, ∀ i x acc H, xs[i]? = some x → Pv i acc H → g C s' H' fp x σ₀ H fun σ2 H2 => tt C s' H' fp σ2 H2 fun b H3 => if b = true then te C s' H' fp σ2 H3 fun y H4 => H4 p = some (.lst acc) ∧ Pv (i + 1) (acc ++ [y]) (upd H4 p (.lst (acc ++ [y]))) else Pv (i + 1) acc H3)
    (hd : ∀ acc H, Pv xs.length acc H → Q (.ref p) H) :
    ∃ W : Nat → Nat → List V → Hp → Prop, (∃ m, W 0 m [] (upd H p (.lst []))) ∧ ∀ C s' H' fp, CompBody (Itl K a) (g C s' H' fp) (tt C s' H' fp) (te C s' H' fp) σ₀ p Q W :=
  comp_of (Y := fun i H x H1 => H1 = H ∧ xs[i]? = some x) Pv h0 hp hz (fun i acc H hi w => ⟨xs, xs[i], hl i acc H (Nat.le_of_lt hi) w, by simp [hi]⟩) (fun acc H w => ⟨xs, hl _ acc H (Nat.le_refl _) w, Nat.le_refl _⟩)
    (fun i acc H x H1 hi w y => ⟨y.1, y.2 xs (hl i acc H (Nat.le_of_lt hi) w)⟩) (fun C s' H' fp i x acc H H1 hi w y => by
      obtain ⟨e, y⟩ := y
      subst e
      exact hs C s' H' fp i x acc _ y w) hd
theorem comp_range {lo : Int} {n : Nat} (Pv : Nat → List V → Hp → Prop) (h0 : Pv 0 [] (upd H p (.lst []))) (hp : ∀ i acc H, i ≤ n → Pv i acc H → H p = some (.lst acc) ∧ acc.length ≤ i) (hz : n ≤ sizeLine)
    (hs : ∀ C s' H' fp, ∀ i acc H, i < n → Pv i acc H → g C s' H' fp (.int (lo + i)) σ₀ H fun σ2 H2 => tt C s' H' fp σ2 H2 fun b H3 => if b = true then te C s' H' fp σ2 H3 fun y H4 => H4 p = some (.lst acc) ∧ Pv (i + 1) (acc ++ [y]) (upd H4 p (.lst (acc ++ [y]))) else Pv (i + 1) acc H3)
    (hd : ∀ acc H, Pv n acc H → Q (.ref p) H) :
    ∃ W : Nat → Nat → List V → Hp → Prop, (∃ m, W 0 m [] (upd H p (.lst []))) ∧ ∀ C s' H' fp, CompBody (Itr lo n) (g C s' H' fp) (tt C s' H' fp) (te C s' H' fp) σ₀ p Q W :=
  comp_of (Y := fun i H x H1 => H1 = H ∧ x = .int (lo + i)) Pv h0 hp hz (fun i acc H hi w => hi) (fun acc H w => Nat.le_refl _) (fun i acc H x H1 hi w y => y) (fun C s' H' fp i x acc H H1 hi w y => by
      obtain ⟨e, e2⟩ := y
      subst e e2
      exact hs C s' H' fp i acc _ hi w) hd
end
end L2

end

section
-- KcIter
set_option Elab.async false
set_option linter.all false
set_option maxRecDepth 100000
set_option maxHeartbeats 4000000
namespace L2
open PySem PySem.Spec PyProof.Rows

/-! ### drawing from a tuple's iterator inside enumerate and zip -/
section
variable {prog : Program} {w : World} {A : Around} {E : Value → Shared → Prop} {s : Shared}
end
theorem Inv.offBase {X : Cx} {pins : List (Addr × Obj)} {σ : St} {H : Hp} {s : Shared} {c : Addr} {o : Obj} (I : Inv X pins σ H s) (f : FpOk X pins H c) (e : X.base.get? c = some o) : False := by
  rcases f.2.2.2.1 with z | z
  · exact I.ok.noex c o e z
  · exact absurd (Nat.lt_of_lt_of_le (Heap.lt_size e) (Nat.le_trans I.ok.bsz z)) (Nat.lt_irrefl _)
/-! ### the sources: lists and tuples in one -/
structure Src where
  Sq : PySem.W.Frag → Hp → Addr → List V → Prop
  Is : Heap → Addr → Array Value → Prop
  It : Heap → Addr → Addr → Nat → Prop
  icls : String
  get : ∀ {X : Cx} {pins : List (Addr × Obj)} {σ : St} {H : Hp} {s : Shared} {a : Addr} {xs : List V}, Inv X pins σ H s → Sq X.K H a xs → ∃ its : List Value, Vals xs its ∧ Is s.heap a its.toArray ∧ xs.length ≤ sizeLine
  inj : ∀ {X : Cx} {pins : List (Addr × Obj)} {σ : St} {H : Hp} {s : Shared} {a : Addr} {xs ys : List V}, Inv X pins σ H s → Sq X.K H a xs → Sq X.K H a ys → xs = ys
  off : ∀ {X : Cx} {pins : List (Addr × Obj)} {σ : St} {H : Hp} {s : Shared} {a c : Addr} {xs : List V}, Inv X pins σ H s → Sq X.K H a xs → FpOk X pins H c → c ≠ a
  isSeq : ∀ {h : Heap} {a : Addr} {its : Array Value}, Is h a its → ∃ o n, h.get? a = some o ∧ o.data = .seq its n
  isIt : ∀ {h : Heap} {jt a : Addr} {i : Nat}, It h jt a i → ∃ o, h.get? jt = some o ∧ o.cls = .type icls ∧ o.data = .fields #[.ref a, .int i 0]
  mkI : ∀ {h : Heap} {jt a : Addr} {i : Nat} {o : Obj}, h.get? jt = some o → o.cls = .type icls → o.data = .fields #[.ref a, .int i 0] → It h jt a i
  itKeep : ∀ {h h' : Heap} {jt a : Addr} {i : Nat}, It h jt a i → (∀ o, h.get? jt = some o → h'.get? jt = some o) → It h' jt a i
  isKeep : ∀ {h h' : Heap} {a : Addr} {its : Array Value}, Is h a its → (∀ o, h.get? a = some o → h'.get? a = some o) → Is h' a its
  draws : ∀ {prog : Program} {w : World} {A : Around}, A.handled = none → ∀ (jt a : Addr), a ≠ jt → ∀ its : Array Value, Draws prog w A jt [jt, a] its.size (fun i v => its[i]? = some v) (fun i h => It h jt a i ∧ Is h a its)
  iter : ∀ {prog : Program} {w : World} {A : Around} {E : Value → Shared → Prop} {s : Shared} {a : Addr} {its : Array Value} {Q : Value → Shared → Prop}, Is s.heap a its →
    Q (.ref s.heap.objs.size) { s with heap := s.heap.push { cls := .type icls, data := .fields #[.ref a, .int 0 0] } } → wpAny (model prog w) A (pyIter (.ref a)) Q E s
noncomputable def srcL : Src where
  Sq := SqL
  Is := fun h a its => h.IsList a its
  It := fun h jt a i => h.IsListIter jt a i
  icls := "list_iterator"
  get := fun I h => let ⟨its, r, p, z⟩ := I.list h; ⟨its, r, p.isList, z⟩
  inj := fun I h h' => I.list_inj h h'
  off := fun {X pins σ H s a c xs} I h f e => by
    subst e
    rcases h with (h | ⟨o, h⟩) | ⟨o, its, n, hk, _⟩
    · rw [f.1] at h; cases h
    · rw [f.1] at h; cases h
    · exact I.offBase f (I.ok.mod.kin _ _ hk)
  isSeq := fun h => let ⟨o, ho, _, n, hd⟩ := h; ⟨o, n, ho, hd⟩
  isIt := fun h => h
  mkI := fun h1 h2 h3 => ⟨_, h1, h2, h3⟩
  itKeep := fun h k => h.at k
  isKeep := fun h k => h.at k
  draws := fun hh jt a hne its => Draws.list hh jt a hne its
  iter := fun h q => wpAny_pyIter_list h q
/-! ### untracked records turn, a new object is laid -/
theorem Inv.turns {X : Cx} {pins : List (Addr × Obj)} {σ : St} {H : Hp} {s : Shared} {h' : Heap} {t' : Nat} {ch : List Addr} {T : Addr} {o : HO} (I : Inv X pins σ H s) (hf : ∀ b ∈ ch, FpOk X pins H b)
    (k : ∀ b ob, b ∉ ch → s.heap.get? b = some ob → h'.get? b = some ob) (hT : s.heap.objs.size ≤ T) (new : ObjOk X.prog X.w (upd H T o) h' T o) : Inv X pins σ (upd H T o) { s with heap := h', toks := t' } := by
  have hn : H T = none := I.hok.fresh hT
  have nc : ∀ b u, H b = some u → b ∉ ch := fun b u e z => by
    have := (hf b z).1
    rw [e] at this
    cases this
  refine I.step (g' := s.gens) (d' := s.drawn) (ch := ch) (fun b hb => ⟨(hf b hb).2.2.2.1, (hf b hb).2.1, (hf b hb).2.2.2.2.1, (hf b hb).2.2.2.2.2⟩) (fun b ob _ _ hc e _ => k b ob hc e) (fun b ob _ _ hc e _ => ⟨ob.slots, k b ob hc e⟩)
    (fun b ob _ e n => ?_) (fun b ob hc e => ⟨ob, k b ob hc e⟩) (fun b xs e => ?_) (fun b ob xs e => ?_) (fun b ps e => ⟨#[], ?_⟩) (fun m hm => ?_) (fun b u e => ?_) I.bare
  · rw [upd_ne (ltNe (Heap.lt_size e) hT)]
    exact n
  · rw [upd_ne (ne_of_none e hn)]
    exact e
  · rw [upd_ne (ne_of_none e hn)]
    exact e
  · rw [upd_ne (ne_of_none e hn), e]
    simp
  · obtain ⟨ob, es, ep, ho, r⟩ := hm
    exact ⟨ob, es, ep, k _ ob (fun z => (hf _ z).2.1 rfl) ho, r⟩
  · by_cases hb : b = T
    · subst hb
      rw [upd_same] at e
      cases e
      exact new
    · rw [upd_ne hb] at e
      refine (I.hok b u e).stay (fun c v hc q => k c v ?_ q) (fun c q => by rw [upd_ne (ne_of_none q hn)]; exact q) fun c xs q => by rw [upd_ne (ne_of_none q hn)]; exact q
      rcases hc with z | z
      · rw [z]; exact nc b u e
      · exact nc c _ z
theorem Inv.turnsN {X : Cx} {pins : List (Addr × Obj)} {σ : St} {H : Hp} {s : Shared} {h' : Heap} {t' : Nat} {ch : List Addr} (I : Inv X pins σ H s) (hf : ∀ b ∈ ch, FpOk X pins H b)
    (k : ∀ b ob, b ∉ ch → s.heap.get? b = some ob → h'.get? b = some ob) : Inv X pins σ H { s with heap := h', toks := t' } := by
  have nc : ∀ b u, H b = some u → b ∉ ch := fun b u e z => by
    have := (hf b z).1
    rw [e] at this
    cases this
  refine I.step (g' := s.gens) (d' := s.drawn) (ch := ch) (fun b hb => ⟨(hf b hb).2.2.2.1, (hf b hb).2.1, (hf b hb).2.2.2.2.1, (hf b hb).2.2.2.2.2⟩) (fun b ob _ _ hc e _ => k b ob hc e) (fun b ob _ _ hc e _ => ⟨ob.slots, k b ob hc e⟩)
    (fun b ob _ e n => n) (fun b ob hc e => ⟨ob, k b ob hc e⟩) (fun b xs e => e) (fun b ob xs e => e) (fun b ps e => ⟨#[], by rw [e]; simp⟩) (fun m hm => ?_) (fun b u e => ?_) I.bare
  · obtain ⟨ob, es, ep, ho, r⟩ := hm
    exact ⟨ob, es, ep, k _ ob (fun z => (hf _ z).2.1 rfl) ho, r⟩
  · refine (I.hok b u e).stay (fun c v hc q => k c v ?_ q) (fun c q => q) fun c xs q => q
    rcases hc with z | z
    · rw [z]; exact nc b u e
    · exact nc c _ z

/-! ### enumerate, its tuples unpacked -/
noncomputable def Ite (S : Src) (K : PySem.W.Frag) (a : Addr) : It :=
  ⟨fun i H => ∃ xs x, S.Sq K H a xs ∧ xs[i]? = some x, fun i H x H' => ∃ T v, H T = none ∧ x = .ref T ∧ H' = upd H T (.tup [.int i, v]) ∧ ∀ xs, S.Sq K H a xs → xs[i]? = some v, fun i H => ∃ xs, S.Sq K H a xs ∧ xs.length = i⟩
theorem turn_enum {P : Program} {w : World} {K : PySem.W.Frag} {elts : List Expr} {k0 : Nat} {pos : Pos} (S : Src) (a e it : Addr) (hl : S.icls ≠ "enumerate") :
    Turn P w K (.Tuple elts k0 pos) (Ite S K a) [e, it] e (fun i h => (∃ old, IsEnum h e it i old) ∧ S.It h it a i) where
  mem := by simp
  obj := fun i h st b hb => by
    obtain ⟨⟨old, he⟩, hi⟩ := st
    rcases List.mem_cons.mp hb with rfl | hb
    · exact ⟨_, he, fun v z => nomatch z⟩
    · obtain rfl := List.mem_singleton.mp hb
      obtain ⟨o, ho, _, hd⟩ := S.isIt hi
      exact ⟨o, ho, fun v z => by rw [hd] at z; cases z⟩
  keep := fun i h h' st k => by
    obtain ⟨⟨old, he⟩, hi⟩ := st
    exact ⟨⟨old, k e (by simp) _ he⟩, S.itKeep hi fun o q => k it (by simp) o q⟩
  item := by
    intro X hP hw hK hc i pins s σ H E I hf st hg
    subst hP hw hK
    obtain ⟨xs, x, hq, hx⟩ := hg
    obtain ⟨its, rv, p, hz⟩ := S.get I hq
    obtain ⟨⟨old, he⟩, hi⟩ := st
    obtain ⟨u, hu, ru⟩ := rv.get hx
    obtain ⟨oa, na, hoa, hda⟩ := S.isSeq p
    obtain ⟨oi, hoi, hci, hdi⟩ := S.isIt hi
    have nei : e ≠ it := fun z => by
      have he' : s.heap.get? e = some _ := he
      rw [z, hoi] at he'
      cases he'
      exact hl (by simpa using hci.symm)
    have nae : e ≠ a := S.off I hq (hf e (by simp))
    have nai : a ≠ it := fun z => by
      rw [z, hoi] at hoa
      cases hoa
      rw [hdi] at hda
      cases hda
    have hlt : i < its.toArray.size := by
      have := (List.getElem?_eq_some_iff.mp hu).1
      simpa using this
    refine wpAny_pyNext_enum_itemD (S.draws (A := X.A.in1) (show X.A.in1.handled = none from I.ok.hd hc) it a nai its.toArray) he ⟨hi, p⟩ hlt nei (by simp [nei, nae]) fun y h1 tk hP ho hs1 hT hsz hk => ⟨_, rfl, ?_⟩
    have hy : y = u := by
      have : its.toArray[i]? = some u := by simpa using hu
      rw [this] at hP
      exact (Option.some.inj hP).symm
    subst hy
    refine wpAny_letOwnedTupleGo_enum ho fun h2 he2 hs2 => ?_
    have elt : e < s.heap.objs.size := Heap.lt_size he
    have hT2 : h2.get? s.heap.objs.size = some { cls := .type "tuple", data := .seq #[.int i tk, y] } := hs2.extBut _ _ (neLt (Nat.le_refl _) elt) hT
    have kept : ∀ b ob, b ∉ [e, it] → s.heap.get? b = some ob → h2.get? b = some ob := fun b ob hb q => by
      have h1' : b ≠ e := fun z => hb (by simp [z])
      exact hs2.extBut _ _ h1' (hk b ob h1' (fun z => hb (by simp [z])) q)
    refine ⟨.ref s.heap.objs.size, upd H s.heap.objs.size (.tup [.int i, x]), ?_, rfl, ⟨_, x, I.fresh, rfl, rfl, fun ys hy => by rw [S.inj I hy hq]; exact hx⟩, ⟨⟨_, he2⟩, S.itKeep hs1.1 fun o q => hs2.extBut _ _ (Ne.symm nei) q⟩, fun b hb => ?_⟩
    · refine I.turns (t' := tk + 1) hf kept (Nat.le_refl _) ⟨(by show 2 ≤ sizeLine; decide), [.int i tk, y], .cons ⟨tk, rfl⟩ (.cons ru .nil), _, hT2, rfl, ⟨0, rfl⟩, rfl⟩
    · have lt : b < s.heap.objs.size := by
        rcases List.mem_cons.mp hb with rfl | hb
        · exact elt
        · obtain rfl := List.mem_singleton.mp hb
          exact Heap.lt_size hoi
      rw [upd_ne (ltNe lt (Nat.le_refl _))]
      exact (hf b hb).1
  done := by
    intro X hP hw hK hc i pins s σ H E I hf st hg
    subst hP hw hK
    obtain ⟨xs, hq, hx⟩ := hg
    obtain ⟨its, rv, p, hz⟩ := S.get I hq
    obtain ⟨⟨old, he⟩, hi⟩ := st
    obtain ⟨oa, na, hoa, hda⟩ := S.isSeq p
    obtain ⟨oi, hoi, hci, hdi⟩ := S.isIt hi
    have nai : a ≠ it := fun z => by
      rw [z, hoi] at hoa
      cases hoa
      rw [hdi] at hda
      cases hda
    have hsz : i = its.toArray.size := by
      have := rv.length
      simp only [List.size_toArray]
      omega
    subst hsz
    exact wpAny_pyNext_enum_endD (S.draws (A := X.A.in1) (show X.A.in1.handled = none from I.ok.hd hc) it a nai its.toArray) he ⟨hi, p⟩ fun h' hx' => ⟨rfl, I.turnsN (t' := s.toks) hf fun b ob hb q => hx' b ob (fun z => hb (by simp [z])) q⟩
  self := fun _ _ _ _ _ st h => by
    obtain ⟨⟨old, he⟩, _⟩ := st
    exact wpAny_pyIter_enum he h
section
variable {X : Cx} {elts : List Expr} {k0 : Nat} {tpos : Pos}
theorem new_enum (S : Src) (l : Addr) (its : Array Value) :
    Meets (Builtin.«enumerate.__new__» ⟨[.type "enumerate", .ref l], []⟩) (fun _ R s => S.Is s.heap l its ∧
      R (.ok (.ret (.ref (s.heap.push { cls := .type S.icls, data := .fields #[.ref l, .int 0 0] }).objs.size)))
        { s with heap := (s.heap.push { cls := .type S.icls, data := .fields #[.ref l, .int 0 0] }).push { cls := .type "enumerate", data := .fields #[.none, .bool false, .ref s.heap.objs.size, rawInt 0, .none, .none] } }) :=
  .of_wp fun prog w A R s h => by
    obtain ⟨hp, g, d, tk, os⟩ := s
    obtain ⟨hl, h⟩ := h
    have hsub := sub_enumerate
    have hL : S.Is (Shared.heap ⟨hp, g, d, tk, os⟩) l its := hl
    wp_walk
    refine wpAny_stack_any fun st => wpAny_pure ?_
    split
    · rename_i c _ _ _ _ _
      cases (c == Value.type "enumerate")
      · wp_walk using S.iter hL
        exact ⟨_, rfl, h⟩
      · wp_walk using S.iter hL
        exact ⟨_, rfl, h⟩
    · wp_walk using S.iter hL
      exact ⟨_, rfl, h⟩
theorem call_enum (S : Src) {prog : Program} {w : World} {A : Around} {E : Value → Shared → Prop} {s : Shared} {l : Addr} {its : Array Value} {Q : Value → Shared → Prop} (hL : S.Is s.heap l its)
    (h : ∀ h', IsEnum h' (s.heap.objs.size + 1) s.heap.objs.size 0 .none → S.It h' s.heap.objs.size l 0 → (∀ b o, s.heap.get? b = some o → h'.get? b = some o) → Q (.ref (s.heap.objs.size + 1)) { s with heap := h' }) :
    wpAny (model prog w) A (call (.type "enumerate") [.ref l]) Q E s := by
  refine callType_new F.called_enumerate (by decide) (F.typeCall_enumerate_1 _) (F.newCall_enumerate_1 _) (fun obj => F.args_object_init_2 obj _) F.entry_enumerate_new (new_enum S l its) ⟨hL, ?_⟩
  have hz : (s.heap.push { cls := .type S.icls, data := .fields #[.ref l, .int 0 0] }).objs.size = s.heap.objs.size + 1 := Heap.size_push ..
  show _ ∧ _
  rw [hz]
  have he := Heap.get?_push_size (s.heap.push { cls := .type S.icls, data := .fields #[.ref l, .int 0 0] }) (o := { cls := .type "enumerate", data := .fields #[.none, .bool false, .ref s.heap.objs.size, rawInt 0, .none, .none] }) rfl
  rw [hz] at he
  exact ⟨⟨_, he, rfl⟩, h _ he (S.mkI (Heap.get?_push_of_some _ (Heap.get?_push_size _ rfl)) rfl rfl) fun b o q => Heap.get?_push_of_some _ (Heap.get?_push_of_some _ q)⟩
noncomputable def iEnum (S : Src) (K : PySem.W.Frag) (ta : TA) : TI := fun σ H R => ta σ H fun vs H1 => ∃ a xs, vs = [.ref a] ∧ S.Sq K H1 a xs ∧ R (Ite S K a) H1
theorem pi_enum (S : Src) {a : Expr} {ta : TA} {p pos : Pos} (hg : Gl X "enumerate") (hm : X.mg "enumerate" = none) (hS : S.icls ≠ "enumerate") (ha : PA X [a] ta) (hs : starEach [a] X.env = [(false, eval a X.env)] := by rfl) :
    PI X (.Tuple elts k0 tpos) (.Call (.Name "enumerate" p) [a] [] pos) (iEnum S X.K ta) := by
  intro pins s σ H R I h
  refine Call_ (ld_blt I hg hm boot_enumerate (PyProof.Rows.callWith_type1 (thn (ha pos pins s σ H _ I h) fun us s1 ⟨vs, H1, I1, r1, q1⟩ => ?_) hs rfl))
  obtain ⟨l, xs, e, hq, q⟩ := q1
  subst e
  obtain ⟨u, rfl, ru⟩ := r1.one
  cases ru
  obtain ⟨its, rv, p', hz⟩ := S.get I1 hq
  refine call_enum S p' fun h' he hi kp => wpAny_pyIter_enum he ?_
  have I2 : Inv X pins σ H1 { s1 with heap := h' } := I1.kept (t' := s1.toks) kp
  refine ⟨s1.heap.objs.size + 1, [s1.heap.objs.size + 1, s1.heap.objs.size], _, _, H1, rfl, I2, turn_enum S l _ _ hS, ⟨⟨_, he⟩, hi⟩, fun b hb => ?_, q⟩
  have hb' : s1.heap.objs.size ≤ b := by
    rcases List.mem_cons.mp hb with rfl | hb
    · exact Nat.le_succ _
    · obtain rfl := List.mem_singleton.mp hb
      exact Nat.le_refl _
  exact I1.fpOk hb' (I1.hok.fresh hb')
end
end L2

end

section
-- KcOps
set_option Elab.async false
set_option linter.all false
set_option maxRecDepth 100000
set_option maxHeartbeats 4000000
namespace L2
open PySem PySem.Spec PyProof.Rows

section
variable {X : Cx}
/-! ### isinstance(x, T) for a built-in T -/
noncomputable def rIsi (K : PySem.W.Frag) : List V → Hp → VK → Prop := fun xs H Q => ∃ x T t b, xs = [x, .ty T] ∧ TyOf K H x t ∧ PySem.W.kitOne K t (.type T) = some b ∧ Q (.bl b) H
theorem call_isi : CallR X (.builtin "isinstance") (rIsi X.K) := by
  intro pins s σ H xs us Q I r h
  obtain ⟨x, T, t, b, rfl, ty, e, q⟩ := h
  obtain ⟨u, v, rfl, ru, rv⟩ := r.two
  cases (show v = Value.type T from rv)
  exact isinst_ok I ru ty e fun tk => ⟨.bl b, H, I.tok tk, rfl, q⟩
theorem kit_int_int (K : PySem.W.Frag) : PySem.W.kitOne K (.type "int") (.type "int") = some true := by unfold PySem.W.kitOne; rw [if_pos (beq_self_eq_true _)]
theorem kit_int_bool (K : PySem.W.Frag) : PySem.W.kitOne K (.type "int") (.type "bool") = some false := by show (if (Value.type "int" == Value.type "bool") = true then some true else if PySem.W.kitMeta "bool" = true then (fastBuiltinMro "int").map (·.contains (.type "bool")) else none) = some false; decide +kernel
theorem kit_lst_lst (K : PySem.W.Frag) : PySem.W.kitOne K (.type "list") (.type "list") = some true := by unfold PySem.W.kitOne; rw [if_pos (beq_self_eq_true _)]

/-! ### all of a list of truths, sum of a list of ints -/
/-! ### == and != of two lists, two tuples, item by item: flat items, or one and the same object -/
noncomputable def EqE (x y : V) (b : Bool) : Prop := (flatV x = true ∧ flatV y = true ∧ b = eqV x y) ∨ (∃ a, x = .ref a ∧ y = .ref a ∧ b = true)
theorem EqE.at {A : Around} {s : Shared} {x y : V} {b : Bool} {u v : Value} (h : EqE x y b) (ru : RelV x u) (rv : RelV y v) : SeqAt.EqAt A s u v b := by
  rcases h with ⟨f1, f2, rfl⟩ | ⟨a, rfl, rfl, rfl⟩
  · exact eqAt_V ru rv f1 f2
  · cases ru
    cases rv
    exact SeqAt.EqAt.same _
noncomputable def EqEs (xs ys : List V) (e : Nat → Bool) : Prop := ∀ j x y, xs[j]? = some x → ys[j]? = some y → EqE x y (e j)
theorem eqes_at {A : Around} {s : Shared} {xs ys : List V} {e : Nat → Bool} {us vs : List Value} (h : EqEs xs ys e) (ru : Vals xs us) (rv : Vals ys vs) :
    ∀ j (h1 : j < us.toArray.size) (h2 : j < vs.toArray.size), SeqAt.EqAt A s us.toArray[j] vs.toArray[j] (e j) := by
  intro j h1 h2
  have h1' : j < xs.length := by rw [ru.length]; simpa using h1
  have h2' : j < ys.length := by rw [rv.length]; simpa using h2
  obtain ⟨u, eu, r1⟩ := ru.get (List.getElem?_eq_getElem h1')
  obtain ⟨v, ev, r2⟩ := rv.get (List.getElem?_eq_getElem h2')
  have q := (h j _ _ (List.getElem?_eq_getElem h1') (List.getElem?_eq_getElem h2')).at (A := A) (s := s) r1 r2
  have e1 : us.toArray[j] = u := by
    have := (List.getElem?_eq_some_iff.mp eu).2
    simpa using this
  have e2 : vs.toArray[j] = v := by
    have := (List.getElem?_eq_some_iff.mp ev).2
    simpa using this
  rw [e1, e2]
  exact q
noncomputable def eqAns (xs ys : List V) (e : Nat → Bool) : Bool := (List.range (min xs.length ys.length)).all e && xs.length == ys.length
noncomputable def rEqS (Sq : Hp → Addr → List V → Prop) (neg : Bool) : R2 := fun x y H Q => ∃ a b xs ys e, x = .ref a ∧ y = .ref b ∧ Sq H a xs ∧ Sq H b ys ∧ EqEs xs ys e ∧ Q (.bl (if neg then !eqAns xs ys e else eqAns xs ys e)) H
theorem op_eqL (hu : X.A.units < cLine) : OpR X (compareOp .Eq) (rEqS (SqL X.K) false) := by
  intro pins s σ H x y v u Q I r1 r2 h
  obtain ⟨a, b, xs, ys, e, rfl, rfl, ha, hb, he, q⟩ := h
  cases r1
  cases r2
  obtain ⟨us, ru, pu, _⟩ := I.list ha
  obtain ⟨vs, rv, pv, _⟩ := I.list hb
  have h1 := ru.length
  have h2 := rv.length
  by_cases hl : xs.length = ys.length
  · refine SeqAt.eq_listAt (e := e) pu.isList pv.isList (by simp only [List.size_toArray]; omega) hu (eqes_at he ru rv) ⟨.bl (eqAns xs ys e), H, I, ?_, q⟩
    show Value.bool _ = Value.bool _
    unfold eqAns
    rw [List.size_toArray, ← h1, hl, Nat.min_self, beq_self_eq_true, Bool.and_true]
  · refine SeqAt.eq_list_lengthsAt pu.isList pv.isList (by simp only [List.size_toArray, bne_iff_ne]; omega) hu ⟨.bl (eqAns xs ys e), H, I, ?_, q⟩
    show Value.bool _ = Value.bool _
    unfold eqAns
    rw [beq_eq_false_iff_ne.mpr hl, Bool.and_false]
theorem op_neL (hu : X.A.units < cLine) : OpR X (compareOp .NotEq) (rEqS (SqL X.K) true) := by
  intro pins s σ H x y v u Q I r1 r2 h
  obtain ⟨a, b, xs, ys, e, rfl, rfl, ha, hb, he, q⟩ := h
  cases r1
  cases r2
  obtain ⟨us, ru, pu, _⟩ := I.list ha
  obtain ⟨vs, rv, pv, _⟩ := I.list hb
  have h1 := ru.length
  have h2 := rv.length
  by_cases hl : xs.length = ys.length
  · refine SeqAt.RcNeAt.lists (e := e) pu.isList pv.isList (by simp only [List.size_toArray]; omega) hu (eqes_at he ru rv) _ _ _ _ ⟨.bl (!eqAns xs ys e), H, I, ?_, q⟩
    show Value.bool _ = Value.bool _
    unfold eqAns
    rw [List.size_toArray, ← h1, hl, Nat.min_self, beq_self_eq_true, Bool.and_true]
  · refine SeqAt.RcNeAt.lists_lengths pu.isList pv.isList (by simp only [List.size_toArray, bne_iff_ne]; omega) hu _ _ _ _ ⟨.bl (!eqAns xs ys e), H, I, ?_, q⟩
    show Value.bool _ = Value.bool _
    unfold eqAns
    rw [beq_eq_false_iff_ne.mpr hl, Bool.and_false]
    rfl
end
theorem eqes_ints (ns ms : List Int) : EqEs (ns.map V.int) (ms.map V.int) (fun j => decide (ns[j]? = ms[j]?)) := by
  intro j x y hx hy
  rw [List.getElem?_map] at hx hy
  cases e1 : ns[j]? with
  | none => rw [e1] at hx; cases hx
  | some n =>
    cases e2 : ms[j]? with
    | none => rw [e2] at hy; cases hy
    | some m =>
      rw [e1] at hx
      rw [e2] at hy
      cases hx
      cases hy
      refine .inl ⟨rfl, rfl, ?_⟩
      show decide (ns[j]? = ms[j]?) = (n == m)
      rw [e1, e2]
      by_cases h : n = m
      · subst h; simp
      · simp [h]
theorem eqAns_ints (ns ms : List Int) : eqAns (ns.map V.int) (ms.map V.int) (fun j => decide (ns[j]? = ms[j]?)) = decide (ns = ms) := by
  unfold eqAns
  rw [List.length_map, List.length_map]
  by_cases h : ns = ms
  · subst h
    simp
  · rw [decide_eq_false h]
    by_cases hl : ns.length = ms.length
    · rw [Bool.and_eq_false_iff]
      left
      rw [← Bool.not_eq_true, List.all_eq_true]
      intro q
      apply h
      apply List.ext_getElem? 
      intro j
      by_cases hj : j < ns.length
      · have := q j (by rw [List.mem_range]; omega)
        exact of_decide_eq_true this
      · rw [List.getElem?_eq_none (by omega), List.getElem?_eq_none (by omega)]
    · rw [beq_eq_false_iff_ne.mpr hl, Bool.and_false]
end L2

end

section
-- KcBase
set_option Elab.async false
set_option linter.all false
set_option maxRecDepth 100000
set_option maxHeartbeats 4000000
namespace L2
open PySem PySem.Spec PyProof.Rows

/-! ### an own def that is called, all that is asked of it in one -/
noncomputable def FnB (P : Program) (w : World) (K : PySem.W.Frag) (mg : Str → Option Value) (base : Heap) (k : Nat) (x : Str) (ps : List Str) (sp : Sp) : Prop :=
  ∃ f fd, FnOk P w K mg base CX0 k f fd ps sp ∧ mg x = some (.ref f) ∧ PySem.W.keepIn K (.ref f) = true ∧ Binds K fd ps []
theorem pe_callF {X : Cx} {k : Nat} {x : Str} {ps : List Str} {sp : Sp} {p pos : Pos} {e : Expr} {es : List Expr} {t : TA} (F : FnB X.prog X.w X.K X.mg X.base k x ps sp) (hr : Room k X.A) (ha : PA X (e :: es) t) (hg : Gl X x := by rfl)
    (hdb : (x == ("__debug__" : Str)) = false := by decide) (he : starEach (e :: es) X.env = (false, eval e X.env) :: starEach es X.env := by rfl) (hpl : (backTo pos (starEach es X.env)).any (·.1) = false := by rfl) :
    PE X (.Call (.Name x p) (e :: es) [] pos) (tCall sp [] E0 t) := by
  obtain ⟨f, fd, ok, m, kp, b⟩ := F
  exact pe_call ok hr hg m kp b .nil pass0 ha hdb he hpl
theorem FnB.mono {P : Program} {w : World} {K : PySem.W.Frag} {mg : Str → Option Value} {base : Heap} {j k : Nat} {x : Str} {ps : List Str} {sp : Sp} (F : FnB P w K mg base j x ps sp) (h : j ≤ k) : FnB P w K mg base k x ps sp := by
  obtain ⟨f, fd, ok, r⟩ := F
  exact ⟨f, fd, ok.mono h, r⟩
structure Def (K : PySem.W.Frag) (mg : Str → Option Value) (x : Str) (st : Stmt) (ps : List Str) (f : Addr) (fd : FuncData) : Prop where
  fn : Fun K x x st f fd
  m : mg x = some (.ref f)
  b : Binds K fd ps []
theorem Def.ok {P : Program} {w : World} {K : PySem.W.Frag} {mg : Str → Option Value} {base : Heap} {x : Str} {st : Stmt} {N ps : List Str} {f : Addr} {fd : FuncData} {k : Nat} {sp : Sp} (D : Def K mg x st ps f fd) (S : FnScope N ps (defScope st)) (len : ∀ vs H Q E, sp vs H Q E → vs.length = ps.length)
    (hbody : ∀ (cdv : Value) (A : Around) (outer : List Env) (s : Shared) (H : Hp) (vs : List V) (Q : VK) (E : XK), Room k (A.deeper (envOfC x (defScope st) s.heap.objs.size f cdv)) → sp vs H Q E →
      ∃ t, PSs (cxOf CX0 P w K mg base N x (defScope st) f cdv A outer s H E).nox (defBody st) t ∧ t { nx := fun _ H' => Q .non H', rt := Q } (start N vs) H) : FnB P w K mg base (k + 1) x ps sp :=
  ⟨f, fd, D.fn.ok S len hbody, D.m, D.fn.kp, D.b⟩

/-! ### products of ints of many figures -/
theorem op_mulB {X : Cx} : OpR X (binaryOp .Mult) (rI IntMulOk fun i j => .int (i * j)) := opI fun _ _ _ _ _ _ _ hc q => mul_int q hc

/-! ### the law's head, with the bits of the script's ints -/
theorem bits_items : ∀ (ns : List Int), ∀ n ∈ ns, Builtin.Int.intBits n ≤ PySem.W.WData.weightAll (ns.map PySem.W.WData.int)
  | [], n, h => (nomatch h)
  | m :: r, n, h => by
    rw [List.map_cons, PySem.W.WData.weightAll]
    have e : PySem.W.WData.weight (.int m) = Builtin.Int.intBits m := by
      rw [PySem.W.WData.weight]
      rfl
    rw [e]
    rcases List.mem_cons.mp h with rfl | h
    · omega
    · have := bits_items r n h
      omega
theorem bits_of_lay {ns : List Int} (h : PySem.W.WData.layableAll [PySem.W.WData.list (ns.map PySem.W.WData.int)] = true) : ∀ n ∈ ns, Builtin.Int.intBits n ≤ 1048576 := by
  intro n hn
  have h1 : PySem.W.WData.layable (PySem.W.WData.list (ns.map PySem.W.WData.int)) = true := by
    unfold PySem.W.WData.layableAll at h
    rw [List.all_cons, Bool.and_eq_true] at h
    exact h.1
  unfold PySem.W.WData.layable at h1
  rw [Bool.and_eq_true] at h1
  have h2 : PySem.W.WData.weight (PySem.W.WData.list (ns.map PySem.W.WData.int)) ≤ 2 ^ 20 := of_decide_eq_true h1.2
  rw [PySem.W.WData.weight] at h2
  have h3 := bits_items ns n hn
  have e : (2 : Nat) ^ 20 = 1048576 := by decide
  omega
noncomputable def ScriptOk (K : PySem.W.Frag) (H : Hp) (a : Addr) (ns : List Int) : Prop := SqL K H a (ns.map V.int) ∧ ns.length ≤ 63 ∧ ∀ n ∈ ns, Builtin.Int.intBits n ≤ 1048576
noncomputable def spLaw (K : PySem.W.Frag) : Sp := fun vs H Q _ => ∃ (a : Addr) (ns : List Int), vs = [.ref a] ∧ ScriptOk K H a ns ∧ ∀ H', Q (.bl true) H'
theorem walk_ofB {l : PySem.W.OpenLaw} {k : Nat} {q : Program} {loose : List Str} {XP : (Str → Option Value) → Heap → Prop} {YP : World → Heap → Prop} {d : DefRec} {K : Params → PySem.W.Frag} {x : Str}
    (hn : l.most = some 63) (hdf : d.params.defaults = []) (hr : Room k callerA) (hY : ∀ (w : World) (h : Heap), YP w h → (K w.params).In h)
    (F : ∀ (w : World) (mg : Str → Option Value) (fa : Addr) (h : Heap), (K w.params).In h → h.Ns mainGlobals mg → mg d.name = some (.ref fa) →
      ∃ fd : FuncData, (∀ (s : Shared) (u : Value), BindsTo s fd ⟨[u], []⟩ [(x, u)]) ∧
        ∀ base : Heap, (K w.params).In base → base.Ns mainGlobals mg → FnOk l.prog w (K w.params) mg base CX0 k fa fd [x] (spLaw (K w.params))) :
    PySem.W.WalkO q loose XP YP l.row.toRowW d [] (fun f vs => PySem.call f vs) := by
  intro w s₀ s₁ mg mb G Y fa o pm cd doc dV kV ho hd hcd hD hmg hg args vals as hpre hlay hrd hwl hlo
  obtain rfl : dV = .none := PySem.W.Dflts.none hD hdf
  obtain rfl : kV = .none := PySem.W.Dflts.noKw hD
  obtain ⟨a, vs, ns, rfl, rfl, hobj, hints, hlen⟩ := Att.script_of hn hpre hwl
  have hbits := bits_of_lay hlay
  have KX := hY w _ Y
  obtain ⟨fd, hb, hF⟩ := F w mg fa _ KX G.T.g hmg
  have c := law_call KX G.T.g G.T.b G.T.builtins G.T.nolimit hg hobj hints (Nat.le_trans hlen (by decide)) hr hF hb (fun H hO hS => ⟨a, ns, rfl, ⟨hS, hlen, hbits⟩, fun _ => rfl⟩) fun H e s' z => z
  refine PySem.W.enter_call (codeAny_mono c fun r s' hq => ?_)
  obtain ⟨rfl, h2, h3, h4⟩ := hq
  exact ⟨.inl ⟨.bool true, .bool true, [], rfl, fun _ => rfl, .bool true, Att.post_true l _, fun _ => ⟨List.Pairwise.nil, fun _ hm => (nomatch hm)⟩⟩, h2, h3, h4⟩

/-! ### loops over any source -/
theorem for_of {J : It} {n : Nat} {g : TG} {tb : TS} {D : Ends} {σ : St} {H : Hp} {Y : Nat → Hp → V → Hp → Prop} (Pv : Nat → St → Hp → Prop) (h0 : Pv 0 σ H) (hgo : ∀ i σ H, i < n → Pv i σ H → J.go i H) (hst : ∀ σ H, Pv n σ H → J.stop n H)
    (hy : ∀ i σ H x H1, i < n → Pv i σ H → J.yld i H x H1 → Y i H x H1) (hs : ∀ i x σ H H1, i < n → Pv i σ H → Y i H x H1 → g x σ H1 fun σ2 H2 => tb { D with nx := Pv (i + 1), ct := Pv (i + 1), bk := D.nx } σ2 H2) (hd : ∀ σ H, Pv n σ H → D.nx σ H) :
    ∃ W : Nat → Nat → St → Hp → Prop, (∃ m, W 0 m σ H) ∧ ∀ i m σ H, W i m σ H →
      (J.stop i H ∧ D.nx σ H) ∨ (J.go i H ∧ ∃ N : St → Hp → Prop, (∀ σ' H', N σ' H' → ∃ m', m' < m ∧ W (i + 1) m' σ' H') ∧ ∀ x H', J.yld i H x H' → g x σ H' fun σ2 H2 => tb { D with nx := N, ct := N, bk := D.nx } σ2 H2) := by
  refine ⟨fun i m σ H => m = n - i ∧ i ≤ n ∧ Pv i σ H, ⟨n, by simp, Nat.zero_le _, h0⟩, ?_⟩
  rintro i m σ H ⟨rfl, hi, p⟩
  by_cases hlt : i < n
  · exact .inr ⟨hgo i σ H hlt p, Pv (i + 1), fun σ' H' p' => ⟨n - (i + 1), by omega, rfl, hlt, p'⟩, fun x H' y => hs i x σ H H' hlt p (hy i σ H x H' hlt p y)⟩
  · have e : i = n := by omega
    subst e
    exact .inl ⟨hst σ H p, hd σ H p⟩
theorem for_enum {S : Src} {K : PySem.W.Frag} {a : Addr} {xs : List V} {g : TG} {tb : TS} {D : Ends} {σ : St} {H : Hp} (Pv : Nat → St → Hp → Prop) (h0 : Pv 0 σ H) (hl : ∀ i σ H, i ≤ xs.length → Pv i σ H → S.Sq K H a xs)
    (hs : ∀ i x T σ H, xs[i]? = some x → Pv i σ H → H T = none → g (.ref T) σ (upd H T (.tup [.int i, x])) fun σ2 H2 => tb { D with nx := Pv (i + 1), ct := Pv (i + 1), bk := D.nx } σ2 H2) (hd : ∀ σ H, Pv xs.length σ H → D.nx σ H) :
    ∃ W : Nat → Nat → St → Hp → Prop, (∃ m, W 0 m σ H) ∧ ∀ i m σ H, W i m σ H →
      ((Ite S K a).stop i H ∧ D.nx σ H) ∨ ((Ite S K a).go i H ∧ ∃ N : St → Hp → Prop, (∀ σ' H', N σ' H' → ∃ m', m' < m ∧ W (i + 1) m' σ' H') ∧ ∀ x H', (Ite S K a).yld i H x H' → g x σ H' fun σ2 H2 => tb { D with nx := N, ct := N, bk := D.nx } σ2 H2) :=
  for_of (J := Ite S K a) (n := xs.length) (Y := fun i H x H1 => ∃ T v, H T = none ∧ x = .ref T ∧ H1 = upd H T (.tup [.int i, v]) ∧ xs[i]? = some v) Pv h0 (fun i σ H hi w => ⟨xs, xs[i], hl i σ H (Nat.le_of_lt hi) w, by simp [hi]⟩) (fun σ H w => ⟨xs, hl _ σ H (Nat.le_refl _) w, rfl⟩)
    (fun i σ H x H1 hi w y => by
      obtain ⟨T, v, e1, e2, e3, e4⟩ := y
      exact ⟨T, v, e1, e2, e3, e4 xs (hl i σ H (Nat.le_of_lt hi) w)⟩) (fun i x σ H H1 hi w y => by
      obtain ⟨T, v, e1, rfl, rfl, e4⟩ := y
      exact hs i v T σ H e4 w e1) hd
/-! ### two names at once -/
/-! ### heaps -/
theorem same_new {H : Hp} {p : Addr} (h : H p = none) (o : HO) : Same H (upd H p o) := fun b u q => by rw [upd_ne (ne_of_none q h)]; exact q
theorem Same.upd {H H' : Hp} {p : Addr} (s : Same H H') (h : H p = none) (o : HO) : Same H (upd H' p o) := fun b u q => by rw [upd_ne (ne_of_none q h)]; exact s b u q
theorem Same.tup {K : PySem.W.Frag} {H H' : Hp} {a : Addr} {xs : List V} (e : Same H H') (h : SqT K H a xs) : SqT K H' a xs := by
  rcases h with (h | ⟨o, h⟩) | h
  · exact .inl (.inl (e _ _ h))
  · exact .inl (.inr ⟨o, e _ _ h⟩)
  · exact .inr h
theorem small {n : Nat} (h : n ≤ 1000) : n ≤ sizeLine := Nat.le_of_lt (small1000 h)
theorem atI_ints {ns : List Int} {k : Int} (h0 : 0 ≤ k) (h1 : k < (ns.length : Int)) : atI (ns.map V.int) k = some (.int (ns.getD k.toNat 0)) := by
  have hk : k.toNat < ns.length := by omega
  have e : k = ((k.toNat : Nat) : Int) := by omega
  have q : atI (ns.map V.int) ((k.toNat : Nat) : Int) = some (.int (ns.getD k.toNat 0)) := atI_nat (by rw [List.getElem?_map, List.getElem?_eq_getElem hk, List.getD_eq_getElem?_getD, List.getElem?_eq_getElem hk] <;> rfl)
  rw [← e] at q
  exact q
/-! ### the numbers out of a script: within it the cell, beyond it a draw -/
noncomputable def cellN (ns : List Int) (k : Int) : Int :=
  if k < (ns.length : Int) then ns.getD k.toNat 0 else
    let n0 := if 0 < (ns.length : Int) then ns.getD ((k * 7) % (ns.length : Int)).toNat 0 * 48271 + k * 7919 else k * 7919 + 5
    let n1 := n0 * n0 % 2147483629
    (n1 + k) * (n1 + 69621) % 2147483587
noncomputable def spCell (K : PySem.W.Frag) : Sp := fun vs H Q _ => ∃ (a : Addr) (ns : List Int) (k : Int), vs = [.ref a, .int k] ∧ ScriptOk K H a ns ∧ 0 ≤ k ∧ k ≤ 1000000 ∧ Q (.int (cellN ns k)) H
theorem ScriptOk.same {K : PySem.W.Frag} {H H' : Hp} {a : Addr} {ns : List Int} (h : ScriptOk K H a ns) (s : Same H H') : ScriptOk K H' a ns := ⟨s.seq h.1, h.2⟩
structure Blt (mg : Str → Option Value) : Prop where
  len : mg "len" = none
  range : mg "range" = none
  tuple : mg "tuple" = none
  list : mg "list" = none
  int : mg "int" = none
  bool : mg "bool" = none
  str : mg "str" = none
  dict : mg "dict" = none
  sum : mg "sum" = none
  all : mg "all" = none
  min : mg "min" = none
  max : mg "max" = none
  sorted : mg "sorted" = none
  enumerate : mg "enumerate" = none
  zip : mg "zip" = none
  isinstance : mg "isinstance" = none
theorem bits_getD {ns : List Int} (h : ∀ n ∈ ns, Builtin.Int.intBits n ≤ 1048576) (i : Nat) : Builtin.Int.intBits (ns.getD i 0) ≤ 1048576 := by
  rw [List.getD_eq_getElem?_getD]
  cases e : ns[i]? with
  | none => show Builtin.Int.intBits 0 ≤ _; decide
  | some n => exact h n (List.mem_of_getElem? e)
end L2

end

section
-- KcZip
set_option Elab.async false
set_option linter.all false
set_option maxRecDepth 100000
set_option maxHeartbeats 4000000
namespace L2
open PySem PySem.Spec PyProof.Rows

/-! ### zip of two sources, its tuples unpacked -/
structure ZApart (z TI TO j1 j2 : Addr) (fp1 fp2 : List Addr) : Prop where
  a1 : TI ≠ z
  a2 : TO ≠ z
  a3 : j1 ≠ z
  a4 : j2 ≠ z
  a5 : TI ≠ TO
  a6 : TI ≠ j1
  a7 : TI ≠ j2
  a8 : TO ≠ j1
  a9 : TO ≠ j2
  b0 : j1 ≠ j2
  b1 : z ∉ fp1
  b2 : TO ∉ fp1
  b3 : j2 ∉ fp1
  b4 : z ∉ fp2
  b5 : TO ∉ fp2
  b6 : j1 ∉ fp2
section
variable {prog : Program} {w : World} {A : Around} {E : Value → Shared → Prop} {s : Shared}
theorem _root_.PySem.Draws.but {it : Addr} {fp : List Addr} {n i : Nat} {P : Nat → Value → Prop} {St : Nat → Heap → Prop} {h h' : Heap} {c : Addr} (D : Draws prog w A it fp n P St) (hst : St i h) (hs : Heap.SameBut c h h') (hc : c ∉ fp) : St i h' :=
  D.frame i _ _ hst fun b hb o e => hs.extBut b o (fun z => hc (by rw [← z]; exact hb)) e
end
noncomputable def Itz (S1 S2 : Src) (K : PySem.W.Frag) (a b : Addr) : It :=
  ⟨fun i H => ∃ xs ys x y, S1.Sq K H a xs ∧ S2.Sq K H b ys ∧ xs[i]? = some x ∧ ys[i]? = some y,
   fun i H x H' => ∃ T u v, H T = none ∧ x = .ref T ∧ H' = upd H T (.tup [u, v]) ∧ ∀ xs ys, S1.Sq K H a xs → S2.Sq K H b ys → xs[i]? = some u ∧ ys[i]? = some v,
   fun i H => ∃ xs ys, S1.Sq K H a xs ∧ S2.Sq K H b ys ∧ min xs.length ys.length = i⟩
section
variable {X : Cx} {elts : List Expr} {k0 : Nat} {tpos : Pos}
noncomputable def iZip (S1 S2 : Src) (K : PySem.W.Frag) (ta : TA) : TI := fun σ H R => ta σ H fun vs H1 => ∃ a b xs ys, vs = [.ref a, .ref b] ∧ S1.Sq K H1 a xs ∧ S2.Sq K H1 b ys ∧ R (Itz S1 S2 K a b) H1
end
end L2

end

section
-- KcMore
set_option Elab.async false
set_option linter.all false
set_option maxRecDepth 100000
set_option maxHeartbeats 4000000
namespace L2
open PySem PySem.Spec PyProof.Rows

section
variable {X : Cx}
/-! ### t + u, whatever is empty -/
/-! ### t.count(x): flat items -/
noncomputable def tBT (r : V → List V → Hp → VK → Prop) (to : TE) (t : TA) : TE := fun σ H Q => to σ H fun x H1 => (∃ a xs, x = .ref a ∧ H1 a = some (.tup xs)) ∧ t σ H1 fun xs H2 => r x xs H2 Q
/-! ### max of a list of ints, xs.index(m) -/
end
end L2

end

section
-- KcRd
set_option Elab.async false
set_option linter.all false
set_option maxRecDepth 100000
set_option maxHeartbeats 4000000
namespace L2
open PySem
/-! ### the reading of a term, one step a row -/
section
variable {σ : St} {H : Hp} {Q : VK} {D : Ends} {K : PySem.W.Frag}
theorem r_seq {t u : TS} (h : t { nx := u D, rt := D.rt, bk := D.bk, ct := D.ct } σ H) : tSeq t u D σ H := h
theorem r_seq_n {t u : TS} (h : ∀ NX : St → Hp → Prop, (∀ σ H, u D σ H → NX σ H) → t { nx := NX, rt := D.rt, bk := D.bk, ct := D.ct } σ H) : tSeq t u D σ H := h _ fun _ _ h => h
theorem r_next (h : D.nx σ H) : tNext D σ H := h
theorem r_asg {te : TE} {g : TG} (h : te σ H fun x H1 => g x σ H1 D.nx) : tAsg te g D σ H := h
theorem r_ret {te : TE} (h : te σ H D.rt) : tRet te D σ H := h
theorem r_retN (h : D.rt .non H) : tRetN D σ H := h
theorem r_drop {te : TE} (h : te σ H fun _ H1 => D.nx σ H1) : tDrop te D σ H := h
theorem r_ifS {c : TT} {t u : TS} (h : c σ H fun b H1 => if b = true then t D σ H1 else u D σ H1) : tIfS c t u D σ H := h
theorem r_break (h : D.bk σ H) : tBreak D σ H := h
theorem r_cont (h : D.ct σ H) : tCont D σ H := h
theorem r_name {i : Nat} {v : V} {R : St → Hp → Prop} (h : R (σ.set i (some v)) H) : gName i v σ H R := h
theorem r_gsub {to ti : TE} {t : TSet} {v : V} {R : St → Hp → Prop} (h : to σ H fun o H1 => ti σ H1 fun i H2 => t o i v H2 fun H3 => R σ H3) : gSub to ti t v σ H R := h
theorem r_setL {p : Addr} {xs : List V} {k : Int} {v : V} {R : Hp → Prop} {j : Nat} (e : H p = some (.lst xs)) (hj : ixN xs.length k = some j) (h : R (upd H p (.lst (xs.set j v)))) : rSetL (.ref p) (.int k) v H R := ⟨p, xs, k, j, rfl, rfl, e, hj, h⟩
theorem r_var {i : Nat} {v : V} (e : σ[i]? = some (some v)) (h : Q v H) : tVar i σ H Q := ⟨v, e, h⟩
theorem r_c {v : V} (h : Q v H) : tC v σ H Q := h
theorem r_op {r : R2} {ta tb : TE} (h : ta σ H fun x H1 => tb σ H1 fun y H2 => r x y H2 Q) : tOp r ta tb σ H Q := h
theorem r_un {r : V → Hp → VK → Prop} {ta : TE} (h : ta σ H fun x H1 => r x H1 Q) : tUn r ta σ H Q := h
theorem r_I0 {g : Int → Int → V} {i j : Int} (h : Q (g i j) H) : rI0 g (.int i) (.int j) H Q := ⟨i, j, rfl, rfl, h⟩
theorem r_I {C : Int → Int → Prop} {g : Int → Int → V} {i j : Int} (c : C i j) (h : Q (g i j) H) : rI C g (.int i) (.int j) H Q := ⟨i, j, rfl, rfl, c, h⟩
theorem r_U {g : Int → V} {i : Int} (h : Q (g i) H) : rU g (.int i) H Q := ⟨i, rfl, h⟩
theorem r_eqI {i j : Int} (h : Q (.bl (decide (i = j))) H) : rEq (.int i) (.int j) H Q := ⟨rfl, by rw [show decide (V.int i = V.int j) = decide (i = j) from decide_eq_decide.mpr ⟨fun e => by injection e, fun e => by rw [e]⟩]; exact h⟩
theorem r_neI {i j : Int} (h : Q (.bl (!decide (i = j))) H) : rNe (.int i) (.int j) H Q := ⟨rfl, by rw [show decide (V.int i = V.int j) = decide (i = j) from decide_eq_decide.mpr ⟨fun e => by injection e, fun e => by rw [e]⟩]; exact h⟩
theorem r_eqB {i j : Bool} (h : Q (.bl (i == j)) H) : rEq (.bl i) (.bl j) H Q := ⟨rfl, by rw [show decide (V.bl i = V.bl j) = (i == j) by cases i <;> cases j <;> rfl]; exact h⟩
theorem r_neB {i j : Bool} (h : Q (.bl (!(i == j))) H) : rNe (.bl i) (.bl j) H Q := ⟨rfl, by rw [show decide (V.bl i = V.bl j) = (i == j) by cases i <;> cases j <;> rfl]; exact h⟩
theorem r_test {t : TE} {R : Bool → Hp → Prop} (h : t σ H fun x H' => ∃ k, x = .bl k ∧ R k H') : tTest t σ H R := h
theorem r_tb {t : TE} {R : Bool → Hp → Prop} (h : t σ H fun x H' => ∃ k, x = .bl k ∧ R k H') : tB t σ H R := h
theorem r_bl {b : Bool} {R : Bool → Prop} (h : R b) : ∃ k, V.bl b = .bl k ∧ R k := ⟨b, rfl, h⟩
theorem r_and {t u : TT} {R : Bool → Hp → Prop} (h : t σ H fun c H1 => if c = true then u σ H1 R else R false H1) : tAnd t u σ H R := h
theorem r_or {t u : TT} {R : Bool → Hp → Prop} (h : t σ H fun c H1 => if c = true then R true H1 else u σ H1 R) : tOr t u σ H R := h
theorem r_not {t : TT} {R : Bool → Hp → Prop} (h : t σ H fun c H1 => R (!c) H1) : tNot t σ H R := h
theorem r_andV {ta tb : TE} (h : ta σ H fun x H1 => ∃ c, x = .bl c ∧ if c = true then tb σ H1 Q else Q (.bl false) H1) : tAndV ta tb σ H Q := h
theorem r_orV {ta tb : TE} (h : ta σ H fun x H1 => ∃ c, x = .bl c ∧ if c = true then Q (.bl true) H1 else tb σ H1 Q) : tOrV ta tb σ H Q := h
theorem r_notV {ta : TE} (h : ta σ H fun x H1 => ∃ c, x = .bl c ∧ Q (.bl (!c)) H1) : tNotV ta σ H Q := h
theorem r_if {t : TT} {ta tb : TE} (h : t σ H fun c H1 => if c = true then ta σ H1 Q else tb σ H1 Q) : tIf t ta tb σ H Q := h
theorem r_chain {r r' : R2} {ta tb tc : TE} (h : ta σ H fun x H1 => tb σ H1 fun y H2 => r x y H2 fun z H3 => ∃ k, z = .bl k ∧ (if k = true then tc σ H3 fun w' H4 => r' y w' H4 Q else Q (.bl false) H3)) : tChain r r' ta tb tc σ H Q := h
theorem r_nil {R : List V → Hp → Prop} (h : R [] H) : tNil σ H R := h
theorem r_cons {ta : TE} {tr : TA} {R : List V → Hp → Prop} (h : ta σ H fun x H1 => tr σ H1 fun xs H2 => R (x :: xs) H2) : tCons ta tr σ H R := h
theorem r_call {sp : Sp} {E : XK} {t : TA} (h : t σ H fun vs H1 => sp vs H1 Q E) : tCall sp [] E t σ H Q := by
  show t σ H fun vs H1 => sp (vs ++ []) H1 Q E
  simpa only [List.append_nil] using h
theorem r_cb {r : List V → Hp → VK → Prop} {t : TA} (h : t σ H fun vs H1 => r vs H1 Q) : tCB r t σ H Q := h
theorem r_bm {T : String} {r : V → List V → Hp → VK → Prop} {to : TE} {t : TA} (h : to σ H fun x H1 => tyV K T x H1 ∧ t σ H1 fun xs H2 => r x xs H2 Q) : tBM K T r to t σ H Q := h
theorem r_bm0 {T : String} {r : V → List V → Hp → VK → Prop} {to : TE} (h : to σ H fun x H1 => tyV K T x H1 ∧ r x [] H1 Q) : tBM0 K T r to σ H Q := h
theorem r_bt {r : V → List V → Hp → VK → Prop} {to : TE} {t : TA} (h : to σ H fun x H1 => (∃ a xs, x = .ref a ∧ H1 a = some (.tup xs)) ∧ t σ H1 fun xs H2 => r x xs H2 Q) : tBT r to t σ H Q := h
theorem r_sl {r : V → Option Int → Option Int → Hp → VK → Prop} {te : TE} {tl th : TO} (h : te σ H fun x H1 => tl σ H1 fun l H2 => th σ H2 fun u H3 => r x l u H3 Q) : tSl r te tl th σ H Q := h
theorem r_nopart {R : Option Int → Hp → Prop} (h : R none H) : tNoPart σ H R := h
theorem r_part {t : TE} {R : Option Int → Hp → Prop} (h : t σ H fun x H1 => ∃ i, x = .int i ∧ R (some i) H1) : tPart t σ H R := h
theorem r_int {i : Int} {R : Int → Prop} (h : R i) : ∃ j, V.int i = .int j ∧ R j := ⟨i, rfl, h⟩
/-! loops: their sources -/
theorem r_for {wi : TI} {g : TG} {tb : TS} (h : wi σ H fun J H1 => ∃ W : Nat → Nat → St → Hp → Prop, (∃ m, W 0 m σ H1) ∧ ∀ i m σ H, W i m σ H →
    (J.stop i H ∧ D.nx σ H) ∨ (J.go i H ∧ ∃ N : St → Hp → Prop, (∀ σ' H', N σ' H' → ∃ m', m' < m ∧ W (i + 1) m' σ' H') ∧ ∀ x H', J.yld i H x H' → g x σ H' fun σ2 H2 => tb { D with nx := N, ct := N, bk := D.nx } σ2 H2)) : tFor wi g tb D σ H := h
theorem r_comp {wi : TI} {g : CF TG} {tt : CF TT} {te : CF TE} {ix : List (Option Nat)} (h : wi σ H fun J H1 => ∀ p, H1 p = none →
    ∃ W : Nat → Nat → List V → Hp → Prop, (∃ m, W 0 m [] (upd H1 p (.lst []))) ∧ ∀ C s' H' fp, CompBody J (g C s' H' fp) (tt C s' H' fp) (te C s' H' fp) (sub ix σ) p Q W) : tComp wi g tt te ix σ H Q := h
section
variable {R : It → Hp → Prop}
theorem r_iList {tl : TE} (h : tl σ H fun x H1 => ∃ a, x = .ref a ∧ (∃ xs, SqL K H1 a xs) ∧ R (Itl K a) H1) : iList K tl σ H R := h
theorem r_iTup {tl : TE} (h : tl σ H fun x H1 => ∃ a, x = .ref a ∧ (∃ xs, SqT K H1 a xs) ∧ R (Itt K a) H1) : iTup K tl σ H R := h
theorem r_iRng1 {ta : TA} (h : ta σ H fun vs H1 => ∃ j : Int, vs = [.int j] ∧ -(2 ^ 62) ≤ j ∧ j < 2 ^ 62 ∧ R (Itr 0 j.toNat) H1) : iRng1 ta σ H R := h
theorem r_iRng2 {ta : TA} (h : ta σ H fun vs H1 => ∃ i j : Int, vs = [.int i, .int j] ∧ (-(2 ^ 62) ≤ i ∧ i < 2 ^ 62 ∧ -(2 ^ 62) ≤ j ∧ j < 2 ^ 62) ∧ R (Itr i (j - i).toNat) H1) : iRng2 ta σ H R := h
theorem r_iEnum {S : Src} {ta : TA} (h : ta σ H fun vs H1 => ∃ a xs, vs = [.ref a] ∧ S.Sq K H1 a xs ∧ R (Ite S K a) H1) : iEnum S K ta σ H R := h
theorem r_iZip {S1 S2 : Src} {ta : TA} (h : ta σ H fun vs H1 => ∃ a b xs ys, vs = [.ref a, .ref b] ∧ S1.Sq K H1 a xs ∧ S2.Sq K H1 b ys ∧ R (Itz S1 S2 K a b) H1) : iZip S1 S2 K ta σ H R := h
end
/-! the heap -/
noncomputable def Off (l : Addr) (H H' : Hp) : Prop := ∀ b, b ≠ l → H' b = H b
theorem off_upd {l : Addr} {o : HO} : Off l H (upd H l o) := fun b hb => upd_ne hb
theorem Same.off {H0 H' : Hp} {l : Addr} (s : Same H0 H) (h : H0 l = none) (o : Off l H H') : Same H0 H' := fun b u q => by rw [o b (ne_of_none q h)]; exact s b u q
noncomputable def Keep (H H' : Hp) : Prop := ∀ b xs, H b = some (.tup xs) → H' b = some (.tup xs)
theorem Keep.refl (H : Hp) : Keep H H := fun _ _ h => h
theorem Same.keep {H' : Hp} (s : Same H H') : Keep H H' := fun b _ h => s b _ h
theorem Keep.trans {H1 H2 : Hp} (a : Keep H H1) (b : Keep H1 H2) : Keep H H2 := fun c o h => b c o (a c o h)
theorem Off.keep {H' : Hp} {l : Addr} {xs : List V} (o : Off l H H') (e : H l = some (.lst xs)) : Keep H H' := fun b ys q => by
  rw [o b (ne_of q e (by intro z; cases z))]
  exact q
theorem r_tup0 {t : TA} (h : t σ H fun xs H1 => xs.length ≤ sizeLine ∧ ∀ p, H1 p = none → Q (.ref p) (upd H1 p (.tup xs))) : tTup t σ H Q := h
theorem r_lst0 {t : TA} (h : t σ H fun xs H1 => xs.length ≤ sizeLine ∧ ∀ p, H1 p = none → Q (.ref p) (upd H1 p (.lst xs))) : tLst t σ H Q := h
theorem r_append {l : Addr} {xs : List V} {y : V} (e : H l = some (.lst xs)) (hz : xs.length < sizeLine) (h : ∀ H', Off l H H' → H' l = some (.lst (xs ++ [y])) → Q .non H') : rAppend (.ref l) [y] H Q := ⟨l, xs, y, rfl, rfl, e, hz, h _ off_upd upd_same⟩
theorem r_tyL {l : Addr} {xs : List V} (e : H l = some (.lst xs)) : tyV K "list" (.ref l) H := .inl ⟨rfl, xs, SqL.of e⟩
theorem r_ixL {l : Addr} {xs : List V} {i : Int} {v : V} (e : SqL K H l xs) (hv : atI xs i = some v) (h : Q v H) : rIxL K (.ref l) (.int i) H Q := ⟨l, xs, i, v, rfl, rfl, e, hv, h⟩
theorem r_ixT {l : Addr} {xs : List V} {i : Int} {v : V} (e : SqT K H l xs) (hv : atI xs i = some v) (h : Q v H) : rIxT K (.ref l) (.int i) H Q := ⟨l, xs, i, v, rfl, rfl, e, hv, h⟩
end
/-! ### tests -/
theorem ite_dec {p A B : Prop} [Decidable p] (h1 : p → A) (h2 : ¬ p → B) : if decide p = true then A else B := by
  by_cases h : p
  · rw [if_pos (decide_eq_true h)]; exact h1 h
  · rw [if_neg (by rw [decide_eq_false h]; exact Bool.false_ne_true)]; exact h2 h
theorem ite_ndec {p A B : Prop} [Decidable p] (h1 : ¬ p → A) (h2 : p → B) : if (!decide p) = true then A else B := by
  by_cases h : p
  · rw [if_neg (by rw [decide_eq_true h]; exact Bool.false_ne_true)]; exact h2 h
  · rw [if_pos (by rw [decide_eq_false h]; rfl)]; exact h1 h
theorem ite_no {p A B : Prop} [Decidable p] (h : ¬ p) (h1 : B) : if decide p = true then A else B := ite_dec (fun n => absurd n h) (fun _ => h1)
theorem ite_nb {b : Bool} {A B : Prop} (h1 : b = false → A) (h2 : b = true → B) : if (!b) = true then A else B := by cases b; exact iteT (h1 rfl); exact iteF (h2 rfl)
theorem iteNT {A B : Prop} (h : B) : if (!true) = true then A else B := by exact iteF h
theorem iteNF {A B : Prop} (h : A) : if (!false) = true then A else B := by exact iteT h
theorem r_always {σ : St} {H : Hp} {R : Bool → Hp → Prop} (h : R true H) : tAlways σ H R := h
theorem wh_go {B : (St → Hp → Prop) → Prop} {R : St → Hp → Prop} (h : B R) : ∃ N : St → Hp → Prop, (∀ σ' H', N σ' H' → R σ' H') ∧ B N := ⟨R, fun _ _ h => h, h⟩
theorem wh_in {c : TT} {tb : TS} {D : Ends} {σ : St} {H : Hp} (W : Nat → St → Hp → Prop) (m : Nat) (h0 : W m σ H) (h : ∀ m σ H, W m σ H → c σ H fun b H1 => if b = true then ∃ N : St → Hp → Prop, (∀ σ' H', N σ' H' → ∃ m', m' < m ∧ W m' σ' H') ∧ tb { D with nx := N, ct := N, bk := D.nx } σ H1 else D.nx σ H1) :
    tWhile c tb D σ H := ⟨W, ⟨m, h0⟩, h⟩
/-! ### the calls of built-ins, by their names -/
noncomputable def cLen (K : PySem.W.Frag) : List V → Hp → VK → Prop := fun xs H Q => ∃ p ys, xs = [.ref p] ∧ (SqL K H p ys ∨ SqT K H p ys) ∧ Q (.int ys.length) H
noncomputable def cMin2 : List V → Hp → VK → Prop := fun xs H Q => ∃ i j, xs = [.int i, .int j] ∧ Q (.int (if j < i then j else i)) H
noncomputable def cMax2 : List V → Hp → VK → Prop := fun xs H Q => ∃ i j, xs = [.int i, .int j] ∧ Q (.int (if j > i then j else i)) H
noncomputable def cInt : List V → Hp → VK → Prop := fun xs H Q => (∃ i, xs = [.int i] ∧ Q (.int i) H) ∨ ∃ k, xs = [.bl k] ∧ Q (.int (if k then 1 else 0)) H
section
variable {K : PySem.W.Frag} {H : Hp} {Q : VK}
theorem r_len {l : Addr} {ys : List V} (e : SqL K H l ys) (h : Q (.int ys.length) H) : cLen K [.ref l] H Q := ⟨l, ys, rfl, .inl e, h⟩
theorem r_lenTu {l : Addr} {ys : List V} (e : SqT K H l ys) (h : Q (.int ys.length) H) : cLen K [.ref l] H Q := ⟨l, ys, rfl, .inr e, h⟩
theorem r_min2 {i j : Int} (h : Q (.int (if j < i then j else i)) H) : cMin2 [.int i, .int j] H Q := ⟨i, j, rfl, h⟩
theorem r_max2 {i j : Int} (h : Q (.int (if j > i then j else i)) H) : cMax2 [.int i, .int j] H Q := ⟨i, j, rfl, h⟩
theorem r_intI {i : Int} (h : Q (.int i) H) : cInt [.int i] H Q := .inl ⟨i, rfl, h⟩
theorem r_intB {k : Bool} (h : Q (.int (if k then 1 else 0)) H) : cInt [.bl k] H Q := .inr ⟨k, rfl, h⟩
end
/-! ### new things: any heap that has one more -/
noncomputable def New (H : Hp) (o : HO) (Q : Addr → Hp → Prop) : Prop := ∀ p H', H p = none → Same H H' → H' p = some o → Q p H'
theorem New.upd {H : Hp} {o : HO} {Q : Addr → Hp → Prop} (h : New H o Q) : ∀ p, H p = none → Q p (upd H p o) := fun p hp => h p _ hp (same_new hp _) upd_same
noncomputable def mTup (t : TA) : TE := fun σ H Q => t σ H fun xs H1 => xs.length ≤ sizeLine ∧ New H1 (.tup xs) fun p H2 => Q (.ref p) H2
noncomputable def mLst (t : TA) : TE := fun σ H Q => t σ H fun xs H1 => xs.length ≤ sizeLine ∧ New H1 (.lst xs) fun p H2 => Q (.ref p) H2
noncomputable def mRep : R2 := fun x y H Q => ∃ l k xs, x = .ref l ∧ y = .int k ∧ H l = some (.lst xs) ∧ -(2 ^ 63) ≤ k ∧ k < 2 ^ 63 ∧ xs.length * k.toNat ≤ sizeLine ∧ New H (.lst (List.replicate k.toNat xs).flatten) fun p H2 => Q (.ref p) H2
noncomputable def mCList (K : PySem.W.Frag) : List V → Hp → VK → Prop := fun xs H Q => ∃ p ys, xs = [.ref p] ∧ (SqL K H p ys ∨ SqT K H p ys) ∧ New H (.lst ys) fun l H2 => Q (.ref l) H2
section
variable {σ : St} {H : Hp} {Q : VK} {K : PySem.W.Frag}
theorem m_tup {t : TA} (h : t σ H fun xs H1 => xs.length ≤ sizeLine ∧ New H1 (.tup xs) fun p H2 => Q (.ref p) H2) : mTup t σ H Q := h
theorem m_lst {t : TA} (h : t σ H fun xs H1 => xs.length ≤ sizeLine ∧ New H1 (.lst xs) fun p H2 => Q (.ref p) H2) : mLst t σ H Q := h
theorem m_list {p : Addr} {ys : List V} (e : SqL K H p ys) (h : ∀ l H', H l = none → Same H H' → H' l = some (.lst ys) → Q (.ref l) H') : mCList K [.ref p] H Q := ⟨p, ys, rfl, .inl e, h⟩
end
/-! ### loops, as the reading leaves them -/
section
variable {g : TG} {tb : TS} {NX : St → Hp → Prop} {RT : VK} {σ : St} {H : Hp} {K : PySem.W.Frag}
theorem lp_range {j : Int} (n : Nat) (hn : j.toNat = n) (hj : j ≤ 1000000000) (hj0 : -1000000000 ≤ j) (Pv : Nat → St → Hp → Prop) (h0 : Pv 0 σ H) (hs : ∀ i σ H, i < n → Pv i σ H → g (.int i) σ H fun σ2 H2 => tb { nx := Pv (i + 1), rt := RT, bk := NX, ct := Pv (i + 1) } σ2 H2) (hd : ∀ σ H, Pv n σ H → NX σ H) :
    ∃ j' : Int, [V.int j] = [.int j'] ∧ -(2 ^ 62) ≤ j' ∧ j' < 2 ^ 62 ∧ ∃ W : Nat → Nat → St → Hp → Prop, (∃ m, W 0 m σ H) ∧ ∀ i m σ H, W i m σ H →
      ((Itr 0 j'.toNat).stop i H ∧ NX σ H) ∨ ((Itr 0 j'.toNat).go i H ∧ ∃ N : St → Hp → Prop, (∀ σ' H', N σ' H' → ∃ m', m' < m ∧ W (i + 1) m' σ' H') ∧ ∀ x H', (Itr 0 j'.toNat).yld i H x H' → g x σ H' fun σ2 H2 => tb { nx := N, rt := RT, bk := NX, ct := N } σ2 H2) := by
  refine ⟨j, rfl, by omega, by omega, ?_⟩
  subst hn
  exact for_range (lo := 0) (D := { nx := NX, rt := RT }) Pv h0 (fun i σ H hi p => by rw [Int.zero_add]; exact hs i σ H hi p) hd
theorem lp_list {a : Addr} (xs : List V) (hx : SqL K H a xs) (Pv : Nat → St → Hp → Prop) (h0 : Pv 0 σ H) (hl : ∀ i σ H, i ≤ xs.length → Pv i σ H → SqL K H a xs) (hs : ∀ i x σ H, xs[i]? = some x → Pv i σ H → g x σ H fun σ2 H2 => tb { nx := Pv (i + 1), rt := RT, bk := NX, ct := Pv (i + 1) } σ2 H2) (hd : ∀ σ H, Pv xs.length σ H → NX σ H) :
    ∃ a', V.ref a = .ref a' ∧ (∃ xs, SqL K H a' xs) ∧ ∃ W : Nat → Nat → St → Hp → Prop, (∃ m, W 0 m σ H) ∧ ∀ i m σ H, W i m σ H →
      ((Itl K a').stop i H ∧ NX σ H) ∨ ((Itl K a').go i H ∧ ∃ N : St → Hp → Prop, (∀ σ' H', N σ' H' → ∃ m', m' < m ∧ W (i + 1) m' σ' H') ∧ ∀ x H', (Itl K a').yld i H x H' → g x σ H' fun σ2 H2 => tb { nx := N, rt := RT, bk := NX, ct := N } σ2 H2) :=
  ⟨a, rfl, ⟨xs, hx⟩, for_list (D := { nx := NX, rt := RT }) Pv h0 hl hs hd⟩
theorem lp_enum {S : Src} {a : Addr} (xs : List V) (hx : S.Sq K H a xs) (Pv : Nat → St → Hp → Prop) (h0 : Pv 0 σ H) (hl : ∀ i σ H, i ≤ xs.length → Pv i σ H → S.Sq K H a xs)
    (hs : ∀ i x T σ H H', xs[i]? = some x → Pv i σ H → H T = none → Same H H' → H' T = some (.tup [.int i, x]) → g (.ref T) σ H' fun σ2 H2 => tb { nx := Pv (i + 1), rt := RT, bk := NX, ct := Pv (i + 1) } σ2 H2) (hd : ∀ σ H, Pv xs.length σ H → NX σ H) :
    ∃ a' xs', [V.ref a] = [.ref a'] ∧ S.Sq K H a' xs' ∧ ∃ W : Nat → Nat → St → Hp → Prop, (∃ m, W 0 m σ H) ∧ ∀ i m σ H, W i m σ H →
      ((Ite S K a').stop i H ∧ NX σ H) ∨ ((Ite S K a').go i H ∧ ∃ N : St → Hp → Prop, (∀ σ' H', N σ' H' → ∃ m', m' < m ∧ W (i + 1) m' σ' H') ∧ ∀ x H', (Ite S K a').yld i H x H' → g x σ H' fun σ2 H2 => tb { nx := N, rt := RT, bk := NX, ct := N } σ2 H2) :=
  ⟨a, xs, rfl, hx, for_enum (D := { nx := NX, rt := RT }) Pv h0 hl (fun i x T σ H e p hT => hs i x T σ H _ e p hT (same_new hT _) upd_same) hd⟩
end
/-! two names at once -/
theorem g_pair {K : PySem.W.Frag} {i j : Nat} {a : Addr} {x y : V} {σ : St} {H : Hp} {R : St → Hp → Prop} (e : SqT K H a [x, y]) (h : R ((σ.set i (some x)).set j (some y)) H) : gTup K 2 (gCons (gName i) (gCons (gName j) gNil)) (.ref a) σ H R :=
  ⟨a, [x, y], rfl, e, rfl, x, [y], rfl, y, [], rfl, rfl, h⟩
/-! ### comprehensions, as the reading leaves them -/
noncomputable def CInv (H : Hp) (p : Addr) (R : Nat → List V → Hp → Prop) (i : Nat) (acc : List V) (H2 : Hp) : Prop := Same H H2 ∧ H2 p = some (.lst acc) ∧ acc.length ≤ i ∧ R i acc H2
theorem CInv.put {H H4 : Hp} {p : Addr} {R : Nat → List V → Hp → Prop} {i : Nat} {acc : List V} {y : V} (hp : H p = none) (st : ∀ i acc H H', R i acc H → Keep H H' → R i acc H') (s : Same H H4) (e : H4 p = some (.lst acc)) (l : acc.length ≤ i) (r : R (i + 1) (acc ++ [y]) H4) :
    H4 p = some (.lst acc) ∧ CInv H p R (i + 1) (acc ++ [y]) (upd H4 p (.lst (acc ++ [y]))) :=
  ⟨e, s.upd hp _, upd_same, by rw [List.length_append]; exact Nat.add_le_add_right l 1, st _ _ _ _ r (off_upd.keep e)⟩
theorem CInv.skip {H H4 : Hp} {p : Addr} {R : Nat → List V → Hp → Prop} {i : Nat} {acc : List V} (s : Same H H4) (e : H4 p = some (.lst acc)) (l : acc.length ≤ i) (r : R (i + 1) acc H4) : CInv H p R (i + 1) acc H4 := ⟨s, e, by omega, r⟩
section
variable {g : CF TG} {tt : CF TT} {te : CF TE} {σ₀ : St} {Q : VK} {H : Hp} {K : PySem.W.Frag}
theorem lc_range {j : Int} (n : Nat) (hn : j.toNat = n) (hj : j ≤ 1000000) (hj0 : -1000000 ≤ j) (R : Nat → List V → Hp → Prop) (h0 : ∀ H', Same H H' → R 0 [] H')
    (hs : ∀ p, H p = none → ∀ C s' H' fp, ∀ i acc H2, i < n → CInv H p R i acc H2 → g C s' H' fp (.int i) σ₀ H2 fun σ2 H3 => tt C s' H' fp σ2 H3 fun b H4 => if b = true then te C s' H' fp σ2 H4 fun y H5 => H5 p = some (.lst acc) ∧ CInv H p R (i + 1) (acc ++ [y]) (upd H5 p (.lst (acc ++ [y]))) else CInv H p R (i + 1) acc H4)
    (hd : ∀ p acc H2, H p = none → Same H H2 → H2 p = some (.lst acc) → R n acc H2 → Q (.ref p) H2) :
    ∃ j' : Int, [V.int j] = [.int j'] ∧ -(2 ^ 62) ≤ j' ∧ j' < 2 ^ 62 ∧ ∀ p, H p = none → ∃ W : Nat → Nat → List V → Hp → Prop, (∃ m, W 0 m [] (upd H p (.lst []))) ∧ ∀ C s' H' fp, CompBody (Itr 0 j'.toNat) (g C s' H' fp) (tt C s' H' fp) (te C s' H' fp) σ₀ p Q W := by
  refine ⟨j, rfl, by omega, by omega, fun p hp => ?_⟩
  subst hn
  exact comp_range (lo := 0) (CInv H p R) ⟨same_new hp _, upd_same, Nat.le_refl _, h0 _ (same_new hp _)⟩ (fun i acc H2 _ c => ⟨c.2.1, c.2.2.1⟩) (by rw [sizeLine_eq]; omega) (fun C s' H' fp i acc H2 hi c => by rw [Int.zero_add]; exact hs p hp C s' H' fp i acc H2 hi c) fun acc H2 c => hd p acc H2 hp c.1 c.2.1 c.2.2.2
theorem lc_list {a : Addr} (xs : List V) (hx : SqL K H a xs) (hz : xs.length ≤ 1000000) (R : Nat → List V → Hp → Prop) (h0 : ∀ H', Same H H' → R 0 [] H')
    (hs : ∀ p, H p = none → ∀ C s' H' fp, ∀ i x acc H2, xs[i]? = some x → CInv H p R i acc H2 → g C s' H' fp x σ₀ H2 fun σ2 H3 => tt C s' H' fp σ2 H3 fun b H4 => if b = true then te C s' H' fp σ2 H4 fun y H5 => H5 p = some (.lst acc) ∧ CInv H p R (i + 1) (acc ++ [y]) (upd H5 p (.lst (acc ++ [y]))) else CInv H p R (i + 1) acc H4)
    (hd : ∀ p acc H2, H p = none → Same H H2 → H2 p = some (.lst acc) → R xs.length acc H2 → Q (.ref p) H2) :
    ∃ a', V.ref a = .ref a' ∧ (∃ xs, SqL K H a' xs) ∧ ∀ p, H p = none → ∃ W : Nat → Nat → List V → Hp → Prop, (∃ m, W 0 m [] (upd H p (.lst []))) ∧ ∀ C s' H' fp, CompBody (Itl K a') (g C s' H' fp) (tt C s' H' fp) (te C s' H' fp) σ₀ p Q W :=
  ⟨a, rfl, ⟨xs, hx⟩, fun p hp => comp_list (CInv H p R) ⟨same_new hp _, upd_same, Nat.le_refl _, h0 _ (same_new hp _)⟩ (fun i acc H2 _ c => ⟨c.2.1, c.2.2.1⟩) (fun i acc H2 _ c => c.1.seq hx) (by rw [sizeLine_eq]; omega) (fun C s' H' fp i x acc H2 hi c => hs p hp C s' H' fp i x acc H2 hi c) fun acc H2 c => hd p acc H2 hp c.1 c.2.1 c.2.2.2⟩
end
/-! ### zip -/
section
variable {g : TG} {tb : TS} {NX : St → Hp → Prop} {RT : VK} {σ : St} {H : Hp} {K : PySem.W.Frag}
end
/-! ### lists of ints compared -/
section
variable {K : PySem.W.Frag} {H : Hp} {Q : VK} {a b : Addr} {ns ms : List Int}
theorem r_eqL (h1 : SqL K H a (ns.map V.int)) (h2 : SqL K H b (ms.map V.int)) (h : Q (.bl (decide (ns = ms))) H) : rEqS (SqL K) false (.ref a) (.ref b) H Q := ⟨a, b, _, _, _, rfl, rfl, h1, h2, eqes_ints ns ms, by rw [eqAns_ints]; exact h⟩
theorem r_neL (h1 : SqL K H a (ns.map V.int)) (h2 : SqL K H b (ms.map V.int)) (h : Q (.bl (!decide (ns = ms))) H) : rEqS (SqL K) true (.ref a) (.ref b) H Q := ⟨a, b, _, _, _, rfl, rfl, h1, h2, eqes_ints ns ms, by rw [eqAns_ints]; exact h⟩
theorem r_isi {x : V} {T : String} {t : Value} {c : Bool} (ty : TyOf K H x t) (e : PySem.W.kitOne K t (.type T) = some c) (h : Q (.bl c) H) : rIsi K [x, .ty T] H Q := ⟨x, T, t, c, rfl, ty, e, h⟩
end
/-! ### comprehensions over pairs; slices of tuples; texts -/
section
variable {g : CF TG} {tt : CF TT} {te : CF TE} {σ₀ : St} {Q : VK} {H : Hp} {K : PySem.W.Frag}
theorem r_eqS {x y : Str} (h : Q (.bl (decide (x = y))) H) : rEq (.str x) (.str y) H Q := ⟨rfl, by rw [show decide (V.str x = V.str y) = decide (x = y) from decide_eq_decide.mpr ⟨fun e => by injection e, fun e => by rw [e]⟩]; exact h⟩
theorem r_neS {x y : Str} (h : Q (.bl (!decide (x = y))) H) : rNe (.str x) (.str y) H Q := ⟨rfl, by rw [show decide (V.str x = V.str y) = decide (x = y) from decide_eq_decide.mpr ⟨fun e => by injection e, fun e => by rw [e]⟩]; exact h⟩
end
/-! ### pop, extend; three names at once -/
section
variable {H : Hp} {Q : VK} {K : PySem.W.Frag}
theorem r_pop {l : Addr} {xs : List V} {y : V} (e : H l = some (.lst (xs ++ [y]))) (h : ∀ H', Off l H H' → H' l = some (.lst xs) → Q y H') : rPop (.ref l) [] H Q :=
  ⟨l, _, y, rfl, rfl, e, by simp, by rw [List.dropLast_concat]; exact h _ off_upd upd_same⟩
end
noncomputable def mDnew : TE := fun _ H Q => New H (.dK []) fun p H2 => Q (.ref p) H2
theorem m_dnew {σ : St} {H : Hp} {Q : VK} (h : ∀ p H', H p = none → Same H H' → H' p = some (.dK []) → Q (.ref p) H') : mDnew σ H Q := h
theorem at_mod (xs : List V) (z : Int) {m : Nat} (hl : xs.length = m) (hm : 0 < m) : ∃ x, atI xs (z % (m : Int)) = some x ∧ x ∈ xs := by
  have m1 := Int.emod_nonneg z (b := (m : Int)) (by omega)
  have m2 := Int.emod_lt_of_pos z (b := (m : Int)) (by omega)
  have hk : (z % (m : Int)).toNat < xs.length := by omega
  refine ⟨xs[(z % (m : Int)).toNat], ?_, List.getElem_mem hk⟩
  have e : z % (m : Int) = (((z % (m : Int)).toNat : Nat) : Int) := by omega
  have q : atI xs (((z % (m : Int)).toNat : Nat) : Int) = some xs[(z % (m : Int)).toNat] := atI_nat (List.getElem?_eq_getElem hk)
  rw [← e] at q
  exact q
/-! ### is not, of truths; != of one thing and itself -/
noncomputable def rIsnB : R2 := fun x y H Q => ∃ a b, x = .bl a ∧ y = .bl b ∧ Q (.bl (!(a == b))) H
theorem r_isnB {a b : Bool} {H : Hp} {Q : VK} (h : Q (.bl (!(a == b))) H) : rIsnB (.bl a) (.bl b) H Q := ⟨a, b, rfl, rfl, h⟩
end L2

end
local macro_rules | `(tactic| walk_at "rb1") => `(tactic| first
  | ((with_reducible refine' L2.r_var (v := ?v) ?e ?h); (case e => exact rfl))
  | (with_reducible first | refine L2.r_next ?_ | refine L2.r_asg ?_ | refine L2.r_ret ?_ | refine L2.r_retN ?_ | refine L2.r_drop ?_ | refine L2.r_break ?_ | refine L2.r_cont ?_ | refine L2.r_name ?_ | refine L2.r_gsub ?_ | refine L2.r_c ?_ | refine L2.r_op ?_ | refine L2.r_un ?_ | refine L2.r_I0 ?_ | refine L2.r_U ?_ | refine L2.r_eqI ?_ | refine L2.r_neI ?_ | refine L2.r_eqS ?_ | refine L2.r_neS ?_ | refine L2.r_eqB ?_ | refine L2.r_neB ?_ | refine L2.r_isnB ?_ | refine L2.r_test ?_ | refine L2.r_tb ?_ | refine L2.r_bl ?_ | refine L2.r_int ?_ | refine L2.r_and ?_ | refine L2.r_or ?_ | refine L2.r_not ?_ | refine L2.r_andV ?_ | refine L2.r_orV ?_ | refine L2.r_notV ?_ | refine L2.r_if ?_ | refine L2.r_chain ?_ | refine L2.r_nil ?_ | refine L2.r_cons ?_ | refine L2.r_call ?_ | refine L2.r_cb ?_ | refine L2.r_bm ?_ | refine L2.r_bm0 ?_ | refine L2.r_bt ?_ | refine L2.r_sl ?_ | refine L2.r_nopart ?_ | refine L2.r_part ?_ | refine L2.r_for ?_ | refine L2.r_comp ?_ | refine L2.r_iList ?_ | refine L2.r_iTup ?_ | refine L2.r_iRng1 ?_ | refine L2.r_iRng2 ?_ | refine L2.r_iEnum ?_ | refine L2.r_iZip ?_ | refine L2.r_tup0 ?_ | refine L2.r_lst0 ?_ | refine L2.m_tup ?_ | refine L2.m_lst ?_ | refine L2.r_min2 ?_ | refine L2.r_max2 ?_ | refine L2.r_intI ?_ | refine L2.r_intB ?_ | refine L2.iteT ?_ | refine L2.iteF ?_ | refine L2.iteNT ?_ | refine L2.iteNF ?_ | refine L2.r_always ?_)
  | ((with_reducible refine L2.r_I ?_ ?_); (first | (show (0 : Int) < _; omega) | (show (0 : Int) < _; decide) | exact ⟨by decide, by decide, by decide⟩ | exact And.intro (by omega) (by omega) | exact (PySem.IntMulOk.of_right (PySem.intBits_le_64 (by omega) (by omega))) | exact (PySem.IntMulOk.of_left (PySem.intBits_le_64 (by omega) (by omega)))))
  | ((with_reducible refine' L2.r_len (ys := ?y) ?e ?h); (case e => first | assumption | exact L2.SqL.of (by assumption)))
  | ((with_reducible refine' L2.r_lenTu (ys := ?y) ?e ?h); (case e => first | assumption | exact L2.SqT.of (by assumption)))
  | dsimp only [List.set_cons_zero, List.set_cons_succ, L2.sub, List.map_cons, List.map_nil, List.getElem?_cons_zero, List.getElem?_cons_succ])
local macro_rules | `(tactic| walk_at "rd") => `(tactic| repeat (first | (with_reducible first | refine L2.r_seq ?_ | refine L2.r_ifS ?_) | walk_at "rb1"))
local macro_rules | `(tactic| walk_at "rs") => `(tactic| repeat (first | (with_reducible refine L2.r_ifS ?_) | walk_at "rb1"))
local macro_rules | `(tactic| walk_at "ra") => `(tactic| repeat (walk_at "rb1"))

section
-- KcMapK
set_option Elab.async false
set_option linter.all false
set_option maxRecDepth 100000
set_option maxHeartbeats 4000000
namespace L2
open PySem PyProof.Rows
/-! ### keys: None, truths and whole numbers; tuples of these; tuples that have such tuples in them -/
noncomputable abbrev IA := Option Int
noncomputable abbrev IK := Sum IA (List IA)
noncomputable abbrev MK := Sum IA (List IK)
noncomputable def iaV : V → Option IA
  | .non => some none
  | .bl b => some (some (if b then 1 else 0))
  | .int i => some (some i)
  | _ => none
noncomputable def ItemV (H : Hp) (x : V) : IK → Prop
  | .inl a => iaV x = some a
  | .inr as => ∃ c ys, x = .ref c ∧ H c = some (.tup ys) ∧ ys.map iaV = as.map some
noncomputable def KeyV (H : Hp) (x : V) : MK → Prop
  | .inl a => iaV x = some a
  | .inr is => ∃ c xs, x = .ref c ∧ H c = some (.tup xs) ∧ Paired (ItemV H) xs is
noncomputable def kSort : MK → Bool
  | .inl _ => false
  | .inr _ => true
theorem ItemV.keep {H H' : Hp} {x : V} {k : IK} (h : ItemV H x k) (kp : Keep H H') : ItemV H' x k := by
  cases k with
  | inl a => exact h
  | inr as => obtain ⟨c, ys, e, q, r⟩ := h; exact ⟨c, ys, e, kp _ _ q, r⟩
theorem KeyV.keep {H H' : Hp} {x : V} {k : MK} (h : KeyV H x k) (kp : Keep H H') : KeyV H' x k := by
  cases k with
  | inl a => exact h
  | inr as => obtain ⟨c, xs, e, q, r⟩ := h; exact ⟨c, xs, e, kp _ _ q, Paired.mapP r fun _ _ z => ItemV.keep z kp⟩
theorem paired_at {α β : Type} {F : α → β → Prop} : ∀ {xs : List α} {ys : List β} {i : Nat} {x : α}, Paired F xs ys → xs[i]? = some x → ∃ y, ys[i]? = some y ∧ F x y
  | _, _, _, _, .nil, e => by simp at e
  | _, _, 0, _, .cons r _, e => by simp at e; subst e; exact ⟨_, rfl, r⟩
  | _, _, i + 1, x, .cons _ t, e => by
    obtain ⟨u, h1, h2⟩ := paired_at (i := i) (x := x) t (by simpa using e)
    exact ⟨u, by simpa using h1, h2⟩
theorem keys_ints (H : Hp) : ∀ ns : List Int, Paired (KeyV H) (ns.map V.int) (ns.map fun n => (Sum.inl (some n) : MK))
  | [] => .nil
  | n :: r => .cons rfl (keys_ints H r)
theorem Off.keepD {H H' : Hp} {l : Addr} (o : Off l H H') (h : ∀ xs, H l ≠ some (.tup xs)) : Keep H H' := fun b ys q => by
  rw [o b (fun z => by subst z; exact h _ q)]
  exact q
noncomputable def leastOf {α : Type} [DecidableEq α] (ks : List α) : List Nat := ks.map fun k => ks.idxOf k
theorem length_leastOf {α : Type} [DecidableEq α] (ks : List α) : (leastOf ks).length = ks.length := List.length_map _
theorem idxOf_take {α : Type} [DecidableEq α] {ks : List α} {i : Nat} {k : α} (h : k ∈ ks.take i) : (ks.take i).idxOf k = ks.idxOf k := by
  have := List.idxOf_append (l₁ := ks.take i) (l₂ := ks.drop i) (a := k)
  rw [List.take_append_drop, if_pos h] at this
  exact this.symm
theorem idxOf_new {α : Type} [DecidableEq α] {ks : List α} {i : Nat} {k : α} (hk : ks[i]? = some k) (h : k ∉ ks.take i) : ks.idxOf k = i := by
  obtain ⟨hi, e⟩ := List.getElem?_eq_some_iff.mp hk
  have e1 : ks = ks.take i ++ (k :: ks.drop (i + 1)) := by
    rw [← e, List.getElem_cons_drop, List.take_append_drop]
  have := List.idxOf_append (l₁ := ks.take i) (l₂ := k :: ks.drop (i + 1)) (a := k)
  rw [← e1, if_neg h, List.idxOf_cons_self, List.length_take] at this
  omega
theorem take_snoc {α : Type} {ks : List α} {i : Nat} {k : α} (hk : ks[i]? = some k) : ks.take (i + 1) = ks.take i ++ [k] := by
  rw [List.take_add_one, hk]; rfl
theorem leastOf_map {α β : Type} [DecidableEq α] [DecidableEq β] {f : α → β} (inj : ∀ a b, f a = f b → a = b) (ks : List α) : leastOf (ks.map f) = leastOf ks := by
  unfold leastOf
  rw [List.map_map]
  refine List.map_congr_left fun k hk => ?_
  show (ks.map f).idxOf (f k) = ks.idxOf k
  clear hk
  induction ks with
  | nil => rfl
  | cons a r ih =>
    rw [List.map_cons, List.idxOf_cons, List.idxOf_cons, ih]
    by_cases e : a = k
    · rw [e, beq_self_eq_true, beq_self_eq_true]
    · rw [beq_eq_false_iff_ne.mpr e, beq_eq_false_iff_ne.mpr (fun z => e (inj _ _ z))]
theorem leastOf_at {α : Type} [DecidableEq α] {ks : List α} {i : Nat} {z : Nat} (h : (leastOf ks)[i]? = some z) : ∃ k, ks[i]? = some k ∧ z = ks.idxOf k ∧ z ≤ i := by
  unfold leastOf at h
  rw [List.getElem?_map] at h
  cases e : ks[i]? with
  | none => rw [e] at h; cases h
  | some k =>
    rw [e] at h
    refine ⟨k, rfl, (Option.some.inj h).symm, ?_⟩
    rw [← Option.some.inj h]
    show ks.idxOf k ≤ i
    by_cases q : k ∈ ks.take i
    · have := List.idxOf_lt_length_of_mem q
      rw [idxOf_take q, List.length_take] at this
      omega
    · rw [idxOf_new e q]; exact Nat.le_refl _
end L2

end

section
-- KcDict
set_option Elab.async false
set_option linter.all false
set_option maxRecDepth 100000
set_option maxHeartbeats 4000000
namespace L2
open PySem PySem.Spec PyProof.Rows

/-! ### lists of pairs as tables -/
section
variable {κ : Type} [DecidableEq κ]
noncomputable def valV (kvs : List (κ × V)) (k : κ) : Option V := (kvs.find? fun kv => decide (kv.1 = k)).map (·.2)
noncomputable def putK (kvs : List (κ × V)) (k : κ) (v : V) : List (κ × V) :=
  if (kvs.any fun kv => decide (kv.1 = k)) = true then kvs.map (fun kv => if kv.1 = k then (kv.1, v) else kv) else kvs ++ [(k, v)]
noncomputable def dropK (kvs : List (κ × V)) (k : κ) : List (κ × V) := kvs.filter fun kv => decide (kv.1 ≠ k)

theorem valV_pos {p : κ × V} {r : List (κ × V)} {k : κ} (e : p.1 = k) : valV (p :: r) k = some p.2 := by simp [valV, List.find?_cons, e]
theorem valV_neg {p : κ × V} {r : List (κ × V)} {k : κ} (e : ¬ p.1 = k) : valV (p :: r) k = valV r k := by simp [valV, List.find?_cons, e]
theorem valV_any (k : κ) : ∀ kvs : List (κ × V), (kvs.any fun kv => decide (kv.1 = k)) = (valV kvs k).isSome
  | [] => rfl
  | p :: r => by
    rw [List.any_cons]
    by_cases e : p.1 = k
    · simp only [valV_pos e, decide_eq_true e, Bool.true_or, Option.isSome_some]
    · rw [valV_neg e, decide_eq_false e, Bool.false_or]; exact valV_any k r
theorem valV_map (k j : κ) (y : V) : ∀ kvs : List (κ × V), valV (kvs.map fun kv => if kv.1 = k then (kv.1, y) else kv) j = (valV kvs j).map fun x => if j = k then y else x
  | [] => rfl
  | p :: r => by
    have ih := valV_map k j y r
    rw [List.map_cons]
    by_cases h : p.1 = k
    · rw [if_pos h]
      by_cases e : p.1 = j
      · rw [valV_pos (p := (p.1, y)) e, valV_pos e, Option.map_some, if_pos (e.symm.trans h)]
      · rw [valV_neg (p := (p.1, y)) e, valV_neg e, ih]
    · rw [if_neg h]
      by_cases e : p.1 = j
      · rw [valV_pos (p := p) e, valV_pos e, Option.map_some, if_neg (fun z => h (e.trans z))]
      · rw [valV_neg (p := p) e, valV_neg e, ih]
theorem valV_snoc (k j : κ) (y : V) : ∀ kvs : List (κ × V), valV kvs k = none → valV (kvs ++ [(k, y)]) j = if j = k then some y else valV kvs j
  | [], _ => by
    by_cases e : k = j
    · rw [if_pos e.symm]; exact valV_pos (p := (k, y)) e
    · rw [if_neg (fun z => e z.symm)]; exact valV_neg (p := (k, y)) e
  | p :: r, hn => by
    rw [List.cons_append]
    have hk : ¬ p.1 = k := fun z => by rw [valV_pos z] at hn; cases hn
    rw [valV_neg hk] at hn
    have ih := valV_snoc k j y r hn
    by_cases e : p.1 = j
    · rw [valV_pos e, valV_pos e, if_neg (fun z => hk (e.trans z))]
    · rw [valV_neg e, valV_neg e, ih]
theorem valV_put (kvs : List (κ × V)) (k j : κ) (y : V) : valV (putK kvs k y) j = if j = k then some y else valV kvs j := by
  unfold putK
  by_cases a : (kvs.any fun kv => decide (kv.1 = k)) = true
  · rw [if_pos a, valV_map]
    rw [valV_any] at a
    by_cases e : j = k
    · obtain ⟨x, hx⟩ := Option.isSome_iff_exists.mp a
      rw [if_pos e, e, hx, Option.map_some, if_pos rfl]
    · rw [if_neg e]
      cases valV kvs j with
      | none => rfl
      | some x => rw [Option.map_some, if_neg e]
  · rw [if_neg a]
    refine valV_snoc k j y kvs ?_
    rw [valV_any] at a
    cases q : valV kvs k with
    | none => rfl
    | some x => rw [q] at a; exact (a rfl).elim
theorem length_putK (kvs : List (κ × V)) (k : κ) (v : V) : (putK kvs k v).length ≤ kvs.length + 1 := by
  unfold putK
  split
  · rw [List.length_map]; omega
  · rw [List.length_append, List.length_cons, List.length_nil]; omega
theorem RelO.isSome_eq {o : Option V} {u : Option Value} (r : RelO o u) : o.isSome = u.isSome := by
  cases o with
  | none => cases u with
    | none => rfl
    | some _ => exact (show False from r).elim
  | some _ => cases u with
    | none => exact (show False from r).elim
    | some _ => rfl
theorem RelO.getD {o : Option V} {u : Option Value} {d : V} {d' : Value} (r : RelO o u) (rd : RelV d d') : RelV (o.getD d) (u.getD d') := by
  cases o with
  | none => cases u with
    | none => exact rd
    | some _ => exact (show False from r).elim
  | some _ => cases u with
    | none => exact (show False from r).elim
    | some _ => exact r

theorem KV.val {kvs : List (κ × V)} {vs : List (κ × Value)} (r : KV kvs vs) (k : κ) : RelO (valV kvs k) (valueAt vs k) := by
  unfold KV at r
  induction r with
  | nil => exact True.intro
  | @cons p q ps qs h t ih =>
    obtain ⟨h1, h2⟩ := h
    by_cases e : p.1 = k
    · have e' : q.1 = k := h1.symm.trans e
      have b : valueAt (q :: qs) k = some q.2 := by simp [valueAt, List.find?_cons, e']
      rw [valV_pos e, b]; exact h2
    · have e' : ¬ q.1 = k := fun z => e (h1.trans z)
      have b : valueAt (q :: qs) k = valueAt qs k := by simp [valueAt, List.find?_cons, e']
      rw [valV_neg e, b]; exact ih
theorem KV.any {kvs : List (κ × V)} {vs : List (κ × Value)} (r : KV kvs vs) (k : κ) : (kvs.any fun kv => decide (kv.1 = k)) = vs.any fun kv => decide (kv.1 = k) := by
  unfold KV at r
  induction r with
  | nil => rfl
  | cons h t ih => rw [List.any_cons, List.any_cons, ih, h.1]
theorem KV.repl {kvs : List (κ × V)} {vs : List (κ × Value)} (r : KV kvs vs) (k : κ) {y : V} {u : Value} (ry : RelV y u) :
    KV (kvs.map fun kv => if kv.1 = k then (kv.1, y) else kv) (vs.map fun kv => if kv.1 = k then (kv.1, u) else kv) := by
  unfold KV at r ⊢
  induction r with
  | nil => exact .nil
  | @cons p q ps qs h t ih =>
    rw [List.map_cons, List.map_cons]
    refine .cons ?_ ih
    obtain ⟨h1, h2⟩ := h
    by_cases e : p.1 = k
    · rw [if_pos e, if_pos (h1.symm.trans e)]; exact ⟨h1, ry⟩
    · rw [if_neg e, if_neg (fun z => e (h1.trans z))]; exact ⟨h1, h2⟩
theorem KV.put {kvs : List (κ × V)} {vs : List (κ × Value)} (r : KV kvs vs) (k : κ) {y : V} {u : Value} (ry : RelV y u) : KV (putK kvs k y) (stored vs k u) := by
  unfold putK stored
  rw [r.any k]
  by_cases e : (vs.any fun kv => decide (kv.1 = k)) = true
  · rw [if_pos e, if_pos e]; exact r.repl k ry
  · rw [if_neg e, if_neg e]; exact Paired.snoc r ⟨rfl, ry⟩
theorem KV.drop {kvs : List (κ × V)} {vs : List (κ × Value)} (r : KV kvs vs) (k : κ) : KV (dropK kvs k) (without vs k) := by
  unfold KV at r ⊢
  unfold dropK without
  induction r with
  | nil => exact .nil
  | @cons p q ps qs h t ih =>
    obtain ⟨h1, h2⟩ := h
    rw [List.filter_cons, List.filter_cons]
    by_cases e : p.1 = k
    · have a : ¬ decide (p.1 ≠ k) = true := by simp [e]
      have b : ¬ decide (q.1 ≠ k) = true := by simp [h1.symm.trans e]
      rw [if_neg a, if_neg b]; exact ih
    · have e' : ¬ q.1 = k := fun z => e (h1.trans z)
      have a : decide (p.1 ≠ k) = true := by simp [e]
      have b : decide (q.1 ≠ k) = true := by simp [e']
      rw [if_pos a, if_pos b]; exact .cons ⟨h1, h2⟩ ih
theorem KV.keys {kvs : List (κ × V)} {vs : List (κ × Value)} (r : KV kvs vs) : kvs.map (·.1) = vs.map (·.1) := by
  unfold KV at r
  induction r with
  | nil => rfl
  | cons h t ih => rw [List.map_cons, List.map_cons, ih, h.1]
theorem KV.length {kvs : List (κ × V)} {vs : List (κ × Value)} (r : KV kvs vs) : kvs.length = vs.length := Paired.length r
end


/-! ### a tracked dict, its keys ints and texts or tuples of these -/
theorem kV_is {P : Program} {w : World} {k : Key} {u : Value} (r : RelV (kV k) u) : (mixKind P w).is k u = true := by
  cases k with
  | inl i => obtain ⟨t, e⟩ := (show ∃ t, u = Value.int i t from r); subst e; exact mixKind_int P w i t
  | inr x => obtain ⟨t, e⟩ := (show ∃ t, u = Value.str x t from r); subst e; exact mixKind_str P w x t
theorem items_are {P : Program} {w : World} : ∀ {ks : List Key} {us : List Value}, Vals (ks.map kV) us → ItemsAre (mixKind P w) ks us
  | [], _, r => by rw [List.map_nil] at r; cases r; exact .nil
  | k :: ks, _, r => by
    rw [List.map_cons] at r
    cases r with
    | cons h t => exact .cons (kV_is h) (items_are t)

noncomputable abbrev KT (H : Hp) : List (List Key × V) → List (List Key × Addr × Value) → Prop := Paired fun p q => p.1 = q.1 ∧ H q.2.1 = some (.tup (p.1.map kV)) ∧ RelV p.2 q.2.2
theorem KT.val {H : Hp} {kvs : List (List Key × V)} {xs : List (List Key × Addr × Value)} (r : KT H kvs xs) (k : List Key) : RelO (valV kvs k) ((atKey xs k).map (·.2)) := by
  induction r with
  | nil => exact True.intro
  | @cons p q ps qs h t ih =>
    obtain ⟨h1, _, h2⟩ := h
    by_cases e : p.1 = k
    · have e' : q.1 = k := h1.symm.trans e
      have b : atKey (q :: qs) k = some q.2 := by simp [atKey, List.find?_cons, e']
      rw [valV_pos e, b]; exact h2
    · have e' : ¬ q.1 = k := fun z => e (h1.trans z)
      have b : atKey (q :: qs) k = atKey qs k := by simp [atKey, List.find?_cons, e']
      rw [valV_neg e, b]; exact ih
theorem KT.repl {H : Hp} {kvs : List (List Key × V)} {xs : List (List Key × Addr × Value)} (r : KT H kvs xs) (k : List Key) {y : V} {u : Value} (ry : RelV y u) :
    KT H (kvs.map fun kv => if kv.1 = k then (kv.1, y) else kv) (xs.map (putAt k u)) := by
  induction r with
  | nil => exact .nil
  | @cons p q ps qs h t ih =>
    rw [List.map_cons, List.map_cons]
    refine .cons ?_ ih
    obtain ⟨h1, h2, h3⟩ := h
    unfold putAt
    by_cases e : p.1 = k
    · rw [if_pos e, if_pos (h1.symm.trans e)]; exact ⟨h1, h2, ry⟩
    · rw [if_neg e, if_neg (fun z => e (h1.trans z))]; exact ⟨h1, h2, h3⟩
theorem KT.put {H : Hp} {kvs : List (List Key × V)} {xs : List (List Key × Addr × Value)} (r : KT H kvs xs) (k : List Key) {b : Addr} {y : V} {u : Value} (hb : H b = some (.tup (k.map kV))) (ry : RelV y u) :
    KT H (putK kvs k y) (storedH xs k b u) := by
  have e : (kvs.any fun kv => decide (kv.1 = k)) = (atKey xs k).isSome := by
    rw [valV_any, (r.val k).isSome_eq, Option.isSome_map]
  unfold putK storedH
  rw [e]
  by_cases q : (atKey xs k).isSome = true
  · rw [if_pos q, if_pos q]; exact r.repl k ry
  · rw [if_neg q, if_neg q]; exact Paired.snoc r ⟨rfl, hb, ry⟩
theorem KT.keeps {H H' : Hp} {kvs : List (List Key × V)} {xs : List (List Key × Addr × Value)} (r : KT H kvs xs) (ht : ∀ b ys, H b = some (.tup ys) → H' b = some (.tup ys)) : KT H' kvs xs :=
  Paired.mapP r fun _ _ z => ⟨z.1, ht _ _ z.2.1, z.2.2⟩

section
variable {P : Program} {w : World} {H : Hp} {h : Heap} {a : Addr}
theorem rd_of {u : HO} (ok : HOk P w H h) (e : Rd H a u) : ObjOk P w H h a u := e.ok ok
theorem dk_rd {kvs : List (Key × V)} (ok : HOk P w H h) (e : Rd H a (.dK kvs)) : kvs.length ≤ sizeLine ∧ (a == sysModules) = false ∧ ∃ vs, KV kvs vs ∧ h.DictOf (mixKind P w) a vs :=
  show ObjOk P w H h a (.dK kvs) from rd_of ok e
theorem dk_of {kvs : List (Key × V)} (ok : HOk P w H h) (e : H a = some (.dK kvs)) : kvs.length ≤ sizeLine ∧ (a == sysModules) = false ∧ ∃ vs, KV kvs vs ∧ h.DictOf (mixKind P w) a vs := dk_rd ok (.inl e)
theorem key_of {ks : List Key} (ok : HOk P w H h) (e : H a = some (.tup (ks.map kV))) : (tupleKind (mixKind P w)).is h ks a := by
  obtain ⟨_, its, r, o, h1, h2, ⟨n, h3⟩, _⟩ := (show ObjOk P w H h a (.tup (ks.map kV)) from ok a _ e)
  exact ⟨o, its.toArray, n, h1, h2, h3, by simpa using items_are r⟩
theorem dt_rd {kvs : List (List Key × V)} (ok : HOk P w H h) (e : Rd H a (.dT kvs)) : kvs.length ≤ sizeLine ∧ (a == sysModules) = false ∧
    ∃ xs, KT H kvs xs ∧ h.DictOfH (tupleKind (mixKind P w)) a xs := by
  obtain ⟨z, y, xs, r, o, es, ep, h1, h2, h3, h4, h5⟩ := (show ObjOk P w H h a (.dT kvs) from rd_of ok e)
  refine ⟨z, y, xs, r, o, es, ep, h1, h2, h3, h4, fun x hx => ?_, h5⟩
  have all : ∀ {l : List (List Key × V)} {m : List (List Key × Addr × Value)}, KT H l m → ∀ x ∈ m, (tupleKind (mixKind P w)).is h x.1 x.2.1 := by
    intro l m q
    induction q with
    | nil => intro x hx; exact nomatch hx
    | @cons p q ps qs hq t ih =>
      intro x hx
      rcases List.mem_cons.mp hx with e | hx
      · subst e
        exact key_of ok (by rw [← hq.1]; exact hq.2.1)
      · exact ih x hx
  exact all r x hx
theorem dt_of {kvs : List (List Key × V)} (ok : HOk P w H h) (e : H a = some (.dT kvs)) : kvs.length ≤ sizeLine ∧ (a == sysModules) = false ∧
    ∃ xs, KT H kvs xs ∧ h.DictOfH (tupleKind (mixKind P w)) a xs := dt_rd ok (.inl e)
end

noncomputable def DGet (H : Hp) (a : Addr) (y : V) (r : Option V) : Prop :=
  (∃ kvs k, Rd H a (.dK kvs) ∧ y = kV k ∧ r = valV kvs k) ∨ ∃ kvs k b, Rd H a (.dT kvs) ∧ y = .ref b ∧ H b = some (.tup (k.map kV)) ∧ r = valV kvs k
noncomputable def DPut (H : Hp) (a : Addr) (y v : V) (H' : Hp) : Prop :=
  (∃ kvs k, H a = some (.dK kvs) ∧ y = kV k ∧ kvs.length < sizeLine ∧ H' = upd H a (.dK (putK kvs k v))) ∨
  ∃ kvs k b, H a = some (.dT kvs) ∧ y = .ref b ∧ H b = some (.tup (k.map kV)) ∧ kvs.length < sizeLine ∧ H' = upd H a (.dT (putK kvs k v))
theorem DGet.k {H : Hp} {a : Addr} {kvs : List (Key × V)} {k : Key} (e : H a = some (.dK kvs)) : DGet H a (kV k) (valV kvs k) := .inl ⟨kvs, k, .inl e, rfl, rfl⟩
theorem DGet.t {H : Hp} {a b : Addr} {kvs : List (List Key × V)} {k : List Key} (e : H a = some (.dT kvs)) (eb : H b = some (.tup (k.map kV))) : DGet H a (.ref b) (valV kvs k) := .inr ⟨kvs, k, b, .inl e, rfl, eb, rfl⟩
theorem DPut.k {H : Hp} {a : Addr} {kvs : List (Key × V)} {k : Key} {v : V} (e : H a = some (.dK kvs)) (hl : kvs.length < sizeLine) : DPut H a (kV k) v (upd H a (.dK (putK kvs k v))) := .inl ⟨kvs, k, e, rfl, hl, rfl⟩
theorem DPut.t {H : Hp} {a b : Addr} {kvs : List (List Key × V)} {k : List Key} {v : V} (e : H a = some (.dT kvs)) (eb : H b = some (.tup (k.map kV))) (hl : kvs.length < sizeLine) :
    DPut H a (.ref b) v (upd H a (.dT (putK kvs k v))) := .inr ⟨kvs, k, b, e, rfl, eb, hl, rfl⟩


section
variable {X : Cx} {pins : List (Addr × Obj)} {σ : St} {H : Hp} {s : Shared} {a : Addr} {y v : V} {u r : Value} {o : Option V} {A : Around} {E : Value → Shared → Prop}

theorem Inv.big (I : Inv X pins σ H s) : sysModules < s.heap.objs.size := by
  have h : mainGlobals < s.heap.objs.size := (I.mod.glob.keeps I.bk).lt
  exact Nat.lt_trans (by decide) h

theorem d_getItem {Q : Value → Shared → Prop} (hu : A.units + 1 < cLine) (I : Inv X pins σ H s) (g : DGet H a y (some v)) (ry : RelV y u) (h : ∀ w' s', Inv X pins σ H s' → RelV v w' → Q w' s') :
    wpAny (model X.prog X.w) A (getItem (.ref a) u) Q E s := by
  rcases g with ⟨kvs, k, e, ey, l⟩ | ⟨kvs, k, b, e, ey, eb, l⟩
  · subst ey
    obtain ⟨z, hd, vs, rel, dd⟩ := dk_rd I.hok e
    obtain ⟨w', hw, rw'⟩ := RelO.some_of (v := v) (o := valueAt vs k) (by rw [l]; exact rel.val k)
    exact wpAny_getItem_of (kV_is ry) dd.mapOf hw (h w' _ (I.tok _) rw')
  · subst ey
    cases (show u = Value.ref b from ry)
    obtain ⟨z, hd, xs, rel, dd⟩ := dt_rd I.hok e
    obtain ⟨w', hw, rw'⟩ := RelO.some_of (v := v) (o := (atKey xs k).map (·.2)) (by rw [l]; exact rel.val k)
    obtain ⟨p, hp, hp2⟩ := Option.map_eq_some_iff.mp hw
    refine wpAny_getItem_heap (tupleKind_room_in1 hu) (key_of I.hok eb) dd hp ?_
    rw [hp2]
    exact h w' _ (I.tok _) rw'
theorem d_in {Q : Value → Shared → Prop} (hu : A.units + 1 < cLine) (I : Inv X pins σ H s) (g : DGet H a y o) (ry : RelV y u) (h : ∀ s', Inv X pins σ H s' → Q (.bool o.isSome) s') :
    wpAny (model X.prog X.w) A (compareOp .In u (.ref a)) Q E s := by
  rcases g with ⟨kvs, k, e, ey, l⟩ | ⟨kvs, k, b, e, ey, eb, l⟩
  · subst ey
    obtain ⟨z, hd, vs, rel, dd⟩ := dk_rd I.hok e
    refine wpAny_in_of (kV_is ry) hd dd.mapOf ?_
    rw [← (rel.val k).isSome_eq, ← l]
    exact h _ (I.tok _)
  · subst ey
    cases (show u = Value.ref b from ry)
    obtain ⟨z, hd, xs, rel, dd⟩ := dt_rd I.hok e
    refine wpAny_in_heap (tupleKind_room_in1 hu) (key_of I.hok eb) hd dd ?_
    have q := (rel.val k).isSome_eq
    rw [Option.isSome_map] at q
    rw [← q, ← l]
    exact h _ (I.tok _)
theorem d_notIn {Q : Value → Shared → Prop} (hu : A.units + 1 < cLine) (I : Inv X pins σ H s) (g : DGet H a y o) (ry : RelV y u) (h : ∀ s', Inv X pins σ H s' → Q (.bool (!o.isSome)) s') :
    wpAny (model X.prog X.w) A (compareOp .NotIn u (.ref a)) Q E s := by
  rcases g with ⟨kvs, k, e, ey, l⟩ | ⟨kvs, k, b, e, ey, eb, l⟩
  · subst ey
    obtain ⟨z, hd, vs, rel, dd⟩ := dk_rd I.hok e
    refine wpAny_notIn_of (kV_is ry) hd dd.mapOf ?_
    rw [← (rel.val k).isSome_eq, ← l]
    exact h _ (I.tok _)
  · subst ey
    cases (show u = Value.ref b from ry)
    obtain ⟨z, hd, xs, rel, dd⟩ := dt_rd I.hok e
    refine wpAny_notIn_heap (tupleKind_room_in1 hu) (key_of I.hok eb) hd dd ?_
    have q := (rel.val k).isSome_eq
    rw [Option.isSome_map] at q
    rw [← q, ← l]
    exact h _ (I.tok _)
theorem d_write {h' : Heap} {t' : Nat} {ob : HO} (I : Inv X pins σ H s) (mu : Mut (H a)) (hs : Heap.SameBut a s.heap h') (he : ∃ q, h'.get? a = some q) (new : ObjOk X.prog X.w (upd H a ob) h' a ob) :
    Inv X pins σ (upd H a ob) { s with heap := h', toks := t' } :=
  I.write (x := a) (e := a) mu (.inl rfl) (fun b q hb z => (hs.2 b hb).trans z) he new
theorem dk_new {P : Program} {w : World} {H' : Hp} {h' : Heap} {kvs : List (Key × V)} {vs : List (Key × Value)} (z : kvs.length ≤ sizeLine) (hd : (a == sysModules) = false) (rel : KV kvs vs) (dd : h'.DictOf (mixKind P w) a vs) :
    ObjOk P w H' h' a (.dK kvs) := ⟨z, hd, vs, rel, dd⟩
theorem d_setItem {H' : Hp} {Q : Unit → Shared → Prop} (hu : A.units + 1 < cLine) (I : Inv X pins σ H s) (g : DPut H a y v H') (ry : RelV y u) (rv : RelV v r) (h : ∀ s', Inv X pins σ H' s' → Q () s') :
    wpAny (model X.prog X.w) A (setItem (.ref a) u r) Q E s := by
  rcases g with ⟨kvs, k, e, ey, l, eH⟩ | ⟨kvs, k, b, e, ey, eb, l, eH⟩
  · subst ey eH
    obtain ⟨z, hd, vs, rel, dd⟩ := dk_of I.hok e
    have hz : vs.length ≤ sizeLine := by rw [← rel.length]; exact z
    have hl : (putK kvs k v).length ≤ sizeLine := by have := length_putK kvs k v; omega
    refine wpAny_setItem_pairs (hsz := hz) (kV_is ry) dd fun h' dd' hs => h _ ?_
    have he : ∃ q, h'.get? a = some q := let ⟨q, _, _, hq, _⟩ := dd'; ⟨q, hq⟩
    exact d_write I (by rw [e]; exact True.intro) hs he (dk_new hl hd (rel.put k rv) dd')
  · subst ey eH
    cases (show u = Value.ref b from ry)
    obtain ⟨z, hd, xs, rel, dd⟩ := dt_of I.hok e
    have hz : xs.length ≤ sizeLine := by rw [← Paired.length rel]; exact z
    have hl : (putK kvs k v).length ≤ sizeLine := by have := length_putK kvs k v; omega
    refine wpAny_setItem_heap (hsz := hz) (tupleKind_room_in1 hu) (key_of I.hok eb) dd fun h' dd' hs => h _ ?_
    obtain ⟨q, es, ep, hq, h2, h3, h4, _, h5⟩ := dd'
    refine d_write I (by rw [e]; exact True.intro) hs ⟨q, hq⟩ ⟨hl, hd, _, (rel.put k eb rv).keeps fun c ys ec => ?_, q, es, ep, hq, h2, h3, h4, h5⟩
    rw [upd_ne (ne_of ec e (fun z => nomatch z))]
    exact ec
end

section
variable {X : Cx} {pins : List (Addr × Obj)} {σ : St} {H : Hp} {s : Shared} {a : Addr} {kvs : List (Key × V)} {k : Key} {u : Value} {A : Around} {E : Value → Shared → Prop}
end


/-! ### readings and rules -/
noncomputable def NoSl (i : Expr) : Prop := ∀ ov iv, subscripted i false ov iv = operate [ov, iv] (getItem ov iv)
theorem subD_of {prog : Program} {w : World} {A : Around} {E : Value → Shared → Prop} {s : Shared} {env : Env} {value slice : Expr} {pos : Pos} {T id : String} {Q : Value → Shared → Prop}
    (hl : typeLookup (.type T) "__getitem__" = pure (some (.builtin id))) (hs : NoSl slice)
    (h : wpAny (model prog w) A (eval value env) (fun o s₁ => wpAny (model prog w) A (eval slice env) (fun i s₂ => s₂.TypeIs o T ∧ wpAny (model prog w) A (getItem o i) Q E s₂) E s₁) E s) :
    wpAny (model prog w) A (eval (.Subscript value slice pos) env) Q E s := by
  refine Subscript_ (wpAny_mono h (fun o s₁ h₁ => wpAny_mono h₁ (fun i s₂ h₂ => ?_) fun _ _ x => x) fun _ _ x => x)
  obtain ⟨hT, h₂⟩ := h₂
  unfold subscriptTail
  refine wpAny_bind ?_
  rw [getitemInPython_of_ne hT.not_modules]
  refine wpAny_bind (wpAny_specialOf hT hl ?_)
  have fin : wpAny (model prog w) A (subscripted slice false o i) (fun r s₃ => wpAny (model prog w) A (letTemporaryGo value o r >>= fun _ => pure r) Q E s₃) E s₂ := by
    rw [hs o i]
    exact wpAny_operating (wpAny_mono h₂ (fun r s₃ h₃ => wpAny_bind (wpAny_letTemporaryGo (wpAny_pure h₃))) fun _ _ x => x)
  first
    | exact wpAny_pure (wpAny_bind fin)
    | exact wpAny_bind (wpAny_pure (wpAny_bind fin))
    | exact wpAny_bind fin

theorem dict_typeIs {X : Cx} {pins : List (Addr × Obj)} {σ : St} {H : Hp} {s : Shared} {a : Addr} {y : V} {o : Option V} (I : Inv X pins σ H s) (g : DGet H a y o) : s.TypeIs (.ref a) "dict" := by
  rcases g with ⟨kvs, k, e, _, _⟩ | ⟨kvs, k, b, e, _, _, _⟩
  · obtain ⟨_, _, vs, _, dd⟩ := dk_rd I.hok e
    exact dd.typeIs
  · obtain ⟨_, _, xs, _, dd⟩ := dt_rd I.hok e
    exact dd.typeIs
section
variable {X : Cx} {o i e value : Expr} {pos pos' tpos : Pos} {td ty tv : TE}
end


/-! ### displays -/
theorem dk_empty {P : Program} {w : World} {H : Hp} (h : Heap) (hb : sysModules < h.objs.size) : ObjOk P w H (h.push { cls := .type "dict", data := .dict #[] }) h.objs.size (.dK []) :=
  ⟨Nat.zero_le _, beq_eq_false_iff_ne.mpr (Ne.symm (Nat.ne_of_lt hb)), [], .nil, Heap.DictOf.new h⟩
noncomputable def tDNewK : TE := fun _ H Q => ∀ p, H p = none → Q (.ref p) (upd H p (.dK []))
section
variable {X : Cx} {pos : Pos}
theorem pe_dnewK : PE X (.Dict [] [] pos) tDNewK := fun pins s σ H Q I h =>
  wpAny_Dict_empty ⟨.ref s.heap.objs.size, _, I.laid (a := s.heap.objs.size) (o := .dK []) (t' := s.toks) (fun _ _ q => Heap.get?_push_of_some _ q) (Nat.le_refl _) (dk_empty s.heap I.big), rfl, h _ (I.hok.fresh (Nat.le_refl _))⟩
end

noncomputable def tPairs : List (TE × TE) → St → Hp → (List (V × V) → Hp → Prop) → Prop
  | [], _, H, Q => Q [] H
  | (tk, tv) :: r, σ, H, Q => tk σ H fun x H1 => tv σ H1 fun y H2 => tPairs r σ H2 fun ps H3 => Q ((x, y) :: ps) H3
noncomputable abbrev VV : List (V × V) → List (Value × Value) → Prop := Paired fun p q => RelV p.1 q.1 ∧ RelV p.2 q.2
noncomputable def PPs (X : Cx) (pos : Pos) (keys : List (Option Expr)) (values : List Expr) (trs : List (TE × TE)) : Prop :=
  ∀ (pins : List (Addr × Obj)) (s : Shared) (σ : St) (H : Hp) (Q : List (V × V) → Hp → Prop), Inv X pins σ H s → tPairs trs σ H Q →
    wpAny (model X.prog X.w) X.A (evalPairs (pairTrees keys values X.env pos)) (fun vs s' => ∃ ps H', Inv X pins σ H' s' ∧ VV ps vs ∧ Q ps H') X.xe s
theorem pps_nil {X : Cx} {pos : Pos} : PPs X pos [] [] [] := fun pins s σ H Q I h => pairTrees_nil_walk ⟨[], H, I, .nil, h⟩
theorem pps_cons {X : Cx} {pos : Pos} {k v : Expr} {ks : List (Option Expr)} {vs : List Expr} {tk tv : TE} {trs : List (TE × TE)} (hk : PE X k tk) (hv : PE X v tv) (hr : PPs X pos ks vs trs) :
    PPs X pos (some k :: ks) (v :: vs) ((tk, tv) :: trs) := fun pins s σ H Q I h =>
  pairTrees_cons_walk (thn (hk pins s σ H _ I h) fun u s1 ⟨x, H1, I1, rx, q1⟩ => thn (hv pins s1 σ H1 _ I1 q1) fun w2 s2 ⟨y, H2, I2, ry, q2⟩ =>
    thn (hr pins s2 σ H2 _ I2 q2) fun ws s3 ⟨ps, H3, I3, rel, q3⟩ => ⟨(x, y) :: ps, H3, I3, .cons ⟨rx, ry⟩ rel, q3⟩)

noncomputable def mergeK (kvs more : List (Key × V)) : List (Key × V) := more.foldl (fun acc kv => putK acc kv.1 kv.2) kvs
theorem KV.merge : ∀ {more : List (Key × V)} {rs : List (Key × Value)} {kvs : List (Key × V)} {vs : List (Key × Value)}, KV more rs → KV kvs vs → KV (mergeK kvs more) (merged vs rs) := by
  intro more rs kvs vs r
  unfold KV at r
  induction r generalizing kvs vs with
  | nil => intro q; exact q
  | @cons p q ps qs h t ih =>
    intro r0
    have e : KV (putK kvs p.1 p.2) (stored vs q.1 q.2) := by
      have := r0.put p.1 h.2
      rw [← h.1]; exact this
    exact ih e
theorem length_mergeK : ∀ (more kvs : List (Key × V)), (mergeK kvs more).length ≤ kvs.length + more.length
  | [], kvs => by show kvs.length ≤ kvs.length + 0; omega
  | p :: r, kvs => by
    have h1 := length_mergeK r (putK kvs p.1 p.2)
    have h2 := length_putK kvs p.1 p.2
    show (mergeK (putK kvs p.1 p.2) r).length ≤ _
    rw [List.length_cons]; omega
theorem carries_of {P : Program} {w : World} : ∀ {kvs : List (Key × V)} {ws : List (Value × Value)}, VV (kvs.map fun kv => (kV kv.1, kv.2)) ws → ∃ rs, Carries (mixKind P w) ws rs ∧ KV kvs rs
  | [], _, r => by rw [List.map_nil] at r; cases r; exact ⟨[], True.intro, .nil⟩
  | p :: kvs, _, r => by
    rw [List.map_cons] at r
    cases r with
    | @cons a b as bs h t =>
      obtain ⟨rs, c, q⟩ := carries_of (P := P) (w := w) t
      obtain ⟨b1, b2⟩ := b
      exact ⟨(p.1, b2) :: rs, ⟨kV_is h.1, rfl, c⟩, .cons ⟨rfl, h.2⟩ q⟩
noncomputable def tDisp (trs : List (TE × TE)) : TE := fun σ H Q => ∀ p, H p = none → tPairs trs σ (upd H p (.dK [])) fun ps H2 => H2 p = some (.dK []) ∧ ∃ kvs : List (Key × V), ps = kvs.map (fun kv => (kV kv.1, kv.2)) ∧ kvs.length ≤ 15 ∧ Q (.ref p) (upd H2 p (.dK (mergeK [] kvs)))
theorem pe_disp {X : Cx} {pos : Pos} {keys : List (Option Expr)} {values : List Expr} {trs : List (TE × TE)} (h : PPs X pos keys values trs) (hall : keys.all (·.isSome) = true) (hl : keys.length = values.length) (h0 : keys ≠ [])
    (h15 : keys.length ≤ 15) : PE X (.Dict keys values pos) (tDisp trs) := by
  intro pins s σ H Q I q
  have hn := I.hok.fresh (Nat.le_refl s.heap.objs.size)
  have I1 := I.laid (a := s.heap.objs.size) (o := .dK []) (h' := s.heap.push { cls := .type "dict", data := .dict #[] }) (t' := s.toks) (fun _ _ q => Heap.get?_push_of_some _ q) (Nat.le_refl _) (dk_empty s.heap I.big)
  refine wpAny_Dict_walk (knd := mixKind X.prog X.w) hall hl h0 h15 (thn (h pins _ σ _ _ I1 (q _ hn)) fun ws s2 ⟨ps, H2, I2, rel, e, kvs, ep, lk, q2⟩ => ?_)
  subst ep
  obtain ⟨rs, c, rk⟩ := carries_of (P := X.prog) (w := X.w) rel
  obtain ⟨z, hd, vs0, r0, dd⟩ := dk_of I2.hok e
  cases r0
  refine ⟨rs, c, dd, fun h' dd' hs => ⟨.ref s.heap.objs.size, _, ?_, rfl, q2⟩⟩
  have hz : (mergeK [] kvs).length ≤ sizeLine := by
    have h1 := length_mergeK kvs []
    rw [List.length_nil] at h1
    rw [sizeLine_eq]; omega
  have he : ∃ q, h'.get? s.heap.objs.size = some q := let ⟨q, _, _, hq, _⟩ := dd'; ⟨q, hq⟩
  exact d_write I2 (by rw [e]; exact True.intro) hs he (dk_new hz hd (rk.merge .nil) dd')


/-! ### methods -/
structure M1 (X : Cx) (o : Expr) (m : Str) (apos : Pos) (e : Expr) (cpos : Pos) : Prop where
  base : attributeBase o m X.env (eval o X.env) = eval o X.env
  few : ((backTo cpos (starEach [e] X.env)).all (fun x => !x.1) && (backToKw cpos (keywordEach [] X.env)).all (fun x => x.1.isSome)
    && decide (([e] : List Expr).length + ([] : List Keyword).length + (if ([] : List Keyword).isEmpty then 0 else 1) < 30)) = true
  line : (apos.endLine == cpos.line) = true
  trees : backTo cpos (starEach [e] X.env) = [(false, eval e X.env)]
structure M2 (X : Cx) (o : Expr) (m : Str) (apos : Pos) (e f : Expr) (cpos : Pos) : Prop where
  base : attributeBase o m X.env (eval o X.env) = eval o X.env
  few : ((backTo cpos (starEach [e, f] X.env)).all (fun x => !x.1) && (backToKw cpos (keywordEach [] X.env)).all (fun x => x.1.isSome)
    && decide (([e, f] : List Expr).length + ([] : List Keyword).length + (if ([] : List Keyword).isEmpty then 0 else 1) < 30)) = true
  line : (apos.endLine == cpos.line) = true
  trees : backTo cpos (starEach [e, f] X.env) = [(false, eval e X.env), (false, eval f X.env)]

noncomputable def IsD (H : Hp) (a : Addr) : Prop := (∃ kvs, Rd H a (.dK kvs)) ∨ ∃ kvs, Rd H a (.dT kvs)
theorem isD_at {X : Cx} {pins : List (Addr × Obj)} {σ : St} {H : Hp} {s : Shared} {a : Addr} (I : Inv X pins σ H s) (d : IsD H a) :
    s.TypeIs (.ref a) "dict" ∧ (∀ b, Value.ref a = .ref b → ∃ ob, s.heap.get? b = some ob ∧ ob.dict = none) ∧ (a == sysModules) = false := by
  rcases d with ⟨kvs, e⟩ | ⟨kvs, e⟩
  · obtain ⟨_, hd, vs, _, dd⟩ := dk_rd I.hok e
    refine ⟨dd.typeIs, fun b q => ?_, hd⟩
    cases q
    obtain ⟨ob, _, _, h1, h2, _⟩ := dd
    exact ⟨ob, h1, h2.2.1⟩
  · obtain ⟨_, hd, xs, _, dd⟩ := dt_rd I.hok e
    refine ⟨dd.typeIs, fun b q => ?_, hd⟩
    cases q
    obtain ⟨ob, _, _, h1, h2, _⟩ := dd
    exact ⟨ob, h1, h2.2.1⟩

section
variable {X : Cx} {pins : List (Addr × Obj)} {σ : St} {H : Hp} {s : Shared} {a : Addr} {y d : V} {u r : Value} {o : Option V} {A : Around} {E : Value → Shared → Prop}
theorem d_get2 {Q : Value → Shared → Prop} (hu : A.units + 1 < cLine) (I : Inv X pins σ H s) (g : DGet H a y o) (ry : RelV y u) (rd : RelV d r) (h : ∀ w' s', Inv X pins σ H s' → RelV (o.getD d) w' → Q w' s') :
    wpAny (model X.prog X.w) A (call (.builtin "dict.get") [.ref a, u, r]) Q E s := by
  rcases g with ⟨kvs, k, e, ey, l⟩ | ⟨kvs, k, b, e, ey, eb, l⟩
  · subst ey
    obtain ⟨z, hd, vs, rel, dd⟩ := dk_rd I.hok e
    refine call_meetsIn PySem.F.slot_dict_get dd.typeIs PySem.F.entry_dict_get (PySem.F.args_dict_get_3 _ _ _) (meets_dict_get_default (mixKind X.prog X.w) a (kV_is ry) hd r) ⟨_, dd.mapOf, h _ _ (I.tok _) ?_⟩
    rw [l]
    exact (rel.val k).getD rd
  · subst ey
    cases (show u = Value.ref b from ry)
    obtain ⟨z, hd, xs, rel, dd⟩ := dt_rd I.hok e
    refine call_meetsIn PySem.F.slot_dict_get dd.typeIs PySem.F.entry_dict_get (PySem.F.args_dict_get_3 _ _ _) (meetsH_dict_get_default (tupleKind (mixKind X.prog X.w)) a b hd r) ⟨tupleKind_room_in1 hu, k, xs, key_of I.hok eb, dd, h _ _ (I.tok _) ?_⟩
    rw [l]
    exact (rel.val k).getD rd
end

section
variable {X : Cx} {o e f : Expr} {apos cpos : Pos} {td ty tx : TE}
end

/-! ### dict(d): a copy -/
section
variable {X : Cx} {pins : List (Addr × Obj)} {σ : St} {H : Hp} {s : Shared} {a : Addr} {kvs : List (Key × V)} {A : Around} {E : Value → Shared → Prop}
end


section
variable {X : Cx} {pins : List (Addr × Obj)} {σ : St} {H : Hp} {s : Shared} {a : Addr} {y : V} {u : Value} {A : Around} {E : Value → Shared → Prop}
end
end L2

end

section
-- KcMapD
set_option Elab.async false
set_option linter.all false
set_option maxRecDepth 100000
set_option maxHeartbeats 4000000
namespace L2
open PySem PySem.Spec PyProof.Rows
section
variable {prog : Program} {w : World} {A : Around} {E : Value → Shared → Prop} {s : Shared}
theorem wpAny_pyHash_bool {b : Bool} {Q : Int → Shared → Prop} (h : Q (hashInt (if b then 1 else 0)) { s with toks := s.toks + 1 }) : wpAny (model prog w) A (pyHash (.bool b)) Q E s := by
  have hr := rawHash_range (if b then 1 else 0)
  unfold pyHash
  have hv : [Value.bool b].any Value.onHeap = false := rfl
  refine wpAny_bind ?_
  rw [cRoomFor, if_neg (by rw [hv]; exact Bool.false_ne_true)]; refine wpAny_pure ?_
  have hT : s.TypeIs (.bool b) "bool" := rfl
  refine wpAny_bind (wpAny_specialOf hT PySem.F.slot_bool_hash.lookup ?_)
  show wpAny _ _ (if (some (Value.builtin "int.__hash__") == some Value.none) = true then _ else _) Q E s
  rw [if_neg (by rw [beq_builtin_none]; exact Bool.false_ne_true)]
  refine wpAny_bind (wpAny_specialOf hT PySem.F.slot_bool_hash.lookup ?_)
  show wpAny _ _ (callSpecialIfBoundUnlessNone? (.bool b) "__hash__" _ >>= _) Q E s
  refine wpAny_bind (wpAny_callSpecialIfBoundUnlessNone?_slot hT PySem.F.slot_bool_hash (wpAny_call_entry PySem.F.slot_bool_hash hT entry_int_hash ?_ (args_int_hash _)))
  cases b with
  | true =>
    refine (show wpAny _ _ (do ret (← mkInt (rawHash 1))) _ _ s from wpAny_ret_mkInt ?_)
    show wpAny _ _ (if (decide (-(2 : Int) ^ 63 ≤ rawHash 1) && decide (rawHash 1 < 2 ^ 63)) = true then _ else _) Q E _
    rw [if_pos (by decide)]
    exact wpAny_pure h
  | false =>
    refine (show wpAny _ _ (do ret (← mkInt (rawHash 0))) _ _ s from wpAny_ret_mkInt ?_)
    show wpAny _ _ (if (decide (-(2 : Int) ^ 63 ≤ rawHash 0) && decide (rawHash 0 < 2 ^ 63)) = true then _ else _) Q E _
    rw [if_pos (by decide)]
    exact wpAny_pure h
theorem wpAny_pyHash_none {Q : Int → Shared → Prop} (h : Q 4238894112 { s with toks := s.toks + 1 }) : wpAny (model prog w) A (pyHash .none) Q E s := by
  unfold pyHash
  have hv : [Value.none].any Value.onHeap = false := rfl
  refine wpAny_bind ?_
  rw [cRoomFor, if_neg (by rw [hv]; exact Bool.false_ne_true)]; refine wpAny_pure ?_
  have hT : s.TypeIs .none "NoneType" := rfl
  refine wpAny_bind (wpAny_specialOf hT PySem.F.slot_NoneType_hash.lookup ?_)
  show wpAny _ _ (if (some (Value.builtin "NoneType.__hash__") == some Value.none) = true then _ else _) Q E s
  rw [if_neg (by rw [beq_builtin_none]; exact Bool.false_ne_true)]
  refine wpAny_bind (wpAny_specialOf hT PySem.F.slot_NoneType_hash.lookup ?_)
  show wpAny _ _ (callSpecialIfBoundUnlessNone? .none "__hash__" _ >>= _) Q E s
  refine wpAny_bind (wpAny_callSpecialIfBoundUnlessNone?_slot hT PySem.F.slot_NoneType_hash (wpAny_call_entry PySem.F.slot_NoneType_hash hT PySem.F.entry_NoneType_hash ?_ (PySem.F.args_NoneType_hash_1 _)))
  refine (show wpAny _ _ (do ret (← mkInt 4238894112)) _ _ s from wpAny_ret_mkInt ?_)
  show wpAny _ _ (if (decide (-(2 : Int) ^ 63 ≤ 4238894112) && decide ((4238894112 : Int) < 2 ^ 63)) = true then _ else _) Q E _
  rw [if_pos (by decide)]
  exact wpAny_pure h
end
/-! ### keys that are None, truths, whole numbers -/
noncomputable def hashIA : IA → Int
  | none => 4238894112
  | some i => hashInt i
noncomputable def iaIs : IA → Value → Bool
  | none, .none => true
  | some i, .int j _ => i == j
  | some i, .bool b => i == (if b then 1 else 0)
  | _, _ => false
theorem ia_shape {k : IA} {v : Value} (h : iaIs k v = true) : (k = none ∧ v = .none) ∨ (∃ i t, k = some i ∧ v = .int i t) ∨ ∃ b, k = some (if b then 1 else 0) ∧ v = .bool b := by
  rcases k with _ | i <;> cases v <;> (delta iaIs at h; simp at h)
  · exact .inl ⟨rfl, rfl⟩
  · subst h; exact .inr (.inr ⟨_, rfl, rfl⟩)
  · subst h; exact .inr (.inl ⟨_, _, rfl, rfl⟩)
noncomputable def iaKind (prog : Program) (w : World) : PySem.KeyKind prog w IA where
  is := iaIs
  hash := hashIA
  inj := fun v a b ha hb => by
    rcases ia_shape ha with ⟨rfl, rfl⟩ | ⟨i, t, rfl, rfl⟩ | ⟨c, rfl, rfl⟩ <;> rcases ia_shape hb with ⟨rfl, e⟩ | ⟨j, u, rfl, e⟩ | ⟨d, rfl, e⟩ <;> first | rfl | (cases e; rfl) | cases e
  byValue := fun k v h => by
    rcases ia_shape h with ⟨rfl, rfl⟩ | ⟨i, t, rfl, rfl⟩ | ⟨c, rfl, rfl⟩ <;> rfl
  pyHash := fun hv h => by
    rcases ia_shape hv with ⟨rfl, rfl⟩ | ⟨i, t, rfl, rfl⟩ | ⟨c, rfl, rfl⟩
    · exact wpAny_pyHash_none h
    · exact wpAny_pyHash_int h
    · exact wpAny_pyHash_bool h
  eqBool := fun {A E s a b u v Q} hu hv h => by
    rcases ia_shape hu with ⟨rfl, rfl⟩ | ⟨i, t, rfl, rfl⟩ | ⟨c, rfl, rfl⟩ <;> rcases ia_shape hv with ⟨rfl, rfl⟩ | ⟨j, u, rfl, rfl⟩ | ⟨d, rfl, rfl⟩
    · exact SeqAt.EqAt.same _ _ _ _ _ (by simpa using h)
    · exact SeqAt.EqAt.none_int _ _ _ _ _ _ (by simpa using h)
    · exact SeqAt.EqAt.none_bool _ _ _ _ _ (by simpa using h)
    · exact SeqAt.EqAt.int_none _ _ _ _ _ _ (by simpa using h)
    · exact SeqAt.EqAt.int_int _ _ _ _ _ _ _ _ (by simpa [Bool.beq_eq_decide_eq] using h)
    · exact SeqAt.EqAt.int_bool _ _ _ _ _ _ _ (by simpa [Bool.beq_eq_decide_eq] using h)
    · exact SeqAt.EqAt.bool_none _ _ _ _ _ (by simpa using h)
    · exact SeqAt.EqAt.bool_int _ _ _ _ _ _ _ (by simpa [Bool.beq_eq_decide_eq] using h)
    · refine SeqAt.EqAt.bool_bool _ _ _ _ _ _ ?_
      cases c <;> cases d <;> simpa using h
  «strs» := fun k x t v h => by
    rcases ia_shape h with ⟨rfl, e⟩ | ⟨i, u, rfl, e⟩ | ⟨c, rfl, e⟩ <;> cases e
/-! ### tuples of these, and of tuples of these -/
noncomputable def hashIK : IK → Int
  | .inl a => hashIA a
  | .inr as => reduceHash (Builtin.Tuple.tupleHashOf (as.map hashIA))
noncomputable def hashT (is : List IK) : Int := reduceHash (Builtin.Tuple.tupleHashOf (is.map hashIK))
noncomputable def drawsK : IK → Nat
  | .inl _ => 1
  | .inr as => as.length + 1
section
variable (prog : Program) (w : World)
noncomputable def ItemIs (h : Heap) : IK → Value → Prop
  | .inl a, v => iaIs a v = true
  | .inr as, v => ∃ b, v = .ref b ∧ IsTupleKey (iaKind prog w) h as b
noncomputable def IsTk (h : Heap) (is : List IK) (a : Addr) : Prop := ∃ o items n, h.get? a = some o ∧ o.cls = .type "tuple" ∧ o.data = .seq items n ∧ Paired (ItemIs prog w h) is items.toList
end
section
variable {prog : Program} {w : World}
theorem ItemIs.inj {h : Heap} {x y : IK} {v : Value} (hx : ItemIs prog w h x v) (hy : ItemIs prog w h y v) : x = y := by
  cases x with
  | inl a => cases y with
    | inl b => rw [(iaKind prog w).inj v a b hx hy]
    | inr bs =>
      obtain ⟨c, rfl, _⟩ := hy
      rcases ia_shape hx with ⟨_, e⟩ | ⟨_, _, _, e⟩ | ⟨_, _, e⟩ <;> cases e
  | inr as => cases y with
    | inl b =>
      obtain ⟨c, rfl, _⟩ := hx
      rcases ia_shape hy with ⟨_, e⟩ | ⟨_, _, _, e⟩ | ⟨_, _, e⟩ <;> cases e
    | inr bs =>
      obtain ⟨c, rfl, h1⟩ := hx
      obtain ⟨d, e, h2⟩ := hy
      cases e
      rw [h1.inj h2]
theorem items_inj {h : Heap} {xs ys : List IK} {vs : List Value} (p : Paired (ItemIs prog w h) xs vs) : Paired (ItemIs prog w h) ys vs → xs = ys := by
  induction p generalizing ys with
  | nil => intro q; cases q; rfl
  | cons a t ih => intro q; cases q with
    | cons b u => rw [a.inj b, ih u]
theorem IsTk.inj {h : Heap} {a : Addr} {x y : List IK} (hx : IsTk prog w h x a) (hy : IsTk prog w h y a) : x = y := by
  obtain ⟨o, items, n, ho, _, hd, hi⟩ := hx
  obtain ⟨o', items', n', ho', _, hd', hi'⟩ := hy
  obtain rfl : o = o' := Option.some.inj (ho.symm.trans ho')
  rw [hd] at hd'
  injection hd' with h1 _
  subst h1
  exact items_inj hi hi'
theorem ItemIs.keeps {h h' : Heap} {k : IK} {v : Value} {d : Addr} {o : Obj} {es ep} (x : ItemIs prog w h k v) (ho : h.get? d = some o) (hd : o.data = .dict es ep) (hs : Heap.SameBut d h h') : ItemIs prog w h' k v := by
  cases k with
  | inl a => exact x
  | inr as => obtain ⟨b, e, q⟩ := x; exact ⟨b, e, q.keeps ho hd hs⟩
theorem IsTk.keeps {h h' : Heap} {ks : List IK} {a d : Addr} {o : Obj} {es ep} (x : IsTk prog w h ks a) (ho : h.get? d = some o) (hd : o.data = .dict es ep) (hs : Heap.SameBut d h h') : IsTk prog w h' ks a := by
  obtain ⟨o', items, n, ho', hc, hd', hi⟩ := x
  have hne : a ≠ d := by
    rintro rfl
    obtain rfl : o' = o := Option.some.inj (ho'.symm.trans ho)
    rw [hd] at hd'; exact nomatch hd'
  exact ⟨o', items, n, (hs.2 a hne).trans ho', hc, hd', Paired.mapP hi fun _ _ z => z.keeps ho hd hs⟩
theorem IsTk.typeIs {s : Shared} {ks : List IK} {a : Addr} (x : IsTk prog w s.heap ks a) : s.TypeIs (.ref a) "tuple" := let ⟨o, _, _, ho, hc, _⟩ := x; ⟨o, ho, hc⟩
theorem tk_isTuple {h : Heap} {ks : List IA} {a : Addr} (x : IsTupleKey (iaKind prog w) h ks a) : ∃ items, h.IsTuple a items := let ⟨o, items, n, h1, h2, h3, _⟩ := x; ⟨items, o, h1, h2, n, h3⟩
variable {A : Around} {E : Value → Shared → Prop} {s : Shared}
theorem item_hash {k : IK} {v : Value} {Q : Int → Shared → Prop} (hu : A.units < cLine) (hk : ItemIs prog w s.heap k v) (h : Q (hashIK k) { s with toks := s.toks + drawsK k }) : wpAny (model prog w) A (pyHash v) Q E s := by
  cases k with
  | inl a => exact (iaKind prog w).pyHash (k := a) hk h
  | inr as =>
    obtain ⟨b, rfl, q⟩ := hk
    exact wpAny_pyHash_tuple (knd := iaKind prog w) hu q h
theorem ia_tuple {a : IA} {v : Value} {b : Addr} {items : Array Value} {Q : Bool → Shared → Prop} (hu : A.units < cLine) (hk : iaIs a v = true) (ht : s.heap.IsTuple b items) (h : Q false s) : wpAny (model prog w) A (PySem.eqBool v (.ref b)) Q E s := by
  rcases ia_shape hk with ⟨rfl, rfl⟩ | ⟨i, t, rfl, rfl⟩ | ⟨c, rfl, rfl⟩
  · exact SeqAt.EqAt.none_tuple ht hu _ _ _ _ h
  · exact SeqAt.EqAt.int_tuple _ _ ht hu _ _ _ _ h
  · exact SeqAt.EqAt.bool_tuple _ ht hu _ _ _ _ h
theorem tuple_ia {a : IA} {v : Value} {b : Addr} {items : Array Value} {Q : Bool → Shared → Prop} (hu : A.units < cLine) (hk : iaIs a v = true) (ht : s.heap.IsTuple b items) (h : Q false s) : wpAny (model prog w) A (PySem.eqBool (.ref b) v) Q E s := by
  rcases ia_shape hk with ⟨rfl, rfl⟩ | ⟨i, t, rfl, rfl⟩ | ⟨c, rfl, rfl⟩
  · exact SeqAt.EqAt.tuple_none ht hu _ _ _ _ h
  · exact SeqAt.EqAt.tuple_int _ _ ht hu _ _ _ _ h
  · exact SeqAt.EqAt.tuple_bool _ ht hu _ _ _ _ h
theorem item_eq {x y : IK} {u v : Value} {Q : Bool → Shared → Prop} (hu : A.units < cLine) (hx : ItemIs prog w s.heap x u) (hy : ItemIs prog w s.heap y v) (h : Q (decide (x = y)) s) : wpAny (model prog w) A (PySem.eqBool u v) Q E s := by
  cases x with
  | inl a => cases y with
    | inl b =>
      refine (iaKind prog w).eqBool (a := a) (b := b) hx hy ?_
      rw [show decide (a = b) = decide ((Sum.inl a : IK) = Sum.inl b) from decide_eq_decide.mpr ⟨fun e => by rw [e], fun e => Sum.inl.inj e⟩]
      exact h
    | inr bs =>
      obtain ⟨c, rfl, q⟩ := hy
      obtain ⟨items, ht⟩ := tk_isTuple q
      refine ia_tuple hu hx ht ?_
      rw [decide_eq_false (fun e => nomatch e)] at h
      exact h
  | inr as => cases y with
    | inl b =>
      obtain ⟨c, rfl, q⟩ := hx
      obtain ⟨items, ht⟩ := tk_isTuple q
      refine tuple_ia hu hy ht ?_
      rw [decide_eq_false (fun e => nomatch e)] at h
      exact h
    | inr bs =>
      obtain ⟨c, rfl, q⟩ := hx
      obtain ⟨d, rfl, q'⟩ := hy
      refine wpAny_eqBool_tuple (knd := iaKind prog w) hu q q' ?_
      rw [show decide (as = bs) = decide ((Sum.inr as : IK) = Sum.inr bs) from decide_eq_decide.mpr ⟨fun e => by rw [e], fun e => Sum.inr.inj e⟩]
      exact h
noncomputable def drawsT (ks : List IK) : Nat := (ks.map drawsK).sum + 1
theorem tk_pyHash {ks : List IK} {a : Addr} {Q : Int → Shared → Prop} (hu : A.units + 1 < cLine) (hk : IsTk prog w s.heap ks a) (h : Q (hashT ks) { s with toks := s.toks + drawsT ks }) :
    wpAny (model prog w) A (pyHash (.ref a)) Q E s := by
  have hT := hk.typeIs
  obtain ⟨o, items, n, ho, _, hd, hi⟩ := hk
  have hu0 : A.units < cLine := by omega
  unfold pyHash
  first | unfold pyHashByItsType | skip
  first | refine wpAny_bind (wpAny_cRoomFor_or (.inr hu0) ?_) | skip
  refine wpAny_bind (wpAny_specialOf hT F.slot_tuple_hash.lookup ?_)
  show wpAny _ _ (if (some (Value.builtin "tuple.__hash__") == some Value.none) = true then _ else _) Q E s
  rw [if_neg (by rw [beq_builtin_none]; exact Bool.false_ne_true)]
  refine wpAny_bind (wpAny_specialOf hT F.slot_tuple_hash.lookup ?_)
  show wpAny _ _ (callSpecialIfBoundUnlessNone? (.ref a) "__hash__" _ >>= _) Q E s
  refine wpAny_bind (wpAny_callSpecialIfBoundUnlessNone?_slot hT F.slot_tuple_hash (wpAny_call_entry F.slot_tuple_hash hT F.entry_tuple_hash ?_ (F.args_tuple_hash_1 _)))
  show wpAny _ _ (Builtin.Tuple.tupleItemsOf (.ref a) >>= _) _ _ s
  refine wpAny_bind (wpAny_tupleItemsOf ho hd ?_)
  refine wpAny_bind ?_
  rw [← Array.forIn_toList]
  refine wpAny_forIn_list _
    (fun rest (b : Array Int) s' => ∃ done left, ks = done ++ left ∧ Paired (ItemIs prog w s.heap) left rest ∧ b.toList = done.map hashIK ∧ s' = { s with toks := s.toks + (done.map drawsK).sum })
    _ ?_ ?_ _ _ ⟨[], ks, rfl, hi, rfl, rfl⟩
  · rintro x rest b s' ⟨done, left, rfl, hl, hb, rfl⟩
    cases hl with
    | @cons k _ ks' _ h1 hl' =>
      refine wpAny_bind (item_hash (k := k) hu h1 ?_)
      have e : (done.map drawsK).sum + drawsK k = ((done ++ [k]).map drawsK).sum := by simp
      first
        | exact wpAny_pure ⟨done ++ [k], ks', by simp, hl', by simp [hb], by rw [← e]; simp [Nat.add_assoc]⟩
        | exact wpAny_bind (wpAny_pure (wpAny_pure ⟨done ++ [k], ks', by simp, hl', by simp [hb], by rw [← e]; simp [Nat.add_assoc]⟩))
  · rintro b s' ⟨done, left, rfl, hl, hb, rfl⟩
    cases hl
    rw [List.append_nil] at h
    show wpAny _ _ (retInt (Builtin.Tuple.tupleHashOf b.toList)) _ _ _
    rw [hb]
    refine wpAny_ret_mkInt ?_
    show wpAny _ _ (if (decide (-(2 : Int) ^ 63 ≤ Builtin.Tuple.tupleHashOf (done.map hashIK)) && decide (Builtin.Tuple.tupleHashOf (done.map hashIK) < 2 ^ 63)) = true then _ else _) Q E _
    unfold hashT reduceHash drawsT at h
    by_cases hr : (decide (-(2 : Int) ^ 63 ≤ Builtin.Tuple.tupleHashOf (done.map hashIK)) && decide (Builtin.Tuple.tupleHashOf (done.map hashIK) < 2 ^ 63)) = true
    · rw [if_pos hr]
      rw [if_pos hr] at h
      exact wpAny_pure (by simpa [Nat.add_assoc] using h)
    · rw [if_neg hr]
      rw [if_neg hr] at h
      exact wpAny_bind (wpAny_rule (wpAny_pure (by simpa [Nat.add_assoc] using h)))
theorem tk_eq_tree {x y : List IK} {a b : Addr} {P : Fin → Shared → Prop} (hu : A.units < cLine) (hx : IsTk prog w s.heap x a) (hy : IsTk prog w s.heap y b) (h : P (.done (.ret (.bool (decide (x = y))))) s) :
    wpAny (model prog w) A (Builtin.«tuple.__eq__» ⟨[.ref a, .ref b], []⟩) P E s := by
  have hTb := hy.typeIs
  obtain ⟨oa, xs, na, hoa, _, hda, hia⟩ := hx
  obtain ⟨ob, ys, nb, hob, _, hdb, hib⟩ := hy
  show wpAny _ _ (isInstance (.ref b) (.type "tuple") >>= _) _ _ s
  refine wpAny_bind (wpAny_isInstance hTb isSubtype_tuple_tuple ?_)
  simp only [Bool.not_true, Bool.false_eq_true, if_false]
  refine wpAny_bind (wpAny_tupleItemsOf hoa hda ?_)
  refine wpAny_bind (wpAny_tupleItemsOf hob hdb ?_)
  refine wpAny_bind ?_
  refine wpAny_forIn_list _
    (fun rest r s' => r.1 = none ∧ s' = s ∧ ∃ x' y' xs' ys', rest = List.zip xs' ys' ∧ Paired (ItemIs prog w s.heap) x' xs' ∧ Paired (ItemIs prog w s.heap) y' ys' ∧ decide (x' = y') = decide (x = y) ∧ (xs'.length == ys'.length) = (xs.size == ys.size))
    _ ?_ ?_ _ _ ⟨rfl, rfl, x, y, xs.toList, ys.toList, rfl, hia, hib, rfl, by simp⟩
  · rintro ⟨u, v⟩ rest r s' ⟨hr, rfl, x', y', xs', ys', hz, hx', hy', hdec, hlen⟩
    cases hx' with
    | nil => simp at hz
    | @cons k1 u' x'' xs'' h1 hx'' =>
      cases hy' with
      | nil => simp at hz
      | @cons k2 v' y'' ys'' h2 hy'' =>
        simp only [List.zip_cons_cons, List.cons.injEq, Prod.mk.injEq] at hz
        obtain ⟨⟨rfl, rfl⟩, rfl⟩ := hz
        refine wpAny_bind (item_eq (x := k1) (y := k2) hu h1 h2 ?_)
        by_cases hk : k1 = k2
        · subst hk
          rw [decide_eq_true rfl]
          simp only [Bool.not_true, Bool.false_eq_true, if_false]
          refine wpAny_pure ⟨rfl, rfl, x'', y'', xs'', ys'', rfl, hx'', hy'', ?_, by simpa using hlen⟩
          rw [← hdec]
          by_cases hxy : x'' = y''
          · simp [hxy]
          · simp [hxy]
        · rw [decide_eq_false hk]
          simp only [Bool.not_false, if_true]
          have hf : decide (x = y) = false := by rw [← hdec]; simp [hk]
          rw [hf] at h
          exact wpAny_bind (wpAny_pure (wpAny_pure (wpAny_pure h)))
  · rintro ⟨r1, r2⟩ s' ⟨hr, rfl, x', y', xs', ys', hz, hx', hy', hdec, hlen⟩
    simp only at hr
    subst hr
    refine wpAny_pure ?_
    have hfin : (xs.size == ys.size) = decide (x = y) := by
      rw [← hdec, ← hlen]
      cases hx' with
      | nil =>
        cases hy' with
        | nil => simp
        | cons _ _ => simp
      | cons _ _ =>
        cases hy' with
        | nil => simp
        | cons _ _ => simp at hz
    show P (.done (.ret (.bool (xs.size == ys.size)))) s'
    rw [hfin]; exact h
theorem tk_eqBool {x y : List IK} {a b : Addr} {Q : Bool → Shared → Prop} (hu : A.units + 1 < cLine) (hx : IsTk prog w s.heap x a) (hy : IsTk prog w s.heap y b) (h : Q (decide (x = y)) s) :
    wpAny (model prog w) A (eqBool (.ref a) (.ref b)) Q E s := by
  unfold eqBool
  try with_reducible refine wpAny_holding ?_
  show wpAny _ _ (if (Value.ref a == Value.ref b) = true then _ else _) Q E s
  by_cases hab : (Value.ref a == Value.ref b) = true
  · rw [if_pos hab]
    have e : a = b := by have := eq_of_beq hab; injection this
    subst e
    obtain rfl := hx.inj hy
    exact wpAny_bind (wpAny_rule (wpAny_pure (by simpa using h)))
  · rw [if_neg hab]
    exact wpAny_bind (wpAny_richCompare_same_room (op := .Eq) hx.typeIs hy.typeIs F.slot_tuple_eq
      (wpAny_call_entry F.slot_tuple_eq hx.typeIs F.entry_tuple_eq (tk_eq_tree hu hx hy ⟨_, rfl, (fun e => nomatch e), wpAny_truthy_bool h⟩) (F.args_tuple_eq_2 _ _)) (by omega))
theorem quiet_tuple {n : Nat} {ks : List IA} {a : Addr} {Q : Bool → Shared → Prop} (hk : IsTupleKey (iaKind prog w) s.heap ks a) (h : Q true s) : wpAny (model prog w) A (eqIsQuiet (n + 1) (.ref a)) Q E s := by
  have hT := hk.typeIs
  obtain ⟨o, items, _, ho, _, hd, hi⟩ := hk
  unfold eqIsQuiet
  refine wpAny_bind (wpAny_specialOf hT F.slot_tuple_eq.lookup ?_)
  show wpAny _ _ (isInstance (.ref a) (.type "tuple") >>= _) _ _ s
  refine wpAny_bind (wpAny_isInstance hT isSubtype_tuple_tuple ?_)
  simp only [Bool.not_true, Bool.false_eq_true, if_false]
  refine wpAny_bind (wpAny_seqItems ho hd ?_)
  refine wpAny_bind ?_
  show wpAny _ _ (forIn items _ _) _ _ s
  rw [← Array.forIn_toList]
  refine wpAny_forIn_list _ (fun rest r s' => r.1 = none ∧ s' = s ∧ ∀ v ∈ rest, carriedByValue v = true) _ ?_ ?_ _ _ ⟨rfl, rfl, hi.byValue⟩
  · rintro v rest r s' ⟨hr, rfl, hall⟩
    rw [eqIsQuiet_byValue _ (hall v List.mem_cons_self)]
    refine wpAny_bind (wpAny_pure ?_)
    simp only [Bool.not_true, Bool.false_eq_true, if_false]
    exact wpAny_pure ⟨rfl, rfl, fun u hu' => hall u (List.mem_cons_of_mem _ hu')⟩
  · rintro ⟨r1, r2⟩ s' ⟨hr, rfl, _⟩
    simp only at hr
    subst hr
    exact wpAny_pure h
theorem tk_quiet {ks : List IK} {a : Addr} {Q : Bool → Shared → Prop} (hk : IsTk prog w s.heap ks a) (h : Q true s) : wpAny (model prog w) A (eqIsQuiet 8 (.ref a)) Q E s := by
  have hT := hk.typeIs
  obtain ⟨o, items, n, ho, _, hd, hi⟩ := hk
  unfold eqIsQuiet
  refine wpAny_bind (wpAny_specialOf hT F.slot_tuple_eq.lookup ?_)
  show wpAny _ _ (isInstance (.ref a) (.type "tuple") >>= _) _ _ s
  refine wpAny_bind (wpAny_isInstance hT isSubtype_tuple_tuple ?_)
  simp only [Bool.not_true, Bool.false_eq_true, if_false]
  refine wpAny_bind (wpAny_seqItems ho hd ?_)
  refine wpAny_bind ?_
  show wpAny _ _ (forIn items _ _) _ _ s
  rw [← Array.forIn_toList]
  refine wpAny_forIn_list _ (fun rest r s' => r.1 = none ∧ s' = s ∧ ∃ ks, Paired (ItemIs prog w s.heap) ks rest) _ ?_ ?_ _ _ ⟨rfl, rfl, ks, hi⟩
  · rintro v rest r s' ⟨hr, rfl, ks, hall⟩
    cases hall with
    | @cons k _ ks' _ h1 hl =>
      refine wpAny_bind ?_
      have fin : wpAny (model prog w) A (eqIsQuiet 7 v) (fun b s2 => b = true ∧ s2 = s') E s' := by
        cases k with
        | inl a' => rw [eqIsQuiet_byValue _ ((iaKind prog w).byValue _ _ h1)]; exact wpAny_pure ⟨rfl, rfl⟩
        | inr as => obtain ⟨b, rfl, q⟩ := h1; exact quiet_tuple (n := 6) q ⟨rfl, rfl⟩
      refine wpAny_mono fin (fun b s2 ⟨e1, e2⟩ => ?_) fun _ _ x => x
      subst e1 e2
      simp only [Bool.not_true, Bool.false_eq_true, if_false]
      exact wpAny_pure ⟨rfl, rfl, ks', hl⟩
  · rintro ⟨r1, r2⟩ s' ⟨hr, rfl, _⟩
    simp only at hr
    subst hr
    exact wpAny_pure h
end
noncomputable def tkKind (prog : Program) (w : World) : HeapKind prog w (List IK) where
  is := IsTk prog w
  hash := hashT
  draws := drawsT
  room := fun A => A.units + 1 < cLine
  inj := fun hx hy => hx.inj hy
  keeps := fun x ho hd hs => x.keeps ho hd hs
  pyHash := fun hu hk h => tk_pyHash hu hk h
  eqBool := fun hu hx hy h => tk_eqBool hu hx hy h
  quiet := fun hk h => tk_quiet hk h
/-! ### a dict with such keys -/
noncomputable def DA (a : Addr) (kvs : List (IA × V)) (h : Heap) : Prop := kvs.length ≤ sizeLine ∧ (a == sysModules) = false ∧ ∃ (P : Program) (w : World) (vs : List (IA × Value)), KV kvs vs ∧ h.DictOf (iaKind P w) a vs
noncomputable def ZX : List (List IK × Addr × V) → List (List IK × Addr × Value) → Prop := Paired fun z x => z.1 = x.1 ∧ z.2.1 = x.2.1 ∧ RelV z.2.2 x.2.2
noncomputable def DB (a : Addr) (zs : List (List IK × Addr × V)) (h : Heap) : Prop := zs.length ≤ sizeLine ∧ (a == sysModules) = false ∧ ∃ xs : List (List IK × Addr × Value), ZX zs xs ∧
  ∃ o es ep, h.get? a = some o ∧ o.ExactDict ∧ o.data = .dict es ep ∧ es.toList = xs.map (fun x => ⟨hashT x.1, .ref x.2.1, x.2.2⟩) ∧ (xs.map (·.1)).Nodup
noncomputable def dA (a : Addr) (kvs : List (IA × V)) : HO := .ext (DA a kvs)
noncomputable def dB (a : Addr) (zs : List (List IK × Addr × V)) : HO := .ext (DB a zs)
noncomputable def atZ (zs : List (List IK × Addr × V)) (k : List IK) : Option V := (zs.find? fun p => decide (p.1 = k)).map (·.2.2)
noncomputable def Dx (H : Hp) (a : Addr) (s : Bool) (f : MK → Option V) (n : Nat) : Prop :=
  (s = false ∧ ∃ kvs, H a = some (dA a kvs) ∧ (∀ k, valV kvs k = f (.inl k)) ∧ kvs.length ≤ n) ∨
  (s = true ∧ ∃ zs, H a = some (dB a zs) ∧ (∀ z ∈ zs, KeyV H (.ref z.2.1) (.inr z.1)) ∧ (∀ k, atZ zs k = f (.inr k)) ∧ zs.length ≤ n)
section
variable {H H' : Hp} {a b : Addr} {s : Bool} {f g : MK → Option V} {n m : Nat}
theorem Dx.ext (h : Dx H a s f n) : ∃ φ, H a = some (.ext φ) := by
  rcases h with ⟨_, kvs, e, _⟩ | ⟨_, zs, e, _⟩
  · exact ⟨_, e⟩
  · exact ⟨_, e⟩
theorem Dx.keep (h : Dx H a s f n) (e : H' a = H a) (kp : Keep H H') : Dx H' a s f n := by
  rcases h with ⟨hs, kvs, h1, h2⟩ | ⟨hs, zs, h1, h2, h3⟩
  · exact .inl ⟨hs, kvs, e.trans h1, h2⟩
  · exact .inr ⟨hs, zs, e.trans h1, fun z hz => (h2 z hz).keep kp, h3⟩
theorem Dx.same (h : Dx H a s f n) (q : Same H H') : Dx H' a s f n := by
  obtain ⟨φ, h1⟩ := h.ext
  exact h.keep ((q _ _ h1).trans h1.symm) q.keep
theorem Dx.ne_lst {xs : List V} (h : Dx H a s f n) (e : H b = some (.lst xs)) : b ≠ a := by
  obtain ⟨φ, h1⟩ := h.ext
  exact ne_of e h1 (fun z => nomatch z)
theorem Dx.ne_tup {xs : List V} (h : Dx H a s f n) (e : H b = some (.tup xs)) : b ≠ a := by
  obtain ⟨φ, h1⟩ := h.ext
  exact ne_of e h1 (fun z => nomatch z)
theorem Dx.le (h : Dx H a s f n) (e : n ≤ m) : Dx H a s f m := by
  rcases h with ⟨hs, kvs, h1, h2, h3⟩ | ⟨hs, zs, h1, h2, h3, h4⟩
  · exact .inl ⟨hs, kvs, h1, h2, Nat.le_trans h3 e⟩
  · exact .inr ⟨hs, zs, h1, h2, h3, Nat.le_trans h4 e⟩
theorem Dx.congr (h : Dx H a s f n) (e : ∀ k, f k = g k) : Dx H a s g n := by
  rcases h with ⟨hs, kvs, h1, h2, h3⟩ | ⟨hs, zs, h1, h2, h3, h4⟩
  · exact .inl ⟨hs, kvs, h1, fun k => (h2 k).trans (e _), h3⟩
  · exact .inr ⟨hs, zs, h1, h2, fun k => (h3 k).trans (e _), h4⟩
end
end L2

end

section
-- KcMapR
set_option Elab.async false
set_option linter.all false
set_option maxRecDepth 100000
set_option maxHeartbeats 4000000
namespace L2
open PySem PyProof.Rows
theorem Dx.off {H H' : Hp} {a l : Addr} {s : Bool} {f : MK → Option V} {n : Nat} {xs : List V} (h : Dx H a s f n) (e : H l = some (.lst xs)) (o : Off l H H') : Dx H' a s f n :=
  h.keep (o a (h.ne_lst e).symm) (o.keep e)
theorem Dx.offK {H H' : Hp} {a : Addr} {s : Bool} {f : MK → Option V} {n : Nat} (h : Dx H a s f n) (o : Off a H H') : Keep H H' := o.keepD fun xs e => h.ne_tup e rfl
noncomputable def mDnewX : TE := fun _ H Q => ∃ s, ∀ p H', H p = none → Same H H' → Dx H' p s (fun _ => none) 0 → Q (.ref p) H'
theorem m_dnewX {σ : St} {H : Hp} {Q : VK} (s : Bool) (h : ∀ p H', H p = none → Same H H' → Dx H' p s (fun _ => none) 0 → Q (.ref p) H') : mDnewX σ H Q := ⟨s, h⟩
noncomputable def rXIn (neg : Bool) : R2 := fun y x H Q => ∃ a s f n k, x = .ref a ∧ Dx H a s f n ∧ KeyV H y k ∧ kSort k = s ∧ Q (.bl (if neg then (f k).isNone else (f k).isSome)) H
noncomputable def rXGet : R2 := fun x y H Q => ∃ a s f n k v, x = .ref a ∧ Dx H a s f n ∧ KeyV H y k ∧ kSort k = s ∧ f k = some v ∧ Q v H
noncomputable def putF_ (f : MK → Option V) (k : MK) (v : V) : MK → Option V := fun j => if j = k then some v else f j
noncomputable def rXSet : TSet := fun o i v H R => ∃ a s f n k, o = .ref a ∧ Dx H a s f n ∧ KeyV H i k ∧ kSort k = s ∧ n < sizeLine ∧ ∀ H', Off a H H' → Dx H' a s (putF_ f k v) (n + 1) → R H'
section
variable {σ : St} {H : Hp} {Q : VK} {a : Addr} {s : Bool} {f : MK → Option V} {n : Nat} {k : MK} {y v : V}
theorem r_xnotin (d : Dx H a s f n) (hk : KeyV H y k) (hs : kSort k = s) (h : Q (.bl (f k).isNone) H) : rXIn true y (.ref a) H Q := ⟨a, s, f, n, k, rfl, d, hk, hs, h⟩
theorem r_xget (d : Dx H a s f n) (hk : KeyV H y k) (hs : kSort k = s) (e : f k = some v) (h : Q v H) : rXGet (.ref a) y H Q := ⟨a, s, f, n, k, v, rfl, d, hk, hs, e, h⟩
theorem r_xset {R : Hp → Prop} (d : Dx H a s f n) (hk : KeyV H y k) (hs : kSort k = s) (hn : n < sizeLine) (h : ∀ H', Off a H H' → Dx H' a s (putF_ f k v) (n + 1) → R H') : rXSet (.ref a) y v H R := ⟨a, s, f, n, k, rfl, d, hk, hs, hn, h⟩
end
/-! what the firsts are behind i of the keys -/
section
variable {α : Type} [DecidableEq α] {ks : List α} {i : Nat} {k : α}
noncomputable def firsts (ks : List α) (i : Nat) : α → Option V := fun k => if k ∈ ks.take i then some (.int (ks.idxOf k : Nat)) else none
theorem firsts_old (hk : ks[i]? = some k) (h : k ∈ ks.take i) (j : α) : firsts ks i j = firsts ks (i + 1) j := by
  unfold firsts
  rw [take_snoc hk]
  by_cases q : j ∈ ks.take i
  · rw [if_pos q, if_pos (List.mem_append_left _ q)]
  · rw [if_neg q, if_neg]
    intro z
    rcases List.mem_append.mp z with z | z
    · exact q z
    · rw [List.mem_singleton.mp z] at q; exact q h
theorem firsts_new (hk : ks[i]? = some k) (h : k ∉ ks.take i) (j : α) : (if j = k then some (V.int (i : Nat)) else firsts ks i j) = firsts ks (i + 1) j := by
  unfold firsts
  rw [take_snoc hk]
  by_cases q : j = k
  · subst q
    rw [if_pos rfl, if_pos (by simp), idxOf_new hk h]
  · rw [if_neg q]
    by_cases z : j ∈ ks.take i
    · rw [if_pos z, if_pos (List.mem_append_left _ z)]
    · rw [if_neg z, if_neg]
      intro w
      rcases List.mem_append.mp w with w | w
      · exact z w
      · exact q (List.mem_singleton.mp w)
theorem firsts_at (h : k ∈ ks.take i) : firsts ks i k = some (.int (ks.idxOf k : Nat)) := if_pos h
theorem firsts_none (h : k ∉ ks.take i) : firsts ks i k = none := if_neg h
theorem mem_take_at (hk : ks[i]? = some k) : k ∈ ks.take (i + 1) := by rw [take_snoc hk]; simp
theorem firsts_zero (k : α) : none = firsts ks 0 k := (if_neg (by simp)).symm
theorem leastOf_snoc (hk : ks[i]? = some k) : (leastOf ks).take (i + 1) = (leastOf ks).take i ++ [ks.idxOf k] := take_snoc (by unfold leastOf; rw [List.getElem?_map, hk]; rfl)
end
end L2

end

section
-- KcMath
set_option linter.all false
namespace KM
end KM

end

section
-- KcDeal
set_option linter.all false
namespace KM
/-! ### deals, built card by card -/
noncomputable def words : Nat → List Nat → Nat
  | 0, _ => 1
  | n + 1, r => (((List.range r.length).filter fun j => decide (0 < r.getD j 0)).map fun j => words n (r.set j (r.getD j 0 - 1))).sum
noncomputable def left (room w : List Nat) : List Nat := (List.range room.length).map fun j => room.getD j 0 - w.count j
/-! the words are counted by the factorials -/
/-! ### what holds of each beginning -/
structure Begun (room : List Nat) (i : Nat) (w : List Nat) : Prop where
  len : w.length = i
  all : ∀ j ∈ w, j < room.length
  cnt : ∀ j, j < room.length → w.count j ≤ room.getD j 0
/-! ### their order -/
end KM

end

section
-- KcNum
set_option linter.all false
namespace KM
end KM

end

section
-- KcPack
set_option Elab.async false
set_option linter.all false
set_option maxRecDepth 100000
set_option maxHeartbeats 4000000
namespace L2
open PySem PyProof.Rows
/-! ### things of whatever kind -/
noncomputable def wholeV : V → Bool
  | .int _ => true
  | _ => false
noncomputable def Plain (K : PySem.W.Frag) (H : Hp) (x : V) : Prop := ∃ t b1 b2, TyOf K H x t ∧ PySem.W.kitOne K t (.type "int") = some b1 ∧ PySem.W.kitOne K t (.type "bool") = some b2 ∧ (b1 && !b2) = wholeV x
theorem Plain.int {K : PySem.W.Frag} {H : Hp} (i : Int) : Plain K H (.int i) := ⟨_, _, _, .int i, kit_int_int K, kit_int_bool K, rfl⟩
theorem tyOf_same {K : PySem.W.Frag} {H H' : Hp} {x : V} {t : Value} (h : TyOf K H x t) (s : Same H H') : TyOf K H' x t := by
  cases h with
  | non => exact .non
  | bl b => exact .bl b
  | int i => exact .int i
  | str x => exact .str x
  | flt x => exact .flt x
  | lst e => exact .lst (s _ _ e)
  | frz e => exact .frz (s _ _ e)
  | tup e => exact .tup (s _ _ e)
  | dK e => exact .dK (s _ _ e)
  | dT e => exact .dT (s _ _ e)
  | ins e cl ha hn htk hm => exact .ins (s _ _ e) cl ha hn htk hm
theorem Plain.same {K : PySem.W.Frag} {H H' : Hp} {x : V} (h : Plain K H x) (s : Same H H') : Plain K H' x := by
  obtain ⟨t, b1, b2, ty, r⟩ := h
  exact ⟨t, b1, b2, tyOf_same ty s, r⟩
/-! ### what is a pack -/
/-! ### how many -/
structure Pack (c : Nat) (ss : List Nat) : Prop where
  c12 : c ≤ 12
  l1 : 1 ≤ ss.length
  l5 : ss.length ≤ 5
  sum : ss.sum ≤ c
noncomputable def natV (ss : List Nat) : List V := ss.map fun (s : Nat) => V.int ((s : Nat) : Int)
theorem natV_ints (ss : List Nat) : natV ss = (ss.map fun (s : Nat) => ((s : Nat) : Int)).map V.int := by unfold natV; rw [List.map_map]; rfl
theorem natV_len (ss : List Nat) : (natV ss).length = ss.length := List.length_map _
/-! ### deals, one more card -/
/-! ### the deals -/
theorem natV_snoc (ss : List Nat) (c : Nat) : natV ss ++ [.int (c : Int)] = natV (ss ++ [c]) := by unfold natV; rw [List.map_append]; rfl
/-! ### the cards of a holder -/
theorem int_at {xs : List Int} {i : Nat} {x : V} (h : (xs.map V.int)[i]? = some x) : ∃ z, xs[i]? = some z ∧ x = .int z := by
  rw [List.getElem?_map] at h
  cases e : xs[i]? with
  | none => rw [e] at h; cases h
  | some z => rw [e] at h; exact ⟨z, rfl, (Option.some.inj h).symm⟩
end L2

end

section
-- KcLawC
set_option Elab.async false
set_option linter.all false
set_option maxRecDepth 100000
set_option maxHeartbeats 4000000
namespace L2
open PySem PyProof.Rows

/-! ### the numbers out of a script -/
noncomputable abbrev sp__law_cell (K : PySem.W.Frag) : Sp := spCell K
noncomputable def t__law_cell (K : PySem.W.Frag) : TS := (tSeq (tIfS (tTest (tOp (rI0 fun i j => .bl (decide (i < j))) (tVar 1) (tCB (cLen K) (tCons (tVar 0) tNil)))) (tRet (tOp (rIxL K) (tVar 0) (tVar 1))) tNext)
  (tSeq (tAsg (tOp (rI0 fun i j => .int (i + j)) (tOp (rI IntMulOk fun i j => .int (i * j)) (tVar 1) (tC (.int 7919))) (tC (.int 5))) (gName 2))
  (tSeq (tIfS (tTest (tOp (rI0 fun i j => .bl (decide (j < i))) (tCB (cLen K) (tCons (tVar 0) tNil)) (tC (.int 0)))) (tAsg (tOp (rI0 fun i j => .int (i + j)) (tOp (rI IntMulOk fun i j => .int (i * j)) (tOp (rIxL K) (tVar 0) (tOp (rI (fun _ j => 0 < j) fun i j => .int (i % j)) (tOp (rI IntMulOk fun i j => .int (i * j)) (tVar 1) (tC (.int 7))) (tCB (cLen K) (tCons (tVar 0) tNil)))) (tC (.int 48271))) (tOp (rI IntMulOk fun i j => .int (i * j)) (tVar 1) (tC (.int 7919)))) (gName 2)) tNext)
  (tSeq (tAsg (tOp (rI (fun _ j => 0 < j) fun i j => .int (i % j)) (tOp (rI IntMulOk fun i j => .int (i * j)) (tVar 2) (tVar 2)) (tC (.int 2147483629))) (gName 2))
  (tRet (tOp (rI (fun _ j => 0 < j) fun i j => .int (i % j)) (tOp (rI IntMulOk fun i j => .int (i * j)) (tOp (rI0 fun i j => .int (i + j)) (tVar 2) (tVar 1)) (tOp (rI0 fun i j => .int (i + j)) (tVar 2) (tC (.int 69621)))) (tC (.int 2147483587))))))))
theorem len__law_cell {K : PySem.W.Frag} {vs : List V} {H : Hp} {Q : VK} {E : XK} (h : sp__law_cell K vs H Q E) : vs.length = 2 := by
  obtain ⟨a, ns, k, rfl, ⟨hS, h63, hbits⟩, h0, h1, q⟩ := h
  rfl
theorem rd__law_cell {K : PySem.W.Frag} {vs : List V} {H : Hp} {Q : VK} {E : XK} (h : sp__law_cell K vs H Q E) : t__law_cell K { nx := fun _ H' => Q .non H', rt := Q } (start ["_law_script", "_law_k", "_law_number"] vs) H := by
  obtain ⟨a, ns, k, rfl, ⟨hS, h63, hbits⟩, h0, h1, q⟩ := h
  show t__law_cell K _ [some _, some _, none] _
  unfold t__law_cell
  have hl : (ns.map V.int).length = ns.length := List.length_map _
  walk_at "rd"
  rw [hl]
  refine ite_dec (fun c => ?_) (fun c => ?_)
  · walk_at "rd"
    refine r_ixL hS (atI_ints h0 c) ?_
    have e : cellN ns k = ns.getD k.toNat 0 := by unfold cellN; rw [if_pos c]
    rw [e] at q
    exact q
  · refine r_next ?_
    dsimp only
    refine r_seq ?_
    walk_at "rs"
    refine r_seq_n fun NX hNX => ?_
    have last : ∀ n0 : Int, Builtin.Int.intBits n0 ≤ 1048600 → cellN ns k = ((n0 * n0 % 2147483629) + k) * ((n0 * n0 % 2147483629) + 69621) % 2147483587 → NX [some (.ref a), some (.int k), some (.int n0)] H := by
      intro n0 hb e
      refine hNX _ _ ?_
      have z1 : 0 ≤ n0 * n0 % 2147483629 := Int.emod_nonneg _ (by decide)
      have z2 : n0 * n0 % 2147483629 < 2147483629 := Int.emod_lt_of_pos _ (by decide)
      refine r_seq ?_
      refine r_asg ?_
      refine r_op ?_
      refine r_op ?_
      refine r_var rfl ?_
      refine r_var rfl ?_
      refine r_I (.of_le hb hb (by decide)) ?_
      walk_at "rd"
      rw [e] at q
      exact q
    walk_at "rs"
    rw [hl]
    refine ite_dec (fun d => ?_) (fun d => ?_)
    · have m1 : 0 ≤ k * 7 % (ns.length : Int) := Int.emod_nonneg _ (by omega)
      have m2 : k * 7 % (ns.length : Int) < (ns.length : Int) := Int.emod_lt_of_pos _ d
      walk_at "rs"
      rw [hl]
      refine r_ixL hS (atI_ints m1 m2) ?_
      walk_at "rs"
      refine last _ ?_ ?_
      · have b1 := bits_getD hbits (k * 7 % (ns.length : Int)).toNat
        have b2 : Builtin.Int.intBits (48271 : Int) ≤ 16 := by decide
        have b3 : Builtin.Int.intBits k ≤ 20 := intBits_le_iff.mpr (by have : (2 : Nat) ^ 20 = 1048576 := by decide
                                                                       omega)
        have b4 : Builtin.Int.intBits (7919 : Int) ≤ 13 := by decide
        exact Nat.le_trans (intBits_add_le (intBits_mul_le b1 b2) (intBits_mul_le b3 b4)) (by decide)
      · unfold cellN
        rw [if_neg c, if_pos d]
    · walk_at "rs"
      refine last _ ?_ ?_
      · have b3 : Builtin.Int.intBits k ≤ 20 := intBits_le_iff.mpr (by have : (2 : Nat) ^ 20 = 1048576 := by decide
                                                                       omega)
        have b4 : Builtin.Int.intBits (7919 : Int) ≤ 13 := by decide
        have b5 : Builtin.Int.intBits (5 : Int) ≤ 3 := by decide
        exact Nat.le_trans (intBits_add_le (intBits_mul_le b3 b4) b5) (by decide)
      · unfold cellN
        rw [if_neg c, if_neg d]
/-! ### products -/
/-! ### the count of deals by factorials -/
/-! ### the pack -/
end L2

end

section
-- KcLawV
set_option Elab.async false
set_option linter.all false
set_option maxRecDepth 100000
set_option maxHeartbeats 4000000
namespace L2
open PySem PyProof.Rows

/-! ### drawn numbers; lists of whole numbers -/
noncomputable def sp__law_mixed (_ : PySem.W.Frag) : Sp := fun vs H Q _ => ∃ (b k : Int), vs = [.int b, .int k] ∧ 0 ≤ b ∧ b ≤ 1000000000 ∧ 0 ≤ k ∧ k ≤ 100000 ∧ ∀ z : Int, 0 ≤ z → z ≤ 1000000007 → Q (.int z) H
noncomputable def t__law_mixed (K : PySem.W.Frag) : TS := (tSeq (tAsg (tOp (rI (fun _ j => 0 < j) fun i j => .int (i % j)) (tOp (rI IntMulOk fun i j => .int (i * j)) (tOp (rI0 fun i j => .int (i + j)) (tOp (rI0 fun i j => .int (i + j)) (tVar 0) (tOp (rI IntMulOk fun i j => .int (i * j)) (tVar 1) (tC (.int 104729)))) (tC (.int 7))) (tC (.int 48271))) (tC (.int 2147483629))) (gName 2))
  (tSeq (tAsg (tOp (rI (fun _ j => 0 < j) fun i j => .int (i % j)) (tOp (rI0 fun i j => .int (i + j)) (tOp (rI IntMulOk fun i j => .int (i * j)) (tVar 2) (tVar 2)) (tOp (rI IntMulOk fun i j => .int (i * j)) (tVar 1) (tC (.int 7919)))) (tC (.int 2147483587))) (gName 2))
  (tRet (tOp (rI CDiv fun i j => .int (i / j)) (tOp (rI (fun _ j => 0 < j) fun i j => .int (i % j)) (tOp (rI IntMulOk fun i j => .int (i * j)) (tVar 2) (tC (.int 69621))) (tC (.int 1000000007))) (tC (.int 11))))))
theorem len__law_mixed {K : PySem.W.Frag} {vs : List V} {H : Hp} {Q : VK} {E : XK} (h : sp__law_mixed K vs H Q E) : vs.length = 2 := by
  obtain ⟨b, k, rfl, b0, b1, k0, k1, q⟩ := h
  rfl
theorem rd__law_mixed {K : PySem.W.Frag} {vs : List V} {H : Hp} {Q : VK} {E : XK} (h : sp__law_mixed K vs H Q E) : t__law_mixed K { nx := fun _ H' => Q .non H', rt := Q } (start ["_law_base", "_law_k", "_law_number"] vs) H := by
  obtain ⟨b, k, rfl, b0, b1, k0, k1, q⟩ := h
  show t__law_mixed K _ [some _, some _, none] _
  unfold t__law_mixed
  walk_at "rd"
  exact q _ (by omega) (by omega)
noncomputable def sp__law_wholes (_ : PySem.W.Frag) : Sp := fun vs H Q _ => ∃ (a : Addr) (ns : List Int), vs = [.ref a] ∧ H a = some (.lst (ns.map V.int)) ∧ ns.length ≤ 100000 ∧ ∀ H', Same H H' → Q (.bl true) H'
noncomputable def t__law_wholes (K : PySem.W.Frag) : TS := (tSeq (tIfS (tNot (tB (tCB (rIsi K) (tCons (tVar 0) (tCons (tC (.ty "list")) tNil))))) (tRet (tC (.bl false))) tNext)
  (tRet (tOp (rEqS (SqL K) false) (tComp (iList K (tVar 0)) (fun _ _ _ _ => (gName 0)) (fun _ _ _ _ => (tOr (tNot (tB (tCB (rIsi K) (tCons (tVar 0) (tCons (tC (.ty "int")) tNil))))) (tB (tCB (rIsi K) (tCons (tVar 0) (tCons (tC (.ty "bool")) tNil)))))) (fun _ _ _ _ => (tVar 0)) [none]) (mLst tNil))))
theorem len__law_wholes {K : PySem.W.Frag} {vs : List V} {H : Hp} {Q : VK} {E : XK} (h : sp__law_wholes K vs H Q E) : vs.length = 1 := by
  obtain ⟨a, ns, rfl, e, hl, q⟩ := h
  rfl
theorem rd__law_wholes {K : PySem.W.Frag} {vs : List V} {H : Hp} {Q : VK} {E : XK} (h : sp__law_wholes K vs H Q E) : t__law_wholes K { nx := fun _ H' => Q .non H', rt := Q } (start ["_law_found"] vs) H := by
  obtain ⟨a, ns, rfl, e, hl, q⟩ := h
  show t__law_wholes K _ [some _] _
  unfold t__law_wholes
  walk_at "rd"
  refine r_isi (.lst e) (kit_lst_lst K) ?_
  walk_at "rd"
  refine lc_list (ns.map V.int) (SqL.of e) (by rw [List.length_map]; omega) (fun i acc _ => acc = []) (fun _ _ => rfl) ?_ ?_
  · intro p hp C s' H' fp i x acc H2 hx ⟨s2, e2, l2, r2⟩
    obtain ⟨z, hz, rfl⟩ := int_at hx
    subst r2
    walk_at "rd"
    refine r_isi (.int _) (kit_int_int K) ?_
    walk_at "rd"
    refine r_isi (.int _) (kit_int_bool K) ?_
    walk_at "rd"
    exact CInv.skip s2 e2 l2 rfl
  · intro p acc H2 hp s2 e2 r2
    subst r2
    walk_at "rd"
    refine ⟨by simp [sizeLine_eq], fun p3 H3 hp3 s3 e3 => ?_⟩
    refine r_eqL (ns := []) (ms := []) (SqL.of (s3 _ _ e2)) (SqL.of e3) ?_
    exact q _ (s2.trans s3)

end L2

end

section
-- KcLawL
set_option Elab.async false
set_option linter.all false
set_option maxRecDepth 100000
set_option maxHeartbeats 4000000
namespace L2
open PySem PyProof.Rows

/-! ### for each thing the least one with the same sign -/
noncomputable def sp__law_least (K : PySem.W.Frag) : Sp := fun vs H Q _ => ∃ (a : Addr) (xs : List V) (ks : List MK) (s : Bool), vs = [.ref a] ∧ H a = some (.lst xs) ∧ Paired (KeyV H) xs ks ∧ (∀ k ∈ ks, kSort k = s) ∧ ks.length ≤ 100000 ∧
  ∀ p H', H p = none → Same H H' → H' p = some (.lst (natV (leastOf ks))) → Q (.ref p) H'
noncomputable def t__law_least (K : PySem.W.Frag) : TS := (tSeq (tAsg mDnewX (gName 1))
  (tSeq (tAsg (mLst tNil) (gName 2))
  (tSeq (tFor (iEnum srcL K (tCons (tVar 0) tNil)) (gTup K 2 (gCons (gName 3) (gCons (gName 4) gNil))) (tSeq (tIfS (tTest (tOp (rXIn true) (tVar 4) (tVar 1))) (tAsg (tVar 3) (gSub (tVar 1) (tVar 4) rXSet)) tNext)
  (tDrop (tBM K "list" rAppend (tVar 2) (tCons (tOp rXGet (tVar 1) (tVar 4)) tNil)))))
  (tRet (tVar 2)))))
theorem len__law_least {K : PySem.W.Frag} {vs : List V} {H : Hp} {Q : VK} {E : XK} (h : sp__law_least K vs H Q E) : vs.length = 1 := by
  obtain ⟨a, xs, ks, s, rfl, e, hk, hs, hl, q⟩ := h
  rfl
theorem rd__law_least {K : PySem.W.Frag} {vs : List V} {H : Hp} {Q : VK} {E : XK} (h : sp__law_least K vs H Q E) : t__law_least K { nx := fun _ H' => Q .non H', rt := Q } (start ["_law_signs", "_law_first", "_law_found", "_law_place", "_law_sign"] vs) H := by
  obtain ⟨a, xs, ks, s, rfl, e, hk, hs, hl, q⟩ := h
  show t__law_least K _ [some _, none, none, none, none] _
  unfold t__law_least
  have hlen : xs.length = ks.length := Paired.length hk
  walk_at "rd"
  refine m_dnewX s fun d H1 hd s1 dx1 => ?_
  walk_at "rd"
  refine ⟨by simp [sizeLine_eq], fun f H2 hf s2 e2 => ?_⟩
  walk_at "rd"
  refine lp_enum (S := srcL) xs (SqL.of (s2 _ _ (s1 _ _ e))) (fun i σ H3 => ∃ (u v : Option V), σ = [some (.ref a), some (.ref d), some (.ref f), u, v] ∧ Same H H3 ∧ Dx H3 d s (firsts ks i) i ∧ H3 f = some (.lst (natV ((leastOf ks).take i)))) ?_ ?_ ?_ ?_
  · exact ⟨none, none, rfl, s1.trans s2, (dx1.congr firsts_zero).same s2, e2⟩
  · rintro i σ H3 hi ⟨u, v, rfl, s3, dx3, e3⟩
    exact SqL.of (s3 _ _ e)
  · rintro i x T σ H3 H4 hx ⟨u, v, rfl, s3, dx3, e3⟩ hT s4 eT
    obtain ⟨k, hki, hkv⟩ := paired_at hk hx
    have hks := hs k (List.mem_of_getElem? hki)
    have hi : i < ks.length := (List.getElem?_eq_some_iff.mp hki).1
    refine g_pair (SqT.of eT) ?_
    have hkv4 := hkv.keep (s3.trans s4).keep
    have dx4 := dx3.same s4
    have e4 := s4 _ _ e3
    have s34 := s3.trans s4
    have hfd := dx4.ne_lst e4
    have hdH : H d = none := hd
    have hfH : H f = none := s1.free hf
    refine r_seq_n fun NX hNX => ?_
    have key : ∀ H5, Same H H5 → Dx H5 d s (firsts ks (i + 1)) (i + 1) → H5 f = some (.lst (natV ((leastOf ks).take i))) → KeyV H5 x k → NX [some (.ref a), some (.ref d), some (.ref f), some (.int (i : Nat)), some x] H5 := by
      intro H5 s5 dx5 e5 hk5
      refine hNX _ _ ?_
      walk_at "rd"
      refine ⟨r_tyL e5, ?_⟩
      walk_at "rd"
      refine r_xget dx5 hk5 hks (firsts_at (mem_take_at hki)) ?_
      walk_at "rd"
      refine r_append e5 (by rw [natV_len, List.length_take, length_leastOf, sizeLine_eq]; omega) fun H6 o6 e6 => ?_
      refine ⟨_, _, rfl, s5.off hfH o6, dx5.off e5 o6, ?_⟩
      rw [e6, leastOf_snoc hki, natV_snoc]
    walk_at "rd"
    refine r_xnotin dx4 hkv4 hks ?_
    walk_at "rd"
    by_cases hm : k ∈ ks.take i
    · rw [firsts_at hm]
      refine iteF ?_
      exact key H4 s34 ((dx4.congr (firsts_old hki hm)).le (Nat.le_succ i)) e4 hkv4
    · rw [firsts_none hm]
      refine iteT ?_
      walk_at "rd"
      refine r_xset dx4 hkv4 hks (by rw [sizeLine_eq]; omega) fun H5 o5 dx5 => ?_
      have kp := dx4.offK o5
      exact key H5 (s34.off hdH o5) (dx5.congr (firsts_new hki hm)) (by rw [o5 _ hfd]; exact e4) (hkv4.keep kp)
  · rintro σ H3 ⟨u, v, rfl, s3, dx3, e3⟩
    walk_at "rd"
    refine q _ _ (s1.free hf) s3 ?_
    rw [e3, List.take_of_length_le (by rw [length_leastOf, hlen]; exact Nat.le_refl _)]

end L2

end

section
-- KcLawW
set_option Elab.async false
set_option linter.all false
set_option maxRecDepth 100000
set_option maxHeartbeats 4000000
namespace L2
open PySem PyProof.Rows

theorem natV_get {ss : List Nat} {j z : Nat} (h : ss[j]? = some z) : atI (natV ss) (j : Int) = some (.int (z : Int)) := atI_nat (by unfold natV; rw [List.getElem?_map, h]; rfl)
theorem least_ints (zs : List Int) : leastOf (zs.map fun n => (Sum.inl (some n) : MK)) = leastOf zs := leastOf_map (f := fun n => (Sum.inl (some n) : MK)) (fun a b e => by injection e with e; injection e) zs
theorem int_mod {z : Int} {m : Nat} (hm : 0 < m) : ∃ j : Nat, z % (m : Int) = (j : Int) ∧ j < m := by
  have m1 := Int.emod_nonneg z (b := (m : Int)) (by omega)
  have m2 := Int.emod_lt_of_pos z (b := (m : Int)) (by omega)
  exact ⟨(z % (m : Int)).toNat, by omega, by omega⟩
/-! ### a drawn view -/
noncomputable def sp__law_view (K : PySem.W.Frag) : Sp := fun vs H Q _ => ∃ (a : Addr) (ns : List Int) (at_ : Int) (many : Nat), vs = [.ref a, .int at_, .int many] ∧ ScriptOk K H a ns ∧ 0 ≤ at_ ∧ at_ ≤ 1000 ∧ many ≤ 2000 ∧
  ∀ (zs : List Int) p H', zs.length = many → H p = none → Same H H' → H' p = some (.lst (natV (leastOf zs))) → Q (.ref p) H'
noncomputable def t__law_view (K : PySem.W.Frag) : TS := (tSeq (tAsg (tOp (rI0 fun i j => .int (i + j)) (tC (.int 1)) (tOp (rI (fun _ j => 0 < j) fun i j => .int (i % j)) (tCall (sp__law_cell K) [] E0 (tCons (tVar 0) (tCons (tVar 1) tNil))) (tOp (rIxL K) (mLst (tCons (tC (.int 1)) (tCons (tC (.int 2)) (tCons (tC (.int 3)) (tCons (tC (.int 5)) (tCons (tC (.int 9)) (tCons (tOp (rI0 fun i j => .int (i + j)) (tC (.int 1)) (tVar 2)) (tCons (tOp (rI0 fun i j => .int (i + j)) (tC (.int 1)) (tOp (rI CDiv fun i j => .int (i / j)) (tVar 2) (tC (.int 2)))) tNil)))))))) (tOp (rI (fun _ j => 0 < j) fun i j => .int (i % j)) (tOp (rI CDiv fun i j => .int (i / j)) (tCall (sp__law_cell K) [] E0 (tCons (tVar 0) (tCons (tVar 1) tNil))) (tC (.int 9))) (tC (.int 7)))))) (gName 3))
  (tSeq (tAsg (tOp (rI (fun _ j => 0 < j) fun i j => .int (i % j)) (tCall (sp__law_cell K) [] E0 (tCons (tVar 0) (tCons (tOp (rI0 fun i j => .int (i + j)) (tVar 1) (tC (.int 1))) tNil))) (tOp (rI CPow fun i j => .int (i ^ j.toNat)) (tC (.int 10)) (tC (.int 9)))) (gName 4))
  (tRet (tCall (sp__law_least K) [] E0 (tCons (tComp (iRng1 (tCons (tVar 2) tNil)) (fun _ _ _ _ => (gName 0)) (fun _ _ _ _ => tAlways) (fun _ _ _ _ => (tOp (rI (fun _ j => 0 < j) fun i j => .int (i % j)) (tCall (sp__law_mixed K) [] E0 (tCons (tVar 2) (tCons (tVar 0) tNil))) (tVar 1))) [none, some 3, some 4]) tNil)))))
theorem len__law_view {K : PySem.W.Frag} {vs : List V} {H : Hp} {Q : VK} {E : XK} (h : sp__law_view K vs H Q E) : vs.length = 3 := by
  obtain ⟨a, ns, at_, many, rfl, hSc, h0, h1, hm, q⟩ := h
  rfl
theorem rd__law_view {K : PySem.W.Frag} {vs : List V} {H : Hp} {Q : VK} {E : XK} (h : sp__law_view K vs H Q E) : t__law_view K { nx := fun _ H' => Q .non H', rt := Q } (start ["_law_script", "_law_at", "_law_many", "_law_kinds", "_law_base"] vs) H := by
  obtain ⟨a, ns, at_, many, rfl, hSc, h0, h1, hm, q⟩ := h
  show t__law_view K _ [some _, some _, some _, none, none] _
  unfold t__law_view
  walk_at "rd"
  refine ⟨a, ns, at_, rfl, hSc, h0, by omega, ?_⟩
  walk_at "rd"
  refine ⟨by simp [sizeLine_eq], fun b H1 hb s1 e1 => ?_⟩
  walk_at "rd"
  have hSc1 := hSc.same s1
  refine ⟨a, ns, at_, rfl, hSc1, h0, by omega, ?_⟩
  walk_at "rd"
  obtain ⟨x, hx, hxm⟩ := at_mod [.int 1, .int 2, .int 3, .int 5, .int 9, .int (1 + (many : Int)), .int (1 + (many : Int) / 2)] (cellN ns at_ / 9) (m := 7) rfl (by decide)
  obtain ⟨r, rfl, r1⟩ : ∃ r : Nat, x = .int (r : Int) ∧ 0 < r := by
    simp only [List.mem_cons, List.not_mem_nil, or_false] at hxm
    rcases hxm with rfl | rfl | rfl | rfl | rfl | rfl | rfl
    · exact ⟨1, rfl, by decide⟩
    · exact ⟨2, rfl, by decide⟩
    · exact ⟨3, rfl, by decide⟩
    · exact ⟨5, rfl, by decide⟩
    · exact ⟨9, rfl, by decide⟩
    · exact ⟨1 + many, by simp, by omega⟩
    · exact ⟨1 + many / 2, by simp, by omega⟩
  refine r_ixL (SqL.of e1) hx ?_
  walk_at "rd"
  obtain ⟨kd, hkd, _⟩ := int_mod (z := cellN ns at_) r1
  rw [hkd]
  walk_at "rd"
  refine ⟨a, ns, at_ + 1, rfl, hSc1, by omega, by omega, ?_⟩
  walk_at "rd"
  obtain ⟨bs, hbs, hbs1⟩ := int_mod (z := cellN ns (at_ + 1)) (m := 1000000000) (by decide)
  rw [show (10 : Int) ^ (9 : Int).toNat = ((1000000000 : Nat) : Int) by decide, hbs]
  walk_at "rd"
  refine lc_range many (by omega) (by omega) (by omega) (fun i acc _ => ∃ zs : List Int, zs.length = i ∧ acc = zs.map V.int) (fun H' _ => ⟨[], rfl, rfl⟩) ?_ ?_
  · rintro p hp C s' H' fp i acc H2 hi ⟨s2, e2, l2, zs, hz, rfl⟩
    walk_at "rd"
    refine ⟨(bs : Int), (i : Int), rfl, by omega, by omega, by omega, by omega, fun z z0 z1 => ?_⟩
    walk_at "rd"
    exact CInv.put hp (fun _ _ _ _ r _ => r) s2 e2 l2 ⟨zs ++ [z % (1 + (kd : Int))], by simp [hz], by simp⟩
  · rintro p acc H2 hp s2 e2 ⟨zs, hz, rfl⟩
    walk_at "rd"
    refine ⟨p, _, _, false, rfl, e2, keys_ints H2 zs, ?_, by rw [List.length_map]; omega, fun p3 H3 hp3 s3 e3 => ?_⟩
    · intro k hk
      obtain ⟨z, _, rfl⟩ := List.mem_map.mp hk
      rfl
    · rw [least_ints] at e3
      exact q zs _ _ hz (s1.free (s2.free hp3)) ((s1.trans s2).trans s3) e3

end L2

end

section
-- KcIsR
set_option Elab.async false
set_option linter.all false
set_option maxRecDepth 100000
set_option maxHeartbeats 4000000
namespace L2
open PySem PyProof.Rows
/-! ### is None, is not None -/
noncomputable def isN : V → Bool
  | .non => true
  | _ => false
noncomputable def rIsNone : R2 := fun x y H Q => y = .non ∧ Q (.bl (isN x)) H
noncomputable def rIsnNone : R2 := fun x y H Q => y = .non ∧ Q (.bl (!isN x)) H
theorem r_isNone {x : V} {H : Hp} {Q : VK} (h : Q (.bl (isN x)) H) : rIsNone x .non H Q := ⟨rfl, h⟩
theorem r_isnNone {x : V} {H : Hp} {Q : VK} (h : Q (.bl (!isN x)) H) : rIsnNone x .non H Q := ⟨rfl, h⟩
/-! ### (x,) * n -/
/-! ### len(set(xs)), min(xs), min(xs, default=None), of whole numbers -/
/-! ### range(a, -1, -1) -/
end L2

end

section
-- KcSameD
set_option Elab.async false
set_option linter.all false
set_option maxRecDepth 100000
set_option maxHeartbeats 4000000
namespace L2
open PySem PyProof.Rows
/-! ### one and the same data, lists and tuples to any depth -/
noncomputable def flatD : V → Bool
  | .non => true
  | .bl _ => true
  | .int _ => true
  | _ => false
inductive SameD (K : PySem.W.Frag) (H : Hp) : Nat → V → V → Prop where
  | flat {n : Nat} {x : V} (h : flatD x = true) : SameD K H n x x
  | lst {n : Nat} {a b : Addr} {xs ys : List V} (e1 : SqL K H a xs) (e2 : SqL K H b ys) (hl : xs.length = ys.length) (h : ∀ (i : Nat) (x y : V), xs[i]? = some x → ys[i]? = some y → SameD K H n x y) : SameD K H (n + 1) (.ref a) (.ref b)
  | tup {n : Nat} {a b : Addr} {xs ys : List V} (e1 : SqT K H a xs) (e2 : SqT K H b ys) (hl : xs.length = ys.length) (h : ∀ (i : Nat) (x y : V), xs[i]? = some x → ys[i]? = some y → SameD K H n x y) : SameD K H (n + 1) (.ref a) (.ref b)
noncomputable def rSameD (K : PySem.W.Frag) (neg : Bool) : R2 := fun x y H Q => ∃ n, n ≤ 30 ∧ SameD K H n x y ∧ Q (.bl (!neg)) H
section
variable {K : PySem.W.Frag} {H : Hp} {Q : VK}
theorem r_sameE {x y : V} (n : Nat) (hn : n ≤ 30) (h : SameD K H n x y) (q : Q (.bl true) H) : rSameD K false x y H Q := ⟨n, hn, h, q⟩
theorem r_sameN {x y : V} (n : Nat) (hn : n ≤ 30) (h : SameD K H n x y) (q : Q (.bl false) H) : rSameD K true x y H Q := ⟨n, hn, h, q⟩
theorem same_flatL {a b : Addr} {xs : List V} (e1 : SqL K H a xs) (e2 : SqL K H b xs) (hf : ∀ x ∈ xs, flatD x = true) : SameD K H 1 (.ref a) (.ref b) :=
  .lst e1 e2 rfl fun i x y hx hy => by
    rw [hx] at hy
    cases hy
    exact .flat (hf x (List.mem_of_getElem? hx))
theorem SameD.up {n m : Nat} {x y : V} (h : SameD K H n x y) (hm : n ≤ m) : SameD K H m x y := by
  induction h generalizing m with
  | flat h => exact .flat h
  | lst e1 e2 hl _ ih =>
    obtain ⟨k, rfl⟩ : ∃ k, m = k + 1 := ⟨m - 1, by omega⟩
    exact .lst e1 e2 hl fun i x y hx hy => ih i x y hx hy (by omega)
  | tup e1 e2 hl _ ih =>
    obtain ⟨k, rfl⟩ : ∃ k, m = k + 1 := ⟨m - 1, by omega⟩
    exact .tup e1 e2 hl fun i x y hx hy => ih i x y hx hy (by omega)
theorem flat_ints (ns : List Int) : ∀ x ∈ ns.map V.int, flatD x = true := fun x hx => by obtain ⟨n, _, rfl⟩ := List.mem_map.mp hx; rfl
end
/-! ### a comprehension over enumerate -/
section
variable {g : CF TG} {tt : CF TT} {te : CF TE} {σ₀ : St} {Q : VK} {H : Hp} {K : PySem.W.Frag}
end
end L2

end

section
-- KcRows
set_option Elab.async false
set_option linter.all false
set_option maxRecDepth 100000
set_option maxHeartbeats 4000000
namespace L2
open PySem PyProof.Rows
/-! ### a list of lists -/
theorem rows_snoc {α : Type} {ks : List α} {i : Nat} {k : α} (hk : ks[i]? = some k) : ks.take (i + 1) = ks.take i ++ [k] := by
  rw [List.take_add_one, hk]; rfl
theorem pr_snoc {α β : Type} {R : α → β → Prop} {x : α} {y : β} : ∀ {xs : List α} {ys : List β}, Paired R xs ys → R x y → Paired R (xs ++ [x]) (ys ++ [y])
  | _, _, .nil, q => .cons q .nil
  | _, _, .cons r t, q => .cons r (pr_snoc t q)
theorem pr_at {α β : Type} {R : α → β → Prop} : ∀ {xs : List α} {ys : List β}, Paired R xs ys → ∀ {i : Nat} {x : α}, xs[i]? = some x → ∃ y, ys[i]? = some y ∧ R x y
  | _, _, .nil, i, x, e => by cases e
  | _, _, .cons r t, 0, x, e => by cases e; exact ⟨_, rfl, r⟩
  | _, _, .cons r t, i + 1, x, e => pr_at t e
theorem pr_at2 {α β : Type} {R : α → β → Prop} : ∀ {xs : List α} {ys : List β}, Paired R xs ys → ∀ {i : Nat} {y : β}, ys[i]? = some y → ∃ x, xs[i]? = some x ∧ R x y
  | _, _, .nil, i, x, e => by cases e
  | _, _, .cons r t, 0, x, e => by cases e; exact ⟨_, rfl, r⟩
  | _, _, .cons r t, i + 1, x, e => pr_at2 t e
theorem refs_at {rs : List Addr} {i : Nat} {x : V} (hx : (rs.map V.ref)[i]? = some x) : ∃ a, rs[i]? = some a ∧ x = .ref a := by
  rw [List.getElem?_map] at hx
  cases h : rs[i]? with
  | none => rw [h] at hx; cases hx
  | some a => rw [h] at hx; cases hx; exact ⟨a, rfl, rfl⟩
theorem refs_get {rs : List Addr} {i : Nat} {a : Addr} (h : rs[i]? = some a) : atI (rs.map V.ref) (i : Int) = some (.ref a) := atI_nat (by rw [List.getElem?_map, h]; rfl)
section
variable {α : Type} {f : α → List V} {H H' H2 H5 : Hp} {p r : Addr} {rs : List Addr} {fs : List α} {v : α}
noncomputable def LsP (f : α → List V) (H : Hp) (rs : List Addr) (fs : List α) : Prop := Paired (fun (a : Addr) (v : α) => H a = some (.lst (f v))) rs fs
noncomputable def LsAt (f : α → List V) (H : Hp) (p : Addr) (fs : List α) : Prop := ∃ rs : List Addr, H p = some (.lst (rs.map V.ref)) ∧ LsP f H rs fs
theorem LsP.same (h : LsP f H rs fs) (s : Same H H') : LsP f H' rs fs := Paired.mapP h fun _ _ q => s _ _ q
theorem LsAt.same (h : LsAt f H p fs) (s : Same H H') : LsAt f H' p fs := let ⟨rs, e, q⟩ := h; ⟨rs, s _ _ e, q.same s⟩
noncomputable def LsOff (f : α → List V) (p : Addr) (H : Hp) (rs : List Addr) (fs : List α) : Prop := Paired (fun (a : Addr) (v : α) => a ≠ p ∧ H a = some (.lst (f v))) rs fs
theorem LsOff.same (h : LsOff f p H rs fs) (s : Same H H') : LsOff f p H' rs fs := Paired.mapP h fun _ _ q => ⟨q.1, s _ _ q.2⟩
theorem LsOff.off (h : LsOff f p H rs fs) (o : Off p H H') : LsOff f p H' rs fs := Paired.mapP h fun _ _ q => ⟨q.1, by rw [o _ q.1]; exact q.2⟩
theorem LsP.len (h : LsP f H rs fs) : rs.length = fs.length := Paired.length h
theorem LsOff.len (h : LsOff f p H rs fs) : rs.length = fs.length := Paired.length h
theorem LsP.get (h : LsP f H rs fs) {i : Nat} {a : Addr} (e : rs[i]? = some a) : ∃ v, fs[i]? = some v ∧ H a = some (.lst (f v)) := pr_at h e
theorem LsP.of (h : LsP f H rs fs) {i : Nat} {v : α} (e : fs[i]? = some v) : ∃ a, rs[i]? = some a ∧ H a = some (.lst (f v)) := pr_at2 h e
noncomputable def NewL (f : α → List V) (H : Hp) (p : Addr) (fs : List α) (i : Nat) (acc : List V) (H2 : Hp) : Prop :=
  Same H H2 ∧ H2 p = some (.lst acc) ∧ acc.length ≤ i ∧ ∃ rs : List Addr, acc = rs.map V.ref ∧ LsOff f p H2 rs (fs.take i)
theorem NewL.put {i : Nat} {acc : List V} (hp : H p = none) (h : NewL f H p fs i acc H2) (hv : fs[i]? = some v) (hr : H2 r = none) (s : Same H2 H5) (e : H5 r = some (.lst (f v))) :
    H5 p = some (.lst acc) ∧ NewL f H p fs (i + 1) (acc ++ [.ref r]) (upd H5 p (.lst (acc ++ [.ref r]))) := by
  obtain ⟨s2, e2, l2, rs, rfl, h2⟩ := h
  have nr : r ≠ p := (ne_of_none e2 hr).symm
  refine ⟨s _ _ e2, (s2.trans s).upd hp _, upd_same, by simp at l2 ⊢; omega, rs ++ [r], by simp, ?_⟩
  rw [rows_snoc hv]
  exact pr_snoc ((h2.same s).off off_upd) ⟨nr, by rw [upd_ne nr]; exact e⟩
end
section
variable {α : Type} {f : α → List V} {g : CF TG} {tt : CF TT} {te : CF TE} {σ₀ : St} {Q : VK} {H : Hp} {K : PySem.W.Frag}
end
end L2

end

section
-- KcForest
set_option Elab.async false
set_option linter.all false
namespace KF
/-! ### things that point to lesser ones -/
noncomputable def Forest (ps : List Nat) : Prop := ∀ x y : Nat, ps[x]? = some y → y ≤ x
inductive Root (ps : List Nat) : Nat → Nat → Prop where
  | stop {x : Nat} (h : ps[x]? = some x) : Root ps x x
  | step {x y r : Nat} (h : ps[x]? = some y) (hl : y < x) (t : Root ps y r) : Root ps x r
theorem Root.inj {ps : List Nat} {x r r' : Nat} (a : Root ps x r) (b : Root ps x r') : r = r' := by
  induction a with
  | stop h => cases b with
    | stop _ => rfl
    | step h' hl _ => rw [h] at h'; cases h'; omega
  | step h hl _ ih => cases b with
    | stop h' => rw [h] at h'; cases h'; omega
    | step h' _ t => rw [h] at h'; cases h'; exact ih t
theorem Root.le {ps : List Nat} {x r : Nat} (a : Root ps x r) : r ≤ x := by
  induction a with
  | stop _ => exact Nat.le_refl _
  | step _ hl _ ih => omega
theorem Root.self {ps : List Nat} {x r : Nat} (a : Root ps x r) : ps[r]? = some r := by
  induction a with
  | stop h => exact h
  | step _ _ _ ih => exact ih
theorem Root.lt {ps : List Nat} {x r : Nat} (a : Root ps x r) : x < ps.length := by
  cases a with
  | stop h => exact (List.getElem?_eq_some_iff.mp h).1
  | step h _ _ => exact (List.getElem?_eq_some_iff.mp h).1
theorem Forest.range (n : Nat) : Forest (List.range n) := fun x y h => by
  obtain ⟨h1, h2⟩ := List.getElem?_eq_some_iff.mp h
  rw [List.getElem_range] at h2
  omega
theorem Root.range {n x : Nat} (h : x < n) : Root (List.range n) x x := .stop (by rw [List.getElem?_range h])
theorem set_at {ps : List Nat} {e g y z : Nat} (h : (ps.set e g)[y]? = some z) : (y = e ∧ z = g) ∨ (y ≠ e ∧ ps[y]? = some z) := by
  rw [List.getElem?_set] at h
  by_cases q : e = y
  · rw [if_pos q] at h
    split at h
    · cases h; exact .inl ⟨q.symm, rfl⟩
    · cases h
  · rw [if_neg q] at h
    exact .inr ⟨fun z => q z.symm, h⟩
theorem Forest.set {ps : List Nat} (f : Forest ps) {e g : Nat} (h : g ≤ e) : Forest (ps.set e g) := fun x y q => by
  rcases set_at q with ⟨rfl, rfl⟩ | ⟨_, q⟩
  · exact h
  · exact f x y q
/-! ### what is joined by steps -/
inductive Conn (P : Nat → Nat → Prop) : Nat → Nat → Prop where
  | refl (x : Nat) : Conn P x x
  | one {x y : Nat} (h : P x y) : Conn P x y
  | symm {x y : Nat} (h : Conn P x y) : Conn P y x
  | trans {x y z : Nat} (h : Conn P x y) (t : Conn P y z) : Conn P x z
theorem Conn.mono {P P' : Nat → Nat → Prop} (h : ∀ x y, P x y → P' x y) {x y : Nat} (c : Conn P x y) : Conn P' x y := by
  induction c with
  | refl x => exact .refl x
  | one q => exact .one (h _ _ q)
  | symm _ ih => exact .symm ih
  | trans _ _ a b => exact .trans a b
theorem Conn.bind {P P' : Nat → Nat → Prop} (h : ∀ x y, P x y → Conn P' x y) {x y : Nat} (c : Conn P x y) : Conn P' x y := by
  induction c with
  | refl x => exact .refl x
  | one q => exact h _ _ q
  | symm _ ih => exact .symm ih
  | trans _ _ a b => exact .trans a b
theorem Conn.keeps {P : Nat → Nat → Prop} {α : Type} {f : Nat → α} (h : ∀ x y, P x y → f x = f y) {x y : Nat} (c : Conn P x y) : f x = f y := by
  induction c with
  | refl x => rfl
  | one q => exact h _ _ q
  | symm _ ih => exact ih.symm
  | trans _ _ a b => exact a.trans b
structure JoinOf (n : Nat) (P : Nat → Nat → Prop) (r : List Nat) : Prop where
  len : r.length = n
  le : ∀ i x : Nat, r[i]? = some x → x ≤ i
  conn : ∀ i x : Nat, r[i]? = some x → Conn P i x
  same : ∀ i j : Nat, i < n → j < n → Conn P i j → r[i]? = r[j]?
structure Told (n : Nat) (P : Nat → Nat → Prop) (ps : List Nat) : Prop where
  len : ps.length = n
  forest : Forest ps
  conn : ∀ x r, Root ps x r → Conn P x r
  same : ∀ x y, P x y → ∃ r, Root ps x r ∧ Root ps y r
theorem Told.start (n : Nat) : Told n (fun _ _ => False) (List.range n) where
  len := List.length_range
  forest := Forest.range n
  conn := fun x r h => by
    have hx : x < n := by have := h.lt; rw [List.length_range] at this; exact this
    rw [h.inj (Root.range hx)]
    exact .refl x
  same := fun _ _ h => h.elim
end KF

end

section
-- KcListR
set_option Elab.async false
set_option linter.all false
set_option maxRecDepth 100000
set_option maxHeartbeats 4000000
namespace L2
open PySem PyProof.Rows
/-! ### list(range(n)), list(zip(a, b)), list(reversed(a)) -/
section
variable {σ : St} {H : Hp} {Q : VK} {K : PySem.W.Frag}
end
end L2

end

section
-- KcJoin
set_option Elab.async false
set_option linter.all false
set_option maxRecDepth 100000
set_option maxHeartbeats 4000000
namespace L2
open PySem PyProof.Rows

open KF
/-! ### comprehensions that change a list of their own -/
section
variable {g : CF TG} {tt : CF TT} {te : CF TE} {σ₀ : St} {Q : VK} {H : Hp} {K : PySem.W.Frag}
end
/-! ### all views joined -/
noncomputable def ViewsAt (H : Hp) (a : Addr) (vs : List (List Nat)) : Prop := ∃ rs : List Addr, H a = some (.lst (rs.map V.ref)) ∧ Paired (fun (r : Addr) (v : List Nat) => H r = some (.lst (natV v))) rs vs
theorem ViewsAt.same {H H' : Hp} {a : Addr} {vs : List (List Nat)} (h : ViewsAt H a vs) (s : Same H H') : ViewsAt H' a vs := by
  obtain ⟨rs, e, r⟩ := h
  exact ⟨rs, s _ _ e, Paired.mapP r fun _ _ q => s _ _ q⟩
noncomputable def Within (n : Nat) (v : List Nat) : Prop := v.length = n ∧ ∀ x ∈ v, x < n
theorem ref_get {rs : List Addr} {i : Nat} {x : V} (hx : (rs.map V.ref)[i]? = some x) : ∃ a, rs[i]? = some a ∧ x = .ref a := by
  rw [List.getElem?_map] at hx
  cases e : rs[i]? with
  | none => rw [e] at hx; cases hx
  | some z => rw [e] at hx; exact ⟨z, rfl, (Option.some.inj hx).symm⟩
theorem _root_.KF.Told.congr {n : Nat} {P P' : Nat → Nat → Prop} {ps : List Nat} (t : Told n P ps) (h : ∀ x y, P x y ↔ P' x y) : Told n P' ps := by
  have e : P = P' := by funext x y; exact propext (h x y)
  rw [← e]; exact t
end L2

end

section
-- KcViews
set_option Elab.async false
set_option linter.all false
set_option maxRecDepth 100000
set_option maxHeartbeats 4000000
namespace L2
open PySem PyProof.Rows
/-! ### a list of new lists of numbers -/
noncomputable def NewV (H : Hp) (p : Addr) (fs : List (List Nat)) (i : Nat) (acc : List V) (H2 : Hp) : Prop :=
  Same H H2 ∧ H2 p = some (.lst acc) ∧ acc.length ≤ i ∧ ∃ rs : List Addr, acc = rs.map V.ref ∧ Paired (fun (r : Addr) (v : List Nat) => H2 r = some (.lst (natV v)) ∧ r ≠ p) rs (fs.take i)
theorem NewV.put {H H2 H5 : Hp} {p r : Addr} {fs : List (List Nat)} {i : Nat} {acc : List V} {v : List Nat} (hp : H p = none) (h : NewV H p fs i acc H2) (hv : fs[i]? = some v) (hr : H2 r = none) (s : Same H2 H5) (e : H5 r = some (.lst (natV v))) :
    H5 p = some (.lst acc) ∧ NewV H p fs (i + 1) (acc ++ [.ref r]) (upd H5 p (.lst (acc ++ [.ref r]))) := by
  obtain ⟨s2, e2, l2, rs, rfl, h2⟩ := h
  have nr : r ≠ p := (ne_of_none e2 hr).symm
  refine ⟨s _ _ e2, (s2.trans s).upd hp _, upd_same, by simp at l2 ⊢; omega, rs ++ [r], by simp, ?_⟩
  rw [take_snoc hv]
  have go : ∀ {l : List Addr} {m : List (List Nat)}, Paired (fun (r : Addr) (v : List Nat) => H2 r = some (.lst (natV v)) ∧ r ≠ p) l m → Paired (fun (r' : Addr) (v : List Nat) => (upd H5 p (.lst (rs.map V.ref ++ [.ref r]))) r' = some (.lst (natV v)) ∧ r' ≠ p) (l ++ [r]) (m ++ [v]) := by
    intro l m q
    induction q with
    | nil => exact .cons ⟨by rw [upd_ne nr]; exact e, nr⟩ .nil
    | cons h t ih => exact .cons ⟨by rw [upd_ne h.2]; exact s _ _ h.1, h.2⟩ ih
  exact go h2
theorem NewV.views {H H2 : Hp} {p : Addr} {fs : List (List Nat)} {acc : List V} (h : NewV H p fs fs.length acc H2) : Same H H2 ∧ ViewsAt H2 p fs := by
  obtain ⟨s2, e2, l2, rs, rfl, h2⟩ := h
  rw [List.take_length] at h2
  exact ⟨s2, rs, e2, Paired.mapP h2 fun _ _ z => z.1⟩
section
variable {g : CF TG} {tt : CF TT} {te : CF TE} {σ₀ : St} {Q : VK} {H : Hp} {K : PySem.W.Frag}
theorem lc_lists {a : Addr} (xs : List V) (hx : SqL K H a xs) (hz : xs.length ≤ 1000000) (fs : List (List Nat)) (hl : fs.length = xs.length)
    (hs : ∀ p, H p = none → ∀ C s' H' fp, ∀ (i : Nat) x v H2, xs[i]? = some x → fs[i]? = some v → Same H H2 → ∀ (Kk : V → Hp → Prop) (Ee : Hp → Prop), (∀ r H5, H2 r = none → Same H2 H5 → H5 r = some (.lst (natV v)) → Kk (.ref r) H5) →
      g C s' H' fp x σ₀ H2 fun σ2 H3 => tt C s' H' fp σ2 H3 fun b H4 => if b = true then te C s' H' fp σ2 H4 fun y H5 => Kk y H5 else Ee H4)
    (hd : ∀ p H2, H p = none → Same H H2 → ViewsAt H2 p fs → Q (.ref p) H2) :
    ∃ a', V.ref a = .ref a' ∧ (∃ xs, SqL K H a' xs) ∧ ∀ p, H p = none → ∃ W : Nat → Nat → List V → Hp → Prop, (∃ m, W 0 m [] (upd H p (.lst []))) ∧ ∀ C s' H' fp, CompBody (Itl K a') (g C s' H' fp) (tt C s' H' fp) (te C s' H' fp) σ₀ p Q W :=
  ⟨a, rfl, ⟨xs, hx⟩, fun p hp => comp_list (NewV H p fs) ⟨same_new hp _, upd_same, Nat.le_refl _, [], rfl, .nil⟩ (fun i acc H2 _ c => ⟨c.2.1, c.2.2.1⟩) (fun i acc H2 _ c => c.1.seq hx) (by rw [sizeLine_eq]; omega)
    (fun C s' H' fp i x acc H2 hi c => by
      obtain ⟨v, hv⟩ : ∃ v, fs[i]? = some v := ⟨_, List.getElem?_eq_getElem (by rw [hl]; exact (List.getElem?_eq_some_iff.mp hi).1)⟩
      exact hs p hp C s' H' fp i x v H2 hi hv c.1 (fun y H5 => H5 p = some (.lst acc) ∧ NewV H p fs (i + 1) (acc ++ [y]) (upd H5 p (.lst (acc ++ [y])))) _ fun r H5 hr s5 e5 => c.put hp hv hr s5 e5)
    fun acc H2 c => by
      rw [← hl] at c
      exact hd p H2 hp c.views.1 c.views.2⟩
end
theorem views_same {K : PySem.W.Frag} {H : Hp} {a b : Addr} {fs : List (List Nat)} (h1 : ViewsAt H a fs) (h2 : ViewsAt H b fs) : SameD K H 2 (.ref a) (.ref b) := by
  obtain ⟨rs, e1, p1⟩ := h1
  obtain ⟨ts, e2, p2⟩ := h2
  refine .lst (SqL.of e1) (SqL.of e2) (by rw [List.length_map, List.length_map, Paired.length p1, Paired.length p2]) fun i x y hx hy => ?_
  obtain ⟨r, hr, rfl⟩ := ref_get hx
  obtain ⟨t, ht, rfl⟩ := ref_get hy
  obtain ⟨v, hv, ev⟩ := paired_at p1 hr
  obtain ⟨w, hw, ew⟩ := paired_at p2 ht
  rw [hv] at hw
  cases hw
  exact same_flatL (SqL.of ev) (SqL.of ew) (by rw [natV_ints]; exact flat_ints _)
end L2

end

section
-- KcBfs
set_option Elab.async false
set_option linter.all false
namespace KF
/-! ### roads: ring by ring -/
noncomputable abbrev Way := Nat × Option (Nat × Nat)
noncomputable def Alk (v : List Nat) (x y : Nat) : Prop := ∃ c, v[x]? = some c ∧ v[y]? = some c
inductive Reach (ws : List (List Nat)) (d : Nat) : Nat → Prop where
  | here : Reach ws d d
  | step {x y : Nat} {v : List Nat} (hv : v ∈ ws) (h : Reach ws d x) (a : Alk v x y) : Reach ws d y
theorem Alk.symm {v : List Nat} {x y : Nat} (h : Alk v x y) : Alk v y x := let ⟨c, a, b⟩ := h; ⟨c, b, a⟩
noncomputable def Kn (R : List (Option Way)) (y : Nat) : Prop := ∃ r, R[y]? = some (some r)
structure BfsI (ws : List (List Nat)) (n d : Nat) (R : List (Option Way)) (P : Nat → Prop) (top : Nat) : Prop where
  len : R.length = n
  start : R[d]? = some (some (0, none))
  reach : ∀ (y : Nat) (r : Way), R[y]? = some (some r) → Reach ws d y
  le : ∀ (y a : Nat) (o : Option (Nat × Nat)), R[y]? = some (some (a, o)) → a ≤ top
  pred : ∀ (y a k x : Nat), R[y]? = some (some (a, some (k, x))) → ∃ (b : Nat) (o : Option (Nat × Nat)) (v : List Nat), a = b + 1 ∧ R[x]? = some (some (b, o)) ∧ ws[k]? = some v ∧ Alk v x y ∧ x ≠ y
  zero : ∀ (y a : Nat), R[y]? = some (some (a, none)) → y = d ∧ a = 0
  closed : ∀ (x : Nat), P x → ∃ (a : Nat) (o : Option (Nat × Nat)), R[x]? = some (some (a, o)) ∧ ∀ v ∈ ws, ∀ (y : Nat), Alk v x y → ∃ (b : Nat) (o' : Option (Nat × Nat)), R[y]? = some (some (b, o')) ∧ b ≤ a + 1
section
variable {ws : List (List Nat)} {n d : Nat} {R : List (Option Way)} {P : Nat → Prop} {i x y k : Nat} {o : Option (Nat × Nat)} {v : List Nat}
theorem set_old {r r' : Way} {z : Nat} (hy : R[y]? = some none) (h : R[z]? = some (some r)) : (R.set y (some r'))[z]? = some (some r) := by
  have ne : y ≠ z := fun e => by subst e; rw [hy] at h; cases h
  rw [List.getElem?_set, if_neg ne]
  exact h
theorem set_of {r r' : Way} {z : Nat} (hy : R[y]? = some none) (h : (R.set y (some r'))[z]? = some (some r)) : (z = y ∧ r = r') ∨ (z ≠ y ∧ R[z]? = some (some r)) := by
  rw [List.getElem?_set] at h
  by_cases e : y = z
  · subst e
    rw [if_pos rfl, if_pos (List.getElem?_eq_some_iff.mp hy).1] at h
    exact .inl ⟨rfl, (Option.some.inj (Option.some.inj h)).symm⟩
  · rw [if_neg e] at h
    exact .inr ⟨fun z => e z.symm, h⟩
theorem set_new {r' : Way} (hy : R[y]? = some none) : (R.set y (some r'))[y]? = some (some r') := by
  rw [List.getElem?_set, if_pos rfl, if_pos (List.getElem?_eq_some_iff.mp hy).1]
theorem Kn.put {r' : Way} {z : Nat} (hy : R[y]? = some none) (h : Kn R z) : Kn (R.set y (some r')) z := let ⟨r, e⟩ := h; ⟨r, set_old hy e⟩
theorem BfsI.put (B : BfsI ws n d R P (i + 1)) (hy : R[y]? = some none) (hx : R[x]? = some (some (i, o))) (hk : ws[k]? = some v) (ha : Alk v x y) : BfsI ws n d (R.set y (some (i + 1, some (k, x)))) P (i + 1) where
  len := by rw [List.length_set]; exact B.len
  start := set_old hy B.start
  reach := fun z r h => by
    rcases set_of hy h with ⟨rfl, _⟩ | ⟨_, h⟩
    · exact .step (List.mem_of_getElem? hk) (B.reach _ _ hx) ha
    · exact B.reach z r h
  le := fun z a o' h => by
    rcases set_of hy h with ⟨_, e⟩ | ⟨_, h⟩
    · cases e; exact Nat.le_refl _
    · exact B.le z a o' h
  pred := fun z a k' x' h => by
    rcases set_of hy h with ⟨rfl, e⟩ | ⟨_, h⟩
    · cases e
      exact ⟨i, o, v, rfl, set_old hy hx, hk, ha, fun e => by subst e; rw [hy] at hx; cases hx⟩
    · obtain ⟨b, o', v', h1, h2, h3, h4, h5⟩ := B.pred z a k' x' h
      exact ⟨b, o', v', h1, set_old hy h2, h3, h4, h5⟩
  zero := fun z a h => by
    rcases set_of hy h with ⟨_, e⟩ | ⟨_, h⟩
    · cases e
    · exact B.zero z a h
  closed := fun z hz => by
    obtain ⟨a, o', h1, h2⟩ := B.closed z hz
    refine ⟨a, o', set_old hy h1, fun v hv y' ha' => ?_⟩
    obtain ⟨b, o2, h3, h4⟩ := h2 v hv y' ha'
    exact ⟨b, o2, set_old hy h3, h4⟩
theorem BfsI.up (B : BfsI ws n d R P i) : BfsI ws n d R P (i + 1) := { B with le := fun y a o h => Nat.le_succ_of_le (B.le y a o h) }
theorem BfsI.done (B : BfsI ws n d R P (i + 1)) (hx : R[x]? = some (some (i, o))) (h : ∀ v ∈ ws, ∀ y, Alk v x y → Kn R y) {P' : Nat → Prop} (hP : ∀ z, P' z → P z ∨ z = x) : BfsI ws n d R P' (i + 1) :=
  ⟨B.len, B.start, B.reach, B.le, B.pred, B.zero, fun z hz => by
    rcases hP z hz with hz | e
    · exact B.closed z hz
    · subst e
      refine ⟨i, o, hx, fun v hv y ha => ?_⟩
      obtain ⟨⟨b, o'⟩, hr⟩ := h v hv y ha
      exact ⟨b, o', hr, B.le y b o' hr⟩⟩
theorem BfsI.sub (B : BfsI ws n d R P i) {P' : Nat → Prop} (hP : ∀ z, P' z → P z) : BfsI ws n d R P' i := { B with closed := fun z hz => B.closed z (hP z hz) }
noncomputable def cntR (R : List (Option Way)) : Nat := R.countP Option.isNone
theorem cntR_set {r : Way} : ∀ {R : List (Option Way)} {y : Nat}, R[y]? = some none → cntR R = cntR (R.set y (some r)) + 1
  | s :: R, 0, h => by
    cases h
    unfold cntR
    rw [List.set_cons_zero, List.countP_cons_of_pos rfl, List.countP_cons_of_neg (by simp)]
  | s :: R, y + 1, h => by
    have ih := cntR_set (r := r) (R := R) (y := y) h
    unfold cntR at ih ⊢
    rw [List.set_cons_succ, List.countP_cons, List.countP_cons, ih]
    omega
  | [], y, h => by cases h
end
structure BfsEnd (ws : List (List Nat)) (n d : Nat) (R : List (Option Way)) : Prop where
  len : R.length = n
  start : R[d]? = some (some (0, none))
  iff_ : ∀ y, Kn R y ↔ Reach ws d y
  pred : ∀ (y a k x : Nat), R[y]? = some (some (a, some (k, x))) → ∃ (b : Nat) (o : Option (Nat × Nat)) (v : List Nat), a = b + 1 ∧ R[x]? = some (some (b, o)) ∧ ws[k]? = some v ∧ Alk v x y ∧ x ≠ y
  zero : ∀ (y a : Nat), R[y]? = some (some (a, none)) → y = d ∧ a = 0
  near : ∀ v ∈ ws, ∀ (x y a b : Nat) (o o' : Option (Nat × Nat)), Alk v x y → R[x]? = some (some (a, o)) → R[y]? = some (some (b, o')) → b ≤ a + 1
theorem BfsI.fin {ws : List (List Nat)} {n d : Nat} {R : List (Option Way)} {P : Nat → Prop} {i : Nat} (B : BfsI ws n d R P i) (hP : ∀ y, Kn R y → P y) : BfsEnd ws n d R where
  len := B.len
  start := B.start
  iff_ := fun y => by
    constructor
    · rintro ⟨r, h⟩; exact B.reach y r h
    · intro h
      induction h with
      | here => exact ⟨_, B.start⟩
      | step hv _ a ih =>
        obtain ⟨_, _, _, h2⟩ := B.closed _ (hP _ ih)
        obtain ⟨b, o, h3, _⟩ := h2 _ hv _ a
        exact ⟨_, h3⟩
  pred := B.pred
  zero := B.zero
  near := fun v hv x y a b o o' ha hx hy => by
    obtain ⟨a', o2, h1, h2⟩ := B.closed x (hP x ⟨_, hx⟩)
    rw [hx] at h1
    cases h1
    obtain ⟨b', o3, h3, h4⟩ := h2 v hv y ha
    rw [hy] at h3
    cases h3
    exact h4
noncomputable def clsOf (v : List Nat) (c : Nat) : List Nat := (List.range v.length).filter fun y => v[y]? == some c
theorem mem_cls {v : List Nat} {c y : Nat} : y ∈ clsOf v c ↔ v[y]? = some c := by
  unfold clsOf
  rw [List.mem_filter, List.mem_range, beq_iff_eq]
  exact ⟨fun h => h.2, fun h => ⟨(List.getElem?_eq_some_iff.mp h).1, h⟩⟩
noncomputable def GOk (ws : List (List Nat)) (n : Nat) (R : List (Option Way)) (G : List (List (List Nat))) : Prop := ∀ (k : Nat) (v : List Nat), ws[k]? = some v → ∃ cl, G[k]? = some cl ∧ cl.length = n ∧ ∀ (c : Nat), c < n → cl[c]? = some (clsOf v c) ∨ (cl[c]? = some [] ∧ ∀ (y : Nat), v[y]? = some c → Kn R y)
theorem GOk.put {ws : List (List Nat)} {n y : Nat} {R : List (Option Way)} {G : List (List (List Nat))} {r : Way} (h : GOk ws n R G) (hy : R[y]? = some none) : GOk ws n (R.set y (some r)) G := fun k v hv => by
  obtain ⟨cl, h1, h2, h3⟩ := h k v hv
  refine ⟨cl, h1, h2, fun c hc => ?_⟩
  rcases h3 c hc with h4 | ⟨h4, h5⟩
  · exact .inl h4
  · exact .inr ⟨h4, fun z hz => (h5 z hz).put hy⟩
theorem GOk.clear {ws : List (List Nat)} {n k c : Nat} {R : List (Option Way)} {G : List (List (List Nat))} {v : List Nat} {cl : List (List Nat)} (h : GOk ws n R G) (hv : ws[k]? = some v) (hg : G[k]? = some cl) (hc : c < n) (hk : ∀ (y : Nat), v[y]? = some c → Kn R y) : GOk ws n R (G.set k (cl.set c [])) := fun k' v' hv' => by
  by_cases e : k = k'
  · subst e
    rw [hv] at hv'
    cases hv'
    obtain ⟨cl', h1, h2, h3⟩ := h k v hv
    rw [hg] at h1
    cases h1
    refine ⟨cl.set c [], by rw [List.getElem?_set, if_pos rfl, if_pos (List.getElem?_eq_some_iff.mp hg).1], by rw [List.length_set]; exact h2, fun c' hc' => ?_⟩
    by_cases e : c = c'
    · subst e
      exact .inr ⟨by rw [List.getElem?_set, if_pos rfl, if_pos (by omega)], hk⟩
    · rw [List.getElem?_set, if_neg e]
      exact h3 c' hc'
  · obtain ⟨cl', h1, h2, h3⟩ := h k' v' hv'
    exact ⟨cl', by rw [List.getElem?_set, if_neg e]; exact h1, h2, h3⟩
end KF

end

section
-- KcRoad
set_option Elab.async false
set_option linter.all false
set_option maxRecDepth 100000
set_option maxHeartbeats 4000000
namespace L2
open PySem PyProof.Rows

open KF
/-! ### a comprehension whose word may name its own list -/
section
variable {g : CF TG} {tt : CF TT} {te : CF TE} {σ₀ : St} {Q : VK} {H : Hp} {K : PySem.W.Frag}
theorem lc_listP {a : Addr} (xs : List V) (hx : SqL K H a xs) (hz : xs.length ≤ 1000000) (R : Addr → Nat → List V → Hp → Prop) (h0 : ∀ p H', H p = none → Same H H' → H' p = some (.lst []) → R p 0 [] H')
    (hs : ∀ p, H p = none → ∀ C s' H' fp, ∀ i x acc H2, xs[i]? = some x → CInv H p (R p) i acc H2 → g C s' H' fp x σ₀ H2 fun σ2 H3 => tt C s' H' fp σ2 H3 fun b H4 => if b = true then te C s' H' fp σ2 H4 fun y H5 => H5 p = some (.lst acc) ∧ CInv H p (R p) (i + 1) (acc ++ [y]) (upd H5 p (.lst (acc ++ [y]))) else CInv H p (R p) (i + 1) acc H4)
    (hd : ∀ p acc H2, H p = none → Same H H2 → H2 p = some (.lst acc) → R p xs.length acc H2 → Q (.ref p) H2) :
    ∃ a', V.ref a = .ref a' ∧ (∃ xs, SqL K H a' xs) ∧ ∀ p, H p = none → ∃ W : Nat → Nat → List V → Hp → Prop, (∃ m, W 0 m [] (upd H p (.lst []))) ∧ ∀ C s' H' fp, CompBody (Itl K a') (g C s' H' fp) (tt C s' H' fp) (te C s' H' fp) σ₀ p Q W :=
  ⟨a, rfl, ⟨xs, hx⟩, fun p hp => comp_list (CInv H p (R p)) ⟨same_new hp _, upd_same, Nat.le_refl _, h0 _ _ hp (same_new hp _) upd_same⟩ (fun i acc H2 _ c => ⟨c.2.1, c.2.2.1⟩) (fun i acc H2 _ c => c.1.seq hx) (by rw [sizeLine_eq]; omega) (fun C s' H' fp i x acc H2 hi c => hs p hp C s' H' fp i x acc H2 hi c) fun acc H2 c => hd p acc H2 hp c.1 c.2.1 c.2.2.2⟩
end
theorem pr_set {α β : Type} {R : α → β → Prop} {x : α} {y : β} : ∀ {xs : List α} {ys : List β} (i : Nat), Paired R xs ys → R x y → Paired R (xs.set i x) (ys.set i y)
  | _, _, _, .nil, _ => .nil
  | _, _, 0, .cons _ t, q => .cons q t
  | _, _, i + 1, .cons r t, q => .cons r (pr_set i t q)
theorem pr_imp {α β : Type} {R R' : α → β → Prop} : ∀ {xs : List α} {ys : List β}, Paired R xs ys → (∀ x ∈ xs, ∀ y, R x y → R' x y) → Paired R' xs ys
  | _, _, .nil, _ => .nil
  | _, _, .cons r t, h => .cons (h _ (List.mem_cons_self ..) _ r) (pr_imp t fun x hx y q => h x (List.mem_cons_of_mem _ hx) y q)
theorem nat_of' {ds : List Nat} {i : Nat} {x : V} (h : (natV ds)[i]? = some x) : ∃ d : Nat, ds[i]? = some d ∧ x = .int (d : Int) := by
  unfold natV at h
  rw [List.getElem?_map] at h
  cases e : ds[i]? with
  | none => rw [e] at h; cases h
  | some s => rw [e] at h; cases h; exact ⟨s, rfl, rfl⟩
/-! ### groups_of -/
noncomputable def clsTo (v : List Nat) (i c : Nat) : List Nat := (List.range i).filter fun y => v[y]? == some c
theorem clsTo_succ {v : List Nat} {i x : Nat} (hx : v[i]? = some x) (c : Nat) : clsTo v (i + 1) c = if c = x then clsTo v i c ++ [i] else clsTo v i c := by
  unfold clsTo
  rw [List.range_succ, List.filter_append]
  by_cases h : c = x
  · subst h
    rw [if_pos rfl]
    simp [hx]
  · rw [if_neg h]
    have : (some x == some c) = false := by simp; exact fun e => h e.symm
    simp [hx, this]
noncomputable def GrAt (H0 H : Hp) (p : Addr) (cl : List (List Nat)) : Prop := ∃ as : List Addr, H p = some (.lst (as.map V.ref)) ∧ Paired (fun (b : Addr) (c : List Nat) => H0 b = none ∧ b ≠ p ∧ H b = some (.lst (natV c))) as cl
noncomputable def sp_groups_of (_ : PySem.W.Frag) : Sp := fun vs H Q _ => ∃ (a : Addr) (v : List Nat), vs = [.ref a] ∧ H a = some (.lst (natV v)) ∧ (∀ x ∈ v, x < v.length) ∧ v.length ≤ 1000 ∧
  ∀ p H', H p = none → Same H H' → GrAt H H' p ((List.range v.length).map fun c => clsOf v c) → Q (.ref p) H'
noncomputable def t_groups_of (K : PySem.W.Frag) : TS := (tSeq (tAsg (tComp (iList K (tVar 0)) (fun _ _ _ _ => (gName 0)) (fun _ _ _ _ => tAlways) (fun _ _ _ _ => (mLst tNil)) [none]) (gName 1))
  (tSeq (tFor (iEnum srcL K (tCons (tVar 0) tNil)) (gTup K 2 (gCons (gName 2) (gCons (gName 3) gNil))) (tDrop (tBM K "list" rAppend (tOp (rIxL K) (tVar 1) (tVar 3)) (tCons (tVar 2) tNil))))
  (tRet (tVar 1))))
theorem len_groups_of {K : PySem.W.Frag} {vs : List V} {H : Hp} {Q : VK} {E : XK} (h : sp_groups_of K vs H Q E) : vs.length = 1 := by
  obtain ⟨a, v, rfl, e, hv, hl, q⟩ := h
  rfl
theorem rd_groups_of {K : PySem.W.Frag} {vs : List V} {H : Hp} {Q : VK} {E : XK} (h : sp_groups_of K vs H Q E) : t_groups_of K { nx := fun _ H' => Q .non H', rt := Q } (start ["view", "groups", "thing", "least"] vs) H := by
  obtain ⟨a, v, rfl, e, hv, hl, q⟩ := h
  show t_groups_of K _ [some _, none, none, none] _
  unfold t_groups_of
  walk_at "rd"
  refine lc_listP (natV v) (SqL.of e) (by rw [natV_len]; omega) (fun p i acc H2 => ∃ as : List Addr, acc = as.map V.ref ∧ as.length = i ∧ as.Nodup ∧ ∀ b ∈ as, b ≠ p ∧ H b = none ∧ H2 b = some (.lst [])) (fun p H' hp s e => ⟨[], rfl, rfl, .nil, fun b hb => by (cases hb)⟩) ?_ ?_
  · rintro p hp C s' H' fp i x acc H2 hx ⟨s2, e2, l2, as, rfl, la, nd, h2⟩
    walk_at "rd"
    refine ⟨by simp [sizeLine_eq], fun b H3 hb s3 e3 => ?_⟩
    have nb : b ≠ p := (ne_of_none e2 hb).symm
    refine ⟨s3 _ _ e2, (s2.trans s3).upd hp _, upd_same, by rw [List.length_append]; exact Nat.add_le_add_right l2 1, as ++ [b], by rw [List.map_append]; rfl, by rw [List.length_append, la]; rfl, ?_, fun c hc => ?_⟩
    · refine List.nodup_append.mpr ⟨nd, by simp, fun x hx y hy e => ?_⟩
      rw [List.mem_singleton.mp hy] at e
      subst e
      rw [(h2 x hx).2.2] at hb
      cases hb
    · rcases List.mem_append.mp hc with hc | hc
      · exact ⟨(h2 c hc).1, (h2 c hc).2.1, by rw [upd_ne (h2 c hc).1]; exact s3 _ _ (h2 c hc).2.2⟩
      · rw [List.mem_singleton.mp hc]
        exact ⟨nb, s2.free hb, by rw [upd_ne nb]; exact e3⟩
  · rintro p acc H2 hp s2 e2 ⟨as, rfl, la, nd, h2⟩
    rw [natV_len] at la
    walk_at "rd"
    refine lp_enum (S := srcL) (natV v) (SqL.of (s2 _ _ e)) (fun i σ H3 => ∃ (u1 u2 : Option V), σ = [some (.ref a), some (.ref p), u1, u2] ∧ Same H H3 ∧ H3 p = some (.lst (as.map V.ref)) ∧ ∀ (c : Nat) (b : Addr), as[c]? = some b → b ≠ p ∧ H b = none ∧ H3 b = some (.lst (natV (clsTo v i c)))) ⟨_, _, rfl, s2, e2, fun c b hb => h2 b (List.mem_of_getElem? hb)⟩ ?_ ?_ ?_
    · rintro i σ H3 hi ⟨u1, u2, rfl, s3, e3, h3⟩
      exact SqL.of (s3 _ _ e)
    · rintro i x T σ H3 H4 hx ⟨u1, u2, rfl, s3, e3, h3⟩ hT s4 e4
      obtain ⟨x, hxi, rfl⟩ := nat_of' hx
      have hxl := hv x (List.mem_of_getElem? hxi)
      have hi : i < v.length := (List.getElem?_eq_some_iff.mp hxi).1
      have hb : as[x]? = some (as[x]'(by omega)) := List.getElem?_eq_getElem (by omega)
      obtain ⟨b1, b2, b3⟩ := h3 x _ hb
      have hlen : (clsTo v i x).length ≤ i := by unfold clsTo; exact Nat.le_trans (List.length_filter_le _ _) (by simp)
      walk_at "rd"
      refine g_pair (SqT.of e4) ?_
      walk_at "rd"
      refine r_ixL (SqL.of (s4 _ _ e3)) (refs_get hb) ?_
      have e4b := s4 _ _ b3
      refine ⟨r_tyL e4b, ?_⟩
      walk_at "rd"
      refine r_append e4b (by rw [natV_len, sizeLine_eq]; omega) fun H5 o5 e5 => ?_
      walk_at "rd"
      refine ⟨_, _, rfl, (s3.trans s4).off b2 o5, by rw [o5 p b1.symm]; exact s4 _ _ e3, fun c b hc => ?_⟩
      obtain ⟨c1, c2, c3⟩ := h3 c b hc
      refine ⟨c1, c2, ?_⟩
      rw [clsTo_succ hxi]
      by_cases h : c = x
      · subst h
        rw [hb] at hc
        cases hc
        rw [if_pos rfl, e5, natV_snoc]
      · rw [if_neg h, o5 b (fun z => h ?_)]
        · exact s4 _ _ c3
        · subst z
          exact ((List.getElem?_inj (by omega) nd).mp (hb.trans hc.symm)).symm
    · rintro σ H3 ⟨u1, u2, rfl, s3, e3, h3⟩
      rw [natV_len] at h3
      walk_at "rd"
      refine q p H3 hp s3 ⟨as, e3, ?_⟩
      have : ∀ (l : List Addr) (k : Nat), (∀ (c : Nat) (b : Addr), l[c]? = some b → b ≠ p ∧ H b = none ∧ H3 b = some (.lst (natV (clsTo v v.length (k + c))))) → Paired (fun (b : Addr) (c : List Nat) => H b = none ∧ b ≠ p ∧ H3 b = some (.lst (natV c))) l ((List.range' k l.length).map fun c => clsOf v c) := by
        intro l
        induction l with
        | nil => intro k _; exact .nil
        | cons b l ih =>
          intro k h
          obtain ⟨h1, h2, h3⟩ := h 0 b rfl
          refine .cons ⟨h2, h1, h3⟩ (ih (k + 1) fun c b' hb' => ?_)
          have := h (c + 1) b' hb'
          rw [show k + 1 + c = k + (c + 1) by omega]
          exact this
      have r := this as 0 fun c b hb => by rw [Nat.zero_add]; exact h3 c b hb
      rw [la, ← List.range_eq_range'] at r
      exact r
/-! ### one ring more -/
noncomputable def RoadV (H : Hp) (x : V) : Option Way → Prop
  | none => x = .non
  | some (a, none) => ∃ t, x = .ref t ∧ H t = some (.tup [.int (a : Int), .non, .non])
  | some (a, some (k, y)) => ∃ t, x = .ref t ∧ H t = some (.tup [.int (a : Int), .int (k : Int), .int (y : Int)])
theorem RoadV.keep {H H' : Hp} {x : V} {r : Option Way} (h : RoadV H x r) (k : Keep H H') : RoadV H' x r := by
  match r, h with
  | none, h => exact h
  | some (a, none), ⟨t, e, q⟩ => exact ⟨t, e, k _ _ q⟩
  | some (a, some (_, _)), ⟨t, e, q⟩ => exact ⟨t, e, k _ _ q⟩
theorem RoadV.isN {H : Hp} {x : V} {r : Option Way} (h : RoadV H x r) : isN x = r.isNone := by
  match r, h with
  | none, h => rw [h]; rfl
  | some (a, none), ⟨t, e, _⟩ => rw [e]; rfl
  | some (a, some (_, _)), ⟨t, e, _⟩ => rw [e]; rfl
theorem RoadV.dist {H : Hp} {x : V} {a : Nat} {o : Option (Nat × Nat)} (h : RoadV H x (some (a, o))) : ∃ (t : Addr) (y z : V), x = .ref t ∧ H t = some (.tup [.int (a : Int), y, z]) := by
  match o, h with
  | none, ⟨t, e, q⟩ => exact ⟨t, _, _, e, q⟩
  | some (_, _), ⟨t, e, q⟩ => exact ⟨t, _, _, e, q⟩
structure BH (M : List Addr) (H : Hp) (vw g ro : Addr) (gs : List Addr) (ws : List (List Nat)) (G : List (List (List Nat))) (R : List (Option Way)) : Prop where
  vws : ∃ rs : List Addr, H vw = some (.lst (rs.map V.ref)) ∧ vw ∉ M ∧ Paired (fun (a : Addr) (v : List Nat) => a ∉ M ∧ H a = some (.lst (natV v))) rs ws
  grp : H g = some (.lst (gs.map V.ref)) ∧ g ∉ M
  cls : Paired (fun (a : Addr) (cl : List (List Nat)) => ∃ as : List Addr, H a = some (.lst (as.map V.ref)) ∧ Paired (fun (b : Addr) (c : List Nat) => b ∉ M ∧ H b = some (.lst (natV c))) as cl) gs G
  rod : ∃ xs : List V, H ro = some (.lst xs) ∧ Paired (RoadV H) xs R
  nd : (ro :: gs).Nodup
  sub : ∀ a ∈ ro :: gs, a ∈ M
section
variable {M : List Addr} {H H' : Hp} {vw g ro : Addr} {gs : List Addr} {ws : List (List Nat)} {G : List (List (List Nat))} {R : List (Option Way)}
theorem BH.same (B : BH M H vw g ro gs ws G R) (s : Same H H') : BH M H' vw g ro gs ws G R := by
  obtain ⟨rs, h1, h2, h3⟩ := B.vws
  obtain ⟨xs, h4, h5⟩ := B.rod
  exact ⟨⟨rs, s _ _ h1, h2, Paired.mapP h3 fun _ _ q => ⟨q.1, s _ _ q.2⟩⟩, ⟨s _ _ B.grp.1, B.grp.2⟩, Paired.mapP B.cls fun _ _ ⟨as, q1, q2⟩ => ⟨as, s _ _ q1, Paired.mapP q2 fun _ _ q => ⟨q.1, s _ _ q.2⟩⟩, ⟨xs, s _ _ h4, Paired.mapP h5 fun _ _ q => q.keep s.keep⟩, B.nd, B.sub⟩
theorem BH.off {l : Addr} {ys : List V} (B : BH M H vw g ro gs ws G R) (hl : l ∈ M) (n : l ∉ ro :: gs) (e : H l = some (.lst ys)) (o : Off l H H') : BH M H' vw g ro gs ws G R := by
  obtain ⟨rs, h1, h2, h3⟩ := B.vws
  obtain ⟨xs, h4, h5⟩ := B.rod
  have ne : ∀ a, a ∉ M → H' a = H a := fun a ha => o a fun z => ha (z ▸ hl)
  have ne2 : ∀ a, a ∈ ro :: gs → H' a = H a := fun a ha => o a fun z => n (z ▸ ha)
  exact ⟨⟨rs, by rw [ne _ h2]; exact h1, h2, Paired.mapP h3 fun _ _ q => ⟨q.1, by rw [ne _ q.1]; exact q.2⟩⟩, ⟨by rw [ne _ B.grp.2]; exact B.grp.1, B.grp.2⟩,
    pr_imp B.cls fun a ha _ ⟨as, q1, q2⟩ => ⟨as, by rw [ne2 a (List.mem_cons_of_mem _ ha)]; exact q1, Paired.mapP q2 fun _ _ q => ⟨q.1, by rw [ne _ q.1]; exact q.2⟩⟩,
    ⟨xs, by rw [ne2 ro (List.mem_cons_self ..)]; exact h4, Paired.mapP h5 fun _ _ q => q.keep (o.keep e)⟩, B.nd, B.sub⟩
theorem BH.put {xs ys : List V} {R' : List (Option Way)} (B : BH M H vw g ro gs ws G R) (e : H ro = some (.lst xs)) (o : Off ro H H') (e' : H' ro = some (.lst ys)) (hr : Paired (RoadV H') ys R') : BH M H' vw g ro gs ws G R' := by
  obtain ⟨rs, h1, h2, h3⟩ := B.vws
  have hm : ro ∈ M := B.sub ro (List.mem_cons_self ..)
  have ne : ∀ a, a ∉ M → H' a = H a := fun a ha => o a fun z => ha (z ▸ hm)
  have ng : ∀ a ∈ gs, H' a = H a := fun a ha => o a fun z => (List.nodup_cons.mp B.nd).1 (z ▸ ha)
  exact ⟨⟨rs, by rw [ne _ h2]; exact h1, h2, Paired.mapP h3 fun _ _ q => ⟨q.1, by rw [ne _ q.1]; exact q.2⟩⟩, ⟨by rw [ne _ B.grp.2]; exact B.grp.1, B.grp.2⟩,
    pr_imp B.cls fun a ha _ ⟨as, q1, q2⟩ => ⟨as, by rw [ng a ha]; exact q1, Paired.mapP q2 fun _ _ q => ⟨q.1, by rw [ne _ q.1]; exact q.2⟩⟩, ⟨ys, e', hr⟩, B.nd, B.sub⟩
theorem BH.clear {k c : Nat} {gk em : Addr} {as : List Addr} {cl : List (List Nat)} (B : BH M H vw g ro gs ws G R) (hk : gs[k]? = some gk) (hcl : G[k]? = some cl) (e : H gk = some (.lst (as.map V.ref))) (hp : Paired (fun (b : Addr) (c : List Nat) => b ∉ M ∧ H b = some (.lst (natV c))) as cl)
    (hem : em ∉ M ∧ H em = some (.lst [])) (o : Off gk H H') (e' : H' gk = some (.lst ((as.set c em).map V.ref))) : BH M H' vw g ro gs ws (G.set k (cl.set c [])) R := by
  obtain ⟨rs, h1, h2, h3⟩ := B.vws
  obtain ⟨xs, h4, h5⟩ := B.rod
  have hgm : gk ∈ gs := List.mem_of_getElem? hk
  have hm : gk ∈ M := B.sub gk (List.mem_cons_of_mem _ hgm)
  have ne : ∀ a, a ∉ M → H' a = H a := fun a ha => o a fun z => ha (z ▸ hm)
  have nr : H' ro = H ro := o ro fun z => (List.nodup_cons.mp B.nd).1 (z ▸ hgm)
  have go : ∀ {ps : List Addr} {qs : List (List (List Nat))} {k : Nat}, Paired (fun (a : Addr) (cl : List (List Nat)) => ∃ as : List Addr, H a = some (.lst (as.map V.ref)) ∧ Paired (fun (b : Addr) (c : List Nat) => b ∉ M ∧ H b = some (.lst (natV c))) as cl) ps qs → ps.Nodup → ps[k]? = some gk →
      Paired (fun (a : Addr) (cl : List (List Nat)) => ∃ as : List Addr, H' a = some (.lst (as.map V.ref)) ∧ Paired (fun (b : Addr) (c : List Nat) => b ∉ M ∧ H' b = some (.lst (natV c))) as cl) ps (qs.set k (cl.set c [])) := by
    intro ps qs k q
    induction q generalizing k with
    | nil => intro _ h; cases h
    | cons r t ih =>
      rename_i a cl0 ps0 qs0
      intro nd h
      obtain ⟨nd1, nd2⟩ := List.nodup_cons.mp nd
      cases k with
      | zero =>
        cases h
        refine .cons ⟨as.set c em, e', pr_set c (Paired.mapP hp fun _ _ q => ⟨q.1, by rw [ne _ q.1]; exact q.2⟩) ⟨hem.1, by rw [ne _ hem.1]; exact hem.2⟩⟩ ?_
        exact pr_imp t fun a ha _ ⟨as, q1, q2⟩ => ⟨as, by rw [o a fun z => nd1 (z ▸ ha)]; exact q1, Paired.mapP q2 fun _ _ q => ⟨q.1, by rw [ne _ q.1]; exact q.2⟩⟩
      | succ k =>
        refine .cons ?_ (ih nd2 h)
        obtain ⟨as, q1, q2⟩ := r
        exact ⟨as, by rw [o a fun z => nd1 (by rw [z]; exact List.mem_of_getElem? h)]; exact q1, Paired.mapP q2 fun _ _ q => ⟨q.1, by rw [ne _ q.1]; exact q.2⟩⟩
  exact ⟨⟨rs, by rw [ne _ h2]; exact h1, h2, Paired.mapP h3 fun _ _ q => ⟨q.1, by rw [ne _ q.1]; exact q.2⟩⟩, ⟨by rw [ne _ B.grp.2]; exact B.grp.1, B.grp.2⟩, go B.cls (List.nodup_cons.mp B.nd).2 hk, ⟨xs, by rw [nr]; exact h4, Paired.mapP h5 fun _ _ q => q.keep (o.keep e)⟩, B.nd, B.sub⟩
theorem BH.add {l : Addr} (B : BH M H vw g ro gs ws G R) (hl : H l = none) : BH (l :: M) H vw g ro gs ws G R := by
  obtain ⟨rs, h1, h2, h3⟩ := B.vws
  have nl : ∀ {a : Addr} {o : HO}, a ∉ M → H a = some o → a ∉ l :: M := fun ha he z => by
    rcases List.mem_cons.mp z with z | z
    · subst z; rw [hl] at he; cases he
    · exact ha z
  exact ⟨⟨rs, h1, nl h2 h1, Paired.mapP h3 fun _ _ q => ⟨nl q.1 q.2, q.2⟩⟩, ⟨B.grp.1, nl B.grp.2 B.grp.1⟩, Paired.mapP B.cls fun _ _ ⟨as, q1, q2⟩ => ⟨as, q1, Paired.mapP q2 fun _ _ q => ⟨nl q.1 q.2, q.2⟩⟩, B.rod, B.nd, fun a ha => List.mem_cons_of_mem _ (B.sub a ha)⟩
theorem BH.less {l : Addr} (B : BH (l :: M) H vw g ro gs ws G R) (hs : ∀ a ∈ ro :: gs, a ∈ M) : BH M H vw g ro gs ws G R := by
  obtain ⟨rs, h1, h2, h3⟩ := B.vws
  have nl : ∀ {a : Addr}, a ∉ l :: M → a ∉ M := fun ha z => ha (List.mem_cons_of_mem _ z)
  exact ⟨⟨rs, h1, nl h2, Paired.mapP h3 fun _ _ q => ⟨nl q.1, q.2⟩⟩, ⟨B.grp.1, nl B.grp.2⟩, Paired.mapP B.cls fun _ _ ⟨as, q1, q2⟩ => ⟨as, q1, Paired.mapP q2 fun _ _ q => ⟨nl q.1, q.2⟩⟩, B.rod, B.nd, hs⟩
end
noncomputable def SameM (M : List Addr) (H H' : Hp) : Prop := ∀ b u, b ∉ M → H b = some u → H' b = some u
theorem SameM.refl (M : List Addr) (H : Hp) : SameM M H H := fun _ _ _ h => h
theorem SameM.same {M : List Addr} {H H1 H2 : Hp} (a : SameM M H H1) (s : Same H1 H2) : SameM M H H2 := fun b u n h => s b u (a b u n h)
theorem SameM.off {M : List Addr} {H H1 H2 : Hp} {l : Addr} (a : SameM M H H1) (hl : l ∈ M) (o : Off l H1 H2) : SameM M H H2 := fun b u n h => by rw [o b fun z => n (z ▸ hl)]; exact a b u n h
theorem SameM.trans {M : List Addr} {H H1 H2 : Hp} (a : SameM M H H1) (b : SameM M H1 H2) : SameM M H H2 := fun x u n h => b x u n (a x u n h)
structure Ring (ws : List (List Nat)) (n d : Nat) (R : List (Option Way)) (G : List (List (List Nat))) (P : Nat → Prop) (i : Nat) (N : List Nat) : Prop where
  bfs : BfsI ws n d R P i
  gok : GOk ws n R G
  new : ∀ x ∈ N, ∃ o, R[x]? = some (some (i, o))
  cov : ∀ y, Kn R y → P y ∨ y ∈ N
noncomputable def sp_one_step_on (_ : PySem.W.Frag) : Sp := fun vs H Q _ => ∃ (vw g ro nw : Addr) (gs : List Addr) (ws : List (List Nat)) (G : List (List (List Nat))) (R : List (Option Way)) (P : Nat → Prop) (n d i : Nat) (N : List Nat), vs = [.ref vw, .ref g, .ref ro, .ref nw] ∧ BH (ro :: gs) H vw g ro gs ws G R ∧ Ring ws n d R G P i N ∧ (∀ v ∈ ws, Within n v) ∧ H nw = some (.lst (natV N)) ∧ nw ∉ ro :: gs ∧ n ≤ 1000 ∧
  ∀ (fu : Addr) (H' : Hp) (G' : List (List (List Nat))) (R' : List (Option Way)) (F : List Nat), H fu = none → SameM (ro :: gs) H H' → BH (ro :: gs) H' vw g ro gs ws G' R' → Ring ws n d R' G' (fun y => P y ∨ y ∈ N) (i + 1) F → H' fu = some (.lst (natV F)) → cntR R' + F.length = cntR R → Q (.ref fu) H'
noncomputable def t_one_step_on (K : PySem.W.Frag) : TS := (tSeq (tAsg (mLst tNil) (gName 4))
  (tSeq (tFor (iList K (tVar 3)) (gName 5) (tFor (iEnum srcL K (tCons (tVar 0) tNil)) (gTup K 2 (gCons (gName 6) (gCons (gName 7) gNil))) (tSeq (tFor (iList K (tOp (rIxL K) (tOp (rIxL K) (tVar 1) (tVar 6)) (tOp (rIxL K) (tVar 7) (tVar 5)))) (gName 8) (tIfS (tTest (tOp rIsNone (tOp (rIxL K) (tVar 2) (tVar 8)) (tC .non))) (tSeq (tAsg (mTup (tCons (tOp (rI0 fun i j => .int (i + j)) (tOp (rIxT K) (tOp (rIxL K) (tVar 2) (tVar 5)) (tC (.int 0))) (tC (.int 1))) (tCons (tVar 6) (tCons (tVar 5) tNil)))) (gSub (tVar 2) (tVar 8) rSetL))
  (tDrop (tBM K "list" rAppend (tVar 4) (tCons (tVar 8) tNil)))) tNext))
  (tAsg (mLst tNil) (gSub (tOp (rIxL K) (tVar 1) (tVar 6)) (tOp (rIxL K) (tVar 7) (tVar 5)) rSetL)))))
  (tRet (tVar 4))))
theorem len_one_step_on {K : PySem.W.Frag} {vs : List V} {H : Hp} {Q : VK} {E : XK} (h : sp_one_step_on K vs H Q E) : vs.length = 4 := by
  obtain ⟨vw, g, ro, nw, gs, ws, G, R, P, n, d, i, N, rfl, B, W, hw, en, nn, hn, q⟩ := h
  rfl
theorem rd_one_step_on {K : PySem.W.Frag} {vs : List V} {H : Hp} {Q : VK} {E : XK} (h : sp_one_step_on K vs H Q E) : t_one_step_on K { nx := fun _ H' => Q .non H', rt := Q } (start ["views", "groups", "roads", "newest", "further", "thing", "k", "view", "other"] vs) H := by
  obtain ⟨vw, g, ro, nw, gs, ws, G, R, P, n, d, i, N, rfl, B, W, hw, en, nn, hn, q⟩ := h
  show t_one_step_on K _ [some _, some _, some _, some _, none, none, none, none, none] _
  unfold t_one_step_on
  walk_at "rd"
  refine ⟨by simp [sizeLine_eq], fun fu H1 hfu s1 e1 => ?_⟩
  have nfu : ∀ a ∈ ro :: gs, a ≠ fu := fun a ha z => by
    subst z
    rcases List.mem_cons.mp ha with h | h
    · obtain ⟨xs, e, _⟩ := B.rod
      rw [← h, hfu] at e
      cases e
    · obtain ⟨k, hk, he⟩ := List.getElem_of_mem h
      obtain ⟨cl, _, as, q1, _⟩ := pr_at B.cls (List.getElem?_eq_getElem hk)
      rw [he, hfu] at q1
      cases q1
  have fnot : fu ∉ ro :: gs := fun z => nfu fu z rfl
  have B1 : BH (fu :: ro :: gs) H1 vw g ro gs ws G R := (B.add hfu).same s1
  have nnw : nw ∉ fu :: ro :: gs := fun z => by
    rcases List.mem_cons.mp z with z | z
    · subst z; rw [hfu] at en; cases en
    · exact nn z
  have hcR := W.bfs.len
  walk_at "rd"
  -- behind j things
  refine lp_list (natV N) (SqL.of (s1 _ _ en)) (fun j σ H2 => ∃ (u1 u2 u3 u4 : Option V) (G' : List (List (List Nat))) (R' : List (Option Way)) (F : List Nat), σ = [some (.ref vw), some (.ref g), some (.ref ro), some (.ref nw), some (.ref fu), u1, u2, u3, u4] ∧ SameM (fu :: ro :: gs) H1 H2 ∧ BH (fu :: ro :: gs) H2 vw g ro gs ws G' R' ∧ BfsI ws n d R' (fun y => P y ∨ y ∈ N.take j) (i + 1) ∧ GOk ws n R' G' ∧ (∀ (y : Nat) (r : Way), R[y]? = some (some r) → R'[y]? = some (some r)) ∧ (∀ x ∈ F, ∃ o, R'[x]? = some (some (i + 1, o))) ∧ (∀ y, Kn R' y → (P y ∨ y ∈ N) ∨ y ∈ F) ∧ H2 fu = some (.lst (natV F)) ∧ cntR R' + F.length = cntR R)
    ⟨_, _, _, _, G, R, [], rfl, SameM.refl _ _, B1, W.bfs.up.sub (fun y h => by rcases h with h | h; exact h; simp at h), W.gok, fun _ _ h => h, fun x h => by (cases h), fun y h => .inl (W.cov y h), e1, rfl⟩ ?_ ?_ ?_
  · rintro j σ H2 hj ⟨u1, u2, u3, u4, G', R', F, rfl, m2, B2, _⟩
    exact SqL.of (m2 _ _ nnw (s1 _ _ en))
  · rintro j x σ H2 hx ⟨u1, u2, u3, u4, G', R', F, rfl, m2, B2, I2, g2, o2, f2, c2, e2, n2⟩
    obtain ⟨x, hxj, rfl⟩ := nat_of' hx
    have hxN := List.mem_of_getElem? hxj
    obtain ⟨ox, hox⟩ := W.new x hxN
    obtain ⟨rs, ev, nv, pv⟩ := B2.vws
    have hrs := Paired.length pv
    walk_at "rd"
    -- behind k views
    refine lp_enum (S := srcL) (rs.map V.ref) (SqL.of ev) (fun k σ H3 => ∃ (u2 u3 u4 : Option V) (G' : List (List (List Nat))) (R' : List (Option Way)) (F : List Nat), σ = [some (.ref vw), some (.ref g), some (.ref ro), some (.ref nw), some (.ref fu), some (.int (x : Int)), u2, u3, u4] ∧ SameM (fu :: ro :: gs) H2 H3 ∧ BH (fu :: ro :: gs) H3 vw g ro gs ws G' R' ∧ BfsI ws n d R' (fun y => P y ∨ y ∈ N.take j) (i + 1) ∧ GOk ws n R' G' ∧ (∀ (y : Nat) (r : Way), R[y]? = some (some r) → R'[y]? = some (some r)) ∧ (∀ x ∈ F, ∃ o, R'[x]? = some (some (i + 1, o))) ∧ (∀ y, Kn R' y → (P y ∨ y ∈ N) ∨ y ∈ F) ∧ H3 fu = some (.lst (natV F)) ∧ cntR R' + F.length = cntR R ∧ ∀ v ∈ ws.take k, ∀ (y : Nat), Alk v x y → Kn R' y)
      ⟨_, _, _, G', R', F, rfl, SameM.refl _ _, B2, I2, g2, o2, f2, c2, e2, n2, fun v h => by simp at h⟩ ?_ ?_ ?_
    · rintro k σ H3 hk ⟨u2, u3, u4, G', R', F, rfl, m3, _⟩
      exact SqL.of (m3 _ _ nv ev)
    · rintro k y T σ H3 H4 hy ⟨u2, u3, u4, G', R', F, rfl, m3, B3, I3, g3, o3, f3, c3, e3, n3, k3⟩ hT s4 e4
      obtain ⟨rv, hrv, rfl⟩ := refs_at hy
      obtain ⟨v, hv, nrv, erv⟩ := pr_at pv hrv
      have hvw := hw v (List.mem_of_getElem? hv)
      have hxn : x < n := by rw [← I3.len]; exact (List.getElem?_eq_some_iff.mp (o3 _ _ hox)).1
      obtain ⟨c, hc⟩ : ∃ c, v[x]? = some c := ⟨v[x]'(by rw [hvw.1]; exact hxn), List.getElem?_eq_getElem _⟩
      have hcn : c < n := hvw.2 c (List.mem_of_getElem? hc)
      have B4 := B3.same s4
      obtain ⟨cl, hcl, hcll, hcc⟩ := g3 k v hv
      obtain ⟨gk, hgk, as, egk, pas⟩ := pr_at2 B4.cls hcl
      have hal := Paired.length pas
      have hac : as[c]? = some (as[c]'(by omega)) := List.getElem?_eq_getElem (by omega)
      obtain ⟨L, hL, naL, eL⟩ := pr_at pas hac
      have hgm : gk ∈ ro :: gs := List.mem_cons_of_mem _ (List.mem_of_getElem? hgk)
      walk_at "rd"
      refine g_pair (SqT.of e4) ?_
      have erv4 : H4 rv = some (.lst (natV v)) := s4 _ _ (m3 _ _ nrv erv)
      walk_at "rd"
      refine r_ixL (SqL.of B4.grp.1) (refs_get hgk) ?_
      walk_at "rd"
      refine r_ixL (SqL.of erv4) (natV_get hc) ?_
      refine r_ixL (SqL.of egk) (refs_get hac) ?_
      -- behind q others
      refine lp_list (natV L) (SqL.of eL) (fun p σ H5 => ∃ (u4 : Option V) (R' : List (Option Way)) (F : List Nat), σ = [some (.ref vw), some (.ref g), some (.ref ro), some (.ref nw), some (.ref fu), some (.int (x : Int)), some (.int (k : Int)), some (.ref rv), u4] ∧ SameM (fu :: ro :: gs) H4 H5 ∧ BH (fu :: ro :: gs) H5 vw g ro gs ws G' R' ∧ BfsI ws n d R' (fun y => P y ∨ y ∈ N.take j) (i + 1) ∧ GOk ws n R' G' ∧ (∀ (y : Nat) (r : Way), R[y]? = some (some r) → R'[y]? = some (some r)) ∧ (∀ x ∈ F, ∃ o, R'[x]? = some (some (i + 1, o))) ∧ (∀ y, Kn R' y → (P y ∨ y ∈ N) ∨ y ∈ F) ∧ H5 fu = some (.lst (natV F)) ∧ cntR R' + F.length = cntR R ∧ (∀ v ∈ ws.take k, ∀ (y : Nat), Alk v x y → Kn R' y) ∧ (∀ y ∈ L.take p, Kn R' y) ∧ H5 gk = H4 gk ∧ ∀ (z : Nat), v[z]? = some c → L = [] → Kn R' z)
        ⟨_, R', F, rfl, SameM.refl _ _, B4, I3, g3, o3, f3, c3, s4 _ _ e3, n3, k3, fun y h => by simp at h, rfl, fun z hz hLn => ?_⟩ ?_ ?_ ?_
      · rcases hcc c hcn with h | ⟨_, h⟩
        · rw [hL] at h
          have := mem_cls.mpr hz
          rw [← Option.some.inj h, hLn] at this
          cases this
        · exact h z hz
      · rintro p σ H5 hp ⟨u4, R', F, rfl, m5, _⟩
        exact SqL.of (m5 _ _ naL eL)
      · rintro p y σ H5 hy ⟨u4, R', F, rfl, m5, B5, I5, g5, o5, f5, c5, e5, n5, k5, t5, s5, z5⟩
        obtain ⟨y, hyp, rfl⟩ := nat_of' hy
        have hyL := List.mem_of_getElem? hyp
        have hyc : v[y]? = some c := by
          rcases hcc c hcn with h | ⟨h, _⟩
          · rw [hL] at h
            rw [Option.some.inj h] at hyL
            exact mem_cls.mp hyL
          · rw [hL] at h
            rw [Option.some.inj h] at hyL
            cases hyL
        have hyn : y < R'.length := by rw [I5.len, ← hvw.1]; exact (List.getElem?_eq_some_iff.mp hyc).1
        obtain ⟨xs, er, pr⟩ := B5.rod
        have hry : R'[y]? = some R'[y] := List.getElem?_eq_getElem hyn
        obtain ⟨w, hw5, rw5⟩ := pr_at2 pr hry
        walk_at "rd"
        refine r_ixL (SqL.of er) (atI_nat hw5) ?_
        walk_at "rd"
        refine r_isNone ?_
        rw [rw5.isN]
        walk_at "rd"
        cases hR : R'[y] with
        | some r =>
          refine iteF ?_
          walk_at "rd"
          rw [hR] at hry
          refine ⟨_, R', F, rfl, m5, B5, I5, g5, o5, f5, c5, e5, n5, k5, fun z hz => ?_, s5, z5⟩
          rw [rows_snoc hyp] at hz
          rcases List.mem_append.mp hz with hz | hz
          · exact t5 z hz
          · rw [List.mem_singleton.mp hz]; exact ⟨r, hry⟩
        | none =>
          refine iteT ?_
          rw [hR] at hry
          have hrx := o5 _ _ hox
          obtain ⟨wx, hwx, rwx⟩ := pr_at2 pr hrx
          obtain ⟨tx, y1, y2, rfl, etx⟩ := rwx.dist
          walk_at "rd"
          refine r_ixL (SqL.of er) (atI_nat hwx) ?_
          walk_at "rd"
          refine r_ixT (SqT.of etx) (i := 0) (v := .int (i : Int)) rfl ?_
          walk_at "rd"
          refine ⟨by simp [sizeLine_eq], fun t H6 ht s6 e6 => ?_⟩
          walk_at "rd"
          refine r_setL (s6 _ _ er) (j := y) (by unfold ixN; rw [Paired.length pr, if_pos (by omega), if_pos (by omega)]; simp) ?_
          generalize hH7 : upd H6 ro (.lst (xs.set y (.ref t))) = H7
          have o7 : Off ro H6 H7 := by rw [← hH7]; exact off_upd
          have e7 : H7 ro = some (.lst (xs.set y (.ref t))) := by rw [← hH7]; exact upd_same
          have k67 : Keep H6 H7 := o7.keep (s6 _ _ er)
          have et7 : H7 t = some (.tup [.int ((i + 1 : Nat) : Int), .int (k : Int), .int (x : Int)]) := k67 _ _ (by rw [e6]; rfl)
          have B6 := B5.same s6
          have B7 : BH (fu :: ro :: gs) H7 vw g ro gs ws G' (R'.set y (some (i + 1, some (k, x)))) := B6.put (s6 _ _ er) o7 e7 (pr_set y (Paired.mapP pr fun _ _ h => (h.keep s6.keep).keep k67) ⟨t, rfl, et7⟩)
          have hro : ro ∈ fu :: ro :: gs := List.mem_cons_of_mem _ (List.mem_cons_self ..)
          have efu7 : H7 fu = some (.lst (natV F)) := by rw [o7 fu fun z => fnot (by rw [z]; exact List.mem_cons_self ..)]; exact s6 _ _ e5
          walk_at "rd"
          refine ⟨r_tyL efu7, ?_⟩
          walk_at "rd"
          have hFl : F.length ≤ 1000 := by
            have : cntR R ≤ R.length := List.countP_le_length
            omega
          refine r_append efu7 (by rw [natV_len, sizeLine_eq]; omega) fun H8 o8 e8 => ?_
          walk_at "rd"
          have B8 := B7.off (List.mem_cons_self ..) fnot efu7 o8
          have ngk : gk ≠ ro := fun z => (List.nodup_cons.mp B.nd).1 (by rw [← z]; exact List.mem_of_getElem? hgk)
          refine ⟨_, R'.set y (some (i + 1, some (k, x))), F ++ [y], rfl, ((m5.same s6).off hro o7).off (List.mem_cons_self ..) o8, B8, I5.put hry hrx hv ⟨c, hc, hyc⟩, g5.put hry, fun z r h => set_old hry (o5 z r h), fun z hz => ?_, fun z hz => ?_, by rw [e8, natV_snoc], ?_, fun v' hv' z hz => (k5 v' hv' z hz).put hry, fun z hz => ?_, ?_, fun z hz hLn => (z5 z hz hLn).put hry⟩
          · rcases List.mem_append.mp hz with hz | hz
            · obtain ⟨o, ho⟩ := f5 z hz
              exact ⟨o, set_old hry ho⟩
            · rw [List.mem_singleton.mp hz]; exact ⟨_, set_new hry⟩
          · obtain ⟨r, hr⟩ := hz
            rcases set_of hry hr with ⟨rfl, _⟩ | ⟨_, hr⟩
            · exact .inr (by simp)
            · rcases c5 z ⟨r, hr⟩ with h | h
              · exact .inl h
              · exact .inr (List.mem_append_left _ h)
          · have := cntR_set (r := (i + 1, some (k, x))) hry
            rw [List.length_append, List.length_singleton]
            omega
          · rw [rows_snoc hyp] at hz
            rcases List.mem_append.mp hz with hz | hz
            · exact (t5 z hz).put hry
            · rw [List.mem_singleton.mp hz]; exact ⟨_, set_new hry⟩
          · rw [o8 gk (nfu gk hgm), o7 gk ngk, ← s5]
            obtain ⟨as', eg5, _⟩ : ∃ as' : List Addr, H5 gk = some (.lst (as'.map V.ref)) ∧ True := ⟨as, by rw [s5]; exact egk, trivial⟩
            rw [eg5]
            exact s6 _ _ eg5
      · rintro σ H5 ⟨u4, R', F, rfl, m5, B5, I5, g5, o5, f5, c5, e5, n5, k5, t5, s5, z5⟩
        rw [natV_len, List.take_length] at t5
        have known : ∀ (z : Nat), v[z]? = some c → Kn R' z := fun z hz => by
          rcases hcc c hcn with h | ⟨h, _⟩
          · refine t5 z ?_
            rw [hL] at h
            rw [Option.some.inj h]
            exact mem_cls.mpr hz
          · rw [hL] at h
            exact z5 z hz (Option.some.inj h)
        walk_at "rd"
        refine ⟨by simp [sizeLine_eq], fun em H6 hem s6 e6 => ?_⟩
        have B6 := B5.same s6
        have eg6 : H6 gk = some (.lst (as.map V.ref)) := s6 _ _ (by rw [s5]; exact egk)
        walk_at "rd"
        refine r_ixL (SqL.of B6.grp.1) (refs_get hgk) ?_
        walk_at "rd"
        refine r_ixL (SqL.of (s6 _ _ (m5 _ _ (fun z => nrv z) erv4))) (natV_get hc) ?_
        refine r_setL eg6 (j := c) (by unfold ixN; rw [List.length_map, if_pos (by omega), if_pos (by omega)]; simp) ?_
        generalize hH7 : upd H6 gk _ = H7
        have o7 : Off gk H6 H7 := by rw [← hH7]; exact off_upd
        have e7 : H7 gk = some (.lst ((as.set c em).map V.ref)) := by rw [← hH7, upd_same, List.map_set]
        have nem : em ∉ fu :: ro :: gs := fun z => by
          rcases List.mem_cons.mp z with z | z
          · subst z; rw [e5] at hem; cases hem
          · rcases List.mem_cons.mp z with z | z
            · obtain ⟨xs, er, _⟩ := B5.rod
              subst z; rw [er] at hem; cases hem
            · obtain ⟨k', hk', he⟩ := List.getElem_of_mem z
              obtain ⟨cl', _, as', q1, _⟩ := pr_at B5.cls (List.getElem?_eq_getElem hk')
              rw [he, hem] at q1
              cases q1
        have pas6 : Paired (fun (b : Addr) (c : List Nat) => b ∉ fu :: ro :: gs ∧ H6 b = some (.lst (natV c))) as cl := Paired.mapP pas fun _ _ h => ⟨h.1, s6 _ _ (m5 _ _ h.1 h.2)⟩
        refine ⟨_, _, _, G'.set k (cl.set c []), R', F, rfl, ((m3.same s4).trans (m5.same s6)).off (List.mem_cons_of_mem _ hgm) o7, B6.clear hgk hcl eg6 pas6 ⟨nem, e6⟩ o7 e7, I5, g5.clear hv hcl hcn known, o5, f5, c5, by rw [o7 fu fun z => nfu gk hgm z.symm]; exact s6 _ _ e5, n5, fun v' hv' z hz => ?_⟩
        rw [rows_snoc hv] at hv'
        rcases List.mem_append.mp hv' with hv' | hv'
        · exact k5 v' hv' z hz
        · rw [List.mem_singleton.mp hv'] at hz
          obtain ⟨c', hc1, hc2⟩ := hz
          rw [hc] at hc1
          cases hc1
          exact known z hc2
    · rintro σ H3 ⟨u2, u3, u4, G', R', F, rfl, m3, B3, I3, g3, o3, f3, c3, e3, n3, k3⟩
      rw [List.length_map, hrs, List.take_length] at k3
      refine ⟨_, _, _, _, G', R', F, rfl, m2.trans m3, B3, I3.done (o3 _ _ hox) k3 fun z hz => ?_, g3, o3, f3, c3, e3, n3⟩
      rcases hz with hz | hz
      · exact .inl (.inl hz)
      · rw [rows_snoc hxj] at hz
        rcases List.mem_append.mp hz with hz | hz
        · exact .inl (.inr hz)
        · exact .inr (List.mem_singleton.mp hz)
  · rintro σ H2 ⟨u1, u2, u3, u4, G', R', F, rfl, m2, B2, I2, g2, o2, f2, c2, e2, n2⟩
    rw [natV_len, List.take_length] at I2
    walk_at "rd"
    refine q fu H2 G' R' F hfu (fun b u hb h => m2 b u (fun z => ?_) (s1 _ _ h)) (B2.less fun a ha => ha) ⟨I2, g2, f2, c2⟩ e2 n2
    rcases List.mem_cons.mp z with z | z
    · subst z; rw [hfu] at h; cases h
    · exact hb z
noncomputable def sp_roads_from (_ : PySem.W.Frag) : Sp := fun vs H Q _ => ∃ (n d : Nat) (vw : Addr) (ws : List (List Nat)), vs = [.int (n : Int), .ref vw, .int (d : Int)] ∧ ViewsAt H vw ws ∧ (∀ v ∈ ws, Within n v) ∧ d < n ∧ n ≤ 900 ∧ ws.length ≤ 100 ∧
  ∀ (ro : Addr) (xs : List V) (R : List (Option Way)) (H' : Hp), H ro = none → Same H H' → H' ro = some (.lst xs) → Paired (RoadV H') xs R → BfsEnd ws n d R → Q (.ref ro) H'
theorem rep_none (n : Nat) : (List.replicate n [V.non]).flatten = List.replicate n V.non := by
  induction n with
  | zero => rfl
  | succ n ih => rw [List.replicate_succ, List.replicate_succ, List.flatten_cons, ih]; rfl
theorem road_none (H : Hp) : ∀ n : Nat, Paired (RoadV H) (List.replicate n V.non) (List.replicate n none)
  | 0 => .nil
  | n + 1 => .cons rfl (road_none H n)
theorem cntR_le (R : List (Option Way)) : cntR R ≤ R.length := List.countP_le_length
noncomputable def t_roads_from (K : PySem.W.Frag) : TS := (tSeq (tAsg (tComp (iList K (tVar 1)) (fun _ _ _ _ => (gName 0)) (fun _ _ _ _ => tAlways) (fun _ _ _ _ => (tCall (sp_groups_of K) [] E0 (tCons (tVar 0) tNil))) [none]) (gName 3))
  (tSeq (tAsg (tOp mRep (mLst (tCons (tC .non) tNil)) (tVar 0)) (gName 4))
  (tSeq (tAsg (mTup (tCons (tC (.int 0)) (tCons (tC .non) (tCons (tC .non) tNil)))) (gSub (tVar 4) (tVar 2) rSetL))
  (tSeq (tAsg (mLst (tCons (tVar 2) tNil)) (gName 5))
  (tSeq (tWhile (tTest (tOp (rI0 fun i j => .bl (decide (j < i))) (tCB (cLen K) (tCons (tVar 5) tNil)) (tC (.int 0)))) (tAsg (tCall (sp_one_step_on K) [] E0 (tCons (tVar 1) (tCons (tVar 3) (tCons (tVar 4) (tCons (tVar 5) tNil))))) (gName 5)))
  (tRet (tVar 4)))))))
theorem len_roads_from {K : PySem.W.Frag} {vs : List V} {H : Hp} {Q : VK} {E : XK} (h : sp_roads_from K vs H Q E) : vs.length = 3 := by
  obtain ⟨n, d, vw, ws, rfl, ⟨rs, ev, pv⟩, hw, hd, hn, hwl, q⟩ := h
  rfl
theorem rd_roads_from {K : PySem.W.Frag} {vs : List V} {H : Hp} {Q : VK} {E : XK} (h : sp_roads_from K vs H Q E) : t_roads_from K { nx := fun _ H' => Q .non H', rt := Q } (start ["many", "views", "deal", "groups", "roads", "newest"] vs) H := by
  obtain ⟨n, d, vw, ws, rfl, ⟨rs, ev, pv⟩, hw, hd, hn, hwl, q⟩ := h
  show t_roads_from K _ [some _, some _, some _, none, none, none] _
  unfold t_roads_from
  have hrs := Paired.length pv
  walk_at "rd"
  refine lc_listP (rs.map V.ref) (SqL.of ev) (by rw [List.length_map]; omega) (fun p i acc H2 => ∃ gs : List Addr, acc = gs.map V.ref ∧ gs.Nodup ∧ (∀ a ∈ gs, a ≠ p ∧ H a = none) ∧ Paired (fun (a : Addr) (cl : List (List Nat)) => ∃ as : List Addr, H2 a = some (.lst (as.map V.ref)) ∧ Paired (fun (b : Addr) (c : List Nat) => b ∉ gs ∧ b ≠ p ∧ H b = none ∧ H2 b = some (.lst (natV c))) as cl) gs ((ws.take i).map fun v => (List.range n).map fun c => clsOf v c)) (fun p H' hp s e => ⟨[], rfl, .nil, fun a ha => by (cases ha), .nil⟩) ?_ ?_
  · rintro p hp C s' H' fp i x acc H2 hx ⟨s2, e2, l2, gs, rfl, nd, n2, p2⟩
    obtain ⟨a, ha, rfl⟩ := refs_at hx
    obtain ⟨v, hv, ea⟩ := pr_at pv ha
    have hvw := hw v (List.mem_of_getElem? hv)
    walk_at "rd"
    refine ⟨a, v, rfl, s2 _ _ ea, fun x hx => by rw [hvw.1]; exact hvw.2 x hx, by rw [hvw.1]; omega, fun gk H3 hgk s3 ⟨as, eg, pa⟩ => ?_⟩
    rw [hvw.1] at pa
    have ngp : gk ≠ p := (ne_of_none e2 hgk).symm
    have ngg : gk ∉ gs := fun z => by
      obtain ⟨j, hj, he⟩ := List.getElem_of_mem z
      obtain ⟨cl, _, as', q1, _⟩ := pr_at p2 (List.getElem?_eq_getElem hj)
      rw [he, hgk] at q1
      cases q1
    have npg : p ∉ gs := fun z => (n2 p z).1 rfl
    refine ⟨s3 _ _ e2, (s2.trans s3).upd hp _, upd_same, by rw [List.length_append]; exact Nat.add_le_add_right l2 1, gs ++ [gk], by rw [List.map_append]; rfl, ?_, fun b hb => ?_, ?_⟩
    · refine List.nodup_append.mpr ⟨nd, by simp, fun x hx y hy e => ?_⟩
      rw [List.mem_singleton.mp hy] at e
      exact ngg (e ▸ hx)
    · rcases List.mem_append.mp hb with hb | hb
      · exact n2 b hb
      · rw [List.mem_singleton.mp hb]; exact ⟨ngp, s2.free hgk⟩
    · rw [rows_snoc hv, List.map_append]
      refine pr_snoc (pr_imp p2 fun b hb cl ⟨as', q1, q2⟩ => ⟨as', by rw [upd_ne (n2 b hb).1]; exact s3 _ _ q1, Paired.mapP q2 fun c _ h => ⟨fun z => ?_, h.2.1, h.2.2.1, by rw [upd_ne h.2.1]; exact s3 _ _ h.2.2.2⟩⟩) ⟨as, by rw [upd_ne ngp]; exact eg, Paired.mapP pa fun b _ h => ⟨fun z => ?_, ?_, s2.free h.1, ?_⟩⟩
      · rcases List.mem_append.mp z with z | z
        · exact h.1 z
        · rw [List.mem_singleton.mp z, hgk] at h
          cases h.2.2.2
      · rcases List.mem_append.mp z with z | z
        · obtain ⟨j, hj, he⟩ := List.getElem_of_mem z
          obtain ⟨cl, _, as', q1, _⟩ := pr_at p2 (List.getElem?_eq_getElem hj)
          rw [he, h.1] at q1
          cases q1
        · exact h.2.1 (List.mem_singleton.mp z)
      · exact fun z => by rw [z, e2] at h; cases h.1
      · rw [upd_ne (fun z => by rw [z, e2] at h; cases h.1)]
        exact h.2.2
  · rintro g acc H2 hg s2 e2 ⟨gs, rfl, nd, n2, p2⟩
    rw [List.length_map, hrs, List.take_length] at p2
    walk_at "rd"
    refine ⟨by simp [sizeLine_eq], fun l3 H3 hl3 s3 e3 => ?_⟩
    walk_at "rd"
    refine ⟨l3, n, _, rfl, rfl, e3, by omega, by omega, by simp [sizeLine_eq]; omega, fun ro H4 hro s4 e4 => ?_⟩
    rw [Int.toNat_natCast, rep_none] at e4
    walk_at "rd"
    refine ⟨by simp [sizeLine_eq], fun t H5 ht s5 e5 => ?_⟩
    have s35 := s4.trans s5
    have hro2 : H2 ro = none := s3.free hro
    have hro0 : H ro = none := s2.free hro2
    have er5 := s5 _ _ e4
    walk_at "rd"
    refine r_setL er5 (j := d) (by unfold ixN; rw [List.length_replicate, if_pos (by omega), if_pos (by omega)]; simp) ?_
    generalize hH6 : upd H5 ro (.lst ((List.replicate n V.non).set d (.ref t))) = H6
    have o6 : Off ro H5 H6 := by rw [← hH6]; exact off_upd
    have e6 : H6 ro = some (.lst ((List.replicate n V.non).set d (.ref t))) := by rw [← hH6]; exact upd_same
    have s25 : Same H2 H5 := s3.trans s35
    have s26 : Same H2 H6 := s25.off hro2 o6
    have s06 : Same H H6 := s2.trans s26
    have et6 : H6 t = some (.tup [.int ((0 : Nat) : Int), .non, .non]) := o6.keep er5 _ _ e5
    walk_at "rd"
    refine ⟨by simp [sizeLine_eq], fun nw H7 hnw s7 e7 => ?_⟩
    have s07 : Same H H7 := s06.trans s7
    have s27 : Same H2 H7 := s26.trans s7
    have hM0 : ∀ a ∈ ro :: gs, H a = none := fun a ha => by
      rcases List.mem_cons.mp ha with rfl | ha
      · exact hro0
      · exact (n2 a ha).2
    have nM : ∀ {a : Addr} {o : HO}, H a = some o → a ∉ ro :: gs := fun h z => by rw [hM0 _ z] at h; cases h
    have ngm : ∀ a ∈ gs, ∃ o, H2 a = some o := fun a ha => by
      obtain ⟨j, hj, he⟩ := List.getElem_of_mem ha
      obtain ⟨cl, _, as, q1, _⟩ := pr_at p2 (List.getElem?_eq_getElem hj)
      rw [he] at q1
      exact ⟨_, q1⟩
    have hR0 : (List.replicate n (none : Option Way)).length = n := List.length_replicate
    have hRd : (List.replicate n (none : Option Way))[d]? = some none := by rw [List.getElem?_replicate, if_pos hd]
    have hnonk : ∀ (y : Nat) (r : Way), ((List.replicate n (none : Option Way)).set d (some (0, none)))[y]? = some (some r) → y = d ∧ r = (0, none) := fun y r h => by
      rcases set_of hRd h with h | ⟨_, h⟩
      · exact h
      · rw [List.getElem?_replicate] at h
        split at h <;> cases h
    have B7 : BH (ro :: gs) H7 vw g ro gs ws (ws.map fun v => (List.range n).map fun c => clsOf v c) ((List.replicate n none).set d (some (0, none))) := by
      refine ⟨⟨rs, s07 _ _ ev, nM ev, Paired.mapP pv fun _ _ h => ⟨nM h, s07 _ _ h⟩⟩, ⟨s27 _ _ e2, fun z => ?_⟩, Paired.mapP p2 fun _ _ ⟨as, q1, q2⟩ => ⟨as, s27 _ _ q1, Paired.mapP q2 fun b _ h => ⟨fun z => ?_, s27 _ _ h.2.2.2⟩⟩, ⟨_, s7 _ _ e6, ?_⟩, List.nodup_cons.mpr ⟨fun z => ?_, nd⟩, fun a ha => ha⟩
      · rcases List.mem_cons.mp z with z | z
        · rw [← z, e2] at hro2; cases hro2
        · exact (n2 g z).1 rfl
      · rcases List.mem_cons.mp z with z | z
        · rw [z, hro2] at h; cases h.2.2.2
        · exact h.1 z
      · exact pr_set d (Paired.mapP (road_none H5 n) fun _ _ h => (h.keep (o6.keep er5)).keep s7.keep) ⟨t, rfl, s7 _ _ et6⟩
      · obtain ⟨o, ho⟩ := ngm ro z
        rw [hro2] at ho
        cases ho
    have hst := set_new (r' := ((0, none) : Way)) hRd
    have W7 : Ring ws n d ((List.replicate n none).set d (some (0, none))) (ws.map fun v => (List.range n).map fun c => clsOf v c) (fun _ => False) 0 [d] := by
      refine ⟨⟨by rw [List.length_set]; exact hR0, hst, fun y r h => ?_, fun y a o h => ?_, fun y a k x h => ?_, fun y a h => ?_, fun x h => h.elim⟩, fun k v hv => ⟨_, by rw [List.getElem?_map, hv]; rfl, by simp, fun c hc => .inl (by rw [List.getElem?_map, List.getElem?_range hc]; rfl)⟩, fun x hx => ?_, fun y h => ?_⟩
      · rw [(hnonk y r h).1]; exact .here
      · have := (hnonk _ _ h).2; cases this; exact Nat.le_refl _
      · have := (hnonk _ _ h).2; cases this
      · have := hnonk _ _ h; refine ⟨this.1, ?_⟩; cases this.2; rfl
      · rw [List.mem_singleton.mp hx]; exact ⟨_, hst⟩
      · obtain ⟨r, hr⟩ := h
        rw [(hnonk y r hr).1]
        exact .inr (by simp)
    have nnw : nw ∉ ro :: gs := fun z => by
      rcases List.mem_cons.mp z with z | z
      · rw [z, e6] at hnw; cases hnw
      · obtain ⟨o, ho⟩ := ngm nw z
        rw [s26 _ _ ho] at hnw
        cases hnw
    walk_at "rs"
    refine r_seq ?_
    refine wh_in (fun u σ H8 => ∃ (nw : Addr) (G : List (List (List Nat))) (R : List (Option Way)) (P : Nat → Prop) (i : Nat) (N : List Nat), σ = [some (.int n), some (.ref vw), some (.int d), some (.ref g), some (.ref ro), some (.ref nw)] ∧ SameM (ro :: gs) H7 H8 ∧ BH (ro :: gs) H8 vw g ro gs ws G R ∧ Ring ws n d R G P i N ∧ H8 nw = some (.lst (natV N)) ∧ nw ∉ ro :: gs ∧ u = cntR R + (if N = [] then 0 else 1)) (cntR ((List.replicate n none).set d (some (0, none))) + 1)
      ⟨nw, _, _, _, 0, [d], rfl, SameM.refl _ _, B7, W7, e7, nnw, by simp⟩ ?_
    rintro u σ H8 ⟨nw, G, R, P, i, N, rfl, m8, B8, W8, e8, n8, rfl⟩
    have hcR := cntR_le R
    walk_at "rd"
    rw [natV_len]
    refine ite_dec (fun h => ?_) (fun h => ?_)
    · refine wh_go ?_
      have hne : N ≠ [] := fun z => by rw [z] at h; exact absurd h (by decide)
      walk_at "rd"
      refine ⟨vw, g, ro, nw, gs, ws, G, R, P, n, d, i, N, rfl, B8, W8, hw, e8, n8, by omega, fun fu H9 G' R' F hfu m9 B9 W9 e9 c9 => ?_⟩
      walk_at "rd"
      refine ⟨cntR R' + (if F = [] then 0 else 1), ?_, fu, G', R', _, i + 1, F, rfl, m8.trans m9, B9, W9, e9, fun z => ?_, rfl⟩
      · rw [if_neg hne]
        by_cases hF : F = []
        · rw [if_pos hF]; omega
        · rw [if_neg hF]
          have := List.length_pos_iff.mpr hF
          omega
      · rcases List.mem_cons.mp z with z | z
        · obtain ⟨xs, er, _⟩ := B8.rod
          rw [← z, hfu] at er; cases er
        · obtain ⟨j, hj, he⟩ := List.getElem_of_mem z
          obtain ⟨cl, _, as, q1, _⟩ := pr_at B8.cls (List.getElem?_eq_getElem hj)
          rw [he, hfu] at q1; cases q1
    · have hN : N = [] := List.eq_nil_of_length_eq_zero (by omega)
      obtain ⟨xs, er, pr⟩ := B8.rod
      walk_at "rd"
      refine q ro xs R H8 hro0 (fun b u hb => m8 b u (nM hb) (s07 _ _ hb)) er pr (W8.bfs.fin fun y hy => ?_)
      rcases W8.cov y hy with h | h
      · exact h
      · rw [hN] at h; cases h
noncomputable def distV : Option Way → V
  | none => .non
  | some (a, _) => .int (a : Int)
noncomputable def sp_steps_from (_ : PySem.W.Frag) : Sp := fun vs H Q _ => ∃ (n d : Nat) (vw : Addr) (ws : List (List Nat)), vs = [.int (n : Int), .ref vw, .int (d : Int)] ∧ ViewsAt H vw ws ∧ (∀ v ∈ ws, Within n v) ∧ d < n ∧ n ≤ 900 ∧ ws.length ≤ 100 ∧
  ∀ (p : Addr) (R : List (Option Way)) (H' : Hp), H p = none → Same H H' → H' p = some (.lst (R.map distV)) → BfsEnd ws n d R → Q (.ref p) H'
noncomputable def t_steps_from (K : PySem.W.Frag) : TS := (tRet (tComp (iList K (tCall (sp_roads_from K) [] E0 (tCons (tVar 0) (tCons (tVar 1) (tCons (tVar 2) tNil))))) (fun _ _ _ _ => (gName 0)) (fun _ _ _ _ => tAlways) (fun _ _ _ _ => (tIf (tTest (tOp rIsNone (tVar 0) (tC .non))) (tC .non) (tOp (rIxT K) (tVar 0) (tC (.int 0))))) [none]))
theorem len_steps_from {K : PySem.W.Frag} {vs : List V} {H : Hp} {Q : VK} {E : XK} (h : sp_steps_from K vs H Q E) : vs.length = 3 := by
  obtain ⟨n, d, vw, ws, rfl, hV, hw, hd, hn, hwl, q⟩ := h
  rfl
theorem rd_steps_from {K : PySem.W.Frag} {vs : List V} {H : Hp} {Q : VK} {E : XK} (h : sp_steps_from K vs H Q E) : t_steps_from K { nx := fun _ H' => Q .non H', rt := Q } (start ["many", "views", "deal"] vs) H := by
  obtain ⟨n, d, vw, ws, rfl, hV, hw, hd, hn, hwl, q⟩ := h
  show t_steps_from K _ [some _, some _, some _] _
  unfold t_steps_from
  walk_at "rd"
  refine ⟨n, d, vw, ws, rfl, hV, hw, hd, hn, hwl, fun ro xs R H1 hro s1 e1 p1 E1 => ?_⟩
  have hx := Paired.length p1
  have hl := E1.len
  refine lc_list xs (SqL.of e1) (by omega) (fun i acc _ => acc = (R.take i).map distV) (fun _ _ => rfl) ?_ ?_
  · rintro p hp C s' H' fp i x acc H2 hxi ⟨s2, e2, l2, rfl⟩
    obtain ⟨r, hr, rv⟩ := pr_at p1 hxi
    have put : ∀ (v : V) (H3 : Hp), H3 = H2 → v = distV r → H3 p = some (.lst ((R.take i).map distV)) ∧ CInv H1 p (fun i acc _ => acc = (R.take i).map distV) (i + 1) ((R.take i).map distV ++ [v]) (upd H3 p (.lst ((R.take i).map distV ++ [v]))) := by
      rintro v H3 rfl rfl
      refine CInv.put hp (fun _ _ _ _ r _ => r) s2 e2 l2 ?_
      rw [rows_snoc hr, List.map_append]
      rfl
    walk_at "rd"
    refine r_isNone ?_
    rw [rv.isN]
    walk_at "rd"
    match r, rv, put with
    | none, rv, put =>
      refine iteT ?_
      walk_at "rd"
      exact put _ _ rfl rfl
    | some (a, o), rv, put =>
      obtain ⟨t, y, z, rfl, et⟩ := rv.dist
      refine iteF ?_
      walk_at "rd"
      refine r_ixT (SqT.of (s2 _ _ et)) (i := 0) (v := .int (a : Int)) rfl ?_
      exact put _ _ rfl rfl
  · rintro p acc H2 hp s2 e2 rfl
    rw [hx, List.take_length] at e2
    exact q p R H2 (s1.free hp) (s1.trans s2) e2 E1

end L2

end

section
-- KcDkR
set_option Elab.async false
set_option linter.all false
set_option maxRecDepth 100000
set_option maxHeartbeats 4000000
namespace L2
open PySem PyProof.Rows
/-! ### a dict whose keys are whole numbers -/
noncomputable def dkV (kvs : List (Key × V)) (i : Int) : Option V := (kvs.find? fun kv => decide (kv.1 = (Sum.inl i : Key))).map (·.2)
noncomputable def dkP (kvs : List (Key × V)) (i : Int) (v : V) : List (Key × V) :=
  if (kvs.any fun kv => decide (kv.1 = (Sum.inl i : Key))) = true then kvs.map (fun kv => if kv.1 = (Sum.inl i : Key) then (kv.1, v) else kv) else kvs ++ [((Sum.inl i : Key), v)]
theorem dkV_cons (k : Key) (v : V) (kvs : List (Key × V)) (i : Int) : dkV ((k, v) :: kvs) i = if k = Sum.inl i then some v else dkV kvs i := by
  unfold dkV
  rw [List.find?_cons]
  by_cases h : k = Sum.inl i
  · rw [if_pos h, decide_eq_true h]; rfl
  · rw [if_neg h, decide_eq_false h]
theorem dkV_map (kvs : List (Key × V)) (i j : Int) (v : V) : dkV (kvs.map fun kv => if kv.1 = (Sum.inl i : Key) then (kv.1, v) else kv) j = if j = i then (dkV kvs j).map (fun _ => v) else dkV kvs j := by
  induction kvs with
  | nil => by_cases h : j = i <;> simp [dkV, h]
  | cons p kvs ih =>
    obtain ⟨k, u⟩ := p
    rw [List.map_cons, dkV_cons]
    by_cases hk : k = Sum.inl i
    · rw [if_pos hk, dkV_cons, ih]
      subst hk
      by_cases h : j = i
      · subst h
        rw [if_pos rfl, if_pos rfl, if_pos rfl]
        rfl
      · rw [if_neg h, if_neg (fun e => h (by injection e with e; exact e.symm)), if_neg h, if_neg (fun e => h (by injection e with e; exact e.symm))]
    · rw [if_neg hk, dkV_cons, ih]
      by_cases h : j = i
      · subst h
        rw [if_pos rfl, if_neg hk, if_neg hk, if_pos rfl]
      · rw [if_neg h, if_neg h]
theorem dkV_any (kvs : List (Key × V)) (i : Int) : (kvs.any fun kv => decide (kv.1 = (Sum.inl i : Key))) = (dkV kvs i).isSome := by
  induction kvs with
  | nil => rfl
  | cons p kvs ih =>
    obtain ⟨k, u⟩ := p
    rw [List.any_cons, ih, dkV_cons]
    by_cases h : k = Sum.inl i
    · rw [if_pos h, decide_eq_true h]; rfl
    · rw [if_neg h, decide_eq_false h, Bool.false_or]
theorem dkV_app (kvs : List (Key × V)) (i j : Int) (v : V) (h : dkV kvs i = none) : dkV (kvs ++ [((Sum.inl i : Key), v)]) j = if j = i then some v else dkV kvs j := by
  induction kvs with
  | nil =>
    rw [List.nil_append, dkV_cons]
    by_cases e : j = i
    · subst e; rw [if_pos rfl, if_pos rfl]
    · rw [if_neg e, if_neg (fun z => e (by injection z with z; exact z.symm))]
  | cons p kvs ih =>
    obtain ⟨k, u⟩ := p
    rw [dkV_cons] at h
    by_cases hk : k = Sum.inl i
    · rw [if_pos hk] at h; cases h
    · rw [if_neg hk] at h
      rw [List.cons_append, dkV_cons, ih h, dkV_cons]
      by_cases e : j = i
      · subst e; rw [if_neg hk, if_pos rfl, if_pos rfl]
      · rw [if_neg e, if_neg e]
theorem dkV_put (kvs : List (Key × V)) (i j : Int) (v : V) : dkV (dkP kvs i v) j = if j = i then some v else dkV kvs j := by
  unfold dkP
  rw [dkV_any]
  cases h : dkV kvs i with
  | none =>
    rw [if_neg (by simp), dkV_app kvs i j v h]
  | some u =>
    rw [if_pos (show (some u).isSome = true from rfl), dkV_map]
    by_cases e : j = i
    · subst e; rw [if_pos rfl, if_pos rfl, h]; rfl
    · rw [if_neg e, if_neg e]
theorem dkP_len (kvs : List (Key × V)) (i : Int) (v : V) : (dkP kvs i v).length ≤ kvs.length + 1 := by
  unfold dkP
  split
  · rw [List.length_map]; omega
  · rw [List.length_append]; exact Nat.le_refl _
noncomputable def DkI (kvs : List (Key × V)) : Prop := ∀ p ∈ kvs, ∃ i : Int, p.1 = Sum.inl i
theorem DkI.put {kvs : List (Key × V)} (h : DkI kvs) (i : Int) (v : V) : DkI (dkP kvs i v) := by
  unfold dkP
  split
  · intro p hp
    obtain ⟨q, hq, rfl⟩ := List.mem_map.mp hp
    by_cases e : q.1 = Sum.inl i
    · rw [if_pos e]; exact ⟨i, e⟩
    · rw [if_neg e]; exact h q hq
  · intro p hp
    rcases List.mem_append.mp hp with hp | hp
    · exact h p hp
    · rw [List.mem_singleton.mp hp]; exact ⟨i, rfl⟩
theorem dk_at {kvs : List (Key × V)} (h : DkI kvs) {j : Nat} {k : Key} {v : V} (e : kvs[j]? = some (k, v)) : ∃ (i : Int) (u : V), k = Sum.inl i ∧ dkV kvs i = some u := by
  obtain ⟨i, hi⟩ := h _ (List.mem_of_getElem? e)
  refine ⟨i, ?_⟩
  have : (dkV kvs i).isSome = true := by
    rw [← dkV_any]
    exact List.any_eq_true.mpr ⟨_, List.mem_of_getElem? e, decide_eq_true hi⟩
  obtain ⟨u, hu⟩ := Option.isSome_iff_exists.mp this
  exact ⟨u, hi, hu⟩
noncomputable def DkAt (H : Hp) (a : Addr) (kvs : List (Key × V)) : Prop := H a = some (.dK kvs) ∨ ∃ o, H a = some (.frz o (.dK kvs))
noncomputable def rDkIn (neg : Bool) : R2 := fun y x H Q => ∃ a kvs i, x = .ref a ∧ y = .int i ∧ DkAt H a kvs ∧ Q (.bl (if neg then !(dkV kvs i).isSome else (dkV kvs i).isSome)) H
noncomputable def rDkGet : R2 := fun x y H Q => ∃ a kvs i v, x = .ref a ∧ y = .int i ∧ DkAt H a kvs ∧ dkV kvs i = some v ∧ Q v H
noncomputable def rDkSet : TSet := fun o i v H R => ∃ a kvs k, o = .ref a ∧ i = .int k ∧ H a = some (.dK kvs) ∧ kvs.length < sizeLine ∧ ∀ H', Off a H H' → H' a = some (.dK (dkP kvs k v)) → R H'
noncomputable def mDkGet2 (td ty tx : TE) : TE := fun σ H Q => td σ H fun x H1 => (∃ a kvs, x = .ref a ∧ H1 a = some (.dK kvs)) ∧ ty σ H1 fun y H2 => tx σ H2 fun z H3 => ∃ a kvs i, x = .ref a ∧ y = .int i ∧ H3 a = some (.dK kvs) ∧ Q ((dkV kvs i).getD z) H3
noncomputable def mDk1 (i : Nat) (v : V) : TE := fun σ H Q => ∃ k, σ[i]? = some (some (.int k)) ∧ ∀ p H', H p = none → Same H H' → H' p = some (.dK [((Sum.inl k : Key), v)]) → Q (.ref p) H'
noncomputable def Itk (a : Addr) (o : Obj) (kvs : List (Key × V)) : It := ⟨fun i H => i < kvs.length ∧ H a = some (.frz o (.dK kvs)), fun i H x H' => H' = H ∧ ∃ (k : Int) (v : V), kvs[i]? = some ((Sum.inl k : Key), v) ∧ x = .int k, fun i H => kvs.length ≤ i ∧ H a = some (.frz o (.dK kvs))⟩
noncomputable def iDk (td : TE) : TI := fun σ H R => td σ H fun x H1 => ∃ a kvs, x = .ref a ∧ H1 a = some (.dK kvs) ∧ DkI kvs ∧ ∀ o, R (Itk a o kvs) (upd H1 a (.frz o (.dK kvs)))
section
variable {σ : St} {H : Hp} {Q : VK} {a : Addr} {kvs : List (Key × V)} {i : Int} {v : V}
theorem r_dkin (e : DkAt H a kvs) (h : Q (.bl (dkV kvs i).isSome) H) : rDkIn false (.int i) (.ref a) H Q := ⟨a, kvs, i, rfl, rfl, e, h⟩
theorem r_dknotin (e : DkAt H a kvs) (h : Q (.bl (!(dkV kvs i).isSome)) H) : rDkIn true (.int i) (.ref a) H Q := ⟨a, kvs, i, rfl, rfl, e, h⟩
theorem r_dkget (e : DkAt H a kvs) (hv : dkV kvs i = some v) (h : Q v H) : rDkGet (.ref a) (.int i) H Q := ⟨a, kvs, i, v, rfl, rfl, e, hv, h⟩
theorem r_dkset {R : Hp → Prop} (e : H a = some (.dK kvs)) (hl : kvs.length < sizeLine) (h : ∀ H', Off a H H' → H' a = some (.dK (dkP kvs i v)) → R H') : rDkSet (.ref a) (.int i) v H R := ⟨a, kvs, i, rfl, rfl, e, hl, h⟩
theorem r_dkget2 {td ty tx : TE} (h : td σ H fun x H1 => (∃ a kvs, x = .ref a ∧ H1 a = some (.dK kvs)) ∧ ty σ H1 fun y H2 => tx σ H2 fun z H3 => ∃ a kvs i, x = .ref a ∧ y = .int i ∧ H3 a = some (.dK kvs) ∧ Q ((dkV kvs i).getD z) H3) : mDkGet2 td ty tx σ H Q := h
theorem r_iDk {td : TE} {R : It → Hp → Prop} (h : td σ H fun x H1 => ∃ a kvs, x = .ref a ∧ H1 a = some (.dK kvs) ∧ DkI kvs ∧ ∀ o, R (Itk a o kvs) (upd H1 a (.frz o (.dK kvs)))) : iDk td σ H R := h
end
section
variable {g : CF TG} {tt : CF TT} {te : CF TE} {σ₀ : St} {Q : VK} {H : Hp}
theorem lc_dk {a : Addr} {kvs : List (Key × V)} (e : H a = some (.dK kvs)) (hI : DkI kvs) (hz : kvs.length ≤ 1000000) (R : Nat → List V → Hp → Prop)
    (h0 : ∀ o H', Same (upd H a (.frz o (.dK kvs))) H' → R 0 [] H')
    (hs : ∀ o p, (upd H a (.frz o (.dK kvs))) p = none → ∀ C s' H' fp, ∀ (i : Nat) (k : Int) (v : V) acc H2, kvs[i]? = some ((Sum.inl k : Key), v) → CInv (upd H a (.frz o (.dK kvs))) p R i acc H2 → DkAt H2 a kvs → g C s' H' fp (.int k) σ₀ H2 fun σ2 H3 => tt C s' H' fp σ2 H3 fun b H4 => if b = true then te C s' H' fp σ2 H4 fun y H5 => H5 p = some (.lst acc) ∧ CInv (upd H a (.frz o (.dK kvs))) p R (i + 1) (acc ++ [y]) (upd H5 p (.lst (acc ++ [y]))) else CInv (upd H a (.frz o (.dK kvs))) p R (i + 1) acc H4)
    (hd : ∀ o p acc H2, H p = none → Same (upd H a (.frz o (.dK kvs))) H2 → H2 p = some (.lst acc) → R kvs.length acc H2 → Q (.ref p) H2) :
    ∃ a' kvs', V.ref a = .ref a' ∧ H a' = some (.dK kvs') ∧ DkI kvs' ∧ ∀ o, ∀ p, (upd H a' (.frz o (.dK kvs'))) p = none → ∃ W : Nat → Nat → List V → Hp → Prop, (∃ m, W 0 m [] (upd (upd H a' (.frz o (.dK kvs'))) p (.lst []))) ∧ ∀ C s' H' fp, CompBody (Itk a' o kvs') (g C s' H' fp) (tt C s' H' fp) (te C s' H' fp) σ₀ p Q W := by
  refine ⟨a, kvs, rfl, e, hI, fun o p hp => ?_⟩
  have ea : (upd H a (.frz o (.dK kvs))) a = some (.frz o (.dK kvs)) := upd_same
  have hp0 : H p = none := by
    by_cases z : p = a
    · rw [z, ea] at hp; cases hp
    · rw [upd_ne z] at hp; exact hp
  refine comp_of (J := Itk a o kvs) (n := kvs.length) (Y := fun i H x H1 => H1 = H ∧ ∃ (k : Int) (v : V), kvs[i]? = some ((Sum.inl k : Key), v) ∧ x = .int k) (CInv (upd H a (.frz o (.dK kvs))) p R) ⟨same_new hp _, upd_same, Nat.le_refl _, h0 _ _ (same_new hp _)⟩ (fun i acc H2 _ c => ⟨c.2.1, c.2.2.1⟩) (by rw [sizeLine_eq]; omega) (fun i acc H2 hi c => ⟨hi, c.1 _ _ ea⟩) (fun acc H2 c => ⟨Nat.le_refl _, c.1 _ _ ea⟩) (fun i acc H2 x H3 hi c y => y) (fun C s' H' fp i x acc H2 H3 hi c y => ?_) fun acc H2 c => hd o p acc H2 hp0 c.1 c.2.1 c.2.2.2
  obtain ⟨rfl, k, v, hk, rfl⟩ := y
  exact hs o p hp C s' H' fp i k v acc _ hk c (.inr ⟨o, c.1 _ _ ea⟩)
end
end L2

end

section
-- KcKit
set_option Elab.async false
set_option linter.all false
set_option maxRecDepth 100000
set_option maxHeartbeats 4000000
namespace L2
open PySem
end L2

end

section
-- KcK18
set_option Elab.async false
set_option linter.all false
set_option maxRecDepth 100000
set_option maxHeartbeats 4000000
namespace L2
open PySem PyProof.Rows

open KF
/-! ### lists that fall -/
noncomputable def Ple (a b : List Nat) : Prop := a.length = b.length ∧ ∀ k, a.getD k 0 ≤ b.getD k 0
theorem Ple.refl (a : List Nat) : Ple a a := ⟨rfl, fun _ => Nat.le_refl _⟩
theorem Ple.trans {a b c : List Nat} (h : Ple a b) (t : Ple b c) : Ple a c := ⟨h.1.trans t.1, fun k => Nat.le_trans (h.2 k) (t.2 k)⟩
theorem Ple.sum : ∀ {a b : List Nat}, Ple a b → a.sum ≤ b.sum ∧ (a ≠ b → a.sum < b.sum)
  | [], [], _ => ⟨Nat.le_refl _, fun h => absurd rfl h⟩
  | [], _ :: _, h => by have := h.1; simp at this
  | _ :: _, [], h => by have := h.1; simp at this
  | x :: a, y :: b, h => by
    have h0 : x ≤ y := h.2 0
    have hr : Ple a b := ⟨by have := h.1; simp at this; exact this, fun k => h.2 (k + 1)⟩
    obtain ⟨i1, i2⟩ := Ple.sum hr
    rw [List.sum_cons, List.sum_cons]
    refine ⟨by omega, fun ne => ?_⟩
    by_cases e : x = y
    · have : a ≠ b := fun z => ne (by rw [e, z])
      have := i2 this
      omega
    · omega
theorem Ple.set {a : List Nat} {j x : Nat} (h : x ≤ a.getD j 0) : Ple (a.set j x) a := by
  refine ⟨List.length_set, fun k => ?_⟩
  rw [List.getD_eq_getElem?_getD, List.getElem?_set]
  by_cases e : j = k
  · rw [if_pos e]
    subst e
    split
    · exact h
    · exact Nat.zero_le _
  · rw [if_neg e, ← List.getD_eq_getElem?_getD]
    exact Nat.le_refl _
noncomputable def Good (n : Nat) (P : Nat → Nat → Prop) (fs : List Nat) : Prop := fs.length = n ∧ ∀ i x : Nat, fs[i]? = some x → x ≤ i ∧ Conn P i x
theorem Good.range (n : Nat) (P : Nat → Nat → Prop) : Good n P (List.range n) := ⟨List.length_range, fun i x h => by
  obtain ⟨h1, h2⟩ := List.getElem?_eq_some_iff.mp h
  rw [List.getElem_range] at h2
  subst h2
  exact ⟨Nat.le_refl _, .refl _⟩⟩
theorem Good.set {n : Nat} {P : Nat → Nat → Prop} {fs : List Nat} (g : Good n P fs) {j x : Nat} (h1 : x ≤ j) (h2 : Conn P j x) : Good n P (fs.set j x) := ⟨by rw [List.length_set]; exact g.1, fun i y h => by
  rcases set_at h with ⟨rfl, rfl⟩ | ⟨_, h⟩
  · exact ⟨h1, h2⟩
  · exact g.2 i y h⟩
noncomputable def sp__law_pairs (_ : PySem.W.Frag) : Sp := fun vs H Q _ => ∃ (many k t : Nat), vs = [.int (many : Int), .int (k : Int), .int (t : Int)] ∧ many ≤ 2000 ∧
  ∀ (zs : List Int) p H', zs.length = many → H p = none → Same H H' → H' p = some (.lst (natV (leastOf zs))) → Q (.ref p) H'
noncomputable def t__law_pairs (K : PySem.W.Frag) : TS := (tRet (tCall (sp__law_least K) [] E0 (tCons (tComp (iRng1 (tCons (tVar 0) tNil)) (fun _ _ _ _ => (gName 0)) (fun _ _ _ _ => tAlways) (fun _ _ _ _ => (tOp (rI CDiv fun i j => .int (i / j)) (tOp (rI0 fun i j => .int (i + j)) (tOp (rI0 fun i j => .int (i + j)) (tVar 0) (tVar 2)) (tVar 1)) (tC (.int 2)))) [none, some 2, some 1]) tNil)))
theorem len__law_pairs {K : PySem.W.Frag} {vs : List V} {H : Hp} {Q : VK} {E : XK} (h : sp__law_pairs K vs H Q E) : vs.length = 3 := by
  obtain ⟨many, k, t, rfl, hm, q⟩ := h
  rfl
theorem rd__law_pairs {K : PySem.W.Frag} {vs : List V} {H : Hp} {Q : VK} {E : XK} (h : sp__law_pairs K vs H Q E) : t__law_pairs K { nx := fun _ H' => Q .non H', rt := Q } (start ["_law_many", "_law_k", "_law_turn"] vs) H := by
  obtain ⟨many, k, t, rfl, hm, q⟩ := h
  show t__law_pairs K _ [some _, some _, some _] _
  unfold t__law_pairs
  walk_at "rd"
  refine lc_range many (by omega) (by omega) (by omega) (fun i acc _ => ∃ zs : List Int, zs.length = i ∧ acc = zs.map V.int) (fun H' _ => ⟨[], rfl, rfl⟩) ?_ ?_
  · rintro p hp C s' H' fp i acc H2 hi ⟨s2, e2, l2, zs, hz, rfl⟩
    walk_at "rd"
    exact CInv.put hp (fun _ _ _ _ r _ => r) s2 e2 l2 ⟨zs ++ [_], by simp [hz], by rw [List.map_append]; rfl⟩
  · rintro p acc H2 hp s2 e2 ⟨zs, hz, rfl⟩
    walk_at "rd"
    refine ⟨p, _, _, false, rfl, e2, keys_ints H2 zs, ?_, by rw [List.length_map]; omega, fun p3 H3 hp3 s3 e3 => ?_⟩
    · intro k hk
      obtain ⟨z, _, rfl⟩ := List.mem_map.mp hk
      rfl
    · rw [least_ints] at e3
      exact q zs _ _ hz (s2.free hp3) (s2.trans s3) e3
/-! ### a long road with two cuts -/
section
variable (c1 c2 : Nat)
end
end L2

end

section
-- KcK27
set_option Elab.async false
set_option linter.all false
set_option maxRecDepth 100000
set_option maxHeartbeats 4000000
namespace L2
open PySem PyProof.Rows

open KF
theorem bfs_le {ws : List (List Nat)} {n d : Nat} {R R' : List (Option Way)} (E : BfsEnd ws n d R) (E' : BfsEnd ws n d R') : ∀ (a y : Nat) (o : Option (Nat × Nat)), R[y]? = some (some (a, o)) → ∃ (b : Nat) (o' : Option (Nat × Nat)), R'[y]? = some (some (b, o')) ∧ b ≤ a := by
  intro a
  induction a with
  | zero =>
    intro y o h
    have hd : y = d := by
      match o, h with
      | none, h => exact (E.zero y 0 h).1
      | some (k, x), h => obtain ⟨b, _, _, hb, _⟩ := E.pred y 0 k x h; cases hb
    subst hd
    exact ⟨0, none, E'.start, Nat.le_refl _⟩
  | succ a ih =>
    intro y o h
    match o, h with
    | none, h => cases (E.zero y _ h).2
    | some (k, x), h =>
      obtain ⟨b, o2, v, hb, hx, hv, ha, _⟩ := E.pred y _ k x h
      cases hb
      obtain ⟨b', o3, hx', hle⟩ := ih x o2 hx
      obtain ⟨⟨c, o4⟩, hy'⟩ := (E'.iff_ y).mpr ((E.iff_ y).mp ⟨_, h⟩)
      have := E'.near v (List.mem_of_getElem? hv) x y b' c o3 o4 ha hx' hy'
      exact ⟨c, o4, hy', by omega⟩
theorem bfs_uniq {ws : List (List Nat)} {n d : Nat} {R R' : List (Option Way)} (E : BfsEnd ws n d R) (E' : BfsEnd ws n d R') : R.map distV = R'.map distV := by
  refine List.ext_getElem? fun y => ?_
  rw [List.getElem?_map, List.getElem?_map]
  by_cases hy : y < n
  · have h1 : R[y]? = some (R[y]'(by rw [E.len]; exact hy)) := List.getElem?_eq_getElem _
    have h2 : R'[y]? = some (R'[y]'(by rw [E'.len]; exact hy)) := List.getElem?_eq_getElem _
    rw [h1, h2]
    cases e1 : R[y]'(by rw [E.len]; exact hy) with
    | none =>
      cases e2 : R'[y]'(by rw [E'.len]; exact hy) with
      | none => rfl
      | some r =>
        rw [e2] at h2
        obtain ⟨r', h3⟩ := (E.iff_ y).mpr ((E'.iff_ y).mp ⟨r, h2⟩)
        rw [h1, e1] at h3
        cases h3
    | some r =>
      obtain ⟨a, o⟩ := r
      rw [e1] at h1
      obtain ⟨b, o', h3, hle⟩ := bfs_le E E' a y o h1
      obtain ⟨c, o2, h4, hle2⟩ := bfs_le E' E b y o' h3
      rw [h1] at h4
      cases h4
      rw [h2] at h3
      rw [Option.some.inj h3]
      show some (V.int (a : Int)) = some (V.int (b : Int))
      rw [show a = b by omega]
  · rw [List.getElem?_eq_none (by rw [E.len]; omega), List.getElem?_eq_none (by rw [E'.len]; omega)]
theorem least_in {α : Type} [DecidableEq α] {ks : List α} {n : Nat} (h : ks.length = n) : Within n (leastOf ks) := ⟨by rw [length_leastOf]; exact h, fun x hx => by
  obtain ⟨i, hi⟩ := List.mem_iff_getElem?.mp hx
  obtain ⟨_, _, _, hle⟩ := leastOf_at hi
  have := (List.getElem?_eq_some_iff.mp hi).1
  rw [length_leastOf] at this
  omega⟩
/-! ### the things met -/
noncomputable def Fd (kvs : List (Key × V)) (y : Nat) : Prop := (dkV kvs (y : Int)).isSome = true
noncomputable def cntU (kvs : List (Key × V)) (n : Nat) : Nat := (List.range n).countP fun (y : Nat) => !(dkV kvs (y : Int)).isSome
theorem Fd.put {kvs : List (Key × V)} {y z : Nat} {v : V} : Fd (dkP kvs (z : Int) v) y ↔ y = z ∨ Fd kvs y := by
  unfold Fd
  rw [dkV_put]
  by_cases h : y = z
  · subst h; rw [if_pos rfl]; exact ⟨fun _ => .inl rfl, fun _ => rfl⟩
  · rw [if_neg (by omega)]; exact ⟨.inr, fun q => q.resolve_left h⟩
theorem cntU_put {kvs : List (Key × V)} {n z : Nat} {v : V} (hz : z < n) (h : ¬ Fd kvs z) : cntU kvs n = cntU (dkP kvs (z : Int) v) n + 1 := by
  unfold cntU
  have go : ∀ l : List Nat, l.Nodup → z ∈ l → l.countP (fun (y : Nat) => !(dkV kvs (y : Int)).isSome) = l.countP (fun (y : Nat) => !(dkV (dkP kvs (z : Int) v) (y : Int)).isSome) + 1 := by
    intro l
    induction l with
    | nil => intro _ h; cases h
    | cons a l ih =>
      intro nd hm
      obtain ⟨nd1, nd2⟩ := List.nodup_cons.mp nd
      rw [List.countP_cons, List.countP_cons]
      by_cases e : a = z
      · subst e
        have same : l.countP (fun (y : Nat) => !(dkV kvs (y : Int)).isSome) = l.countP (fun (y : Nat) => !(dkV (dkP kvs (a : Int) v) (y : Int)).isSome) := List.countP_congr fun y hy => by
          have : y ≠ a := fun z => nd1 (z ▸ hy)
          rw [dkV_put, if_neg (by omega)]
        have h1 : (!(dkV kvs (a : Int)).isSome) = true := by
          cases q : (dkV kvs (a : Int)).isSome with
          | true => exact absurd q h
          | false => rfl
        have h2 : (!(dkV (dkP kvs (a : Int) v) (a : Int)).isSome) = false := by rw [dkV_put, if_pos rfl]; rfl
        rw [same, h1, h2]
        rfl
      · rw [ih nd2 ((List.mem_cons.mp hm).resolve_left fun q => e q.symm), dkV_put, if_neg (show ¬ ((a : Nat) : Int) = ((z : Nat) : Int) by omega)]
        omega
  exact go _ List.nodup_range (List.mem_range.mpr hz)
noncomputable def Cl (ws : List (List Nat)) (kvs : List (Key × V)) (y : Nat) : Prop := ∀ v ∈ ws, ∀ z, Alk v y z → Fd kvs z
structure MetI (ws : List (List Nat)) (n d : Nat) (kvs : List (Key × V)) (Fr : List Nat) (P : Nat → Prop) : Prop where
  alln : DkI kvs
  reach : ∀ y, Fd kvs y → Reach ws d y ∧ y < n
  start : Fd kvs d
  cov : ∀ y, Fd kvs y → y ∈ Fr ∨ P y ∨ Cl ws kvs y
  fr : ∀ y ∈ Fr, Fd kvs y
  len : kvs.length + cntU kvs n ≤ n
theorem MetI.put {ws : List (List Nat)} {n d z : Nat} {kvs : List (Key × V)} {Fr : List Nat} {P : Nat → Prop} {v : V} (M : MetI ws n d kvs Fr P) (hr : Reach ws d z) (hz : z < n) (h : ¬ Fd kvs z) : MetI ws n d (dkP kvs (z : Int) v) (Fr ++ [z]) P where
  alln := M.alln.put _ _
  reach := fun y hy => by
    rcases Fd.put.mp hy with rfl | hy
    · exact ⟨hr, hz⟩
    · exact M.reach y hy
  start := Fd.put.mpr (.inr M.start)
  cov := fun y hy => by
    rcases Fd.put.mp hy with rfl | hy
    · exact .inl (by simp)
    · rcases M.cov y hy with h | h | h
      · exact .inl (List.mem_append_left _ h)
      · exact .inr (.inl h)
      · exact .inr (.inr fun v hv x hx => Fd.put.mpr (.inr (h v hv x hx)))
  fr := fun y hy => by
    rcases List.mem_append.mp hy with hy | hy
    · exact Fd.put.mpr (.inr (M.fr y hy))
    · rw [List.mem_singleton.mp hy]; exact Fd.put.mpr (.inl rfl)
  len := by
    have h1 := cntU_put (v := v) hz h
    have h2 := dkP_len kvs (z : Int) v
    have := M.len
    omega
noncomputable def sp__law_met (_ : PySem.W.Frag) : Sp := fun vs H Q _ => ∃ (n d : Nat) (vw : Addr) (ws : List (List Nat)), vs = [.int (n : Int), .ref vw, .int (d : Int)] ∧ ViewsAt H vw ws ∧ (∀ v ∈ ws, Within n v) ∧ d < n ∧ n ≤ 900 ∧ ws.length ≤ 100 ∧
  ∀ (p : Addr) (kvs : List (Key × V)) (H' : Hp), H p = none → Same H H' → H' p = some (.dK kvs) → (∀ y, Fd kvs y ↔ Reach ws d y) → Q (.ref p) H'
noncomputable def t__law_met (K : PySem.W.Frag) : TS := (tSeq (tAsg (mDk1 2 (.bl true)) (gName 3))
  (tSeq (tAsg (mLst (tCons (tVar 2) tNil)) (gName 4))
  (tSeq (tWhile (tTest (tOp (rEqS (SqL K) true) (tVar 4) (mLst tNil))) (tSeq (tAsg (tBM0 K "list" rPop (tVar 4)) (gName 5))
  (tFor (iList K (tVar 1)) (gName 6) (tFor (iRng1 (tCons (tVar 0) tNil)) (gName 7) (tIfS (tAnd (tTest (tOp rEq (tOp (rIxL K) (tVar 6) (tVar 7)) (tOp (rIxL K) (tVar 6) (tVar 5)))) (tTest (tOp (rDkIn true) (tVar 7) (tVar 3)))) (tSeq (tAsg (tC (.bl true)) (gSub (tVar 3) (tVar 7) rDkSet))
  (tDrop (tBM K "list" rAppend (tVar 4) (tCons (tVar 7) tNil)))) tNext)))))
  (tRet (tVar 3)))))
theorem len__law_met {K : PySem.W.Frag} {vs : List V} {H : Hp} {Q : VK} {E : XK} (h : sp__law_met K vs H Q E) : vs.length = 3 := by
  obtain ⟨n, d, vw, ws, rfl, ⟨rs, ev, pv⟩, hw, hd, hn, hwl, q⟩ := h
  rfl
theorem rd__law_met {K : PySem.W.Frag} {vs : List V} {H : Hp} {Q : VK} {E : XK} (h : sp__law_met K vs H Q E) : t__law_met K { nx := fun _ H' => Q .non H', rt := Q } (start ["_law_many", "_law_views", "_law_deal", "_law_found", "_law_front", "_law_place", "_law_view_here", "_law_other"] vs) H := by
  obtain ⟨n, d, vw, ws, rfl, ⟨rs, ev, pv⟩, hw, hd, hn, hwl, q⟩ := h
  show t__law_met K _ [some _, some _, some _, none, none, none, none, none] _
  unfold t__law_met
  have hrs := Paired.length pv
  refine r_seq ?_
  refine r_asg ?_
  refine ⟨(d : Int), rfl, fun p H1 hp s1 e1 => ?_⟩
  walk_at "rd"
  refine ⟨by simp [sizeLine_eq], fun f H2 hf s2 e2 => ?_⟩
  have hf0 : H f = none := s1.free hf
  have npf : p ≠ f := ne_of_none e1 hf
  have s02 := s1.trans s2
  have hk0 : ∀ y, Fd [((Sum.inl (d : Int) : Key), V.bl true)] y ↔ y = d := fun y => by
    unfold Fd
    rw [dkV_cons]
    by_cases h : y = d
    · subst h; rw [if_pos rfl]; exact ⟨fun _ => rfl, fun _ => rfl⟩
    · rw [if_neg (fun e => h (by injection e with e; omega))]
      exact ⟨fun z => (by cases z), fun z => absurd z h⟩
  have M0 : MetI ws n d [((Sum.inl (d : Int) : Key), V.bl true)] [d] (fun _ => False) := by
    refine ⟨fun q hq => ⟨d, by rw [List.mem_singleton.mp hq]⟩, fun y hy => by rw [(hk0 y).mp hy]; exact ⟨.here, hd⟩, (hk0 d).mpr rfl, fun y hy => .inl (by rw [(hk0 y).mp hy]; simp), fun y hy => (hk0 y).mpr (List.mem_singleton.mp hy), ?_⟩
    have := cntU_put (kvs := []) (n := n) (z := d) (v := V.bl true) hd (fun z => by cases z)
    have h2 : cntU ([] : List (Key × V)) n ≤ n := by unfold cntU; exact Nat.le_trans List.countP_le_length (by simp)
    show 1 + cntU (dkP [] (d : Int) (V.bl true)) n ≤ n
    omega
  refine r_seq ?_
  refine wh_in (fun u σ H3 => ∃ (u1 u2 u3 : Option V) (kvs : List (Key × V)) (Fr : List Nat), σ = [some (.int n), some (.ref vw), some (.int d), some (.ref p), some (.ref f), u1, u2, u3] ∧ Same H H3 ∧ H3 p = some (.dK kvs) ∧ H3 f = some (.lst (natV Fr)) ∧ MetI ws n d kvs Fr (fun _ => False) ∧ u = 2 * cntU kvs n + Fr.length ∧ Fr.length + cntU kvs n ≤ n) _ ⟨_, _, _, _, [d], rfl, s02, s2 _ _ e1, e2, M0, rfl, M0.len⟩ ?_
  rintro u σ H3 ⟨u1, u2, u3, kvs, Fr, rfl, s3, ep3, ef3, M3, rfl, l3⟩
  walk_at "rd"
  refine ⟨by simp [sizeLine_eq], fun em H4 hem s4 e4 => ?_⟩
  refine r_neL (ns := Fr.map fun (s : Nat) => ((s : Nat) : Int)) (ms := []) (by rw [← natV_ints]; exact SqL.of (s4 _ _ ef3)) (SqL.of e4) ?_
  walk_at "rd"
  refine ite_ndec (fun h => ?_) (fun h => ?_)
  · refine wh_go ?_
    obtain ⟨I, x, rfl⟩ : ∃ I x, Fr = I ++ [x] := by
      have hne : Fr ≠ [] := fun z => h (by rw [z]; rfl)
      exact ⟨Fr.dropLast, Fr.getLast hne, (List.dropLast_concat_getLast hne).symm⟩
    have ef4 : H4 f = some (.lst (natV I ++ [.int (x : Int)])) := by rw [natV_snoc]; exact s4 _ _ ef3
    have ep4 := s4 _ _ ep3
    have s04 := s3.trans s4
    have hxF := M3.fr x (by simp)
    obtain ⟨hxr, hxn⟩ := M3.reach x hxF
    walk_at "rd"
    refine ⟨r_tyL ef4, ?_⟩
    refine r_pop ef4 fun H5 o5 e5 => ?_
    have s05 : Same H H5 := s04.off hf0 o5
    have ep5 : H5 p = some (.dK kvs) := by rw [o5 p npf]; exact ep4
    have M5 : MetI ws n d kvs I (fun y => y = x) := ⟨M3.alln, M3.reach, M3.start, fun y hy => by
      rcases M3.cov y hy with h | h | h
      · rcases List.mem_append.mp h with h | h
        · exact .inl h
        · exact .inr (.inl (List.mem_singleton.mp h))
      · exact h.elim
      · exact .inr (.inr h), fun y hy => M3.fr y (List.mem_append_left _ hy), M3.len⟩
    have lI : (I ++ [x]).length = I.length + 1 := by rw [List.length_append]; rfl
    rw [lI] at l3
    walk_at "rd"
    refine lp_list (rs.map V.ref) (SqL.of (s05 _ _ ev)) (fun j σ H6 => ∃ (u2 u3 : Option V) (kvs' : List (Key × V)) (Fr : List Nat), σ = [some (.int n), some (.ref vw), some (.int d), some (.ref p), some (.ref f), some (.int (x : Int)), u2, u3] ∧ Same H H6 ∧ H6 p = some (.dK kvs') ∧ H6 f = some (.lst (natV Fr)) ∧ MetI ws n d kvs' Fr (fun y => y = x) ∧ 2 * cntU kvs' n + Fr.length ≤ 2 * cntU kvs n + I.length ∧ Fr.length + cntU kvs' n ≤ I.length + cntU kvs n ∧ (∀ y, Fd kvs y → Fd kvs' y) ∧ ∀ v ∈ ws.take j, ∀ z, Alk v x z → Fd kvs' z) ⟨_, _, kvs, I, rfl, s05, ep5, e5, M5, Nat.le_refl _, Nat.le_refl _, fun _ h => h, fun v h => by simp at h⟩ ?_ ?_ ?_
    · rintro j σ H6 hj ⟨u2, u3, kvs', Fr, rfl, s6, _⟩
      exact SqL.of (s6 _ _ ev)
    · rintro j y σ H6 hy ⟨u2, u3, kvs', Fr, rfl, s6, ep6, ef6, M6, c6, d6, m6, a6⟩
      obtain ⟨rv, hrv, rfl⟩ := refs_at hy
      obtain ⟨v, hv, erv⟩ := pr_at pv hrv
      have hvw := hw v (List.mem_of_getElem? hv)
      have hvx : v[x]? = some (v[x]'(by rw [hvw.1]; exact hxn)) := List.getElem?_eq_getElem _
      walk_at "rd"
      refine lp_range n (by omega) (by omega) (by omega) (fun o σ H7 => ∃ (u3 : Option V) (kvs' : List (Key × V)) (Fr : List Nat), σ = [some (.int n), some (.ref vw), some (.int d), some (.ref p), some (.ref f), some (.int (x : Int)), some (.ref rv), u3] ∧ Same H H7 ∧ H7 p = some (.dK kvs') ∧ H7 f = some (.lst (natV Fr)) ∧ MetI ws n d kvs' Fr (fun y => y = x) ∧ 2 * cntU kvs' n + Fr.length ≤ 2 * cntU kvs n + I.length ∧ Fr.length + cntU kvs' n ≤ I.length + cntU kvs n ∧ (∀ y, Fd kvs y → Fd kvs' y) ∧ (∀ v ∈ ws.take j, ∀ z, Alk v x z → Fd kvs' z) ∧ ∀ z, z < o → Alk v x z → Fd kvs' z) ⟨_, kvs', Fr, rfl, s6, ep6, ef6, M6, c6, d6, m6, a6, fun z hz => by omega⟩ ?_ ?_
      · rintro o σ H7 ho ⟨u3, kvs', Fr, rfl, s7, ep7, ef7, M7, c7, d7, m7, a7, b7⟩
        have hvo : v[o]? = some (v[o]'(by rw [hvw.1]; exact ho)) := List.getElem?_eq_getElem _
        have ext : (Alk v x o → Fd kvs' o) → ∀ z, z < o + 1 → Alk v x z → Fd kvs' z := fun h z hz => by
          by_cases e : z = o
          · subst e; exact h
          · exact b7 z (by omega)
        walk_at "rd"
        refine r_ixL (SqL.of (s7 _ _ erv)) (natV_get hvo) ?_
        walk_at "rd"
        refine r_ixL (SqL.of (s7 _ _ erv)) (natV_get hvx) ?_
        walk_at "rd"
        refine ite_dec (fun h => ?_) (fun h => ?_)
        · have hal : Alk v x o := ⟨_, hvx, by rw [hvo]; congr 1; omega⟩
          walk_at "rd"
          refine r_dknotin (.inl ep7) ?_
          walk_at "rd"
          refine ite_nb (fun h2 => ?_) (fun h2 => ?_)
          · have hnF : ¬ Fd kvs' o := fun z => by rw [show (dkV kvs' (o : Int)).isSome = true from z] at h2; cases h2
            have hro : Reach ws d o := .step (List.mem_of_getElem? hv) hxr hal
            have lk := M7.len
            have cu := cntU_put (v := V.bl true) ho hnF
            walk_at "rd"
            refine r_dkset ep7 (by rw [sizeLine_eq]; omega) fun H8 o8 e8 => ?_
            have s08 : Same H H8 := s7.off hp o8
            have ef8 : H8 f = some (.lst (natV Fr)) := by rw [o8 f npf.symm]; exact ef7
            walk_at "rd"
            refine ⟨r_tyL ef8, ?_⟩
            walk_at "rd"
            refine r_append ef8 (by rw [natV_len, sizeLine_eq]; omega) fun H9 o9 e9 => ?_
            walk_at "rd"
            refine ⟨_, dkP kvs' (o : Int) (.bl true), Fr ++ [o], rfl, s08.off hf0 o9, by rw [o9 p npf]; exact e8, by rw [e9, natV_snoc], M7.put hro ho hnF, by rw [List.length_append, List.length_singleton]; omega, by rw [List.length_append, List.length_singleton]; omega, fun y hy => Fd.put.mpr (.inr (m7 y hy)), fun v' hv' z hz => Fd.put.mpr (.inr (a7 v' hv' z hz)), fun z hz hza => ?_⟩
            by_cases e : z = o
            · exact Fd.put.mpr (.inl e)
            · exact Fd.put.mpr (.inr (b7 z (by omega) hza))
          · walk_at "rd"
            exact ⟨_, kvs', Fr, rfl, s7, ep7, ef7, M7, c7, d7, m7, a7, ext fun _ => h2⟩
        · walk_at "rd"
          refine ⟨_, kvs', Fr, rfl, s7, ep7, ef7, M7, c7, d7, m7, a7, ext fun hal => absurd ?_ h⟩
          obtain ⟨c, hc1, hc2⟩ := hal
          rw [hvx] at hc1
          rw [hvo] at hc2
          have := (Option.some.inj hc2).trans (Option.some.inj hc1).symm
          omega
      · rintro σ H7 ⟨u3, kvs', Fr, rfl, s7, ep7, ef7, M7, c7, d7, m7, a7, b7⟩
        refine ⟨_, _, kvs', Fr, rfl, s7, ep7, ef7, M7, c7, d7, m7, fun v' hv' z hz => ?_⟩
        rw [rows_snoc hv] at hv'
        rcases List.mem_append.mp hv' with hv' | hv'
        · exact a7 v' hv' z hz
        · rw [List.mem_singleton.mp hv'] at hz
          obtain ⟨c, _, hc⟩ := id hz
          exact b7 z (by rw [← hvw.1]; exact (List.getElem?_eq_some_iff.mp hc).1) hz
    · rintro σ H6 ⟨u2, u3, kvs', Fr, rfl, s6, ep6, ef6, M6, c6, d6, m6, a6⟩
      rw [List.length_map, hrs, List.take_length] at a6
      have hle : cntU kvs n ≤ n := by unfold cntU; exact Nat.le_trans List.countP_le_length (by simp)
      refine ⟨_, ?_, _, _, _, kvs', Fr, rfl, s6, ep6, ef6, ⟨M6.alln, M6.reach, M6.start, fun y hy => ?_, M6.fr, M6.len⟩, rfl, ?_⟩
      · rw [lI]; omega
      · rcases M6.cov y hy with h | h | h
        · exact .inl h
        · exact .inr (.inr (by rw [h]; exact a6))
        · exact .inr (.inr h)
      · omega
  · have hFr : Fr = [] := List.map_eq_nil_iff.mp h
    walk_at "rd"
    refine q p kvs H4 hp (s3.trans s4) (s4 _ _ ep3) fun y => ⟨fun hy => (M3.reach y hy).1, fun hy => ?_⟩
    induction hy with
    | here => exact M3.start
    | step hv _ ha ih =>
      rcases M3.cov _ ih with h | h | h
      · rw [hFr] at h; cases h
      · exact h.elim
      · exact h _ hv _ ha
/-! ### one view; one less -/
theorem dist_get {R : List (Option Way)} {y : Nat} {r : Option Way} (h : R[y]? = some r) : atI (R.map distV) (y : Int) = some (distV r) := atI_nat (by rw [List.getElem?_map, h]; rfl)
theorem isN_dist (r : Option Way) : isN (distV r) = r.isNone := by cases r <;> rfl
noncomputable def sp__law_one_view (_ : PySem.W.Frag) : Sp := fun vs H Q _ => ∃ (rv p : Addr) (v : List Nat) (R : List (Option Way)), vs = [.ref rv, .ref p] ∧ H rv = some (.lst (natV v)) ∧ H p = some (.lst (R.map distV)) ∧ R.length = v.length ∧ v.length ≤ 1000 ∧ (∀ (x y a b : Nat) (o o' : Option (Nat × Nat)), Alk v x y → R[x]? = some (some (a, o)) → R[y]? = some (some (b, o')) → b ≤ a + 1) ∧
  ∀ H', Same H H' → Q (.bl true) H'
noncomputable def LowHigh (v : List Nat) (R : List (Option Way)) (kvs : List (Key × V)) : Prop := ∀ (c : Nat) (u : V), dkV kvs (c : Int) = some u → ∃ (x a : Nat) (o : Option (Nat × Nat)), u = .int (a : Int) ∧ v[x]? = some c ∧ R[x]? = some (some (a, o))
theorem LowHigh.put {v : List Nat} {R : List (Option Way)} {kvs : List (Key × V)} (h : LowHigh v R kvs) {x c a : Nat} {o : Option (Nat × Nat)} (hx : v[x]? = some c) (hr : R[x]? = some (some (a, o))) : LowHigh v R (dkP kvs (c : Int) (.int (a : Int))) := fun c' u hu => by
  rw [dkV_put] at hu
  by_cases e : c' = c
  · subst e
    rw [if_pos rfl] at hu
    exact ⟨x, a, o, (Option.some.inj hu).symm, hx, hr⟩
  · rw [if_neg (by omega)] at hu
    exact h c' u hu
noncomputable def DkN (kvs : List (Key × V)) : Prop := ∀ p ∈ kvs, ∃ i : Nat, p.1 = Sum.inl (i : Int)
theorem DkN.put {kvs : List (Key × V)} (h : DkN kvs) (i : Nat) (v : V) : DkN (dkP kvs (i : Int) v) := by
  unfold dkP
  split
  · intro p hp
    obtain ⟨q, hq, rfl⟩ := List.mem_map.mp hp
    by_cases e : q.1 = Sum.inl (i : Int)
    · rw [if_pos e]; exact ⟨i, e⟩
    · rw [if_neg e]; exact h q hq
  · intro p hp
    rcases List.mem_append.mp hp with hp | hp
    · exact h p hp
    · rw [List.mem_singleton.mp hp]; exact ⟨i, rfl⟩
noncomputable def t__law_one_view (K : PySem.W.Frag) : TS := (tSeq (tAsg mDnew (gName 2))
  (tSeq (tAsg mDnew (gName 3))
  (tSeq (tFor (iEnum srcL K (tCons (tVar 0) tNil)) (gTup K 2 (gCons (gName 4) (gCons (gName 5) gNil))) (tIfS (tTest (tOp rIsnNone (tOp (rIxL K) (tVar 1) (tVar 4)) (tC .non))) (tSeq (tAsg (tCB cMin2 (tCons (tOp (rIxL K) (tVar 1) (tVar 4)) (tCons (mDkGet2 (tVar 2) (tVar 5) (tOp (rIxL K) (tVar 1) (tVar 4))) tNil))) (gSub (tVar 2) (tVar 5) rDkSet))
  (tAsg (tCB cMax2 (tCons (tOp (rIxL K) (tVar 1) (tVar 4)) (tCons (mDkGet2 (tVar 3) (tVar 5) (tOp (rIxL K) (tVar 1) (tVar 4))) tNil))) (gSub (tVar 3) (tVar 5) rDkSet))) tNext))
  (tRet (tOp (rEqS (SqL K) false) (tComp (iDk (tVar 2)) (fun _ _ _ _ => (gName 0)) (fun _ _ _ _ => (tTest (tOp (rI0 fun i j => .bl (decide (j < i))) (tOp rDkGet (tVar 1) (tVar 0)) (tOp (rI0 fun i j => .int (i + j)) (tOp rDkGet (tVar 2) (tVar 0)) (tC (.int 1)))))) (fun _ _ _ _ => (tVar 0)) [none, some 3, some 2]) (mLst tNil))))))
theorem len__law_one_view {K : PySem.W.Frag} {vs : List V} {H : Hp} {Q : VK} {E : XK} (h : sp__law_one_view K vs H Q E) : vs.length = 2 := by
  obtain ⟨rv, p, v, R, rfl, erv, ep, hl, hv, near, q⟩ := h
  rfl
theorem rd__law_one_view {K : PySem.W.Frag} {vs : List V} {H : Hp} {Q : VK} {E : XK} (h : sp__law_one_view K vs H Q E) : t__law_one_view K { nx := fun _ H' => Q .non H', rt := Q } (start ["_law_view_here", "_law_found", "_law_low", "_law_high", "_law_place", "_law_least_here"] vs) H := by
  obtain ⟨rv, p, v, R, rfl, erv, ep, hl, hv, near, q⟩ := h
  show t__law_one_view K _ [some _, some _, none, none, none, none] _
  unfold t__law_one_view
  walk_at "rd"
  refine m_dnew fun lo H1 hlo s1 e1 => ?_
  walk_at "rd"
  refine m_dnew fun hi H2 hhi s2 e2 => ?_
  have nlh : lo ≠ hi := ne_of_none e1 hhi
  have hhi0 : H hi = none := s1.free hhi
  have s02 := s1.trans s2
  walk_at "rd"
  refine lp_enum (S := srcL) (natV v) (SqL.of (s02 _ _ erv)) (fun i σ H3 => ∃ (u1 u2 : Option V) (lk hk : List (Key × V)), σ = [some (.ref rv), some (.ref p), some (.ref lo), some (.ref hi), u1, u2] ∧ Same H H3 ∧ H3 lo = some (.dK lk) ∧ H3 hi = some (.dK hk) ∧ LowHigh v R lk ∧ LowHigh v R hk ∧ DkN lk ∧ lk.length ≤ i ∧ hk.length ≤ i ∧ ∀ c : Nat, (dkV lk (c : Int)).isSome = true → (dkV hk (c : Int)).isSome = true) ⟨_, _, [], [], rfl, s02, s2 _ _ e1, e2, fun c u h => by (cases h), fun c u h => by (cases h), fun p h => by (cases h), Nat.le_refl _, Nat.le_refl _, fun c h => h⟩ ?_ ?_ ?_
  · rintro i σ H3 hi' ⟨u1, u2, lk, hk, rfl, s3, _⟩
    exact SqL.of (s3 _ _ erv)
  · rintro i y T σ H3 H4 hy ⟨u1, u2, lk, hk, rfl, s3, el, eh, gl, gh, nl, ll, lh, dom⟩ hT s4 e4
    obtain ⟨c, hc, rfl⟩ := nat_of' hy
    have hin : i < v.length := (List.getElem?_eq_some_iff.mp hc).1
    have hr : R[i]? = some (R[i]'(by omega)) := List.getElem?_eq_getElem _
    have s34 := s3.trans s4
    have ep4 := s34 _ _ ep
    walk_at "rd"
    refine g_pair (SqT.of e4) ?_
    walk_at "rd"
    refine r_ixL (SqL.of ep4) (dist_get hr) ?_
    walk_at "rd"
    refine r_isnNone ?_
    rw [isN_dist]
    walk_at "rd"
    cases hR : R[i]'(by omega) with
    | none =>
      refine iteF ?_
      walk_at "rd"
      exact ⟨_, _, lk, hk, rfl, s34, s4 _ _ el, s4 _ _ eh, gl, gh, nl, by omega, by omega, dom⟩
    | some r =>
      obtain ⟨a, o⟩ := r
      rw [hR] at hr
      have ga : atI (R.map distV) (i : Int) = some (.int (a : Int)) := dist_get hr
      refine iteT ?_
      walk_at "rd"
      refine r_ixL (SqL.of ep4) ga ?_
      walk_at "rd"
      refine r_dkget2 ?_
      walk_at "rd"
      refine ⟨⟨lo, lk, rfl, s4 _ _ el⟩, ?_⟩
      walk_at "rd"
      refine r_ixL (SqL.of ep4) ga ?_
      refine ⟨lo, lk, (c : Int), rfl, rfl, s4 _ _ el, ?_⟩
      -- the lesser one
      obtain ⟨m, x, o2, hm, hx, hrx⟩ : ∃ (m x : Nat) (o2 : Option (Nat × Nat)), (∃ b : Nat, (dkV lk (c : Int)).getD (.int (a : Int)) = .int (b : Int) ∧ (if (b : Int) < (a : Int) then (b : Int) else (a : Int)) = (m : Int)) ∧ v[x]? = some c ∧ R[x]? = some (some (m, o2)) := by
        cases hd : dkV lk (c : Int) with
        | none => exact ⟨a, i, o, ⟨a, rfl, by simp⟩, hc, hr⟩
        | some u =>
          obtain ⟨x, b, o', rfl, hx, hb⟩ := gl c u hd
          by_cases h : (b : Int) < (a : Int)
          · exact ⟨b, x, o', ⟨b, rfl, if_pos h⟩, hx, hb⟩
          · exact ⟨a, i, o, ⟨b, rfl, if_neg h⟩, hc, hr⟩
      obtain ⟨b, hb1, hb2⟩ := hm
      rw [hb1]
      walk_at "rd"
      rw [hb2]
      refine r_dkset (s4 _ _ el) (by rw [sizeLine_eq]; omega) fun H5 o5 e5 => ?_
      have s05 : Same H H5 := s34.off hlo o5
      have eh5 : H5 hi = some (.dK hk) := by rw [o5 hi nlh.symm]; exact s4 _ _ eh
      walk_at "rd"
      refine r_ixL (SqL.of (s05 _ _ ep)) ga ?_
      walk_at "rd"
      refine r_dkget2 ?_
      walk_at "rd"
      refine ⟨⟨hi, hk, rfl, eh5⟩, ?_⟩
      walk_at "rd"
      refine r_ixL (SqL.of (s05 _ _ ep)) ga ?_
      refine ⟨hi, hk, (c : Int), rfl, rfl, eh5, ?_⟩
      obtain ⟨m', x', o3, hm', hx', hrx'⟩ : ∃ (m x : Nat) (o2 : Option (Nat × Nat)), (∃ b : Nat, (dkV hk (c : Int)).getD (.int (a : Int)) = .int (b : Int) ∧ (if (b : Int) > (a : Int) then (b : Int) else (a : Int)) = (m : Int)) ∧ v[x]? = some c ∧ R[x]? = some (some (m, o2)) := by
        cases hd : dkV hk (c : Int) with
        | none => exact ⟨a, i, o, ⟨a, rfl, by simp⟩, hc, hr⟩
        | some u =>
          obtain ⟨x, b, o', rfl, hx, hb⟩ := gh c u hd
          by_cases h : (b : Int) > (a : Int)
          · exact ⟨b, x, o', ⟨b, rfl, if_pos h⟩, hx, hb⟩
          · exact ⟨a, i, o, ⟨b, rfl, if_neg h⟩, hc, hr⟩
      obtain ⟨b', hb1', hb2'⟩ := hm'
      rw [hb1']
      walk_at "rd"
      rw [hb2']
      refine r_dkset eh5 (by rw [sizeLine_eq]; omega) fun H6 o6 e6 => ?_
      have l1 := dkP_len lk (c : Int) (.int (m : Int))
      have l2 := dkP_len hk (c : Int) (.int (m' : Int))
      refine ⟨_, _, _, _, rfl, s05.off hhi0 o6, by rw [o6 lo nlh]; exact e5, e6, gl.put hx hrx, gh.put hx' hrx', nl.put _ _, by omega, by omega, fun c' h => ?_⟩
      rw [dkV_put] at h ⊢
      by_cases e : (c' : Int) = (c : Int)
      · rw [if_pos e]; rfl
      · rw [if_neg e] at h ⊢; exact dom c' h
  · rintro σ H3 ⟨u1, u2, lk, hk, rfl, s3, el, eh, gl, gh, nl, ll, lh, dom⟩
    rw [natV_len] at ll lh
    have nI : DkI lk := fun q hq => by obtain ⟨i, h⟩ := nl q hq; exact ⟨i, h⟩
    walk_at "rd"
    refine r_iDk ?_
    walk_at "rd"
    refine lc_dk el nI (by omega) (fun i acc _ => acc = []) (fun _ _ _ => rfl) ?_ ?_
    · rintro ob w hw C s' H' fp i k u acc H4 hk' ⟨s4, e4, l4, rfl⟩ dl
      obtain ⟨k', z, ek, hz⟩ := dk_at nI hk'
      obtain ⟨c, hc⟩ := nl _ (List.mem_of_getElem? hk')
      cases ek
      simp only at hc
      cases hc
      obtain ⟨x, a, o, rfl, hx, hra⟩ := gl c z hz
      obtain ⟨z', hz'⟩ := Option.isSome_iff_exists.mp (dom c (by rw [hz]; rfl))
      obtain ⟨x', a', o', rfl, hx', hra'⟩ := gh c z' hz'
      have eh4 : H4 hi = some (.dK hk) := s4 _ _ (by rw [upd_ne nlh.symm]; exact eh)
      have hn := near x x' a a' o o' ⟨c, hx, hx'⟩ hra hra'
      walk_at "rd"
      refine r_dkget (.inl eh4) hz' ?_
      walk_at "rd"
      refine r_dkget dl hz ?_
      walk_at "rd"
      refine ite_no (by omega) ?_
      exact CInv.skip s4 e4 l4 rfl
    · rintro ob w acc H4 hw s4 e4 rfl
      walk_at "rd"
      refine ⟨by simp [sizeLine_eq], fun em H5 hem s5 e5 => ?_⟩
      refine r_eqL (ns := []) (ms := []) (SqL.of (s5 _ _ e4)) (SqL.of e5) ?_
      refine q _ fun x u hx => ?_
      have nx : x ≠ lo := ne_of_none hx hlo
      exact s5 _ _ (s4 _ _ (by rw [upd_ne nx]; exact s3 _ _ hx))
noncomputable def sp__law_has_one_less (_ : PySem.W.Frag) : Sp := fun vs H Q _ => ∃ (vw p : Addr) (ws : List (List Nat)) (R : List (Option Way)) (y n b k x : Nat) (o : Option (Nat × Nat)), vs = [.ref vw, .ref p, .int (y : Int)] ∧ ViewsAt H vw ws ∧ (∀ v ∈ ws, Within n v) ∧ H p = some (.lst (R.map distV)) ∧ R.length = n ∧ n ≤ 1000 ∧ R[y]? = some (some (b + 1, some (k, x))) ∧ R[x]? = some (some (b, o)) ∧ (∃ v, ws[k]? = some v ∧ Alk v x y) ∧ ∀ H', Same H H' → Q (.bl true) H'
noncomputable def t__law_has_one_less (K : PySem.W.Frag) : TS := (tSeq (tFor (iList K (tVar 0)) (gName 3) (tFor (iRng1 (tCons (tCB (cLen K) (tCons (tVar 1) tNil)) tNil)) (gName 4) (tIfS (tAnd (tTest (tOp rEq (tOp (rIxL K) (tVar 3) (tVar 4)) (tOp (rIxL K) (tVar 3) (tVar 2)))) (tTest (tOp rEq (tOp (rIxL K) (tVar 1) (tVar 4)) (tOp (rI0 fun i j => .int (i - j)) (tOp (rIxL K) (tVar 1) (tVar 2)) (tC (.int 1)))))) (tRet (tC (.bl true))) tNext)))
  (tRet (tC (.bl false))))
theorem len__law_has_one_less {K : PySem.W.Frag} {vs : List V} {H : Hp} {Q : VK} {E : XK} (h : sp__law_has_one_less K vs H Q E) : vs.length = 3 := by
  obtain ⟨vw, p, ws, R, y, n, b, k, x, o, rfl, ⟨rs, ev, pv⟩, hw, ep, hl, hn, hy, hx, ⟨vk, hvk, hal⟩, q⟩ := h
  rfl
theorem rd__law_has_one_less {K : PySem.W.Frag} {vs : List V} {H : Hp} {Q : VK} {E : XK} (h : sp__law_has_one_less K vs H Q E) : t__law_has_one_less K { nx := fun _ H' => Q .non H', rt := Q } (start ["_law_views", "_law_found", "_law_place", "_law_view_here", "_law_other"] vs) H := by
  obtain ⟨vw, p, ws, R, y, n, b, k, x, o, rfl, ⟨rs, ev, pv⟩, hw, ep, hl, hn, hy, hx, ⟨vk, hvk, hal⟩, q⟩ := h
  show t__law_has_one_less K _ [some _, some _, some _, none, none] _
  unfold t__law_has_one_less
  have hrs := Paired.length pv
  have hyn : y < n := by rw [← hl]; exact (List.getElem?_eq_some_iff.mp hy).1
  have hxn : x < n := by rw [← hl]; exact (List.getElem?_eq_some_iff.mp hx).1
  walk_at "rd"
  refine lp_list (rs.map V.ref) (SqL.of ev) (fun j σ H3 => ∃ (u1 u2 : Option V), σ = [some (.ref vw), some (.ref p), some (.int (y : Int)), u1, u2] ∧ H3 = H ∧ j ≤ k) ⟨_, _, rfl, rfl, Nat.zero_le _⟩ ?_ ?_ ?_
  · rintro j σ H3 hj ⟨u1, u2, rfl, rfl, _⟩
    exact SqL.of ev
  · rintro j z σ H3 hz ⟨u1, u2, rfl, rfl, hjk⟩
    obtain ⟨rv, hrv, rfl⟩ := refs_at hz
    obtain ⟨v, hv, erv⟩ := pr_at pv hrv
    have hvw := hw v (List.mem_of_getElem? hv)
    have hvy : v[y]? = some (v[y]'(by rw [hvw.1]; exact hyn)) := List.getElem?_eq_getElem _
    walk_at "rd"
    rw [List.length_map, hl]
    refine lp_range n (by omega) (by omega) (by omega) (fun i σ H4 => ∃ (u2 : Option V), σ = [some (.ref vw), some (.ref p), some (.int (y : Int)), some (.ref rv), u2] ∧ H4 = H3 ∧ (j = k → i ≤ x)) ⟨_, rfl, rfl, fun _ => Nat.zero_le _⟩ ?_ ?_
    · rintro i σ H4 hi ⟨u2, rfl, rfl, hix⟩
      have hvi : v[i]? = some (v[i]'(by rw [hvw.1]; exact hi)) := List.getElem?_eq_getElem _
      have hri : R[i]? = some (R[i]'(by omega)) := List.getElem?_eq_getElem _
      have next : (j = k → i ≠ x) → ∃ (u2 : Option V), [some (V.ref vw), some (.ref p), some (.int (y : Int)), some (.ref rv), some (.int (i : Int))] = [some (.ref vw), some (.ref p), some (.int (y : Int)), some (.ref rv), u2] ∧ H4 = H4 ∧ (j = k → i + 1 ≤ x) := fun h => ⟨_, rfl, rfl, fun e => by have := hix e; have := h e; omega⟩
      walk_at "rd"
      refine r_ixL (SqL.of erv) (natV_get hvi) ?_
      walk_at "rd"
      refine r_ixL (SqL.of erv) (natV_get hvy) ?_
      walk_at "rd"
      refine ite_dec (fun h => ?_) (fun h => ?_)
      · walk_at "rd"
        refine r_ixL (SqL.of ep) (dist_get hri) ?_
        walk_at "rd"
        refine r_ixL (SqL.of ep) (dist_get hy) ?_
        refine r_c (r_I0 (i := ((b + 1 : Nat) : Int)) ?_)
        refine ⟨by cases R[i]'(by omega) <;> rfl, ?_⟩
        walk_at "rd"
        refine ite_dec (fun h2 => ?_) (fun h2 => ?_)
        · walk_at "rd"
          exact q _ (Same.refl _)
        · walk_at "rd"
          refine next fun _ e => h2 ?_
          subst e
          rw [hx] at hri
          rw [← Option.some.inj hri]
          show V.int (b : Int) = V.int (((b + 1 : Nat) : Int) - 1)
          congr 1
          omega
      · walk_at "rd"
        refine next fun e1 e2 => h ?_
        subst e1
        subst e2
        rw [hvk] at hv
        cases hv
        obtain ⟨c, hc1, hc2⟩ := hal
        rw [hvi] at hc1
        rw [hvy] at hc2
        have := (Option.some.inj hc1).trans (Option.some.inj hc2).symm
        omega
    · rintro σ H4 ⟨u2, rfl, rfl, hix⟩
      refine ⟨_, _, rfl, rfl, ?_⟩
      by_cases e : j = k
      · have := hix e; omega
      · omega
  · rintro σ H3 ⟨u1, u2, rfl, rfl, hjk⟩
    rw [List.length_map, hrs] at hjk
    have := (List.getElem?_eq_some_iff.mp hvk).1
    omega
noncomputable def sp__law_right (_ : PySem.W.Frag) : Sp := fun vs H Q _ => ∃ (p vw : Addr) (ws : List (List Nat)) (R : List (Option Way)) (n d : Nat), vs = [.ref p, .int (n : Int), .ref vw, .int (d : Int)] ∧ ViewsAt H vw ws ∧ (∀ v ∈ ws, Within n v) ∧ d < n ∧ n ≤ 900 ∧ ws.length ≤ 100 ∧ H p = some (.lst (R.map distV)) ∧ BfsEnd ws n d R ∧ ∀ H', Same H H' → Q (.bl true) H'
noncomputable def t__law_right (K : PySem.W.Frag) : TS := (tSeq (tIfS (tOr (tNot (tB (tCB (rIsi K) (tCons (tVar 0) (tCons (tC (.ty "list")) tNil))))) (tOr (tTest (tOp rNe (tCB (cLen K) (tCons (tVar 0) tNil)) (tVar 1))) (tTest (tOp rNe (tOp (rIxL K) (tVar 0) (tVar 3)) (tC (.int 0)))))) (tRet (tC (.bl false))) tNext)
  (tSeq (tAsg (tCall (sp__law_met K) [] E0 (tCons (tVar 1) (tCons (tVar 2) (tCons (tVar 3) tNil)))) (gName 4))
  (tSeq (tFor (iRng1 (tCons (tVar 1) tNil)) (gName 5) (tSeq (tIfS (tTest (tOp rEq (tOp rIsNone (tOp (rIxL K) (tVar 0) (tVar 5)) (tC .non)) (tOp (rDkIn false) (tVar 5) (tVar 4)))) (tRet (tC (.bl false))) tNext)
  (tIfS (tTest (tOp rIsnNone (tOp (rIxL K) (tVar 0) (tVar 5)) (tC .non))) (tSeq (tIfS (tOr (tNot (tB (tCall (sp__law_wholes K) [] E0 (tCons (mLst (tCons (tOp (rIxL K) (tVar 0) (tVar 5)) tNil)) tNil)))) (tTest (tOp rNe (tOp rEq (tOp (rIxL K) (tVar 0) (tVar 5)) (tC (.int 0))) (tOp rEq (tVar 5) (tVar 3))))) (tRet (tC (.bl false))) tNext)
  (tIfS (tAnd (tTest (tOp rNe (tVar 5) (tVar 3))) (tNot (tB (tCall (sp__law_has_one_less K) [] E0 (tCons (tVar 2) (tCons (tVar 0) (tCons (tVar 5) tNil))))))) (tRet (tC (.bl false))) tNext)) tNext)))
  (tRet (tOp (rEqS (SqL K) false) (tComp (iList K (tVar 2)) (fun _ _ _ _ => (gName 0)) (fun _ _ _ _ => (tNot (tB (tCall (sp__law_one_view K) [] E0 (tCons (tVar 0) (tCons (tVar 1) tNil)))))) (fun _ _ _ _ => (tVar 0)) [none, some 0]) (mLst tNil))))))
theorem len__law_right {K : PySem.W.Frag} {vs : List V} {H : Hp} {Q : VK} {E : XK} (h : sp__law_right K vs H Q E) : vs.length = 4 := by
  obtain ⟨p, vw, ws, R, n, d, rfl, hV, hw, hd, hn, hwl, ep, E1, q⟩ := h
  rfl
theorem rd__law_right {K : PySem.W.Frag} {vs : List V} {H : Hp} {Q : VK} {E : XK} (h : sp__law_right K vs H Q E) : t__law_right K { nx := fun _ H' => Q .non H', rt := Q } (start ["_law_found", "_law_many", "_law_views", "_law_deal", "_law_met_here", "_law_place"] vs) H := by
  obtain ⟨p, vw, ws, R, n, d, rfl, hV, hw, hd, hn, hwl, ep, E1, q⟩ := h
  show t__law_right K _ [some _, some _, some _, some _, none, none] _
  unfold t__law_right
  have hl := E1.len
  walk_at "rd"
  refine r_isi (.lst ep) (kit_lst_lst K) ?_
  walk_at "rd"
  rw [List.length_map, hl]
  refine ite_ndec (fun h => absurd rfl h) (fun _ => ?_)
  walk_at "rd"
  refine r_ixL (SqL.of ep) (dist_get E1.start) ?_
  walk_at "rd"
  refine r_neI (i := ((0 : Nat) : Int)) ?_
  rw [decide_eq_true (show ((0 : Nat) : Int) = 0 from rfl)]
  walk_at "rd"
  refine ⟨n, d, vw, ws, rfl, hV, hw, hd, hn, hwl, fun mt kvs H1 hmt s1 e1 hk => ?_⟩
  walk_at "rd"
  refine lp_range n (by omega) (by omega) (by omega) (fun i σ H2 => ∃ (u1 : Option V), σ = [some (.ref p), some (.int n), some (.ref vw), some (.int d), some (.ref mt), u1] ∧ Same H1 H2) ⟨_, rfl, Same.refl _⟩ ?_ ?_
  · rintro i σ H2 hi ⟨u1, rfl, s2⟩
    have s02 := s1.trans s2
    have ep2 := s02 _ _ ep
    have hri : R[i]? = some (R[i]'(by omega)) := List.getElem?_eq_getElem _
    walk_at "rd"
    refine r_ixL (SqL.of ep2) (dist_get hri) ?_
    walk_at "rd"
    refine r_isNone ?_
    rw [isN_dist]
    walk_at "rd"
    refine r_dkin (.inl (s2 _ _ e1)) ?_
    have hkn : ((R[i]'(by omega)).isNone == (dkV kvs (i : Int)).isSome) = false := by
      rw [beq_eq_false_iff_ne]
      intro e
      cases hR : R[i]'(by omega) with
      | none =>
        rw [hR] at e hri
        obtain ⟨r, h⟩ := (E1.iff_ i).mpr ((hk i).mp e.symm)
        rw [hri] at h
        cases h
      | some r =>
        rw [hR] at e hri
        have : Fd kvs i := (hk i).mpr ((E1.iff_ i).mp ⟨r, hri⟩)
        rw [show (dkV kvs (i : Int)).isSome = true from this] at e
        cases e
    refine r_eqB ?_
    rw [hkn]
    walk_at "rd"
    refine r_ixL (SqL.of ep2) (dist_get hri) ?_
    walk_at "rd"
    refine r_isnNone ?_
    rw [isN_dist]
    walk_at "rd"
    cases hR : R[i]'(by omega) with
    | none =>
      refine iteF ?_
      walk_at "rd"
      exact ⟨_, rfl, s2⟩
    | some r =>
      obtain ⟨a, o⟩ := r
      rw [hR] at hri
      have ga : atI (R.map distV) (i : Int) = some (.int (a : Int)) := dist_get hri
      refine iteT ?_
      walk_at "rd"
      refine r_ixL (SqL.of ep2) ga ?_
      walk_at "rd"
      refine ⟨by simp [sizeLine_eq], fun l3 H3 hl3 s3 e3 => ?_⟩
      walk_at "rd"
      refine ⟨l3, [(a : Int)], rfl, e3, by simp, fun H4 s4 => ?_⟩
      have s24 := s3.trans s4
      have ep4 := s24 _ _ ep2
      walk_at "rd"
      refine r_ixL (SqL.of ep4) ga ?_
      walk_at "rd"
      have hz : (a = 0 ↔ i = d) := by
        constructor
        · intro h
          subst h
          match o, hri with
          | none, hri => exact (E1.zero i 0 hri).1
          | some (k, x), hri => obtain ⟨b, _, _, hb, _⟩ := E1.pred i 0 k x hri; cases hb
        · intro h
          subst h
          rw [E1.start] at hri
          cases hri
          rfl
      rw [show (!(decide ((a : Int) = 0) == decide ((i : Int) = (d : Int)))) = false by
        rw [show decide ((a : Int) = 0) = decide ((i : Int) = (d : Int)) from decide_eq_decide.mpr ⟨fun h => by have := hz.mp (by omega); omega, fun h => by have := hz.mpr (by omega); omega⟩, beq_self_eq_true]
        rfl]
      walk_at "rd"
      refine ite_ndec (fun h => ?_) (fun h => ?_)
      · match o, hri with
        | none, hri => exact absurd (by have := (E1.zero i a hri).1; omega) h
        | some (k, x), hri =>
          obtain ⟨b, o2, v, rfl, hx, hv, ha, _⟩ := E1.pred i a k x hri
          walk_at "rd"
          refine ⟨vw, p, ws, R, i, n, b, k, x, o2, rfl, (hV.same s1).same (s2.trans s24), hw, ep4, hl, by omega, hri, hx, ⟨v, hv, ha⟩, fun H5 s5 => ?_⟩
          walk_at "rd"
          exact ⟨_, rfl, (s2.trans s24).trans s5⟩
      · walk_at "rd"
        exact ⟨_, rfl, s2.trans s24⟩
  · rintro σ H2 ⟨u1, rfl, s2⟩
    have s02 := s1.trans s2
    obtain ⟨rs, ev, pv⟩ := hV.same s02
    have hrs := Paired.length pv
    walk_at "rd"
    refine lc_list (rs.map V.ref) (SqL.of ev) (by rw [List.length_map]; omega) (fun _ acc _ => acc = []) (fun _ _ => rfl) ?_ ?_
    · rintro w hw' C s' H' fp i x acc H3 hx ⟨s3, e3, l3, rfl⟩
      obtain ⟨rv, hrv, rfl⟩ := refs_at hx
      obtain ⟨v, hv, erv⟩ := pr_at pv hrv
      have hvm := List.mem_of_getElem? hv
      have hvw := hw v hvm
      walk_at "rd"
      refine ⟨rv, p, v, R, rfl, s3 _ _ erv, s3 _ _ (s02 _ _ ep), by rw [hl, hvw.1], by rw [hvw.1]; omega, fun x y a b o o' ha h1 h2 => E1.near v hvm x y a b o o' ha h1 h2, fun H4 s4 => ?_⟩
      walk_at "rd"
      exact CInv.skip (s3.trans s4) (s4 _ _ e3) l3 rfl
    · rintro w acc H3 hw' s3 e3 rfl
      walk_at "rd"
      refine ⟨by simp [sizeLine_eq], fun em H4 hem s4 e4 => ?_⟩
      refine r_eqL (ns := []) (ms := []) (SqL.of (s4 _ _ e3)) (SqL.of e4) ?_
      exact q _ (s02.trans (s3.trans s4))
noncomputable abbrev sp_law (K : PySem.W.Frag) : Sp := spLaw K
noncomputable def t_law (K : PySem.W.Frag) : TS := (tSeq (tAsg (tOp (rI0 fun i j => .int (i + j)) (tC (.int 1)) (tOp (rI (fun _ j => 0 < j) fun i j => .int (i % j)) (tCall (sp__law_cell K) [] E0 (tCons (tVar 0) (tCons (tC (.int 0)) tNil))) (tC (.int 40)))) (gName 1))
  (tSeq (tIfS (tTest (tOp rEq (tOp (rI (fun _ j => 0 < j) fun i j => .int (i % j)) (tOp (rI CDiv fun i j => .int (i / j)) (tCall (sp__law_cell K) [] E0 (tCons (tVar 0) (tCons (tC (.int 0)) tNil))) (tC (.int 40))) (tC (.int 8))) (tC (.int 3)))) (tAsg (tOp (rI0 fun i j => .int (i + j)) (tC (.int 41)) (tOp (rI (fun _ j => 0 < j) fun i j => .int (i % j)) (tOp (rI CDiv fun i j => .int (i / j)) (tCall (sp__law_cell K) [] E0 (tCons (tVar 0) (tCons (tC (.int 0)) tNil))) (tC (.int 320))) (tC (.int 80)))) (gName 1)) tNext)
  (tSeq (tAsg (mLst tNil) (gName 2))
  (tSeq (tFor (iRng1 (tCons (tOp (rI (fun _ j => 0 < j) fun i j => .int (i % j)) (tCall (sp__law_cell K) [] E0 (tCons (tVar 0) (tCons (tC (.int 1)) tNil))) (tC (.int 5))) tNil)) (gName 3) (tSeq (tDrop (tBM K "list" rAppend (tVar 2) (tCons (tCall (sp__law_view K) [] E0 (tCons (tVar 0) (tCons (tOp (rI0 fun i j => .int (i + j)) (tC (.int 6)) (tOp (rI IntMulOk fun i j => .int (i * j)) (tC (.int 2)) (tVar 3))) (tCons (tVar 1) tNil)))) tNil)))
  (tIfS (tTest (tOp rEq (tOp (rI (fun _ j => 0 < j) fun i j => .int (i % j)) (tCall (sp__law_cell K) [] E0 (tCons (tVar 0) (tCons (tC (.int 2)) tNil))) (tC (.int 2))) (tC (.int 1)))) (tAsg (tCall (sp__law_pairs K) [] E0 (tCons (tVar 1) (tCons (tVar 3) (tCons (tOp (rI (fun _ j => 0 < j) fun i j => .int (i % j)) (tCall (sp__law_cell K) [] E0 (tCons (tVar 0) (tCons (tC (.int 3)) tNil))) (tC (.int 2))) tNil)))) (gSub (tVar 2) (tVar 3) rSetL)) tNext)))
  (tSeq (tAsg (tOp (rI (fun _ j => 0 < j) fun i j => .int (i % j)) (tCall (sp__law_cell K) [] E0 (tCons (tVar 0) (tCons (tC (.int 4)) tNil))) (tVar 1)) (gName 4))
  (tSeq (tAsg (tComp (iList K (tVar 2)) (fun _ _ _ _ => (gName 0)) (fun _ _ _ _ => tAlways) (fun _ _ _ _ => (tCB (mCList K) (tCons (tVar 0) tNil))) [none]) (gName 5))
  (tSeq (tAsg (tCall (sp_steps_from K) [] E0 (tCons (tVar 1) (tCons (tVar 5) (tCons (tVar 4) tNil)))) (gName 6))
  (tSeq (tIfS (tOr (tNot (tB (tCall (sp__law_right K) [] E0 (tCons (tVar 6) (tCons (tVar 1) (tCons (tVar 2) (tCons (tVar 4) tNil))))))) (tTest (tOp (rSameD K true) (tVar 5) (tVar 2)))) (tRet (tC (.bl false))) tNext)
  (tSeq (tAsg (tCB (mCList K) (tCons (tVar 6) tNil)) (gName 7))
  (tSeq (tAsg (tVar 1) (gSub (tVar 6) (tC (.int 0)) rSetL))
  (tSeq (tDrop (tBM K "list" rAppend (tVar 6) (tCons (tC .non) tNil)))
  (tRet (tOp (rSameD K false) (tCall (sp_steps_from K) [] E0 (tCons (tVar 1) (tCons (tVar 5) (tCons (tVar 4) tNil)))) (tVar 7))))))))))))))
noncomputable abbrev N_law : List Str := ["_law_script", "_law_many", "_law_views", "_law_k", "_law_deal", "_law_handed", "_law_found", "_law_kept"]
theorem flat_dist (R : List (Option Way)) : ∀ x ∈ R.map distV, flatD x = true := fun x hx => by obtain ⟨r, _, rfl⟩ := List.mem_map.mp hx; cases r <;> rfl
theorem len_law {K : PySem.W.Frag} {vs : List V} {H : Hp} {Q : VK} {E : XK} (h : sp_law K vs H Q E) : vs.length = 1 := by
  obtain ⟨a, ns, rfl, hSc, g⟩ := h
  rfl
theorem rd_law {K : PySem.W.Frag} {vs : List V} {H : Hp} {Q : VK} {E : XK} (h : sp_law K vs H Q E) : t_law K { nx := fun _ H' => Q .non H', rt := Q } (start ["_law_script", "_law_many", "_law_views", "_law_k", "_law_deal", "_law_handed", "_law_found", "_law_kept"] vs) H := by
  obtain ⟨a, ns, rfl, hSc, g⟩ := h
  show t_law K _ [some _, none, none, none, none, none, none, none] _
  unfold t_law
  refine r_seq ?_
  walk_at "rs"
  refine ⟨a, ns, 0, rfl, hSc, by decide, by decide, ?_⟩
  walk_at "rs"
  refine r_seq_n fun NX hNX => ?_
  have key : ∀ many : Nat, 0 < many → many ≤ 200 → NX (start N_law [.ref a, .int many]) H := by
    intro many m0 m1
    refine hNX _ _ ?_
    show tSeq _ _ _ [some _, some _, none, none, none, none, none, none] _
    clear hNX NX
    walk_at "rd"
    refine ⟨by simp [sizeLine_eq], fun w H1 hw s1 e1 => ?_⟩
    walk_at "rd"
    refine ⟨a, ns, 1, rfl, hSc.same s1, by decide, by decide, ?_⟩
    walk_at "rd"
    refine lp_range (cellN ns 1 % 5).toNat rfl (by omega) (by omega) (fun i σ H2 => ∃ (u1 : Option V) (rs : List Addr) (fs : List (List Nat)), σ = [some (.ref a), some (.int many), some (.ref w), u1, none, none, none, none] ∧ Same H H2 ∧ H2 w = some (.lst (rs.map V.ref)) ∧ rs.length = i ∧ Paired (fun (r : Addr) (v : List Nat) => H2 r = some (.lst (natV v)) ∧ r ≠ w) rs fs ∧ ∀ v ∈ fs, Within many v) ?_ ?_ ?_
    · exact ⟨_, [], [], rfl, s1, e1, rfl, .nil, fun v hv => by simp at hv⟩
    · rintro i σ H2 hi ⟨u1, rs, fs, rfl, s2, e2, l2, p2, g2⟩
      have hSc2 := hSc.same s2
      walk_at "rd"
      refine ⟨r_tyL e2, ?_⟩
      walk_at "rd"
      refine ⟨a, ns, 6 + 2 * (i : Int), many, rfl, hSc2, by omega, by omega, by omega, fun zs v H3 hz hv s3 e3 => ?_⟩
      have nvw : v ≠ w := (ne_of_none e2 hv).symm
      walk_at "rd"
      refine r_append (s3 _ _ e2) (by rw [List.length_map, sizeLine_eq]; omega) fun H4 o4 e4 => ?_
      have p4 : Paired (fun (r : Addr) (v : List Nat) => H4 r = some (.lst (natV v)) ∧ r ≠ w) rs fs := Paired.mapP p2 fun r u h => ⟨by rw [o4 r h.2]; exact s3 _ _ h.1, h.2⟩
      have ev4 : H4 v = some (.lst (natV (leastOf zs))) := by rw [o4 v nvw]; exact e3
      have s4 := (s2.trans s3).off hw o4
      have win : ∀ (zs : List Int), zs.length = many → ∀ v ∈ fs ++ [leastOf zs], Within many v := by
        intro zs hz v hv
        rcases List.mem_append.mp hv with hv | hv
        · exact g2 v hv
        · rw [List.mem_singleton.mp hv]; exact least_in hz
      walk_at "rd"
      refine ⟨a, ns, 2, rfl, hSc.same s4, by decide, by decide, ?_⟩
      walk_at "rd"
      refine ite_dec (fun c => ?_) (fun c => ?_)
      · walk_at "rd"
        refine ⟨a, ns, 3, rfl, hSc.same s4, by decide, by decide, ?_⟩
        walk_at "rd"
        obtain ⟨t, ht⟩ : ∃ t : Nat, cellN ns 3 % 2 = (t : Int) := ⟨(cellN ns 3 % 2).toNat, by omega⟩
        rw [ht]
        refine ⟨many, i, t, rfl, by omega, fun ys v2 H5 hy hv2 s5 e5 => ?_⟩
        walk_at "rd"
        have e45 := s5 _ _ e4
        refine r_setL e45 (j := i) (by unfold ixN; rw [List.length_append, List.length_map, l2, if_pos (by omega), if_pos (by simp; omega)]; simp) ?_
        have nv2 : v2 ≠ w := (ne_of_none e4 hv2).symm
        have eset : (rs.map V.ref ++ [V.ref v]).set i (.ref v2) = (rs ++ [v2]).map V.ref := by
          rw [← l2, List.set_append_right _ _ (by simp)]
          simp
        refine ⟨_, rs ++ [v2], fs ++ [leastOf ys], rfl, (s4.trans s5).off hw off_upd, ?_, by simp [l2], ?_, win ys hy⟩
        · rw [upd_same, eset]
        · refine pr_snoc (Paired.mapP p4 fun r u h => ⟨by rw [upd_ne h.2]; exact s5 _ _ h.1, h.2⟩) ⟨?_, nv2⟩
          rw [upd_ne nv2]
          exact e5
      · walk_at "rd"
        exact ⟨_, rs ++ [v], fs ++ [leastOf zs], rfl, s4, by rw [e4]; simp, by simp [l2], pr_snoc p4 ⟨ev4, nvw⟩, win zs hz⟩
    · rintro σ H2 ⟨u1, rs, fs, rfl, s2, e2, l2, p2, g2⟩
      have V2 : ViewsAt H2 w fs := ⟨rs, e2, Paired.mapP p2 fun _ _ h => h.1⟩
      have hfl : fs.length = rs.length := (Paired.length p2).symm
      walk_at "rd"
      refine ⟨a, ns, 4, rfl, hSc.same s2, by decide, by decide, ?_⟩
      walk_at "rd"
      obtain ⟨d, hd, hd1⟩ := int_mod (z := cellN ns 4) m0
      rw [hd]
      refine lc_lists (rs.map V.ref) (SqL.of e2) (by rw [List.length_map]; omega) fs (by rw [List.length_map]; exact hfl) ?_ ?_
      · intro p hp C s' H' fp i x v H4 hx hv s4 Kk Ee hk
        obtain ⟨b, hb, rfl⟩ := refs_at hx
        obtain ⟨v', hv', ev, _⟩ := pr_at p2 hb
        rw [hv] at hv'
        cases hv'
        walk_at "rd"
        exact m_list (SqL.of (s4 _ _ ev)) hk
      · intro h H4 hh s4 Vh
        walk_at "rd"
        refine ⟨many, d, h, fs, rfl, Vh, g2, hd1, by omega, by omega, fun f R H5 hf s5 e5 E5 => ?_⟩
        have s25 := s4.trans s5
        walk_at "rd"
        refine ⟨f, w, fs, R, many, d, rfl, V2.same s25, g2, hd1, by omega, by omega, e5, E5, fun H6 s6 => ?_⟩
        have s46 := s5.trans s6
        walk_at "rd"
        refine r_sameN 2 (by decide) (views_same (Vh.same s46) (V2.same (s4.trans s46))) ?_
        walk_at "rd"
        refine m_list (SqL.of (s6 _ _ e5)) fun kp H7 hkp s7 e7 => ?_
        have ef7 := s7 _ _ (s6 _ _ e5)
        have nkf : kp ≠ f := (ne_of_none (s6 _ _ e5) hkp).symm
        walk_at "rd"
        refine r_setL ef7 (j := 0) (by unfold ixN; rw [List.length_map, E5.len, if_pos (by omega), if_pos (by omega)]; rfl) ?_
        generalize hH8 : upd H7 f _ = H8
        have o8 : Off f H7 H8 := by rw [← hH8]; exact off_upd
        have e8 : H8 f = some (.lst ((R.map distV).set 0 (.int (many : Int)))) := by rw [← hH8]; exact upd_same
        walk_at "rd"
        refine ⟨r_tyL e8, ?_⟩
        walk_at "rd"
        refine r_append e8 (by rw [List.length_set, List.length_map, E5.len, sizeLine_eq]; omega) fun H9 o9 e9 => ?_
        have s49 : Same H4 H9 := ((s46.trans s7).off hf o8).off hf o9
        have ek9 : H9 kp = some (.lst (R.map distV)) := by rw [o9 kp nkf, o8 kp nkf]; exact e7
        walk_at "rd"
        refine ⟨many, d, h, fs, rfl, Vh.same s49, g2, hd1, by omega, by omega, fun f2 R2 H10 hf2 s10 e10 E10 => ?_⟩
        walk_at "rd"
        refine r_sameE 1 (by decide) (same_flatL (xs := R.map distV) (by rw [bfs_uniq E5 E10]; exact SqL.of e10) (SqL.of (s10 _ _ ek9)) (flat_dist R)) ?_
        exact g _
  walk_at "rs"
  refine ⟨a, ns, 0, rfl, hSc, by decide, by decide, ?_⟩
  walk_at "rs"
  refine ite_dec (fun c => ?_) (fun c => ?_)
  · walk_at "rs"
    refine ⟨a, ns, 0, rfl, hSc, by decide, by decide, ?_⟩
    walk_at "rs"
    have := key (41 + cellN ns 0 / 320 % 80).toNat (by omega) (by omega)
    rw [show (((41 + cellN ns 0 / 320 % 80).toNat : Nat) : Int) = 41 + cellN ns 0 / 320 % 80 by omega] at this
    exact this
  · walk_at "rs"
    have := key (1 + cellN ns 0 % 40).toNat (by omega) (by omega)
    rw [show (((1 + cellN ns 0 % 40).toNat : Nat) : Int) = 1 + cellN ns 0 % 40 by omega] at this
    exact this

end L2

end

section
-- KcNew
set_option Elab.async false
set_option linter.all false
set_option maxRecDepth 100000
set_option maxHeartbeats 4000000
namespace L2
open PySem PySem.Spec PyProof.Rows
theorem Room.units64 {k : Nat} {A : Around} (r : Room k A) : A.units + 64 < cLine := by have := r.un; omega
section
variable {X : Cx}
theorem OpR.weak {f : Value → Value → Sem Value} {r r' : R2} (h : OpR X f r) (w : ∀ x y H Q, r' x y H Q → r x y H Q) : OpR X f r' := fun pins s σ H x y v u Q I rx ry q => h pins s σ H x y v u Q I rx ry (w x y H Q q)
theorem CallR.weak {f : Value} {r r' : List V → Hp → VK → Prop} (h : CallR X f r) (w : ∀ xs H Q, r' xs H Q → r xs H Q) : CallR X f r' := fun pins s σ H xs us Q I rx q => h pins s σ H xs us Q I rx (w xs H Q q)
theorem om_rep : OpR X (binaryOp .Mult) mRep := op_rep.weak fun _ _ _ _ ⟨l, k, xs, e1, e2, h1, h2, h3, hz, q⟩ => ⟨l, k, xs, e1, e2, h1, h2, h3, hz, q.upd⟩
theorem cm_list : CallR X (.type "list") (mCList X.K) := call_list_of.weak fun _ _ _ ⟨p, ys, e, h, q⟩ => ⟨p, ys, e, h, q.upd⟩
end
section
variable {X : Cx} {es : List Expr} {t : TA} {pos : Pos}
theorem pm_tup {x1} (h : PA X es t) : PE X (.Tuple es x1 pos) (mTup t) := by
  intro pins s σ H Q I hq
  refine wpAny_Tuple_spliced (thn (h pos pins s σ H _ I hq) fun us s1 ⟨xs, H1, I1, r, z, q⟩ => ⟨by rw [← r.length]; exact z, ?_⟩)
  have hf : H1 s1.heap.objs.size = none := I1.hok.fresh (Nat.le_refl _)
  refine ⟨.ref s1.heap.objs.size, upd H1 s1.heap.objs.size (.tup xs), I1.laid (t' := s1.toks) (fun b u e => Heap.get?_push_of_some _ e) (Nat.le_refl _) ?_, rfl, q.upd _ hf⟩
  exact ⟨z, us, r, IsTupD.new _ _⟩
theorem pm_lst (h : PA X es t) : PE X (.List es pos) (mLst t) := by
  intro pins s σ H Q I hq
  refine wpAny_List_spliced (thn (h pos pins s σ H _ I hq) fun us s1 ⟨xs, H1, I1, r, z, q⟩ => ⟨by rw [← r.length]; exact z, ?_⟩)
  have hf : H1 s1.heap.objs.size = none := I1.hok.fresh (Nat.le_refl _)
  refine ⟨.ref s1.heap.objs.size, upd H1 s1.heap.objs.size (.lst xs), I1.laid (t' := s1.toks) (fun b u e => Heap.get?_push_of_some _ e) (Nat.le_refl _) ?_, rfl, q.upd _ hf⟩
  exact ⟨z, us, 0, r, Heap.get?_push_size _ rfl⟩
end
/-! ### arguments, names: what is read off the text once -/
section
variable {X : Cx} {es : List Expr} {te : TE} {t : TA}
theorem pac_Constant {v : Const} {j : Nat} {p : Pos} (ha : PE X (.Constant v j p) te) (hr : PA X es t) : PA X (.Constant v j p :: es) (tCons te t) := pa_cons ha hr rfl
theorem pac_Name {x : Str} {p : Pos} (ha : PE X (.Name x p) te) (hr : PA X es t) : PA X (.Name x p :: es) (tCons te t) := pa_cons ha hr rfl
theorem pac_BinOp {a b : Expr} {o : Operator} {p : Pos} (ha : PE X (.BinOp a o b p) te) (hr : PA X es t) : PA X (.BinOp a o b p :: es) (tCons te t) := pa_cons ha hr rfl
theorem pac_Call {f : Expr} {as : List Expr} {ks : List Keyword} {p : Pos} (ha : PE X (.Call f as ks p) te) (hr : PA X es t) : PA X (.Call f as ks p :: es) (tCons te t) := pa_cons ha hr rfl
theorem pac_List {as : List Expr} {p : Pos} (ha : PE X (.List as p) te) (hr : PA X es t) : PA X (.List as p :: es) (tCons te t) := pa_cons ha hr rfl
theorem pac_Subscript {a b : Expr} {p : Pos} (ha : PE X (.Subscript a b p) te) (hr : PA X es t) : PA X (.Subscript a b p :: es) (tCons te t) := pa_cons ha hr rfl
theorem pac_ListComp {e : Expr} (ha : PE X e te) (hr : PA X es t) (hs : starEach (e :: es) X.env = (false, eval e X.env) :: starEach es X.env := by rfl) : PA X (e :: es) (tCons te t) := pa_cons ha hr hs
structure VarAt (N : List Str) (sc : Scope) (i : Nat) (x : Str) : Prop where
  n : N[i]? = some x
  v : Vis sc x
  d : (x == ("__debug__" : Str)) = false
  c : (x == ("__classdict__" : Str)) = false
theorem pvQ {N : List Str} {sc : Scope} {i : Nat} {x : Str} {pos : Pos} (h : VarAt N sc i x) (hN : X.N = N) (hS : X.env.scope = sc) : PE X (.Name x pos) (tVar i) := by
  subst hN hS
  exact pe_var h.n h.v h.d h.c
end
end L2

end

section
-- KcForms
set_option Elab.async false
set_option linter.all false
set_option maxRecDepth 100000
set_option maxHeartbeats 4000000
namespace L2
open PySem PySem.Spec PyProof.Rows
/-! ### a dict of the module's own -/
noncomputable def KDict (P : Program) (w : World) (K : PySem.W.Frag) (a : Addr) (kvs : List (Str × V)) : Prop :=
  (a == sysModules) = false ∧ ∃ (o : Obj) (es : Array DictEntry) (ep : Nat) (vs : List (Key × Value)), K.lookup a = some o ∧ o.ExactDict ∧ o.data = .dict es ep ∧ KeysOf (mixKind P w) es ∧ Pairs (mixKind P w) es.toList vs ∧ (vs.map (·.1)).Nodup ∧
    Paired (fun (p : Str × V) (q : Key × Value) => q.1 = .inr p.1 ∧ RelV p.2 q.2) kvs vs
section
variable {X : Cx} {o i : Expr} {pos : Pos} {td ty : TE} {a : Addr} {kvs : List (Str × V)}
theorem KDict.of {pins : List (Addr × Obj)} {σ : St} {H : Hp} {s : Shared} (D : KDict X.prog X.w X.K a kvs) (I : Inv X pins σ H s) : ∃ vs, s.heap.DictOf (mixKind X.prog X.w) a vs ∧ Paired (fun (p : Str × V) (q : Key × Value) => q.1 = .inr p.1 ∧ RelV p.2 q.2) kvs vs := by
  obtain ⟨_, o, es, ep, vs, lk, ex, hd, hk, hp, nd, rel⟩ := D
  exact ⟨vs, ⟨o, es, ep, I.kIn a o lk, ex, hd, hk, hp, nd⟩, rel⟩
end
theorem pm_dnew {X : Cx} {pos : Pos} : PE X (.Dict [] [] pos) mDnew := fun pins s σ H Q I h => pe_dnewK pins s σ H Q I (New.upd (Q := fun p H2 => Q (.ref p) H2) h)
end L2

end

section
-- KcDkN
set_option Elab.async false
set_option linter.all false
set_option maxRecDepth 100000
set_option maxHeartbeats 4000000
namespace L2
open PySem PySem.Spec PyProof.Rows
theorem dkAt_get {H : Hp} {a : Addr} {kvs : List (Key × V)} (e : DkAt H a kvs) (i : Int) : DGet H a (.int i) (dkV kvs i) := .inl ⟨kvs, .inl i, e, rfl, rfl⟩
section
variable {X : Cx}
theorem op_dkin (hu : X.A.units + 1 < cLine) : OpR X (compareOp .In) (rDkIn false) := by
  intro pins s σ H y x v u Q I ry rx h
  obtain ⟨a, kvs, i, rfl, rfl, e, q⟩ := h
  cases rx
  exact d_in hu I (dkAt_get e i) ry fun s' I' => ⟨.bl _, H, I', rfl, q⟩
theorem op_dknotin (hu : X.A.units + 1 < cLine) : OpR X (compareOp .NotIn) (rDkIn true) := by
  intro pins s σ H y x v u Q I ry rx h
  obtain ⟨a, kvs, i, rfl, rfl, e, q⟩ := h
  cases rx
  exact d_notIn hu I (dkAt_get e i) ry fun s' I' => ⟨.bl _, H, I', rfl, q⟩
theorem pe_dkget {o i : Expr} {td ty : TE} {pos : Pos} (hu : X.A.units + 1 < cLine) (ho : PE X o td) (hi : PE X i ty) (hs : NoSl i) : PE X (.Subscript o i pos) (tOp rDkGet td ty) := by
  intro pins s σ H Q I h
  have mono : True := trivial
  refine subD_of PySem.F.slot_dict_getitem.lookup hs (thn (ho pins s σ H _ I h) fun u s1 ⟨x, H1, I1, rx, q1⟩ => thn (hi pins s1 σ H1 _ I1 q1) fun iv s2 ⟨y, H2, I2, ry, a, kvs, k, v, ex, ey, e, hv, q2⟩ => ?_)
  subst ex ey
  obtain rfl : u = Value.ref a := rx
  have g := dkAt_get e k
  rw [hv] at g
  exact ⟨dict_typeIs I2 g, d_getItem hu I2 g ry fun w' s3 I3 rw' => ⟨v, H2, I3, rw', q2⟩⟩
theorem set_dk (hu : X.A.units + 1 < cLine) : PSet X rDkSet := by
  intro pins s σ H o i v ov iv u Q I ro ri rv h
  obtain ⟨a, kvs, k, rfl, rfl, e, hl, q⟩ := h
  cases ro
  exact d_setItem hu I (DPut.k (k := .inl k) e hl) ri rv fun s' I' => ⟨_, I', q _ off_upd upd_same⟩
theorem pe_dkget2 {o e f : Expr} {apos cpos : Pos} {td ty tx : TE} (hu : X.A.units + 1 < cLine) (ho : PE X o td) (he : PE X e ty) (hf : PE X f tx) (m : M2 X o "get" apos e f cpos) : PE X (.Call (.Attribute o "get" apos) [e, f] [] cpos) (mDkGet2 td ty tx) := by
  intro pins s σ H Q I h
  refine wpAny_Call_method m.base m.few m.line PySem.F.plainAttrs_dict PySem.F.slot_dict_get PySem.F.type_dict_get (thn (ho pins s σ H _ I h) fun u s1 ⟨x, H1, I1, rx, ⟨a, kvs, ex, ea⟩, q1⟩ => ?_)
  subst ex
  obtain rfl : u = Value.ref a := rx
  obtain ⟨t1, t2, _⟩ := isD_at I1 (show IsD H1 a from .inl ⟨kvs, .inl ea⟩)
  refine ⟨t1, t2, ?_⟩
  rw [m.trees]
  refine Calls.callWith_builtin rfl (Calls.evalArgs_plain (Calls.spliced_cons (thn (he pins s1 σ H1 _ I1 q1) fun iv s2 ⟨y, H2, I2, ry, q2⟩ =>
    Calls.spliced_cons (thn (hf pins s2 σ H2 _ I2 q2) fun fv s3 ⟨z, H3, I3, rz, a', kvs', i, ex, ey, e3, q3⟩ => Calls.spliced_nil ?_))))
  cases ex
  subst ey
  exact d_get2 hu I3 (dkAt_get (.inl e3) i) ry rz fun w' s4 I4 rw' => ⟨_, H3, I4, rw', q3⟩
theorem Inv.freeze {pins : List (Addr × Obj)} {σ : St} {H : Hp} {s : Shared} {a : Addr} {kvs : List (Key × V)} (I : Inv X pins σ H s) (e : H a = some (.dK kvs)) :
    ∃ (o : Obj) (vs : List (Key × Value)) (es : Array DictEntry) (ep : Nat), s.heap.get? a = some o ∧ (a == sysModules) = false ∧ KV kvs vs ∧ o.ExactDict ∧ o.data = .dict es ep ∧ KeysOf (mixKind X.prog X.w) es ∧ Pairs (mixKind X.prog X.w) es.toList vs ∧ (vs.map (·.1)).Nodup ∧ Inv X pins σ (upd H a (.frz o (.dK kvs))) s := by
  obtain ⟨z, hd, vs, rel, dd⟩ := dk_of I.hok e
  obtain ⟨o, es, ep, ho, h1, h2, h3, h4, h5⟩ := id dd
  refine ⟨o, vs, es, ep, ho, hd, rel, h1, h2, h3, h4, h5, ?_⟩
  exact Inv.write (x := a) (e := a) (o := .frz o (.dK kvs)) (h' := s.heap) (t' := s.toks) I (by rw [e]; exact True.intro) (.inl rfl) (fun b u _ h => h) ⟨o, ho⟩ ⟨ho, dk_new z hd rel dd⟩
theorem turn_dk {P : Program} {w : World} {K : PySem.W.Frag} {tg : Expr} (it a : Addr) (o : Obj) (kvs : List (Key × V)) (vs : List (Key × Value)) (es : Array DictEntry) (ep : Nat) (hne : a ≠ it) (hI : DkI kvs) (rel : KV kvs vs) (h1 : o.ExactDict) (h2 : o.data = .dict es ep) (h3 : KeysOf (mixKind P w) es) (h4 : Pairs (mixKind P w) es.toList vs) (h5 : (vs.map (·.1)).Nodup) :
    Turn P w K tg (Itk a o kvs) [it] it (fun i h => h.IsKeyIter it a i vs.length ep) where
  mem := by simp
  obj := fun i h st b hb => by
    have e : b = it := by simpa using hb
    subst e
    obtain ⟨ob, e, c, d⟩ := st
    exact ⟨ob, e, fun v z => by rw [d] at z; cases z⟩
  keep := fun i h h' st k => st.at fun ob e => k it (by simp) ob e
  item := by
    intro X hP hw hK hc i pins s σ H E I hf st hg
    subst hP hw hK
    obtain ⟨f0, f1, f2, f3, f4, f5⟩ := hf it (by simp)
    obtain ⟨hi, hfr⟩ := hg
    have ho : s.heap.get? a = some o := (I.hok a _ hfr).1
    have W := Walks.dictKeys (prog := X.prog) (w := X.w) (knd := mixKind X.prog X.w) (I.ok.hd hc) it a hne vs ep
    have hlen : kvs.length = vs.length := Paired.length rel
    refine W.item i s _ _ (by omega) ⟨st, o, es, ho, h1, h2, h3, h4, h5⟩ fun v h' tk hv st' kk => ?_
    obtain ⟨k, x, hx, hkey⟩ := hv
    have I1 : Inv X pins σ H { s with heap := h', toks := tk } := I.turned (fun b ob hb e => kk b ob (by simpa using hb) e) f0 f1 f3 f4 f5
    obtain ⟨ob, hob, hcl, hdt⟩ := st'.1
    obtain ⟨⟨k', u⟩, hk', e1, e2⟩ : ∃ p, kvs[i]? = some p ∧ p.1 = k ∧ RelV p.2 x := by
      have : ∀ {l : List (Key × V)} {m : List (Key × Value)} {i : Nat}, Paired (fun (p : Key × V) (q : Key × Value) => p.1 = q.1 ∧ RelV p.2 q.2) l m → m[i]? = some (k, x) → ∃ p, l[i]? = some p ∧ p.1 = k ∧ RelV p.2 x := by
        intro l m i q
        induction q generalizing i with
        | nil => intro h; cases h
        | cons r _ ih =>
          intro h
          cases i with
          | zero => cases h; exact ⟨_, rfl, r.1, r.2⟩
          | succ i => exact ih h
      exact this rel hx
    obtain ⟨z, hz⟩ := hI _ (List.mem_of_getElem? hk')
    simp only at e1 hz
    subst e1
    subst hz
    have hvz : ∃ t, v = Value.int z t := by
      rcases keyIs_shape (show keyIs (.inl z) v = true from hkey) with ⟨i', t, ei, ev⟩ | ⟨x', t, ei, ev⟩
      · cases ei; exact ⟨t, ev⟩
      · cases ei
    refine ⟨_, rfl, go_of (s := { s with heap := h', toks := tk }) (n := "dict_keyiterator") hob hcl hdt (by decide) ⟨.int z, H, I1, hvz, ⟨rfl, z, u, hk', rfl⟩, st'.1, fun b hb => (hf b hb).1⟩⟩
  done := by
    intro X hP hw hK hc i pins s σ H E I hf st hg
    subst hP hw hK
    obtain ⟨f0, f1, f2, f3, f4, f5⟩ := hf it (by simp)
    obtain ⟨hi, hfr⟩ := hg
    have ho : s.heap.get? a = some o := (I.hok a _ hfr).1
    have hlen : kvs.length = vs.length := Paired.length rel
    exact wpAny_pyNext_dict_end (I.ok.hd hc) st ⟨o, es, ho, h1, h2, h3, h4, h5⟩ (List.getElem?_eq_none (by omega)) fun h' eb => ⟨rfl, I.turned (t' := s.toks) (fun b ob hb e => eb b ob hb e) f0 f1 f3 f4 f5⟩
  self := fun _ _ _ _ _ st h => wpAny_pyIter_keyiter st h
theorem pi_dk {tg l : Expr} {td : TE} (hl : PE X l td) : PI X tg l (iDk td) := by
  intro pins s σ H R I h
  refine thn (hl pins s σ H _ I h) fun v s1 ⟨x, H1, I1, r1, a, kvs, ex, ea, hI, q⟩ => ?_
  subst ex
  cases r1
  obtain ⟨o, vs, es, ep, ho, hd, rel, h1, h2, h3, h4, h5, I2⟩ := I1.freeze ea
  refine wpAny_pyIter_dict hd ⟨o, es, ho, h1, h2, h3, h4, h5⟩ ?_
  have hne : a ≠ s1.heap.objs.size := Nat.ne_of_lt (Heap.lt_size ho)
  refine ⟨s1.heap.objs.size, [s1.heap.objs.size], _, _, _, rfl, I2.kept (t' := s1.toks) fun b ob e => Heap.get?_push_of_some _ e, turn_dk _ a o kvs vs es ep hne hI rel h1 h2 h3 h4 h5, ⟨_, Heap.get?_push_size _ rfl, rfl, rfl⟩, fun b hb => ?_, q o⟩
  have e : b = s1.heap.objs.size := by simpa using hb
  subst e
  exact I2.fpOk (Nat.le_refl _) (I2.hok.fresh (Nat.le_refl _))
theorem pe_dk1 {k val : Expr} {pos : Pos} {i : Nat} {v : V} (hk : PE X k (tVar i)) (hv : PE X val (tC v)) : PE X (.Dict [some k] [val] pos) (mDk1 i v) := fun pins s σ H Q I h => by
  obtain ⟨z, hz, q⟩ := h
  refine pe_disp (pps_cons hk hv pps_nil) rfl rfl (by simp) (by simp) pins s σ H Q I (fun p hp => ?_)
  refine ⟨.int z, hz, upd_same, [((Sum.inl z : Key), v)], rfl, by simp, ?_⟩
  rw [upd_upd]
  exact q p _ hp (same_new hp _) upd_same
theorem hu1_of {n : Nat} (h : n + 64 < cLine) : n + 1 < cLine := by omega
end
end L2

end

section
-- KcMap
set_option Elab.async false
set_option linter.all false
set_option maxRecDepth 100000
set_option maxHeartbeats 4000000
namespace L2
open PySem PySem.Spec PyProof.Rows
/-! ### the object's rules -/
theorem DA.stay {a : Addr} {kvs : List (IA × V)} {h1 h2 : Heap} (d : DA a kvs h1) (k : ∀ o, h1.get? a = some o → h2.get? a = some o) : DA a kvs h2 := by
  obtain ⟨z, y, P, w, vs, r, o, es, ep, e, c⟩ := d
  exact ⟨z, y, P, w, vs, r, o, es, ep, k _ e, c⟩
theorem DB.stay {a : Addr} {zs : List (List IK × Addr × V)} {h1 h2 : Heap} (d : DB a zs h1) (k : ∀ o, h1.get? a = some o → h2.get? a = some o) : DB a zs h2 := by
  obtain ⟨z, y, xs, r, o, es, ep, e, c⟩ := d
  exact ⟨z, y, xs, r, o, es, ep, k _ e, c⟩
theorem DA.ok {P : Program} {w : World} {H : Hp} {h : Heap} {a : Addr} {kvs : List (IA × V)} (d : DA a kvs h) : ObjOk P w H h a (dA a kvs) := by
  obtain ⟨_, _, _, _, _, _, o, _, _, e, _⟩ := id d
  exact ⟨d, ⟨o, e⟩, fun _ _ d k => d.stay k⟩
theorem DB.ok {P : Program} {w : World} {H : Hp} {h : Heap} {a : Addr} {zs : List (List IK × Addr × V)} (d : DB a zs h) : ObjOk P w H h a (dB a zs) := by
  obtain ⟨_, _, _, _, o, _, _, e, _⟩ := id d
  exact ⟨d, ⟨o, e⟩, fun _ _ d k => d.stay k⟩
theorem ZX.length {zs : List (List IK × Addr × V)} {xs : List (List IK × Addr × Value)} (r : ZX zs xs) : zs.length = xs.length := Paired.length r
theorem ZX.val {zs : List (List IK × Addr × V)} {xs : List (List IK × Addr × Value)} (r : ZX zs xs) (k : List IK) : RelO (atZ zs k) ((atKey xs k).map (·.2)) := by
  unfold ZX at r
  induction r with
  | nil => exact True.intro
  | @cons p q ps qs h t ih =>
    obtain ⟨h1, _, h2⟩ := h
    by_cases e : p.1 = k
    · have e' : q.1 = k := h1.symm.trans e
      have b : atKey (q :: qs) k = some q.2 := by simp [atKey, List.find?_cons, e']
      have c : atZ (p :: ps) k = some p.2.2 := by simp [atZ, List.find?_cons, e]
      rw [c, b]; exact h2
    · have e' : ¬ q.1 = k := fun z => e (h1.trans z)
      have b : atKey (q :: qs) k = atKey qs k := by simp [atKey, List.find?_cons, e']
      have c : atZ (p :: ps) k = atZ ps k := by simp [atZ, List.find?_cons, e]
      rw [c, b]; exact ih
noncomputable def putZ (zs : List (List IK × Addr × V)) (k : List IK) (b : Addr) (v : V) : List (List IK × Addr × V) :=
  if (atZ zs k).isSome then zs.map (fun x => if x.1 = k then (x.1, x.2.1, v) else x) else zs ++ [(k, b, v)]
theorem ZX.repl {zs : List (List IK × Addr × V)} {xs : List (List IK × Addr × Value)} (r : ZX zs xs) (k : List IK) {v : V} {u : Value} (rv : RelV v u) : ZX (zs.map fun x => if x.1 = k then (x.1, x.2.1, v) else x) (xs.map (putAt k u)) := by
  unfold ZX at r ⊢
  induction r with
  | nil => exact .nil
  | @cons p q ps qs h t ih =>
    rw [List.map_cons, List.map_cons]
    refine .cons ?_ ih
    obtain ⟨h1, h2, h3⟩ := h
    unfold putAt
    by_cases e : p.1 = k
    · rw [if_pos e, if_pos (h1.symm.trans e)]; exact ⟨h1, h2, rv⟩
    · rw [if_neg e, if_neg (fun z => e (h1.trans z))]; exact ⟨h1, h2, h3⟩
theorem ZX.put {zs : List (List IK × Addr × V)} {xs : List (List IK × Addr × Value)} (r : ZX zs xs) (k : List IK) {b : Addr} {v : V} {u : Value} (rv : RelV v u) : ZX (putZ zs k b v) (storedH xs k b u) := by
  have e : (atZ zs k).isSome = (atKey xs k).isSome := by
    rw [(r.val k).isSome_eq, Option.isSome_map]
  unfold putZ storedH
  rw [e]
  by_cases q : (atKey xs k).isSome = true
  · rw [if_pos q, if_pos q]; exact r.repl k rv
  · rw [if_neg q, if_neg q]; exact Paired.snoc r ⟨rfl, rfl, rv⟩
theorem atZ_put (zs : List (List IK × Addr × V)) (k j : List IK) (b : Addr) (v : V) : atZ (putZ zs k b v) j = if j = k then some v else atZ zs j := by
  have hm : ∀ ys : List (List IK × Addr × V), atZ (ys.map fun x => if x.1 = k then (x.1, x.2.1, v) else x) j = (atZ ys j).map fun y => if j = k then v else y := by
    intro ys
    induction ys with
    | nil => rfl
    | cons p r ih =>
      rw [List.map_cons]
      unfold atZ at ih ⊢
      by_cases h : p.1 = k
      · rw [if_pos h]
        by_cases e : p.1 = j
        · simp [List.find?_cons, e, e.symm.trans h]
        · simp [List.find?_cons, e]; simpa using ih
      · rw [if_neg h]
        by_cases e : p.1 = j
        · have : ¬ j = k := fun z => h (e.trans z)
          simp [List.find?_cons, e, this]
        · simp [List.find?_cons, e]; simpa using ih
  have ha : ∀ ys : List (List IK × Addr × V), atZ ys k = none → atZ (ys ++ [(k, b, v)]) j = if j = k then some v else atZ ys j := by
    intro ys
    induction ys with
    | nil =>
      intro _
      by_cases e : k = j
      · simp [atZ, List.find?_cons, e]
      · have : ¬ j = k := fun z => e z.symm
        simp [atZ, List.find?_cons, e, this]
    | cons p r ih =>
      intro hn
      have hk : ¬ p.1 = k := fun z => by simp [atZ, List.find?_cons, z] at hn
      have hn' : atZ r k = none := by simpa [atZ, List.find?_cons, hk] using hn
      have ih' := ih hn'
      by_cases e : p.1 = j
      · have : ¬ j = k := fun z => hk (e.trans z)
        simp [atZ, List.find?_cons, e, this]
      · have c : atZ (p :: (r ++ [(k, b, v)])) j = atZ (r ++ [(k, b, v)]) j := by simp [atZ, List.find?_cons, e]
        have c' : atZ (p :: r) j = atZ r j := by simp [atZ, List.find?_cons, e]
        rw [List.cons_append, c, c', ih']
  unfold putZ
  cases q : atZ zs k with
  | some y =>
    rw [if_pos (show (some y).isSome = true from rfl), hm]
    by_cases e : j = k
    · subst e; rw [q, if_pos rfl]; simp
    · rw [if_neg e]; cases atZ zs j <;> simp [e]
  | none => rw [if_neg (show ¬ (none : Option V).isSome = true by decide)]; exact ha zs q
theorem length_putZ (zs : List (List IK × Addr × V)) (k : List IK) (b : Addr) (v : V) : (putZ zs k b v).length ≤ zs.length + 1 := by
  unfold putZ
  split
  · rw [List.length_map]; omega
  · rw [List.length_append, List.length_cons, List.length_nil]; omega
theorem mem_putZ {zs : List (List IK × Addr × V)} {k : List IK} {b : Addr} {v : V} {z : List IK × Addr × V} (h : z ∈ putZ zs k b v) : (∃ z0 ∈ zs, z.1 = z0.1 ∧ z.2.1 = z0.2.1) ∨ (z.1 = k ∧ z.2.1 = b) := by
  unfold putZ at h
  split at h
  · obtain ⟨z0, h0, rfl⟩ := List.mem_map.mp h
    refine .inl ⟨z0, h0, ?_⟩
    split <;> exact ⟨rfl, rfl⟩
  · rcases List.mem_append.mp h with h | h
    · exact .inl ⟨z, h, rfl, rfl⟩
    · rw [List.mem_singleton.mp h]; exact .inr ⟨rfl, rfl⟩
section
variable {X : Cx} {pins : List (Addr × Obj)} {σ : St} {H : Hp} {s : Shared} {a : Addr} {y v : V} {u r : Value} {A : Around} {E : Value → Shared → Prop} {srt : Bool} {f : MK → Option V} {n : Nat} {k : MK}
theorem ia_is {k : IA} (h : iaV y = some k) (ry : RelV y u) : iaIs k u = true := by
  cases y with
  | non => cases h; cases ry; rfl
  | bl b => cases h; cases ry; simp [iaIs]
  | int i => cases h; obtain ⟨t, rfl⟩ := ry; simp [iaIs]
  | _ => cases h
theorem ias_are {P : Program} {w : World} : ∀ {ks : List IA} {ys : List V} {us : List Value}, ys.map iaV = ks.map some → Vals ys us → ItemsAre (iaKind P w) ks us
  | [], [], _, _, .nil => .nil
  | k :: ks, y :: ys, _, e, .cons h t => by
    rw [List.map_cons, List.map_cons] at e
    injection e with e1 e2
    exact .cons (ia_is e1 h) (ias_are e2 t)
  | [], _ :: _, _, e, _ => by simp at e
  | _ :: _, [], _, e, _ => by simp at e
theorem tup_at (ok : HOk X.prog X.w H s.heap) {c : Addr} {xs : List V} (e : H c = some (.tup xs)) : ∃ its, Vals xs its ∧ ∃ o n, s.heap.get? c = some o ∧ o.cls = .type "tuple" ∧ o.data = .seq its.toArray n := by
  obtain ⟨_, its, r, o, h1, h2, ⟨n, h3⟩, _⟩ := (show ObjOk X.prog X.w H s.heap c (.tup xs) from ok c _ e)
  exact ⟨its, r, o, n, h1, h2, h3⟩
theorem item_is (ok : HOk X.prog X.w H s.heap) {k : IK} (h : ItemV H y k) (ry : RelV y u) : ItemIs X.prog X.w s.heap k u := by
  cases k with
  | inl a => exact ia_is h ry
  | inr as =>
    obtain ⟨c, ys, rfl, e, q⟩ := h
    cases ry
    obtain ⟨its, rv, o, n, h1, h2, h3⟩ := tup_at ok e
    exact ⟨c, rfl, o, its.toArray, n, h1, h2, h3, by simpa using ias_are q rv⟩
theorem items_is (ok : HOk X.prog X.w H s.heap) {xs : List V} {ks : List IK} {us : List Value} (p : Paired (ItemV H) xs ks) : Vals xs us → Paired (ItemIs X.prog X.w s.heap) ks us := by
  induction p generalizing us with
  | nil => intro q; cases q; exact .nil
  | cons h t ih => intro q; cases q with
    | cons r q => exact .cons (item_is ok h r) (ih q)
theorem tk_is (ok : HOk X.prog X.w H s.heap) {c : Addr} {ks : List IK} (h : KeyV H (.ref c) (.inr ks)) : IsTk X.prog X.w s.heap ks c := by
  obtain ⟨c', xs, e, ec, q⟩ := h
  cases e
  obtain ⟨its, rv, o, n, h1, h2, h3⟩ := tup_at ok ec
  exact ⟨o, its.toArray, n, h1, h2, h3, by simpa using items_is ok q rv⟩
theorem key_ref (h : KeyV H y k) (hs : kSort k = true) : ∃ c ks, y = .ref c ∧ k = .inr ks := by
  cases k with
  | inl _ => cases hs
  | inr ks => obtain ⟨c, xs, e, _⟩ := h; exact ⟨c, ks, e, rfl⟩
theorem pairs_any {P P' : Program} {w w' : World} {es : List DictEntry} {vs : List (IA × Value)} (h : Pairs (iaKind P w) es vs) : Pairs (iaKind P' w') es vs := by
  induction h with
  | nil => exact .nil
  | cons a b _ ih => exact .cons a b ih
theorem da_of {kvs : List (IA × V)} (ok : HOk X.prog X.w H s.heap) (e : H a = some (dA a kvs)) : kvs.length ≤ sizeLine ∧ (a == sysModules) = false ∧ ∃ vs, KV kvs vs ∧ s.heap.DictOf (iaKind X.prog X.w) a vs := by
  obtain ⟨⟨z, y, P, w, vs, r, o, es, ep, h1, h2, h3, h4, h5, h6⟩, _⟩ := (show ObjOk X.prog X.w H s.heap a (dA a kvs) from ok a _ e)
  exact ⟨z, y, vs, r, o, es, ep, h1, h2, h3, h4, pairs_any h5, h6⟩
theorem db_of {zs : List (List IK × Addr × V)} (ok : HOk X.prog X.w H s.heap) (e : H a = some (dB a zs)) (hk : ∀ z ∈ zs, KeyV H (.ref z.2.1) (.inr z.1)) : zs.length ≤ sizeLine ∧ (a == sysModules) = false ∧ ∃ xs, ZX zs xs ∧ s.heap.DictOfH (tkKind X.prog X.w) a xs := by
  obtain ⟨⟨z, y, xs, r, o, es, ep, h1, h2, h3, h4, h5⟩, _⟩ := (show ObjOk X.prog X.w H s.heap a (dB a zs) from ok a _ e)
  refine ⟨z, y, xs, r, o, es, ep, h1, h2, h3, h4, ?_, h5⟩
  have all : ∀ {l : List (List IK × Addr × V)} {m : List (List IK × Addr × Value)}, ZX l m → (∀ z ∈ l, KeyV H (.ref z.2.1) (.inr z.1)) → ∀ x ∈ m, (tkKind X.prog X.w).is s.heap x.1 x.2.1 := by
    intro l m q
    unfold ZX at q
    induction q with
    | nil => intro _ x hx; exact nomatch hx
    | @cons p q ps qs hq t ih =>
      intro hk x hx
      rcases List.mem_cons.mp hx with e | hx
      · subst e
        have := hk p (List.mem_cons_self ..)
        rw [hq.1, hq.2.1] at this
        exact tk_is ok this
      · exact ih (fun z hz => hk z (List.mem_cons_of_mem _ hz)) x hx
  exact all r hk
theorem x_notIn {Q : Value → Shared → Prop} (hu : A.units + 2 < cLine) (I : Inv X pins σ H s) (d : Dx H a srt f n) (hk : KeyV H y k) (hs : kSort k = srt) (ry : RelV y u) (h : ∀ s', Inv X pins σ H s' → Q (.bool (f k).isNone) s') :
    wpAny (model X.prog X.w) A (compareOp .NotIn u (.ref a)) Q E s := by
  rcases d with ⟨rfl, kvs, e, hf, _⟩ | ⟨rfl, zs, e, hz, hf, _⟩
  · cases k with
    | inr _ => cases hs
    | inl k =>
      obtain ⟨z, hd, vs, rel, dd⟩ := da_of I.hok e
      refine wpAny_notIn_of (knd := iaKind X.prog X.w) (ia_is hk ry) hd dd.mapOf ?_
      rw [← (rel.val k).isSome_eq, hf k]
      rw [show (!(f (.inl k)).isSome) = (f (.inl k)).isNone by cases f (.inl k) <;> rfl]
      exact h _ (I.tok _)
  · obtain ⟨c, ks, rfl, rfl⟩ := key_ref hk hs
    cases ry
    obtain ⟨z, hd, xs, rel, dd⟩ := db_of I.hok e hz
    refine wpAny_notIn_heap (knd := tkKind X.prog X.w) hu (tk_is I.hok hk) hd dd ?_
    have q := (rel.val ks).isSome_eq
    rw [Option.isSome_map, hf ks] at q
    rw [← q, show (!(f (.inr ks)).isSome) = (f (.inr ks)).isNone by cases f (.inr ks) <;> rfl]
    exact h _ (I.tok _)
theorem x_get {Q : Value → Shared → Prop} (hu : A.units + 2 < cLine) (I : Inv X pins σ H s) (d : Dx H a srt f n) (hk : KeyV H y k) (hs : kSort k = srt) (ry : RelV y u) (ev : f k = some v) (h : ∀ w' s', Inv X pins σ H s' → RelV v w' → Q w' s') :
    wpAny (model X.prog X.w) A (getItem (.ref a) u) Q E s := by
  rcases d with ⟨rfl, kvs, e, hf, _⟩ | ⟨rfl, zs, e, hz, hf, _⟩
  · cases k with
    | inr _ => cases hs
    | inl k =>
      obtain ⟨z, hd, vs, rel, dd⟩ := da_of I.hok e
      obtain ⟨w', hw, rw'⟩ := RelO.some_of (v := v) (o := valueAt vs k) (by rw [← ev, ← hf k]; exact rel.val k)
      exact wpAny_getItem_of (knd := iaKind X.prog X.w) (ia_is hk ry) dd.mapOf hw (h w' _ (I.tok _) rw')
  · obtain ⟨c, ks, rfl, rfl⟩ := key_ref hk hs
    cases ry
    obtain ⟨z, hd, xs, rel, dd⟩ := db_of I.hok e hz
    obtain ⟨w', hw, rw'⟩ := RelO.some_of (v := v) (o := (atKey xs ks).map (·.2)) (by rw [← ev, ← hf ks]; exact rel.val ks)
    obtain ⟨p, hp, hp2⟩ := Option.map_eq_some_iff.mp hw
    refine wpAny_getItem_heap (knd := tkKind X.prog X.w) hu (tk_is I.hok hk) dd hp ?_
    rw [hp2]
    exact h w' _ (I.tok _) rw'
theorem off_upd' {o : HO} : Off a H (upd H a o) := fun b hb => upd_ne hb
theorem da_new {h' : Heap} {t' : Nat} {kvs kvs' : List (IA × V)} {vs' : List (IA × Value)} (I : Inv X pins σ H s) (e : H a = some (dA a kvs)) (hs : Heap.SameBut a s.heap h') (z : kvs'.length ≤ sizeLine) (hd : (a == sysModules) = false) (rel : KV kvs' vs') (dd : h'.DictOf (iaKind X.prog X.w) a vs') :
    Inv X pins σ (upd H a (dA a kvs')) { s with heap := h', toks := t' } := by
  have he : ∃ q, h'.get? a = some q := let ⟨q, _, _, hq, _⟩ := dd; ⟨q, hq⟩
  exact d_write I (by rw [e]; exact True.intro) hs he (DA.ok ⟨z, hd, X.prog, X.w, vs', rel, dd⟩)
theorem db_new {h' : Heap} {t' : Nat} {zs zs' : List (List IK × Addr × V)} {xs' : List (List IK × Addr × Value)} (I : Inv X pins σ H s) (e : H a = some (dB a zs)) (hs : Heap.SameBut a s.heap h') (z : zs'.length ≤ sizeLine) (hd : (a == sysModules) = false) (rel : ZX zs' xs') (dd : h'.DictOfH (tkKind X.prog X.w) a xs') :
    Inv X pins σ (upd H a (dB a zs')) { s with heap := h', toks := t' } := by
  obtain ⟨o, es, ep, h1, h2, h3, h4, _, h5⟩ := dd
  exact d_write I (by rw [e]; exact True.intro) hs ⟨o, h1⟩ (DB.ok ⟨z, hd, xs', rel, o, es, ep, h1, h2, h3, h4, h5⟩)
theorem dx_putA {kvs : List (IA × V)} {k : IA} (e : H a = some (dA a kvs)) (hf : ∀ k, valV kvs k = f (.inl k)) (hn : kvs.length ≤ n) : Dx (upd H a (dA a (putK kvs k v))) a false (putF_ f (.inl k) v) (n + 1) := by
  refine .inl ⟨rfl, _, upd_same, fun j => ?_, ?_⟩
  · rw [valV_put]
    unfold putF_
    by_cases q : j = k
    · rw [if_pos q, if_pos (by rw [q])]
    · rw [if_neg q, if_neg (fun z => q (Sum.inl.inj z)), hf j]
  · have := length_putK kvs k v; omega
theorem dx_putB {zs : List (List IK × Addr × V)} {k : List IK} {c : Addr} (e : H a = some (dB a zs)) (hz : ∀ z ∈ zs, KeyV H (.ref z.2.1) (.inr z.1)) (hk : KeyV H (.ref c) (.inr k)) (hf : ∀ k, atZ zs k = f (.inr k)) (hn : zs.length ≤ n) :
    Dx (upd H a (dB a (putZ zs k c v))) a true (putF_ f (.inr k) v) (n + 1) := by
  have kp : Keep H (upd H a (dB a (putZ zs k c v))) := off_upd'.keepD fun xs q => by rw [e] at q; cases q
  refine .inr ⟨rfl, _, upd_same, fun z h => ?_, fun j => ?_, ?_⟩
  · rcases mem_putZ h with ⟨z0, h0, e1, e2⟩ | ⟨e1, e2⟩
    · rw [e1, e2]; exact (hz z0 h0).keep kp
    · rw [e1, e2]; exact hk.keep kp
  · rw [atZ_put]
    unfold putF_
    by_cases q : j = k
    · rw [if_pos q, if_pos (by rw [q])]
    · rw [if_neg q, if_neg (fun z => q (Sum.inr.inj z)), hf j]
  · have := length_putZ zs k c v; omega
theorem x_set {Q : Unit → Shared → Prop} (hu : A.units + 2 < cLine) (I : Inv X pins σ H s) (d : Dx H a srt f n) (hk : KeyV H y k) (hs : kSort k = srt) (hn : n < sizeLine) (ry : RelV y u) (rv : RelV v r)
    (h : ∀ H' s', Off a H H' → Dx H' a srt (putF_ f k v) (n + 1) → Inv X pins σ H' s' → Q () s') : wpAny (model X.prog X.w) A (setItem (.ref a) u r) Q E s := by
  rcases d with ⟨rfl, kvs, e, hf, hl⟩ | ⟨rfl, zs, e, hz, hf, hl⟩
  · cases k with
    | inr _ => cases hs
    | inl k =>
      obtain ⟨z, hd, vs, rel, dd⟩ := da_of I.hok e
      have hvz : vs.length ≤ sizeLine := by rw [← rel.length]; exact z
      have hl' : (putK kvs k v).length ≤ sizeLine := by have := length_putK kvs k v; omega
      refine wpAny_setItem_pairs (knd := iaKind X.prog X.w) (hsz := hvz) (ia_is hk ry) dd fun h' dd' hs' => h _ _ off_upd' (dx_putA e hf hl) ?_
      exact da_new I e hs' hl' hd (rel.put k rv) dd'
  · obtain ⟨c, ks, rfl, rfl⟩ := key_ref hk hs
    cases ry
    obtain ⟨z, hd, xs, rel, dd⟩ := db_of I.hok e hz
    have hvz : xs.length ≤ sizeLine := by rw [← rel.length]; exact z
    have hl' : (putZ zs ks c v).length ≤ sizeLine := by have := length_putZ zs ks c v; omega
    refine wpAny_setItem_heap (knd := tkKind X.prog X.w) (hsz := hvz) hu (tk_is I.hok hk) dd fun h' dd' hs' => h _ _ off_upd' (dx_putB (c := c) e hz hk hf hl) ?_
    exact db_new I e hs' hl' hd (rel.put ks rv) dd'
theorem x_type (I : Inv X pins σ H s) (d : Dx H a srt f n) : s.TypeIs (.ref a) "dict" ∧ ∀ b, Value.ref a = .ref b → ∃ ob, s.heap.get? b = some ob ∧ ob.dict = none := by
  rcases d with ⟨_, kvs, e, _, _⟩ | ⟨_, zs, e, hz, _, _⟩
  · obtain ⟨_, _, vs, _, dd⟩ := da_of I.hok e
    refine ⟨dd.typeIs, fun b q => ?_⟩
    cases q
    obtain ⟨ob, _, _, h1, h2, _⟩ := dd
    exact ⟨ob, h1, h2.2.1⟩
  · obtain ⟨_, _, xs, _, dd⟩ := db_of I.hok e hz
    refine ⟨dd.typeIs, fun b q => ?_⟩
    cases q
    obtain ⟨ob, _, _, h1, h2, _⟩ := dd
    exact ⟨ob, h1, h2.2.1⟩
end
/-! ### the rules -/
section
variable {X : Cx}
theorem op_xnotin (hu : X.A.units + 64 < cLine) : OpR X (compareOp .NotIn) (rXIn true) := by
  intro pins s σ H x y v u Q I rx ry h
  obtain ⟨a, srt, f, n, k, rfl, d, hk, hs, q⟩ := h
  cases ry
  exact x_notIn (by omega) I d hk hs rx fun s' I' => ⟨.bl _, H, I', rfl, q⟩
theorem pe_xget {o i : Expr} {pos : Pos} {td ty : TE} (hu : X.A.units + 64 < cLine) (ho : PE X o td) (hi : PE X i ty) (hs : NoSl i) : PE X (.Subscript o i pos) (tOp rXGet td ty) := by
  intro pins s σ H Q I h
  refine subD_of PySem.F.slot_dict_getitem.lookup hs (thn (ho pins s σ H _ I h) fun u s1 ⟨x, H1, I1, rx, q1⟩ => thn (hi pins s1 σ H1 _ I1 q1) fun iv s2 ⟨y, H2, I2, ry, a, srt, f, n, k, v, ex, d, hk, hs', ev, q2⟩ => ?_)
  subst ex
  obtain rfl : u = Value.ref a := rx
  exact ⟨(x_type I2 d).1, x_get (by omega) I2 d hk hs' ry ev fun w' s3 I3 rw' => ⟨v, H2, I3, rw', q2⟩⟩
theorem set_X (hu : X.A.units + 64 < cLine) : PSet X rXSet := by
  intro pins s σ H o i v ov iv u Q I ro ri rv h
  obtain ⟨a, srt, f, n, k, rfl, d, hk, hs, hn, q⟩ := h
  cases ro
  exact x_set (by omega) I d hk hs hn ri rv fun H' s' o' d' I' => ⟨H', I', q H' o' d'⟩
theorem pm_dnewX {pos : Pos} : PE X (.Dict [] [] pos) mDnewX := fun pins s σ H Q I h => by
  obtain ⟨srt, h⟩ := h
  have hd : (s.heap.objs.size == sysModules) = false := beq_eq_false_iff_ne.mpr (Ne.symm (Nat.ne_of_lt I.big))
  have hp := I.hok.fresh (Nat.le_refl s.heap.objs.size)
  cases srt with
  | false =>
    refine wpAny_Dict_empty ⟨.ref s.heap.objs.size, _, I.laid (a := s.heap.objs.size) (o := dA s.heap.objs.size []) (t' := s.toks) (fun _ _ q => Heap.get?_push_of_some _ q) (Nat.le_refl _) (DA.ok ⟨Nat.zero_le _, hd, X.prog, X.w, [], .nil, Heap.DictOf.new s.heap⟩), rfl, ?_⟩
    exact h _ _ hp (same_new hp _) (.inl ⟨rfl, [], upd_same, fun _ => rfl, Nat.le_refl _⟩)
  | true =>
    refine wpAny_Dict_empty ⟨.ref s.heap.objs.size, _, I.laid (a := s.heap.objs.size) (o := dB s.heap.objs.size []) (t' := s.toks) (fun _ _ q => Heap.get?_push_of_some _ q) (Nat.le_refl _) (DB.ok ⟨Nat.zero_le _, hd, [], .nil, _, #[], 0, Heap.get?_push_size _ rfl, ⟨rfl, rfl, rfl⟩, rfl, rfl, List.nodup_nil⟩), rfl, ?_⟩
    exact h _ _ hp (same_new hp _) (.inr ⟨rfl, [], upd_same, fun z hz => (nomatch hz), fun _ => rfl, Nat.le_refl _⟩)
end
end L2

end

section
-- KcSame
set_option Elab.async false
set_option linter.all false
set_option maxRecDepth 100000
set_option maxHeartbeats 4000000
namespace L2
open PySem PySem.Spec PyProof.Rows
section
variable {X : Cx}
end
end L2

end

section
-- KcEq
set_option Elab.async false
set_option linter.all false
set_option maxRecDepth 100000
set_option maxHeartbeats 4000000
namespace L2
open PySem PySem.Spec PyProof.Rows
/-! ### data behind a value: lists and tuples to any depth -/
mutual
inductive Dat (K : PySem.W.Frag) (H : Hp) : V → PyData → Prop where
  | non : Dat K H .non .none
  | bl (b : Bool) : Dat K H (.bl b) (.bool b)
  | int (i : Int) : Dat K H (.int i) (.int i)
  | str (x : Str) : Dat K H (.str x) (.str x)
  | lst {a : Addr} {xs : List V} {ds : List PyData} (e : SqL K H a xs) (h : Dats K H xs ds) : Dat K H (.ref a) (.list ds)
  | tup {a : Addr} {xs : List V} {ds : List PyData} (e : SqT K H a xs) (h : Dats K H xs ds) : Dat K H (.ref a) (.tuple ds)
inductive Dats (K : PySem.W.Frag) (H : Hp) : List V → List PyData → Prop where
  | nil : Dats K H [] []
  | cons {x : V} {xs : List V} {d : PyData} {ds : List PyData} (h : Dat K H x d) (t : Dats K H xs ds) : Dats K H (x :: xs) (d :: ds)
end
section
variable {X : Cx} {pins : List (Addr × Obj)} {σ : St} {H : Hp} {s : Shared}
mutual
theorem Dat.reads (I : Inv X pins σ H s) : ∀ {x : V} {d : PyData} {u : Value}, Dat X.K H x d → RelV x u → ∃ as, Reads s.heap u d as
  | _, _, _, .non, r => by cases r; exact ⟨_, .none⟩
  | _, _, _, .bl b, r => by cases r; exact ⟨_, .bool b⟩
  | _, _, _, .int i, r => by obtain ⟨t, rfl⟩ := r; exact ⟨_, .int i t⟩
  | _, _, _, .str x, r => by obtain ⟨t, rfl⟩ := r; exact ⟨_, .str x t⟩
  | _, _, _, .lst e h, r => by
    cases r
    obtain ⟨its, rv, ⟨o, n, h1, h2, h3, h4⟩, _⟩ := I.list e
    obtain ⟨as, ra⟩ := Dats.reads I h rv
    exact ⟨_, .list h1 h2 h4 (by simpa using ra)⟩
  | _, _, _, .tup e h, r => by
    cases r
    obtain ⟨its, rv, ⟨o, h1, h2, n, h3⟩, _⟩ := I.tuple e
    obtain ⟨as, ra⟩ := Dats.reads I h rv
    exact ⟨_, .tuple h1 h2 h3 (by simpa using ra)⟩
theorem Dats.reads (I : Inv X pins σ H s) : ∀ {xs : List V} {ds : List PyData} {us : List Value}, Dats X.K H xs ds → Vals xs us → ∃ as, ReadsAll s.heap us ds as
  | _, _, _, .nil, .nil => ⟨_, .nil⟩
  | _, _, _, .cons h t, .cons r q => by
    obtain ⟨as, ra⟩ := Dat.reads I h r
    obtain ⟨bs, rb⟩ := Dats.reads I t q
    exact ⟨_, .cons ra rb⟩
end
end
section
variable {X : Cx}
end
end L2

end

section
-- KcSameN
set_option Elab.async false
set_option linter.all false
set_option maxRecDepth 100000
set_option maxHeartbeats 4000000
namespace L2
open PySem PySem.Spec PyProof.Rows
mutual
theorem datD {K : PySem.W.Frag} {H : Hp} : ∀ {n : Nat} {x y : V}, SameD K H n x y → ∃ d, Dat K H x d ∧ Dat K H y d ∧ d.canLay0 = true ∧ d.depth ≤ n
  | n, x, _, .flat h => by
    cases x with
    | non => exact ⟨_, .non, .non, rfl, Nat.zero_le _⟩
    | bl b => exact ⟨_, .bl b, .bl b, rfl, Nat.zero_le _⟩
    | int i => exact ⟨_, .int i, .int i, rfl, Nat.zero_le _⟩
    | _ => cases h
  | _, _, _, .lst (xs := xs) (ys := ys) e1 e2 hl h => by
    obtain ⟨ds, h1, h2, h3, h4⟩ := datsD xs ys hl h
    exact ⟨_, .lst e1 h1, .lst e2 h2, h3, Nat.succ_le_succ h4⟩
  | _, _, _, .tup (xs := xs) (ys := ys) e1 e2 hl h => by
    obtain ⟨ds, h1, h2, h3, h4⟩ := datsD xs ys hl h
    exact ⟨_, .tup e1 h1, .tup e2 h2, h3, Nat.succ_le_succ h4⟩
theorem datsD {K : PySem.W.Frag} {H : Hp} {n : Nat} : ∀ (xs ys : List V), xs.length = ys.length → (∀ (i : Nat) (x y : V), xs[i]? = some x → ys[i]? = some y → SameD K H n x y) → ∃ ds, Dats K H xs ds ∧ Dats K H ys ds ∧ PyData.canLayAll0 ds = true ∧ PyData.depthAll ds ≤ n
  | [], [], _, _ => ⟨[], .nil, .nil, rfl, Nat.zero_le _⟩
  | x :: xs, y :: ys, hl, h => by
    obtain ⟨d, a1, a2, a3, a4⟩ := datD (h 0 x y rfl rfl)
    obtain ⟨ds, b1, b2, b3, b4⟩ := datsD xs ys (by simpa using hl) (fun i x y hx hy => h (i + 1) x y hx hy)
    refine ⟨d :: ds, .cons a1 b1, .cons a2 b2, ?_, ?_⟩
    · show (d.canLay0 && PyData.canLayAll0 ds) = true
      rw [a3, b3]; rfl
    · show max d.depth (PyData.depthAll ds) ≤ n
      omega
  | [], _ :: _, hl, _ => by simp at hl
  | _ :: _, [], hl, _ => by simp at hl
end
section
variable {X : Cx}
theorem op_sameE (hu : X.A.units + 64 < cLine) : OpR X (compareOp .Eq) (rSameD X.K false) := by
  intro pins s σ H x y v u Q I rx ry h
  obtain ⟨n, hn, hd, q⟩ := h
  obtain ⟨d, h1, h2, h3, h4⟩ := datD hd
  obtain ⟨as, ra⟩ := h1.reads I rx
  obtain ⟨bs, rb⟩ := h2.reads I ry
  have sh : SeqAt.shaped d = true := by unfold SeqAt.shaped; rw [h3, decide_eq_true (by omega)]; rfl
  refine eq_dataH ra rb sh sh hu ⟨.bl true, H, I, ?_, q⟩
  rw [SeqAt.eqv_refl d h3]; rfl
theorem op_sameN (hu : X.A.units + 64 < cLine) : OpR X (compareOp .NotEq) (rSameD X.K true) := by
  intro pins s σ H x y v u Q I rx ry h
  obtain ⟨n, hn, hd, q⟩ := h
  obtain ⟨d, h1, h2, h3, h4⟩ := datD hd
  obtain ⟨as, ra⟩ := h1.reads I rx
  obtain ⟨bs, rb⟩ := h2.reads I ry
  have sh : SeqAt.shaped d = true := by unfold SeqAt.shaped; rw [h3, decide_eq_true (by omega)]; rfl
  refine ne_dataH ra rb sh sh hu ⟨.bl false, H, I, ?_, q⟩
  rw [SeqAt.eqv_refl d h3]; rfl
end
end L2

end

section
-- KcIsN
set_option Elab.async false
set_option linter.all false
set_option maxRecDepth 100000
set_option maxHeartbeats 4000000
namespace L2
open PySem PySem.Spec PyProof.Rows
section
variable {X : Cx}
theorem op_isNone : OpR X (compareOp .Is) rIsNone := by
  intro pins s σ H x y v u Q I rx ry h
  obtain ⟨rfl, q⟩ := h
  cases ry
  refine wpAny_is_plain (by cases x <;> (first | (obtain ⟨t, rfl⟩ := rx; rfl) | (cases rx; rfl))) ⟨.bl (isN x), H, I, ?_, q⟩
  cases x <;> (first | (obtain ⟨t, rfl⟩ := rx; rfl) | (cases rx; rfl))
theorem op_isnNone : OpR X (compareOp .IsNot) rIsnNone := by
  intro pins s σ H x y v u Q I rx ry h
  obtain ⟨rfl, q⟩ := h
  cases ry
  refine wpAny_isNot_plain (by cases x <;> (first | (obtain ⟨t, rfl⟩ := rx; rfl) | (cases rx; rfl))) ⟨.bl (!isN x), H, I, ?_, q⟩
  cases x <;> (first | (obtain ⟨t, rfl⟩ := rx; rfl) | (cases rx; rfl))
end
end L2

end

set_option Elab.async false
set_option linter.all false
set_option maxRecDepth 100000
set_option maxHeartbeats 4000000
namespace Kc_k27
open PySem L2 PyProof.Rows
seal L2.PE L2.PA L2.PS L2.PSs L2.PT L2.PW L2.PI L2.PG L2.PGs L2.PO L2.PTL L2.OpR L2.UnR L2.CallR L2.SlR L2.IxR L2.PSet
noncomputable def top (i : Nat) : Stmt := PySem.Challenge.pw_knowcards_k27_steps_counted.main.body.getD i (.Pass ⟨0, 0, 0, 0⟩)
noncomputable abbrev S_steps_from : Stmt := top 1
theorem sc_steps_from : FnScope ["many", "views", "deal"] ["many", "views", "deal"] (defScope S_steps_from) := ⟨rfl, rfl, rfl, by decide +kernel, rfl, by decide +kernel, by decide +kernel⟩
theorem v_steps_from_0 : VarAt ["many", "views", "deal"] (defScope S_steps_from) 0 "many" := ⟨rfl, by first | exact Or.inl rfl | exact Or.inr (Or.inl rfl) | exact Or.inr (Or.inr rfl), by decide, by decide⟩
theorem v_steps_from_1 : VarAt ["many", "views", "deal"] (defScope S_steps_from) 1 "views" := ⟨rfl, by first | exact Or.inl rfl | exact Or.inr (Or.inl rfl) | exact Or.inr (Or.inr rfl), by decide, by decide⟩
theorem v_steps_from_2 : VarAt ["many", "views", "deal"] (defScope S_steps_from) 2 "deal" := ⟨rfl, by first | exact Or.inl rfl | exact Or.inr (Or.inl rfl) | exact Or.inr (Or.inr rfl), by decide, by decide⟩
noncomputable abbrev S_roads_from : Stmt := top 2
theorem sc_roads_from : FnScope ["many", "views", "deal", "groups", "roads", "newest"] ["many", "views", "deal"] (defScope S_roads_from) := ⟨rfl, rfl, rfl, by decide +kernel, rfl, by decide +kernel, by decide +kernel⟩
theorem v_roads_from_0 : VarAt ["many", "views", "deal", "groups", "roads", "newest"] (defScope S_roads_from) 0 "many" := ⟨rfl, by first | exact Or.inl rfl | exact Or.inr (Or.inl rfl) | exact Or.inr (Or.inr rfl), by decide, by decide⟩
theorem v_roads_from_1 : VarAt ["many", "views", "deal", "groups", "roads", "newest"] (defScope S_roads_from) 1 "views" := ⟨rfl, by first | exact Or.inl rfl | exact Or.inr (Or.inl rfl) | exact Or.inr (Or.inr rfl), by decide, by decide⟩
theorem v_roads_from_2 : VarAt ["many", "views", "deal", "groups", "roads", "newest"] (defScope S_roads_from) 2 "deal" := ⟨rfl, by first | exact Or.inl rfl | exact Or.inr (Or.inl rfl) | exact Or.inr (Or.inr rfl), by decide, by decide⟩
theorem v_roads_from_3 : VarAt ["many", "views", "deal", "groups", "roads", "newest"] (defScope S_roads_from) 3 "groups" := ⟨rfl, by first | exact Or.inl rfl | exact Or.inr (Or.inl rfl) | exact Or.inr (Or.inr rfl), by decide, by decide⟩
theorem v_roads_from_4 : VarAt ["many", "views", "deal", "groups", "roads", "newest"] (defScope S_roads_from) 4 "roads" := ⟨rfl, by first | exact Or.inl rfl | exact Or.inr (Or.inl rfl) | exact Or.inr (Or.inr rfl), by decide, by decide⟩
theorem v_roads_from_5 : VarAt ["many", "views", "deal", "groups", "roads", "newest"] (defScope S_roads_from) 5 "newest" := ⟨rfl, by first | exact Or.inl rfl | exact Or.inr (Or.inl rfl) | exact Or.inr (Or.inr rfl), by decide, by decide⟩
noncomputable abbrev S_groups_of : Stmt := top 3
theorem sc_groups_of : FnScope ["view", "groups", "thing", "least"] ["view"] (defScope S_groups_of) := ⟨rfl, rfl, rfl, by decide +kernel, rfl, by decide +kernel, by decide +kernel⟩
theorem v_groups_of_0 : VarAt ["view", "groups", "thing", "least"] (defScope S_groups_of) 0 "view" := ⟨rfl, by first | exact Or.inl rfl | exact Or.inr (Or.inl rfl) | exact Or.inr (Or.inr rfl), by decide, by decide⟩
theorem v_groups_of_1 : VarAt ["view", "groups", "thing", "least"] (defScope S_groups_of) 1 "groups" := ⟨rfl, by first | exact Or.inl rfl | exact Or.inr (Or.inl rfl) | exact Or.inr (Or.inr rfl), by decide, by decide⟩
theorem v_groups_of_2 : VarAt ["view", "groups", "thing", "least"] (defScope S_groups_of) 2 "thing" := ⟨rfl, by first | exact Or.inl rfl | exact Or.inr (Or.inl rfl) | exact Or.inr (Or.inr rfl), by decide, by decide⟩
theorem v_groups_of_3 : VarAt ["view", "groups", "thing", "least"] (defScope S_groups_of) 3 "least" := ⟨rfl, by first | exact Or.inl rfl | exact Or.inr (Or.inl rfl) | exact Or.inr (Or.inr rfl), by decide, by decide⟩
noncomputable abbrev S_one_step_on : Stmt := top 4
theorem sc_one_step_on : FnScope ["views", "groups", "roads", "newest", "further", "thing", "k", "view", "other"] ["views", "groups", "roads", "newest"] (defScope S_one_step_on) := ⟨rfl, rfl, rfl, by decide +kernel, rfl, by decide +kernel, by decide +kernel⟩
theorem v_one_step_on_0 : VarAt ["views", "groups", "roads", "newest", "further", "thing", "k", "view", "other"] (defScope S_one_step_on) 0 "views" := ⟨rfl, by first | exact Or.inl rfl | exact Or.inr (Or.inl rfl) | exact Or.inr (Or.inr rfl), by decide, by decide⟩
theorem v_one_step_on_1 : VarAt ["views", "groups", "roads", "newest", "further", "thing", "k", "view", "other"] (defScope S_one_step_on) 1 "groups" := ⟨rfl, by first | exact Or.inl rfl | exact Or.inr (Or.inl rfl) | exact Or.inr (Or.inr rfl), by decide, by decide⟩
theorem v_one_step_on_2 : VarAt ["views", "groups", "roads", "newest", "further", "thing", "k", "view", "other"] (defScope S_one_step_on) 2 "roads" := ⟨rfl, by first | exact Or.inl rfl | exact Or.inr (Or.inl rfl) | exact Or.inr (Or.inr rfl), by decide, by decide⟩
theorem v_one_step_on_3 : VarAt ["views", "groups", "roads", "newest", "further", "thing", "k", "view", "other"] (defScope S_one_step_on) 3 "newest" := ⟨rfl, by first | exact Or.inl rfl | exact Or.inr (Or.inl rfl) | exact Or.inr (Or.inr rfl), by decide, by decide⟩
theorem v_one_step_on_4 : VarAt ["views", "groups", "roads", "newest", "further", "thing", "k", "view", "other"] (defScope S_one_step_on) 4 "further" := ⟨rfl, by first | exact Or.inl rfl | exact Or.inr (Or.inl rfl) | exact Or.inr (Or.inr rfl), by decide, by decide⟩
theorem v_one_step_on_5 : VarAt ["views", "groups", "roads", "newest", "further", "thing", "k", "view", "other"] (defScope S_one_step_on) 5 "thing" := ⟨rfl, by first | exact Or.inl rfl | exact Or.inr (Or.inl rfl) | exact Or.inr (Or.inr rfl), by decide, by decide⟩
theorem v_one_step_on_6 : VarAt ["views", "groups", "roads", "newest", "further", "thing", "k", "view", "other"] (defScope S_one_step_on) 6 "k" := ⟨rfl, by first | exact Or.inl rfl | exact Or.inr (Or.inl rfl) | exact Or.inr (Or.inr rfl), by decide, by decide⟩
theorem v_one_step_on_7 : VarAt ["views", "groups", "roads", "newest", "further", "thing", "k", "view", "other"] (defScope S_one_step_on) 7 "view" := ⟨rfl, by first | exact Or.inl rfl | exact Or.inr (Or.inl rfl) | exact Or.inr (Or.inr rfl), by decide, by decide⟩
theorem v_one_step_on_8 : VarAt ["views", "groups", "roads", "newest", "further", "thing", "k", "view", "other"] (defScope S_one_step_on) 8 "other" := ⟨rfl, by first | exact Or.inl rfl | exact Or.inr (Or.inl rfl) | exact Or.inr (Or.inr rfl), by decide, by decide⟩
noncomputable abbrev S__law_mixed : Stmt := top 6
theorem sc__law_mixed : FnScope ["_law_base", "_law_k", "_law_number"] ["_law_base", "_law_k"] (defScope S__law_mixed) := ⟨rfl, rfl, rfl, by decide +kernel, rfl, by decide +kernel, by decide +kernel⟩
theorem v__law_mixed_0 : VarAt ["_law_base", "_law_k", "_law_number"] (defScope S__law_mixed) 0 "_law_base" := ⟨rfl, by first | exact Or.inl rfl | exact Or.inr (Or.inl rfl) | exact Or.inr (Or.inr rfl), by decide, by decide⟩
theorem v__law_mixed_1 : VarAt ["_law_base", "_law_k", "_law_number"] (defScope S__law_mixed) 1 "_law_k" := ⟨rfl, by first | exact Or.inl rfl | exact Or.inr (Or.inl rfl) | exact Or.inr (Or.inr rfl), by decide, by decide⟩
theorem v__law_mixed_2 : VarAt ["_law_base", "_law_k", "_law_number"] (defScope S__law_mixed) 2 "_law_number" := ⟨rfl, by first | exact Or.inl rfl | exact Or.inr (Or.inl rfl) | exact Or.inr (Or.inr rfl), by decide, by decide⟩
noncomputable abbrev S__law_cell : Stmt := top 7
theorem sc__law_cell : FnScope ["_law_script", "_law_k", "_law_number"] ["_law_script", "_law_k"] (defScope S__law_cell) := ⟨rfl, rfl, rfl, by decide +kernel, rfl, by decide +kernel, by decide +kernel⟩
theorem v__law_cell_0 : VarAt ["_law_script", "_law_k", "_law_number"] (defScope S__law_cell) 0 "_law_script" := ⟨rfl, by first | exact Or.inl rfl | exact Or.inr (Or.inl rfl) | exact Or.inr (Or.inr rfl), by decide, by decide⟩
theorem v__law_cell_1 : VarAt ["_law_script", "_law_k", "_law_number"] (defScope S__law_cell) 1 "_law_k" := ⟨rfl, by first | exact Or.inl rfl | exact Or.inr (Or.inl rfl) | exact Or.inr (Or.inr rfl), by decide, by decide⟩
theorem v__law_cell_2 : VarAt ["_law_script", "_law_k", "_law_number"] (defScope S__law_cell) 2 "_law_number" := ⟨rfl, by first | exact Or.inl rfl | exact Or.inr (Or.inl rfl) | exact Or.inr (Or.inr rfl), by decide, by decide⟩
noncomputable abbrev S__law_least : Stmt := top 8
theorem sc__law_least : FnScope ["_law_signs", "_law_first", "_law_found", "_law_place", "_law_sign"] ["_law_signs"] (defScope S__law_least) := ⟨rfl, rfl, rfl, by decide +kernel, rfl, by decide +kernel, by decide +kernel⟩
theorem v__law_least_0 : VarAt ["_law_signs", "_law_first", "_law_found", "_law_place", "_law_sign"] (defScope S__law_least) 0 "_law_signs" := ⟨rfl, by first | exact Or.inl rfl | exact Or.inr (Or.inl rfl) | exact Or.inr (Or.inr rfl), by decide, by decide⟩
theorem v__law_least_1 : VarAt ["_law_signs", "_law_first", "_law_found", "_law_place", "_law_sign"] (defScope S__law_least) 1 "_law_first" := ⟨rfl, by first | exact Or.inl rfl | exact Or.inr (Or.inl rfl) | exact Or.inr (Or.inr rfl), by decide, by decide⟩
theorem v__law_least_2 : VarAt ["_law_signs", "_law_first", "_law_found", "_law_place", "_law_sign"] (defScope S__law_least) 2 "_law_found" := ⟨rfl, by first | exact Or.inl rfl | exact Or.inr (Or.inl rfl) | exact Or.inr (Or.inr rfl), by decide, by decide⟩
theorem v__law_least_3 : VarAt ["_law_signs", "_law_first", "_law_found", "_law_place", "_law_sign"] (defScope S__law_least) 3 "_law_place" := ⟨rfl, by first | exact Or.inl rfl | exact Or.inr (Or.inl rfl) | exact Or.inr (Or.inr rfl), by decide, by decide⟩
theorem v__law_least_4 : VarAt ["_law_signs", "_law_first", "_law_found", "_law_place", "_law_sign"] (defScope S__law_least) 4 "_law_sign" := ⟨rfl, by first | exact Or.inl rfl | exact Or.inr (Or.inl rfl) | exact Or.inr (Or.inr rfl), by decide, by decide⟩
noncomputable abbrev S__law_wholes : Stmt := top 9
theorem sc__law_wholes : FnScope ["_law_found"] ["_law_found"] (defScope S__law_wholes) := ⟨rfl, rfl, rfl, by decide +kernel, rfl, by decide +kernel, by decide +kernel⟩
theorem v__law_wholes_0 : VarAt ["_law_found"] (defScope S__law_wholes) 0 "_law_found" := ⟨rfl, by first | exact Or.inl rfl | exact Or.inr (Or.inl rfl) | exact Or.inr (Or.inr rfl), by decide, by decide⟩
noncomputable abbrev S__law_view : Stmt := top 10
theorem sc__law_view : FnScope ["_law_script", "_law_at", "_law_many", "_law_kinds", "_law_base"] ["_law_script", "_law_at", "_law_many"] (defScope S__law_view) := ⟨rfl, rfl, rfl, by decide +kernel, rfl, by decide +kernel, by decide +kernel⟩
theorem v__law_view_0 : VarAt ["_law_script", "_law_at", "_law_many", "_law_kinds", "_law_base"] (defScope S__law_view) 0 "_law_script" := ⟨rfl, by first | exact Or.inl rfl | exact Or.inr (Or.inl rfl) | exact Or.inr (Or.inr rfl), by decide, by decide⟩
theorem v__law_view_1 : VarAt ["_law_script", "_law_at", "_law_many", "_law_kinds", "_law_base"] (defScope S__law_view) 1 "_law_at" := ⟨rfl, by first | exact Or.inl rfl | exact Or.inr (Or.inl rfl) | exact Or.inr (Or.inr rfl), by decide, by decide⟩
theorem v__law_view_2 : VarAt ["_law_script", "_law_at", "_law_many", "_law_kinds", "_law_base"] (defScope S__law_view) 2 "_law_many" := ⟨rfl, by first | exact Or.inl rfl | exact Or.inr (Or.inl rfl) | exact Or.inr (Or.inr rfl), by decide, by decide⟩
noncomputable abbrev S__law_pairs : Stmt := top 11
theorem sc__law_pairs : FnScope ["_law_many", "_law_k", "_law_turn"] ["_law_many", "_law_k", "_law_turn"] (defScope S__law_pairs) := ⟨rfl, rfl, rfl, by decide +kernel, rfl, by decide +kernel, by decide +kernel⟩
theorem v__law_pairs_0 : VarAt ["_law_many", "_law_k", "_law_turn"] (defScope S__law_pairs) 0 "_law_many" := ⟨rfl, by first | exact Or.inl rfl | exact Or.inr (Or.inl rfl) | exact Or.inr (Or.inr rfl), by decide, by decide⟩
noncomputable abbrev S__law_met : Stmt := top 12
theorem sc__law_met : FnScope ["_law_many", "_law_views", "_law_deal", "_law_found", "_law_front", "_law_place", "_law_view_here", "_law_other"] ["_law_many", "_law_views", "_law_deal"] (defScope S__law_met) := ⟨rfl, rfl, rfl, by decide +kernel, rfl, by decide +kernel, by decide +kernel⟩
theorem v__law_met_0 : VarAt ["_law_many", "_law_views", "_law_deal", "_law_found", "_law_front", "_law_place", "_law_view_here", "_law_other"] (defScope S__law_met) 0 "_law_many" := ⟨rfl, by first | exact Or.inl rfl | exact Or.inr (Or.inl rfl) | exact Or.inr (Or.inr rfl), by decide, by decide⟩
theorem v__law_met_1 : VarAt ["_law_many", "_law_views", "_law_deal", "_law_found", "_law_front", "_law_place", "_law_view_here", "_law_other"] (defScope S__law_met) 1 "_law_views" := ⟨rfl, by first | exact Or.inl rfl | exact Or.inr (Or.inl rfl) | exact Or.inr (Or.inr rfl), by decide, by decide⟩
theorem v__law_met_2 : VarAt ["_law_many", "_law_views", "_law_deal", "_law_found", "_law_front", "_law_place", "_law_view_here", "_law_other"] (defScope S__law_met) 2 "_law_deal" := ⟨rfl, by first | exact Or.inl rfl | exact Or.inr (Or.inl rfl) | exact Or.inr (Or.inr rfl), by decide, by decide⟩
theorem v__law_met_3 : VarAt ["_law_many", "_law_views", "_law_deal", "_law_found", "_law_front", "_law_place", "_law_view_here", "_law_other"] (defScope S__law_met) 3 "_law_found" := ⟨rfl, by first | exact Or.inl rfl | exact Or.inr (Or.inl rfl) | exact Or.inr (Or.inr rfl), by decide, by decide⟩
theorem v__law_met_4 : VarAt ["_law_many", "_law_views", "_law_deal", "_law_found", "_law_front", "_law_place", "_law_view_here", "_law_other"] (defScope S__law_met) 4 "_law_front" := ⟨rfl, by first | exact Or.inl rfl | exact Or.inr (Or.inl rfl) | exact Or.inr (Or.inr rfl), by decide, by decide⟩
theorem v__law_met_5 : VarAt ["_law_many", "_law_views", "_law_deal", "_law_found", "_law_front", "_law_place", "_law_view_here", "_law_other"] (defScope S__law_met) 5 "_law_place" := ⟨rfl, by first | exact Or.inl rfl | exact Or.inr (Or.inl rfl) | exact Or.inr (Or.inr rfl), by decide, by decide⟩
theorem v__law_met_6 : VarAt ["_law_many", "_law_views", "_law_deal", "_law_found", "_law_front", "_law_place", "_law_view_here", "_law_other"] (defScope S__law_met) 6 "_law_view_here" := ⟨rfl, by first | exact Or.inl rfl | exact Or.inr (Or.inl rfl) | exact Or.inr (Or.inr rfl), by decide, by decide⟩
theorem v__law_met_7 : VarAt ["_law_many", "_law_views", "_law_deal", "_law_found", "_law_front", "_law_place", "_law_view_here", "_law_other"] (defScope S__law_met) 7 "_law_other" := ⟨rfl, by first | exact Or.inl rfl | exact Or.inr (Or.inl rfl) | exact Or.inr (Or.inr rfl), by decide, by decide⟩
noncomputable abbrev S__law_one_view : Stmt := top 13
theorem sc__law_one_view : FnScope ["_law_view_here", "_law_found", "_law_low", "_law_high", "_law_place", "_law_least_here"] ["_law_view_here", "_law_found"] (defScope S__law_one_view) := ⟨rfl, rfl, rfl, by decide +kernel, rfl, by decide +kernel, by decide +kernel⟩
theorem v__law_one_view_0 : VarAt ["_law_view_here", "_law_found", "_law_low", "_law_high", "_law_place", "_law_least_here"] (defScope S__law_one_view) 0 "_law_view_here" := ⟨rfl, by first | exact Or.inl rfl | exact Or.inr (Or.inl rfl) | exact Or.inr (Or.inr rfl), by decide, by decide⟩
theorem v__law_one_view_1 : VarAt ["_law_view_here", "_law_found", "_law_low", "_law_high", "_law_place", "_law_least_here"] (defScope S__law_one_view) 1 "_law_found" := ⟨rfl, by first | exact Or.inl rfl | exact Or.inr (Or.inl rfl) | exact Or.inr (Or.inr rfl), by decide, by decide⟩
theorem v__law_one_view_2 : VarAt ["_law_view_here", "_law_found", "_law_low", "_law_high", "_law_place", "_law_least_here"] (defScope S__law_one_view) 2 "_law_low" := ⟨rfl, by first | exact Or.inl rfl | exact Or.inr (Or.inl rfl) | exact Or.inr (Or.inr rfl), by decide, by decide⟩
theorem v__law_one_view_3 : VarAt ["_law_view_here", "_law_found", "_law_low", "_law_high", "_law_place", "_law_least_here"] (defScope S__law_one_view) 3 "_law_high" := ⟨rfl, by first | exact Or.inl rfl | exact Or.inr (Or.inl rfl) | exact Or.inr (Or.inr rfl), by decide, by decide⟩
theorem v__law_one_view_4 : VarAt ["_law_view_here", "_law_found", "_law_low", "_law_high", "_law_place", "_law_least_here"] (defScope S__law_one_view) 4 "_law_place" := ⟨rfl, by first | exact Or.inl rfl | exact Or.inr (Or.inl rfl) | exact Or.inr (Or.inr rfl), by decide, by decide⟩
theorem v__law_one_view_5 : VarAt ["_law_view_here", "_law_found", "_law_low", "_law_high", "_law_place", "_law_least_here"] (defScope S__law_one_view) 5 "_law_least_here" := ⟨rfl, by first | exact Or.inl rfl | exact Or.inr (Or.inl rfl) | exact Or.inr (Or.inr rfl), by decide, by decide⟩
noncomputable abbrev S__law_has_one_less : Stmt := top 14
theorem sc__law_has_one_less : FnScope ["_law_views", "_law_found", "_law_place", "_law_view_here", "_law_other"] ["_law_views", "_law_found", "_law_place"] (defScope S__law_has_one_less) := ⟨rfl, rfl, rfl, by decide +kernel, rfl, by decide +kernel, by decide +kernel⟩
theorem v__law_has_one_less_0 : VarAt ["_law_views", "_law_found", "_law_place", "_law_view_here", "_law_other"] (defScope S__law_has_one_less) 0 "_law_views" := ⟨rfl, by first | exact Or.inl rfl | exact Or.inr (Or.inl rfl) | exact Or.inr (Or.inr rfl), by decide, by decide⟩
theorem v__law_has_one_less_1 : VarAt ["_law_views", "_law_found", "_law_place", "_law_view_here", "_law_other"] (defScope S__law_has_one_less) 1 "_law_found" := ⟨rfl, by first | exact Or.inl rfl | exact Or.inr (Or.inl rfl) | exact Or.inr (Or.inr rfl), by decide, by decide⟩
theorem v__law_has_one_less_2 : VarAt ["_law_views", "_law_found", "_law_place", "_law_view_here", "_law_other"] (defScope S__law_has_one_less) 2 "_law_place" := ⟨rfl, by first | exact Or.inl rfl | exact Or.inr (Or.inl rfl) | exact Or.inr (Or.inr rfl), by decide, by decide⟩
theorem v__law_has_one_less_3 : VarAt ["_law_views", "_law_found", "_law_place", "_law_view_here", "_law_other"] (defScope S__law_has_one_less) 3 "_law_view_here" := ⟨rfl, by first | exact Or.inl rfl | exact Or.inr (Or.inl rfl) | exact Or.inr (Or.inr rfl), by decide, by decide⟩
theorem v__law_has_one_less_4 : VarAt ["_law_views", "_law_found", "_law_place", "_law_view_here", "_law_other"] (defScope S__law_has_one_less) 4 "_law_other" := ⟨rfl, by first | exact Or.inl rfl | exact Or.inr (Or.inl rfl) | exact Or.inr (Or.inr rfl), by decide, by decide⟩
noncomputable abbrev S__law_right : Stmt := top 15
theorem sc__law_right : FnScope ["_law_found", "_law_many", "_law_views", "_law_deal", "_law_met_here", "_law_place"] ["_law_found", "_law_many", "_law_views", "_law_deal"] (defScope S__law_right) := ⟨rfl, rfl, rfl, by decide +kernel, rfl, by decide +kernel, by decide +kernel⟩
theorem v__law_right_0 : VarAt ["_law_found", "_law_many", "_law_views", "_law_deal", "_law_met_here", "_law_place"] (defScope S__law_right) 0 "_law_found" := ⟨rfl, by first | exact Or.inl rfl | exact Or.inr (Or.inl rfl) | exact Or.inr (Or.inr rfl), by decide, by decide⟩
theorem v__law_right_1 : VarAt ["_law_found", "_law_many", "_law_views", "_law_deal", "_law_met_here", "_law_place"] (defScope S__law_right) 1 "_law_many" := ⟨rfl, by first | exact Or.inl rfl | exact Or.inr (Or.inl rfl) | exact Or.inr (Or.inr rfl), by decide, by decide⟩
theorem v__law_right_2 : VarAt ["_law_found", "_law_many", "_law_views", "_law_deal", "_law_met_here", "_law_place"] (defScope S__law_right) 2 "_law_views" := ⟨rfl, by first | exact Or.inl rfl | exact Or.inr (Or.inl rfl) | exact Or.inr (Or.inr rfl), by decide, by decide⟩
theorem v__law_right_3 : VarAt ["_law_found", "_law_many", "_law_views", "_law_deal", "_law_met_here", "_law_place"] (defScope S__law_right) 3 "_law_deal" := ⟨rfl, by first | exact Or.inl rfl | exact Or.inr (Or.inl rfl) | exact Or.inr (Or.inr rfl), by decide, by decide⟩
theorem v__law_right_4 : VarAt ["_law_found", "_law_many", "_law_views", "_law_deal", "_law_met_here", "_law_place"] (defScope S__law_right) 4 "_law_met_here" := ⟨rfl, by first | exact Or.inl rfl | exact Or.inr (Or.inl rfl) | exact Or.inr (Or.inr rfl), by decide, by decide⟩
theorem v__law_right_5 : VarAt ["_law_found", "_law_many", "_law_views", "_law_deal", "_law_met_here", "_law_place"] (defScope S__law_right) 5 "_law_place" := ⟨rfl, by first | exact Or.inl rfl | exact Or.inr (Or.inl rfl) | exact Or.inr (Or.inr rfl), by decide, by decide⟩
noncomputable abbrev S_law : Stmt := top 16
theorem sc_law : FnScope ["_law_script", "_law_many", "_law_views", "_law_k", "_law_deal", "_law_handed", "_law_found", "_law_kept"] ["_law_script"] (defScope S_law) := ⟨rfl, rfl, rfl, by decide +kernel, rfl, by decide +kernel, by decide +kernel⟩
theorem v_law_0 : VarAt ["_law_script", "_law_many", "_law_views", "_law_k", "_law_deal", "_law_handed", "_law_found", "_law_kept"] (defScope S_law) 0 "_law_script" := ⟨rfl, by first | exact Or.inl rfl | exact Or.inr (Or.inl rfl) | exact Or.inr (Or.inr rfl), by decide, by decide⟩
theorem v_law_1 : VarAt ["_law_script", "_law_many", "_law_views", "_law_k", "_law_deal", "_law_handed", "_law_found", "_law_kept"] (defScope S_law) 1 "_law_many" := ⟨rfl, by first | exact Or.inl rfl | exact Or.inr (Or.inl rfl) | exact Or.inr (Or.inr rfl), by decide, by decide⟩
theorem v_law_2 : VarAt ["_law_script", "_law_many", "_law_views", "_law_k", "_law_deal", "_law_handed", "_law_found", "_law_kept"] (defScope S_law) 2 "_law_views" := ⟨rfl, by first | exact Or.inl rfl | exact Or.inr (Or.inl rfl) | exact Or.inr (Or.inr rfl), by decide, by decide⟩
theorem v_law_3 : VarAt ["_law_script", "_law_many", "_law_views", "_law_k", "_law_deal", "_law_handed", "_law_found", "_law_kept"] (defScope S_law) 3 "_law_k" := ⟨rfl, by first | exact Or.inl rfl | exact Or.inr (Or.inl rfl) | exact Or.inr (Or.inr rfl), by decide, by decide⟩
theorem v_law_4 : VarAt ["_law_script", "_law_many", "_law_views", "_law_k", "_law_deal", "_law_handed", "_law_found", "_law_kept"] (defScope S_law) 4 "_law_deal" := ⟨rfl, by first | exact Or.inl rfl | exact Or.inr (Or.inl rfl) | exact Or.inr (Or.inr rfl), by decide, by decide⟩
theorem v_law_5 : VarAt ["_law_script", "_law_many", "_law_views", "_law_k", "_law_deal", "_law_handed", "_law_found", "_law_kept"] (defScope S_law) 5 "_law_handed" := ⟨rfl, by first | exact Or.inl rfl | exact Or.inr (Or.inl rfl) | exact Or.inr (Or.inr rfl), by decide, by decide⟩
theorem v_law_6 : VarAt ["_law_script", "_law_many", "_law_views", "_law_k", "_law_deal", "_law_handed", "_law_found", "_law_kept"] (defScope S_law) 6 "_law_found" := ⟨rfl, by first | exact Or.inl rfl | exact Or.inr (Or.inl rfl) | exact Or.inr (Or.inr rfl), by decide, by decide⟩
theorem v_law_7 : VarAt ["_law_script", "_law_many", "_law_views", "_law_k", "_law_deal", "_law_handed", "_law_found", "_law_kept"] (defScope S_law) 7 "_law_kept" := ⟨rfl, by first | exact Or.inl rfl | exact Or.inr (Or.inl rfl) | exact Or.inr (Or.inr rfl), by decide, by decide⟩
section
variable {P : Program} {w : World} {K : PySem.W.Frag} {mg : Str → Option Value} {base : Heap}
theorem ok_steps_from {f : Addr} {fd : FuncData} (D : Def K mg "steps_from" S_steps_from ["many", "views", "deal"] f fd) (B : Blt mg) (F_roads_from : FnB P w K mg base 2 "roads_from" ["many", "views", "deal"] (sp_roads_from K)) : FnB P w K mg base 3 "steps_from" ["many", "views", "deal"] (sp_steps_from K) := by
  refine D.ok sc_steps_from (fun vs H Q E h => len_steps_from h) (fun cdv A outer s H vs Q E hr h => ?_)
  have hu := hr.units0
  have hux := hr.units64
  exact ⟨t_steps_from K, (pss_one (ps_ret (pe_comp (sc := (defScope S_steps_from)) (NX := ["many", "views", "deal"]) (N := ["road"]) (ix := [none]) rfl (by refine ⟨rfl, ?_, ?_, ?_, ?_, rfl, ?_⟩ <;> decide +kernel) (pi_list (pe_callF F_roads_from (hr.mono (by decide)) (pac_Name (pvQ v_steps_from_0 rfl rfl) (pac_Name (pvQ v_steps_from_1 rfl rfl) (pac_Name (pvQ v_steps_from_2 rfl rfl) pa_nil))))) (by intros; exact (pg_name (i := 0) (show (["road"] : List Str).Nodup by decide +kernel) rfl (Or.inl rfl))) (by intros; exact ptl_nil) (by intros; exact (pe_ifExp (pt_cmpR op_isNone (pv 0) pe_non (nomark _)) pe_non (pe_ix ix_tup (pv 0) pe_int (fun _ _ => rfl))))))), rd_steps_from h⟩
theorem ok_roads_from {f : Addr} {fd : FuncData} (D : Def K mg "roads_from" S_roads_from ["many", "views", "deal"] f fd) (B : Blt mg) (F_groups_of : FnB P w K mg base 1 "groups_of" ["view"] (sp_groups_of K)) (F_one_step_on : FnB P w K mg base 1 "one_step_on" ["views", "groups", "roads", "newest"] (sp_one_step_on K)) : FnB P w K mg base 2 "roads_from" ["many", "views", "deal"] (sp_roads_from K) := by
  refine D.ok sc_roads_from (fun vs H Q E h => len_roads_from h) (fun cdv A outer s H vs Q E hr h => ?_)
  have hu := hr.units0
  have hux := hr.units64
  exact ⟨t_roads_from K, (pss_cons (ps_setComp (i := 3) sc_roads_from.nd rfl rfl (sc := (defScope S_roads_from)) (NX := ["many", "views", "deal", "groups", "roads", "newest"]) (N := ["view"]) (ix := [none]) rfl (by refine ⟨rfl, ?_, ?_, ?_, ?_, rfl, ?_⟩ <;> decide +kernel) (pi_list (pvQ v_roads_from_1 rfl rfl)) (by intros; exact (pg_name (i := 0) (show (["view"] : List Str).Nodup by decide +kernel) rfl (Or.inl rfl))) (by intros; exact ptl_nil) (by intros; exact (pe_callF F_groups_of (hr.mono (by decide)) (pac_Name (pv 0) pa_nil))))
    (pss_cons (ps_set (i := 4) sc_roads_from.nd rfl (Or.inl rfl) (pe_op om_rep (pm_lst (pac_Constant pe_non pa_nil)) (pvQ v_roads_from_0 rfl rfl)))
    (pss_cons (ps_asg (pm_tup (pac_Constant pe_int (pac_Constant pe_non (pac_Constant pe_non pa_nil)))) (pg_sub (pvQ v_roads_from_4 rfl rfl) (pvQ v_roads_from_2 rfl rfl) set_list))
    (pss_cons (ps_set (i := 5) sc_roads_from.nd rfl (Or.inl rfl) (pm_lst (pac_Name (pvQ v_roads_from_2 rfl rfl) pa_nil)))
    (pss_cons (ps_while PassesOwn.never (pt_cmpR op_gt (pe_callB call_len_seq rfl B.len boot_len (pac_Name (pvQ v_roads_from_5 rfl rfl) pa_nil)) pe_int (nomark _)) (pss_one (ps_set (i := 5) sc_roads_from.nd rfl (Or.inl rfl) (pe_callF F_one_step_on (hr.mono (by decide)) (pac_Name (pvQ v_roads_from_1 rfl rfl) (pac_Name (pvQ v_roads_from_3 rfl rfl) (pac_Name (pvQ v_roads_from_4 rfl rfl) (pac_Name (pvQ v_roads_from_5 rfl rfl) pa_nil))))))))
    (pss_one (ps_ret (pvQ v_roads_from_4 rfl rfl)))))))), rd_roads_from h⟩
theorem ok_groups_of {f : Addr} {fd : FuncData} (D : Def K mg "groups_of" S_groups_of ["view"] f fd) (B : Blt mg) : FnB P w K mg base 1 "groups_of" ["view"] (sp_groups_of K) := by
  refine D.ok sc_groups_of (fun vs H Q E h => len_groups_of h) (fun cdv A outer s H vs Q E hr h => ?_)
  have hu := hr.units0
  have hux := hr.units64
  exact ⟨t_groups_of K, (pss_cons (ps_setComp (i := 1) sc_groups_of.nd rfl rfl (sc := (defScope S_groups_of)) (NX := ["view", "groups", "thing", "least"]) (N := ["thing"]) (ix := [none]) rfl (by refine ⟨rfl, ?_, ?_, ?_, ?_, rfl, ?_⟩ <;> decide +kernel) (pi_list (pvQ v_groups_of_0 rfl rfl)) (by intros; exact (pg_name (i := 0) (show (["thing"] : List Str).Nodup by decide +kernel) rfl (Or.inl rfl))) (by intros; exact ptl_nil) (by intros; exact (pm_lst pa_nil)))
    (pss_cons (ps_for PassesOwn.never rfl (pi_enum srcL rfl B.enumerate (by decide) (pac_Name (pvQ v_groups_of_0 rfl rfl) pa_nil)) (pg_tup rfl (pgs_cons (pg_name (i := 2) sc_groups_of.nd rfl (Or.inl rfl)) (pgs_cons (pg_name (i := 3) sc_groups_of.nd rfl (Or.inl rfl)) pgs_nil))) (pss_one (ps_expr (pe_bm PySem.F.plainAttrs_list PySem.F.slot_list_append PySem.F.type_list_append mt_append (pe_ix ix_list (pvQ v_groups_of_1 rfl rfl) (pvQ v_groups_of_3 rfl rfl) (fun _ _ => rfl)) (pac_Name (pvQ v_groups_of_2 rfl rfl) pa_nil)))))
    (pss_one (ps_ret (pvQ v_groups_of_1 rfl rfl))))), rd_groups_of h⟩
theorem ok_one_step_on {f : Addr} {fd : FuncData} (D : Def K mg "one_step_on" S_one_step_on ["views", "groups", "roads", "newest"] f fd) (B : Blt mg) : FnB P w K mg base 1 "one_step_on" ["views", "groups", "roads", "newest"] (sp_one_step_on K) := by
  refine D.ok sc_one_step_on (fun vs H Q E h => len_one_step_on h) (fun cdv A outer s H vs Q E hr h => ?_)
  have hu := hr.units0
  have hux := hr.units64
  exact ⟨t_one_step_on K, (pss_cons (ps_set (i := 4) sc_one_step_on.nd rfl (Or.inl rfl) (pm_lst pa_nil))
    (pss_cons (ps_for PassesOwn.never rfl (pi_list (pvQ v_one_step_on_3 rfl rfl)) (pg_name (i := 5) sc_one_step_on.nd rfl (Or.inl rfl)) (pss_one (ps_for PassesOwn.never rfl (pi_enum srcL rfl B.enumerate (by decide) (pac_Name (pvQ v_one_step_on_0 rfl rfl) pa_nil)) (pg_tup rfl (pgs_cons (pg_name (i := 6) sc_one_step_on.nd rfl (Or.inl rfl)) (pgs_cons (pg_name (i := 7) sc_one_step_on.nd rfl (Or.inl rfl)) pgs_nil))) (pss_cons (ps_for PassesOwn.never rfl (pi_list (pe_ix ix_list (pe_ix ix_list (pvQ v_one_step_on_1 rfl rfl) (pvQ v_one_step_on_6 rfl rfl) (fun _ _ => rfl)) (pe_ix ix_list (pvQ v_one_step_on_7 rfl rfl) (pvQ v_one_step_on_5 rfl rfl) (fun _ _ => rfl)) (fun _ _ => rfl))) (pg_name (i := 8) sc_one_step_on.nd rfl (Or.inl rfl)) (pss_one (ps_if (pt_cmpR op_isNone (pe_ix ix_list (pvQ v_one_step_on_2 rfl rfl) (pvQ v_one_step_on_8 rfl rfl) (fun _ _ => rfl)) pe_non (nomark _)) (pss_cons (ps_asg (pm_tup (pac_BinOp (pe_op op_add (pe_ix ix_tup (pe_ix ix_list (pvQ v_one_step_on_2 rfl rfl) (pvQ v_one_step_on_5 rfl rfl) (fun _ _ => rfl)) pe_int (fun _ _ => rfl)) pe_int) (pac_Name (pvQ v_one_step_on_6 rfl rfl) (pac_Name (pvQ v_one_step_on_5 rfl rfl) pa_nil)))) (pg_sub (pvQ v_one_step_on_2 rfl rfl) (pvQ v_one_step_on_8 rfl rfl) set_list))
    (pss_one (ps_expr (pe_bm PySem.F.plainAttrs_list PySem.F.slot_list_append PySem.F.type_list_append mt_append (pvQ v_one_step_on_4 rfl rfl) (pac_Name (pvQ v_one_step_on_8 rfl rfl) pa_nil))))) pss_nil)))
    (pss_one (ps_asg (pm_lst pa_nil) (pg_sub (pe_ix ix_list (pvQ v_one_step_on_1 rfl rfl) (pvQ v_one_step_on_6 rfl rfl) (fun _ _ => rfl)) (pe_ix ix_list (pvQ v_one_step_on_7 rfl rfl) (pvQ v_one_step_on_5 rfl rfl) (fun _ _ => rfl)) set_list)))))))
    (pss_one (ps_ret (pvQ v_one_step_on_4 rfl rfl))))), rd_one_step_on h⟩
theorem ok__law_mixed {f : Addr} {fd : FuncData} (D : Def K mg "_law_mixed" S__law_mixed ["_law_base", "_law_k"] f fd) (B : Blt mg) : FnB P w K mg base 1 "_law_mixed" ["_law_base", "_law_k"] (sp__law_mixed K) := by
  refine D.ok sc__law_mixed (fun vs H Q E h => len__law_mixed h) (fun cdv A outer s H vs Q E hr h => ?_)
  have hu := hr.units0
  have hux := hr.units64
  exact ⟨t__law_mixed K, (pss_cons (ps_set (i := 2) sc__law_mixed.nd rfl (Or.inl rfl) (pe_op op_mod (pe_op op_mulB (pe_op op_add (pe_op op_add (pvQ v__law_mixed_0 rfl rfl) (pe_op op_mulB (pvQ v__law_mixed_1 rfl rfl) pe_int)) pe_int) pe_int) pe_int))
    (pss_cons (ps_set (i := 2) sc__law_mixed.nd rfl (Or.inl rfl) (pe_op op_mod (pe_op op_add (pe_op op_mulB (pvQ v__law_mixed_2 rfl rfl) (pvQ v__law_mixed_2 rfl rfl)) (pe_op op_mulB (pvQ v__law_mixed_1 rfl rfl) pe_int)) pe_int))
    (pss_one (ps_ret (pe_op op_fdiv (pe_op op_mod (pe_op op_mulB (pvQ v__law_mixed_2 rfl rfl) pe_int) pe_int) pe_int))))), rd__law_mixed h⟩
theorem ok__law_cell {f : Addr} {fd : FuncData} (D : Def K mg "_law_cell" S__law_cell ["_law_script", "_law_k"] f fd) (B : Blt mg) : FnB P w K mg base 1 "_law_cell" ["_law_script", "_law_k"] (sp__law_cell K) := by
  refine D.ok sc__law_cell (fun vs H Q E h => len__law_cell h) (fun cdv A outer s H vs Q E hr h => ?_)
  have hu := hr.units0
  have hux := hr.units64
  exact ⟨t__law_cell K, (pss_cons (ps_if (pt_cmpR op_lt (pvQ v__law_cell_1 rfl rfl) (pe_callB call_len_seq rfl B.len boot_len (pac_Name (pvQ v__law_cell_0 rfl rfl) pa_nil)) (nomark _)) (pss_one (ps_ret (pe_ix ix_list (pvQ v__law_cell_0 rfl rfl) (pvQ v__law_cell_1 rfl rfl) (fun _ _ => rfl)))) pss_nil)
    (pss_cons (ps_set (i := 2) sc__law_cell.nd rfl (Or.inl rfl) (pe_op op_add (pe_op op_mulB (pvQ v__law_cell_1 rfl rfl) pe_int) pe_int))
    (pss_cons (ps_if (pt_cmpR op_gt (pe_callB call_len_seq rfl B.len boot_len (pac_Name (pvQ v__law_cell_0 rfl rfl) pa_nil)) pe_int (nomark _)) (pss_one (ps_set (i := 2) sc__law_cell.nd rfl (Or.inl rfl) (pe_op op_add (pe_op op_mulB (pe_ix ix_list (pvQ v__law_cell_0 rfl rfl) (pe_op op_mod (pe_op op_mulB (pvQ v__law_cell_1 rfl rfl) pe_int) (pe_callB call_len_seq rfl B.len boot_len (pac_Name (pvQ v__law_cell_0 rfl rfl) pa_nil))) (fun _ _ => rfl)) pe_int) (pe_op op_mulB (pvQ v__law_cell_1 rfl rfl) pe_int)))) pss_nil)
    (pss_cons (ps_set (i := 2) sc__law_cell.nd rfl (Or.inl rfl) (pe_op op_mod (pe_op op_mulB (pvQ v__law_cell_2 rfl rfl) (pvQ v__law_cell_2 rfl rfl)) pe_int))
    (pss_one (ps_ret (pe_op op_mod (pe_op op_mulB (pe_op op_add (pvQ v__law_cell_2 rfl rfl) (pvQ v__law_cell_1 rfl rfl)) (pe_op op_add (pvQ v__law_cell_2 rfl rfl) pe_int)) pe_int))))))), rd__law_cell h⟩
theorem ok__law_least {f : Addr} {fd : FuncData} (D : Def K mg "_law_least" S__law_least ["_law_signs"] f fd) (B : Blt mg) : FnB P w K mg base 1 "_law_least" ["_law_signs"] (sp__law_least K) := by
  refine D.ok sc__law_least (fun vs H Q E h => len__law_least h) (fun cdv A outer s H vs Q E hr h => ?_)
  have hu := hr.units0
  have hux := hr.units64
  exact ⟨t__law_least K, (pss_cons (ps_set (i := 1) sc__law_least.nd rfl (Or.inl rfl) pm_dnewX)
    (pss_cons (ps_set (i := 2) sc__law_least.nd rfl (Or.inl rfl) (pm_lst pa_nil))
    (pss_cons (ps_for PassesOwn.never rfl (pi_enum srcL rfl B.enumerate (by decide) (pac_Name (pvQ v__law_least_0 rfl rfl) pa_nil)) (pg_tup rfl (pgs_cons (pg_name (i := 3) sc__law_least.nd rfl (Or.inl rfl)) (pgs_cons (pg_name (i := 4) sc__law_least.nd rfl (Or.inl rfl)) pgs_nil))) (pss_cons (ps_if (pt_cmpR (op_xnotin hux) (pvQ v__law_least_4 rfl rfl) (pvQ v__law_least_1 rfl rfl) rfl) (pss_one (ps_asg (pvQ v__law_least_3 rfl rfl) (pg_sub (pvQ v__law_least_1 rfl rfl) (pvQ v__law_least_4 rfl rfl) (set_X hux)))) pss_nil)
    (pss_one (ps_expr (pe_bm PySem.F.plainAttrs_list PySem.F.slot_list_append PySem.F.type_list_append mt_append (pvQ v__law_least_2 rfl rfl) (pac_Subscript (pe_xget hux (pvQ v__law_least_1 rfl rfl) (pvQ v__law_least_4 rfl rfl) (fun _ _ => rfl)) pa_nil))))))
    (pss_one (ps_ret (pvQ v__law_least_2 rfl rfl)))))), rd__law_least h⟩
theorem ok__law_wholes {f : Addr} {fd : FuncData} (D : Def K mg "_law_wholes" S__law_wholes ["_law_found"] f fd) (B : Blt mg) : FnB P w K mg base 1 "_law_wholes" ["_law_found"] (sp__law_wholes K) := by
  refine D.ok sc__law_wholes (fun vs H Q E h => len__law_wholes h) (fun cdv A outer s H vs Q E hr h => ?_)
  have hu := hr.units0
  have hux := hr.units64
  exact ⟨t__law_wholes K, (pss_cons (ps_if (pt_not (pt_val (pe_callB call_isi rfl B.isinstance boot_isinstance (pac_Name (pvQ v__law_wholes_0 rfl rfl) (pac_Name (pe_bltn (v := .ty "list") rfl B.list boot_list rfl) pa_nil))))) (pss_one (ps_ret pe_bl)) pss_nil)
    (pss_one (ps_ret (pe_cmpR (op_eqL hu) (pe_comp (sc := (defScope S__law_wholes)) (NX := ["_law_found"]) (N := ["_law_one"]) (ix := [none]) rfl (by refine ⟨rfl, ?_, ?_, ?_, ?_, rfl, ?_⟩ <;> decide +kernel) (pi_list (pvQ v__law_wholes_0 rfl rfl)) (by intros; exact (pg_name (i := 0) (show (["_law_one"] : List Str).Nodup by decide +kernel) rfl (Or.inl rfl))) (by intros; exact (ptl_one (PW.pt (pw_or (pt_not (pt_val (pe_callB call_isi rfl B.isinstance boot_isinstance (pac_Name (pv 0) (pac_Name (pe_bltn (v := .ty "int") rfl B.int boot_int rfl) pa_nil))))) (pw_or1 (pt_val (pe_callB call_isi rfl B.isinstance boot_isinstance (pac_Name (pv 0) (pac_Name (pe_bltn (v := .ty "bool") rfl B.bool boot_bool rfl) pa_nil))))))))) (by intros; exact (pv 0))) (pm_lst pa_nil) (nomark _))))), rd__law_wholes h⟩
theorem ok__law_view {f : Addr} {fd : FuncData} (D : Def K mg "_law_view" S__law_view ["_law_script", "_law_at", "_law_many"] f fd) (B : Blt mg) (F__law_cell : FnB P w K mg base 1 "_law_cell" ["_law_script", "_law_k"] (sp__law_cell K)) (F__law_least : FnB P w K mg base 1 "_law_least" ["_law_signs"] (sp__law_least K)) (F__law_mixed : FnB P w K mg base 1 "_law_mixed" ["_law_base", "_law_k"] (sp__law_mixed K)) : FnB P w K mg base 2 "_law_view" ["_law_script", "_law_at", "_law_many"] (sp__law_view K) := by
  refine D.ok sc__law_view (fun vs H Q E h => len__law_view h) (fun cdv A outer s H vs Q E hr h => ?_)
  have hu := hr.units0
  have hux := hr.units64
  exact ⟨t__law_view K, (pss_cons (ps_set (i := 3) sc__law_view.nd rfl (Or.inr rfl) (pe_op op_add pe_int (pe_op op_mod (pe_callF F__law_cell (hr.mono (by decide)) (pac_Name (pvQ v__law_view_0 rfl rfl) (pac_Name (pvQ v__law_view_1 rfl rfl) pa_nil))) (pe_ix ix_list (pm_lst (pac_Constant pe_int (pac_Constant pe_int (pac_Constant pe_int (pac_Constant pe_int (pac_Constant pe_int (pac_BinOp (pe_op op_add pe_int (pvQ v__law_view_2 rfl rfl)) (pac_BinOp (pe_op op_add pe_int (pe_op op_fdiv (pvQ v__law_view_2 rfl rfl) pe_int)) pa_nil)))))))) (pe_op op_mod (pe_op op_fdiv (pe_callF F__law_cell (hr.mono (by decide)) (pac_Name (pvQ v__law_view_0 rfl rfl) (pac_Name (pvQ v__law_view_1 rfl rfl) pa_nil))) pe_int) pe_int) (fun _ _ => rfl)))))
    (pss_cons (ps_set (i := 4) sc__law_view.nd rfl (Or.inr rfl) (pe_op op_mod (pe_callF F__law_cell (hr.mono (by decide)) (pac_Name (pvQ v__law_view_0 rfl rfl) (pac_BinOp (pe_op op_add (pvQ v__law_view_1 rfl rfl) pe_int) pa_nil))) (pe_op op_pow pe_int pe_int)))
    (pss_one (ps_ret (pe_callF F__law_least (hr.mono (by decide)) (pac_ListComp (pe_comp (sc := (defScope S__law_view)) (NX := ["_law_script", "_law_at", "_law_many", "_law_kinds", "_law_base"]) (N := ["_law_k", "_law_kinds", "_law_base"]) (ix := [none, some 3, some 4]) rfl (by refine ⟨rfl, ?_, ?_, ?_, ?_, rfl, ?_⟩ <;> decide +kernel) (pi_range1 rfl B.range (pac_Name (pvQ v__law_view_2 rfl rfl) pa_nil)) (by intros; exact (pg_name (i := 0) (show (["_law_k", "_law_kinds", "_law_base"] : List Str).Nodup by decide +kernel) rfl (Or.inl rfl))) (by intros; exact ptl_nil) (by intros; exact (pe_op op_mod (pe_callF F__law_mixed (hr.mono (by decide)) (pac_Name (pv 2) (pac_Name (pv 0) pa_nil))) (pv 1)))) pa_nil)))))), rd__law_view h⟩
theorem ok__law_pairs {f : Addr} {fd : FuncData} (D : Def K mg "_law_pairs" S__law_pairs ["_law_many", "_law_k", "_law_turn"] f fd) (B : Blt mg) (F__law_least : FnB P w K mg base 1 "_law_least" ["_law_signs"] (sp__law_least K)) : FnB P w K mg base 2 "_law_pairs" ["_law_many", "_law_k", "_law_turn"] (sp__law_pairs K) := by
  refine D.ok sc__law_pairs (fun vs H Q E h => len__law_pairs h) (fun cdv A outer s H vs Q E hr h => ?_)
  have hu := hr.units0
  have hux := hr.units64
  exact ⟨t__law_pairs K, (pss_one (ps_ret (pe_callF F__law_least (hr.mono (by decide)) (pac_ListComp (pe_comp (sc := (defScope S__law_pairs)) (NX := ["_law_many", "_law_k", "_law_turn"]) (N := ["_law_place", "_law_turn", "_law_k"]) (ix := [none, some 2, some 1]) rfl (by refine ⟨rfl, ?_, ?_, ?_, ?_, rfl, ?_⟩ <;> decide +kernel) (pi_range1 rfl B.range (pac_Name (pvQ v__law_pairs_0 rfl rfl) pa_nil)) (by intros; exact (pg_name (i := 0) (show (["_law_place", "_law_turn", "_law_k"] : List Str).Nodup by decide +kernel) rfl (Or.inl rfl))) (by intros; exact ptl_nil) (by intros; exact (pe_op op_fdiv (pe_op op_add (pe_op op_add (pv 0) (pv 2)) (pv 1)) pe_int))) pa_nil)))), rd__law_pairs h⟩
theorem ok__law_met {f : Addr} {fd : FuncData} (D : Def K mg "_law_met" S__law_met ["_law_many", "_law_views", "_law_deal"] f fd) (B : Blt mg) : FnB P w K mg base 1 "_law_met" ["_law_many", "_law_views", "_law_deal"] (sp__law_met K) := by
  refine D.ok sc__law_met (fun vs H Q E h => len__law_met h) (fun cdv A outer s H vs Q E hr h => ?_)
  have hu := hr.units0
  have hux := hr.units64
  exact ⟨t__law_met K, (pss_cons (ps_set (i := 3) sc__law_met.nd rfl (Or.inl rfl) (pe_dk1 (pvQ v__law_met_2 rfl rfl) pe_bl))
    (pss_cons (ps_set (i := 4) sc__law_met.nd rfl (Or.inl rfl) (pm_lst (pac_Name (pvQ v__law_met_2 rfl rfl) pa_nil)))
    (pss_cons (ps_while PassesOwn.never (pt_cmpR (op_neL hu) (pvQ v__law_met_4 rfl rfl) (pm_lst pa_nil) (nomark _)) (pss_cons (ps_set (i := 5) sc__law_met.nd rfl (Or.inl rfl) (pe_bm0 PySem.F.plainAttrs_list PySem.F.slot_list_pop PySem.F.type_list_pop mt_pop (pvQ v__law_met_4 rfl rfl)))
    (pss_one (ps_for PassesOwn.never rfl (pi_list (pvQ v__law_met_1 rfl rfl)) (pg_name (i := 6) sc__law_met.nd rfl (Or.inl rfl)) (pss_one (ps_for PassesOwn.never rfl (pi_range1 rfl B.range (pac_Name (pvQ v__law_met_0 rfl rfl) pa_nil)) (pg_name (i := 7) sc__law_met.nd rfl (Or.inl rfl)) (pss_one (ps_if (PW.pt (pw_and (pt_cmpR op_eq (pe_ix ix_list (pvQ v__law_met_6 rfl rfl) (pvQ v__law_met_7 rfl rfl) (fun _ _ => rfl)) (pe_ix ix_list (pvQ v__law_met_6 rfl rfl) (pvQ v__law_met_5 rfl rfl) (fun _ _ => rfl)) (nomark _)) (pw_and1 (pt_cmpR (op_dknotin (hu1_of hux)) (pvQ v__law_met_7 rfl rfl) (pvQ v__law_met_3 rfl rfl) rfl)))) (pss_cons (ps_asg pe_bl (pg_sub (pvQ v__law_met_3 rfl rfl) (pvQ v__law_met_7 rfl rfl) (set_dk (hu1_of hux))))
    (pss_one (ps_expr (pe_bm PySem.F.plainAttrs_list PySem.F.slot_list_append PySem.F.type_list_append mt_append (pvQ v__law_met_4 rfl rfl) (pac_Name (pvQ v__law_met_7 rfl rfl) pa_nil))))) pss_nil))))))))
    (pss_one (ps_ret (pvQ v__law_met_3 rfl rfl)))))), rd__law_met h⟩
theorem ok__law_one_view {f : Addr} {fd : FuncData} (D : Def K mg "_law_one_view" S__law_one_view ["_law_view_here", "_law_found"] f fd) (B : Blt mg) : FnB P w K mg base 1 "_law_one_view" ["_law_view_here", "_law_found"] (sp__law_one_view K) := by
  refine D.ok sc__law_one_view (fun vs H Q E h => len__law_one_view h) (fun cdv A outer s H vs Q E hr h => ?_)
  have hu := hr.units0
  have hux := hr.units64
  exact ⟨t__law_one_view K, (pss_cons (ps_set (i := 2) sc__law_one_view.nd rfl (Or.inr rfl) pm_dnew)
    (pss_cons (ps_set (i := 3) sc__law_one_view.nd rfl (Or.inr rfl) pm_dnew)
    (pss_cons (ps_for PassesOwn.never rfl (pi_enum srcL rfl B.enumerate (by decide) (pac_Name (pvQ v__law_one_view_0 rfl rfl) pa_nil)) (pg_tup rfl (pgs_cons (pg_name (i := 4) sc__law_one_view.nd rfl (Or.inl rfl)) (pgs_cons (pg_name (i := 5) sc__law_one_view.nd rfl (Or.inl rfl)) pgs_nil))) (pss_one (ps_if (pt_cmpR op_isnNone (pe_ix ix_list (pvQ v__law_one_view_1 rfl rfl) (pvQ v__law_one_view_4 rfl rfl) (fun _ _ => rfl)) pe_non (nomark _)) (pss_cons (ps_asg (pe_callB (call_min2 rfl) rfl B.min boot_min (pac_Subscript (pe_ix ix_list (pvQ v__law_one_view_1 rfl rfl) (pvQ v__law_one_view_4 rfl rfl) (fun _ _ => rfl)) (pac_Call (pe_dkget2 (hu1_of hux) (pvQ v__law_one_view_2 rfl rfl) (pvQ v__law_one_view_5 rfl rfl) (pe_ix ix_list (pvQ v__law_one_view_1 rfl rfl) (pvQ v__law_one_view_4 rfl rfl) (fun _ _ => rfl)) ⟨rfl, rfl, rfl, rfl⟩) pa_nil))) (pg_sub (pvQ v__law_one_view_2 rfl rfl) (pvQ v__law_one_view_5 rfl rfl) (set_dk (hu1_of hux))))
    (pss_one (ps_asg (pe_callB (call_max2 rfl) rfl B.max boot_max (pac_Subscript (pe_ix ix_list (pvQ v__law_one_view_1 rfl rfl) (pvQ v__law_one_view_4 rfl rfl) (fun _ _ => rfl)) (pac_Call (pe_dkget2 (hu1_of hux) (pvQ v__law_one_view_3 rfl rfl) (pvQ v__law_one_view_5 rfl rfl) (pe_ix ix_list (pvQ v__law_one_view_1 rfl rfl) (pvQ v__law_one_view_4 rfl rfl) (fun _ _ => rfl)) ⟨rfl, rfl, rfl, rfl⟩) pa_nil))) (pg_sub (pvQ v__law_one_view_3 rfl rfl) (pvQ v__law_one_view_5 rfl rfl) (set_dk (hu1_of hux)))))) pss_nil)))
    (pss_one (ps_ret (pe_cmpR (op_eqL hu) (pe_comp (sc := (defScope S__law_one_view)) (NX := ["_law_view_here", "_law_found", "_law_low", "_law_high", "_law_place", "_law_least_here"]) (N := ["_law_least_here", "_law_high", "_law_low"]) (ix := [none, some 3, some 2]) rfl (by refine ⟨rfl, ?_, ?_, ?_, ?_, rfl, ?_⟩ <;> decide +kernel) (pi_dk (pvQ v__law_one_view_2 rfl rfl)) (by intros; exact (pg_name (i := 0) (show (["_law_least_here", "_law_high", "_law_low"] : List Str).Nodup by decide +kernel) rfl (Or.inl rfl))) (by intros; exact (ptl_one (pt_cmpR op_gt (pe_dkget (hu1_of hux) (pv 1) (pv 0) (fun _ _ => rfl)) (pe_op op_add (pe_dkget (hu1_of hux) (pv 2) (pv 0) (fun _ _ => rfl)) pe_int) (nomark _)))) (by intros; exact (pv 0))) (pm_lst pa_nil) (nomark _))))))), rd__law_one_view h⟩
theorem ok__law_has_one_less {f : Addr} {fd : FuncData} (D : Def K mg "_law_has_one_less" S__law_has_one_less ["_law_views", "_law_found", "_law_place"] f fd) (B : Blt mg) : FnB P w K mg base 1 "_law_has_one_less" ["_law_views", "_law_found", "_law_place"] (sp__law_has_one_less K) := by
  refine D.ok sc__law_has_one_less (fun vs H Q E h => len__law_has_one_less h) (fun cdv A outer s H vs Q E hr h => ?_)
  have hu := hr.units0
  have hux := hr.units64
  exact ⟨t__law_has_one_less K, (pss_cons (ps_for PassesOwn.never rfl (pi_list (pvQ v__law_has_one_less_0 rfl rfl)) (pg_name (i := 3) sc__law_has_one_less.nd rfl (Or.inl rfl)) (pss_one (ps_for PassesOwn.never rfl (pi_range1 rfl B.range (pac_Call (pe_callB call_len_seq rfl B.len boot_len (pac_Name (pvQ v__law_has_one_less_1 rfl rfl) pa_nil)) pa_nil)) (pg_name (i := 4) sc__law_has_one_less.nd rfl (Or.inl rfl)) (pss_one (ps_if (PW.pt (pw_and (pt_cmpR op_eq (pe_ix ix_list (pvQ v__law_has_one_less_3 rfl rfl) (pvQ v__law_has_one_less_4 rfl rfl) (fun _ _ => rfl)) (pe_ix ix_list (pvQ v__law_has_one_less_3 rfl rfl) (pvQ v__law_has_one_less_2 rfl rfl) (fun _ _ => rfl)) (nomark _)) (pw_and1 (pt_cmpR op_eq (pe_ix ix_list (pvQ v__law_has_one_less_1 rfl rfl) (pvQ v__law_has_one_less_4 rfl rfl) (fun _ _ => rfl)) (pe_op op_sub (pe_ix ix_list (pvQ v__law_has_one_less_1 rfl rfl) (pvQ v__law_has_one_less_2 rfl rfl) (fun _ _ => rfl)) pe_int) (nomark _))))) (pss_one (ps_ret pe_bl)) pss_nil)))))
    (pss_one (ps_ret pe_bl))), rd__law_has_one_less h⟩
theorem ok__law_right {f : Addr} {fd : FuncData} (D : Def K mg "_law_right" S__law_right ["_law_found", "_law_many", "_law_views", "_law_deal"] f fd) (B : Blt mg) (F__law_has_one_less : FnB P w K mg base 1 "_law_has_one_less" ["_law_views", "_law_found", "_law_place"] (sp__law_has_one_less K)) (F__law_met : FnB P w K mg base 1 "_law_met" ["_law_many", "_law_views", "_law_deal"] (sp__law_met K)) (F__law_one_view : FnB P w K mg base 1 "_law_one_view" ["_law_view_here", "_law_found"] (sp__law_one_view K)) (F__law_wholes : FnB P w K mg base 1 "_law_wholes" ["_law_found"] (sp__law_wholes K)) : FnB P w K mg base 2 "_law_right" ["_law_found", "_law_many", "_law_views", "_law_deal"] (sp__law_right K) := by
  refine D.ok sc__law_right (fun vs H Q E h => len__law_right h) (fun cdv A outer s H vs Q E hr h => ?_)
  have hu := hr.units0
  have hux := hr.units64
  exact ⟨t__law_right K, (pss_cons (ps_if (PW.pt (pw_or (pt_not (pt_val (pe_callB call_isi rfl B.isinstance boot_isinstance (pac_Name (pvQ v__law_right_0 rfl rfl) (pac_Name (pe_bltn (v := .ty "list") rfl B.list boot_list rfl) pa_nil))))) (pw_or (pt_cmpR op_ne (pe_callB call_len_seq rfl B.len boot_len (pac_Name (pvQ v__law_right_0 rfl rfl) pa_nil)) (pvQ v__law_right_1 rfl rfl) (nomark _)) (pw_or1 (pt_cmpR op_ne (pe_ix ix_list (pvQ v__law_right_0 rfl rfl) (pvQ v__law_right_3 rfl rfl) (fun _ _ => rfl)) pe_int (nomark _)))))) (pss_one (ps_ret pe_bl)) pss_nil)
    (pss_cons (ps_set (i := 4) sc__law_right.nd rfl (Or.inl rfl) (pe_callF F__law_met (hr.mono (by decide)) (pac_Name (pvQ v__law_right_1 rfl rfl) (pac_Name (pvQ v__law_right_2 rfl rfl) (pac_Name (pvQ v__law_right_3 rfl rfl) pa_nil)))))
    (pss_cons (ps_for PassesOwn.never rfl (pi_range1 rfl B.range (pac_Name (pvQ v__law_right_1 rfl rfl) pa_nil)) (pg_name (i := 5) sc__law_right.nd rfl (Or.inl rfl)) (pss_cons (ps_if (pt_cmpR op_eq (pe_cmpR op_isNone (pe_ix ix_list (pvQ v__law_right_0 rfl rfl) (pvQ v__law_right_5 rfl rfl) (fun _ _ => rfl)) pe_non (nomark _)) (pe_cmpR (op_dkin (hu1_of hux)) (pvQ v__law_right_5 rfl rfl) (pvQ v__law_right_4 rfl rfl) rfl) (nomark _)) (pss_one (ps_ret pe_bl)) pss_nil)
    (pss_one (ps_if (pt_cmpR op_isnNone (pe_ix ix_list (pvQ v__law_right_0 rfl rfl) (pvQ v__law_right_5 rfl rfl) (fun _ _ => rfl)) pe_non (nomark _)) (pss_cons (ps_if (PW.pt (pw_or (pt_not (pt_val (pe_callF F__law_wholes (hr.mono (by decide)) (pac_List (pm_lst (pac_Subscript (pe_ix ix_list (pvQ v__law_right_0 rfl rfl) (pvQ v__law_right_5 rfl rfl) (fun _ _ => rfl)) pa_nil)) pa_nil)))) (pw_or1 (pt_cmpR op_ne (pe_cmpR op_eq (pe_ix ix_list (pvQ v__law_right_0 rfl rfl) (pvQ v__law_right_5 rfl rfl) (fun _ _ => rfl)) pe_int (nomark _)) (pe_cmpR op_eq (pvQ v__law_right_5 rfl rfl) (pvQ v__law_right_3 rfl rfl) (nomark _)) (nomark _))))) (pss_one (ps_ret pe_bl)) pss_nil)
    (pss_one (ps_if (PW.pt (pw_and (pt_cmpR op_ne (pvQ v__law_right_5 rfl rfl) (pvQ v__law_right_3 rfl rfl) (nomark _)) (pw_and1 (pt_not (pt_val (pe_callF F__law_has_one_less (hr.mono (by decide)) (pac_Name (pvQ v__law_right_2 rfl rfl) (pac_Name (pvQ v__law_right_0 rfl rfl) (pac_Name (pvQ v__law_right_5 rfl rfl) pa_nil))))))))) (pss_one (ps_ret pe_bl)) pss_nil))) pss_nil))))
    (pss_one (ps_ret (pe_cmpR (op_eqL hu) (pe_comp (sc := (defScope S__law_right)) (NX := ["_law_found", "_law_many", "_law_views", "_law_deal", "_law_met_here", "_law_place"]) (N := ["_law_view_here", "_law_found"]) (ix := [none, some 0]) rfl (by refine ⟨rfl, ?_, ?_, ?_, ?_, rfl, ?_⟩ <;> decide +kernel) (pi_list (pvQ v__law_right_2 rfl rfl)) (by intros; exact (pg_name (i := 0) (show (["_law_view_here", "_law_found"] : List Str).Nodup by decide +kernel) rfl (Or.inl rfl))) (by intros; exact (ptl_one (pt_not (pt_val (pe_callF F__law_one_view (hr.mono (by decide)) (pac_Name (pv 0) (pac_Name (pv 1) pa_nil))))))) (by intros; exact (pv 0))) (pm_lst pa_nil) (nomark _))))))), rd__law_right h⟩
theorem ok_law {f : Addr} {fd : FuncData} (D : Def K mg "law" S_law ["_law_script"] f fd) (B : Blt mg) (F__law_cell : FnB P w K mg base 1 "_law_cell" ["_law_script", "_law_k"] (sp__law_cell K)) (F__law_pairs : FnB P w K mg base 2 "_law_pairs" ["_law_many", "_law_k", "_law_turn"] (sp__law_pairs K)) (F__law_right : FnB P w K mg base 2 "_law_right" ["_law_found", "_law_many", "_law_views", "_law_deal"] (sp__law_right K)) (F__law_view : FnB P w K mg base 2 "_law_view" ["_law_script", "_law_at", "_law_many"] (sp__law_view K)) (F_steps_from : FnB P w K mg base 3 "steps_from" ["many", "views", "deal"] (sp_steps_from K)) : FnOk P w K mg base CX0 4 f fd ["_law_script"] (spLaw K) := by
  refine D.fn.ok sc_law (fun vs H Q E h => len_law h) (fun cdv A outer s H vs Q E hr h => ?_)
  have hu := hr.units0
  have hux := hr.units64
  exact ⟨t_law K, (pss_cons (ps_set (i := 1) sc_law.nd rfl (Or.inl rfl) (pe_op op_add pe_int (pe_op op_mod (pe_callF F__law_cell (hr.mono (by decide)) (pac_Name (pvQ v_law_0 rfl rfl) (pac_Constant pe_int pa_nil))) pe_int)))
    (pss_cons (ps_if (pt_cmpR op_eq (pe_op op_mod (pe_op op_fdiv (pe_callF F__law_cell (hr.mono (by decide)) (pac_Name (pvQ v_law_0 rfl rfl) (pac_Constant pe_int pa_nil))) pe_int) pe_int) pe_int (nomark _)) (pss_one (ps_set (i := 1) sc_law.nd rfl (Or.inl rfl) (pe_op op_add pe_int (pe_op op_mod (pe_op op_fdiv (pe_callF F__law_cell (hr.mono (by decide)) (pac_Name (pvQ v_law_0 rfl rfl) (pac_Constant pe_int pa_nil))) pe_int) pe_int)))) pss_nil)
    (pss_cons (ps_set (i := 2) sc_law.nd rfl (Or.inl rfl) (pm_lst pa_nil))
    (pss_cons (ps_for PassesOwn.never rfl (pi_range1 rfl B.range (pac_BinOp (pe_op op_mod (pe_callF F__law_cell (hr.mono (by decide)) (pac_Name (pvQ v_law_0 rfl rfl) (pac_Constant pe_int pa_nil))) pe_int) pa_nil)) (pg_name (i := 3) sc_law.nd rfl (Or.inl rfl)) (pss_cons (ps_expr (pe_bm PySem.F.plainAttrs_list PySem.F.slot_list_append PySem.F.type_list_append mt_append (pvQ v_law_2 rfl rfl) (pac_Call (pe_callF F__law_view (hr.mono (by decide)) (pac_Name (pvQ v_law_0 rfl rfl) (pac_BinOp (pe_op op_add pe_int (pe_op op_mulB pe_int (pvQ v_law_3 rfl rfl))) (pac_Name (pvQ v_law_1 rfl rfl) pa_nil)))) pa_nil)))
    (pss_one (ps_if (pt_cmpR op_eq (pe_op op_mod (pe_callF F__law_cell (hr.mono (by decide)) (pac_Name (pvQ v_law_0 rfl rfl) (pac_Constant pe_int pa_nil))) pe_int) pe_int (nomark _)) (pss_one (ps_asg (pe_callF F__law_pairs (hr.mono (by decide)) (pac_Name (pvQ v_law_1 rfl rfl) (pac_Name (pvQ v_law_3 rfl rfl) (pac_BinOp (pe_op op_mod (pe_callF F__law_cell (hr.mono (by decide)) (pac_Name (pvQ v_law_0 rfl rfl) (pac_Constant pe_int pa_nil))) pe_int) pa_nil)))) (pg_sub (pvQ v_law_2 rfl rfl) (pvQ v_law_3 rfl rfl) set_list))) pss_nil))))
    (pss_cons (ps_set (i := 4) sc_law.nd rfl (Or.inl rfl) (pe_op op_mod (pe_callF F__law_cell (hr.mono (by decide)) (pac_Name (pvQ v_law_0 rfl rfl) (pac_Constant pe_int pa_nil))) (pvQ v_law_1 rfl rfl)))
    (pss_cons (ps_setComp (i := 5) sc_law.nd rfl rfl (sc := (defScope S_law)) (NX := ["_law_script", "_law_many", "_law_views", "_law_k", "_law_deal", "_law_handed", "_law_found", "_law_kept"]) (N := ["_law_view_here"]) (ix := [none]) rfl (by refine ⟨rfl, ?_, ?_, ?_, ?_, rfl, ?_⟩ <;> decide +kernel) (pi_list (pvQ v_law_2 rfl rfl)) (by intros; exact (pg_name (i := 0) (show (["_law_view_here"] : List Str).Nodup by decide +kernel) rfl (Or.inl rfl))) (by intros; exact ptl_nil) (by intros; exact (pe_callTy cm_list rfl B.list boot_list (pac_Name (pv 0) pa_nil))))
    (pss_cons (ps_set (i := 6) sc_law.nd rfl (Or.inl rfl) (pe_callF F_steps_from (hr.mono (by decide)) (pac_Name (pvQ v_law_1 rfl rfl) (pac_Name (pvQ v_law_5 rfl rfl) (pac_Name (pvQ v_law_4 rfl rfl) pa_nil)))))
    (pss_cons (ps_if (PW.pt (pw_or (pt_not (pt_val (pe_callF F__law_right (hr.mono (by decide)) (pac_Name (pvQ v_law_6 rfl rfl) (pac_Name (pvQ v_law_1 rfl rfl) (pac_Name (pvQ v_law_2 rfl rfl) (pac_Name (pvQ v_law_4 rfl rfl) pa_nil))))))) (pw_or1 (pt_cmpR (op_sameN hux) (pvQ v_law_5 rfl rfl) (pvQ v_law_2 rfl rfl) (nomark _))))) (pss_one (ps_ret pe_bl)) pss_nil)
    (pss_cons (ps_set (i := 7) sc_law.nd rfl (Or.inl rfl) (pe_callTy cm_list rfl B.list boot_list (pac_Name (pvQ v_law_6 rfl rfl) pa_nil)))
    (pss_cons (ps_asg (pvQ v_law_1 rfl rfl) (pg_sub (pvQ v_law_6 rfl rfl) pe_int set_list))
    (pss_cons (ps_expr (pe_bm PySem.F.plainAttrs_list PySem.F.slot_list_append PySem.F.type_list_append mt_append (pvQ v_law_6 rfl rfl) (pac_Constant pe_non pa_nil)))
    (pss_one (ps_ret (pe_cmpR (op_sameE hux) (pe_callF F_steps_from (hr.mono (by decide)) (pac_Name (pvQ v_law_1 rfl rfl) (pac_Name (pvQ v_law_5 rfl rfl) (pac_Name (pvQ v_law_4 rfl rfl) pa_nil)))) (pvQ v_law_7 rfl rfl) (nomark _))))))))))))))), rd_law h⟩
theorem build (B : Blt mg) {f1 : Addr} {fd1 : FuncData} (D_steps_from : Def K mg "steps_from" S_steps_from ["many", "views", "deal"] f1 fd1) {f2 : Addr} {fd2 : FuncData} (D_roads_from : Def K mg "roads_from" S_roads_from ["many", "views", "deal"] f2 fd2) {f3 : Addr} {fd3 : FuncData} (D_groups_of : Def K mg "groups_of" S_groups_of ["view"] f3 fd3) {f4 : Addr} {fd4 : FuncData} (D_one_step_on : Def K mg "one_step_on" S_one_step_on ["views", "groups", "roads", "newest"] f4 fd4) {f5 : Addr} {fd5 : FuncData} (D__law_mixed : Def K mg "_law_mixed" S__law_mixed ["_law_base", "_law_k"] f5 fd5) {f6 : Addr} {fd6 : FuncData} (D__law_cell : Def K mg "_law_cell" S__law_cell ["_law_script", "_law_k"] f6 fd6) {f7 : Addr} {fd7 : FuncData} (D__law_least : Def K mg "_law_least" S__law_least ["_law_signs"] f7 fd7) {f8 : Addr} {fd8 : FuncData} (D__law_wholes : Def K mg "_law_wholes" S__law_wholes ["_law_found"] f8 fd8) {f9 : Addr} {fd9 : FuncData} (D__law_view : Def K mg "_law_view" S__law_view ["_law_script", "_law_at", "_law_many"] f9 fd9) {f10 : Addr} {fd10 : FuncData} (D__law_pairs : Def K mg "_law_pairs" S__law_pairs ["_law_many", "_law_k", "_law_turn"] f10 fd10) {f11 : Addr} {fd11 : FuncData} (D__law_met : Def K mg "_law_met" S__law_met ["_law_many", "_law_views", "_law_deal"] f11 fd11) {f12 : Addr} {fd12 : FuncData} (D__law_one_view : Def K mg "_law_one_view" S__law_one_view ["_law_view_here", "_law_found"] f12 fd12) {f13 : Addr} {fd13 : FuncData} (D__law_has_one_less : Def K mg "_law_has_one_less" S__law_has_one_less ["_law_views", "_law_found", "_law_place"] f13 fd13) {f14 : Addr} {fd14 : FuncData} (D__law_right : Def K mg "_law_right" S__law_right ["_law_found", "_law_many", "_law_views", "_law_deal"] f14 fd14) {f15 : Addr} {fd15 : FuncData} (D_law : Def K mg "law" S_law ["_law_script"] f15 fd15)  : FnOk P w K mg base CX0 4 f15 fd15 ["_law_script"] (spLaw K) := by
  have F__law_cell : FnB P w K mg base 1 "_law_cell" ["_law_script", "_law_k"] (sp__law_cell K) := ok__law_cell D__law_cell B
  have F__law_least : FnB P w K mg base 1 "_law_least" ["_law_signs"] (sp__law_least K) := ok__law_least D__law_least B
  have F__law_pairs : FnB P w K mg base 2 "_law_pairs" ["_law_many", "_law_k", "_law_turn"] (sp__law_pairs K) := ok__law_pairs D__law_pairs B F__law_least
  have F__law_has_one_less : FnB P w K mg base 1 "_law_has_one_less" ["_law_views", "_law_found", "_law_place"] (sp__law_has_one_less K) := ok__law_has_one_less D__law_has_one_less B
  have F__law_met : FnB P w K mg base 1 "_law_met" ["_law_many", "_law_views", "_law_deal"] (sp__law_met K) := ok__law_met D__law_met B
  have F__law_one_view : FnB P w K mg base 1 "_law_one_view" ["_law_view_here", "_law_found"] (sp__law_one_view K) := ok__law_one_view D__law_one_view B
  have F__law_wholes : FnB P w K mg base 1 "_law_wholes" ["_law_found"] (sp__law_wholes K) := ok__law_wholes D__law_wholes B
  have F__law_right : FnB P w K mg base 2 "_law_right" ["_law_found", "_law_many", "_law_views", "_law_deal"] (sp__law_right K) := ok__law_right D__law_right B F__law_has_one_less F__law_met F__law_one_view F__law_wholes
  have F__law_mixed : FnB P w K mg base 1 "_law_mixed" ["_law_base", "_law_k"] (sp__law_mixed K) := ok__law_mixed D__law_mixed B
  have F__law_view : FnB P w K mg base 2 "_law_view" ["_law_script", "_law_at", "_law_many"] (sp__law_view K) := ok__law_view D__law_view B F__law_cell F__law_least F__law_mixed
  have F_groups_of : FnB P w K mg base 1 "groups_of" ["view"] (sp_groups_of K) := ok_groups_of D_groups_of B
  have F_one_step_on : FnB P w K mg base 1 "one_step_on" ["views", "groups", "roads", "newest"] (sp_one_step_on K) := ok_one_step_on D_one_step_on B
  have F_roads_from : FnB P w K mg base 2 "roads_from" ["many", "views", "deal"] (sp_roads_from K) := ok_roads_from D_roads_from B F_groups_of F_one_step_on
  have F_steps_from : FnB P w K mg base 3 "steps_from" ["many", "views", "deal"] (sp_steps_from K) := ok_steps_from D_steps_from B F_roads_from
  exact ok_law D_law B F__law_cell F__law_pairs F__law_right F__law_view F_steps_from
end
@[elab_as_elim] theorem ofLen1 {α : Type} {P : List α → Prop} (us : List α) (hl : us.length = 1) (h : ∀ a0 : α, P [a0]) : P us := match us, hl with | [a0], _ => h a0
@[elab_as_elim] theorem ofLen2 {α : Type} {P : List α → Prop} (us : List α) (hl : us.length = 2) (h : ∀ a0 a1 : α, P [a0, a1]) : P us := match us, hl with | [a0, a1], _ => h a0 a1
@[elab_as_elim] theorem ofLen3 {α : Type} {P : List α → Prop} (us : List α) (hl : us.length = 3) (h : ∀ a0 a1 a2 : α, P [a0, a1, a2]) : P us := match us, hl with | [a0, a1, a2], _ => h a0 a1 a2
@[elab_as_elim] theorem ofLen4 {α : Type} {P : List α → Prop} (us : List α) (hl : us.length = 4) (h : ∀ a0 a1 a2 a3 : α, P [a0, a1, a2, a3]) : P us := match us, hl with | [a0, a1, a2, a3], _ => h a0 a1 a2 a3
theorem all_mk {l : PySem.W.OpenLaw} {w : World} {K : PySem.W.Frag} {h : Heap} {mg : Str → Option Value} {fa f1 f2 f3 f4 f5 f6 f7 f8 f9 f10 f11 f12 f13 f14 f15 : Addr} (X : K.In h) (G : h.Ns mainGlobals mg) (hfa : mg "law" = some (.ref fa))
    {od1 an1 od2 an2 od3 an3 od4 an4 od5 an5 od6 an6 od7 an7 od8 an8 od9 an9 od10 an10 od11 an11 od12 an12 od13 an13 od14 an14 od15 an15 : Option Addr} {sl1 sl2 sl3 sl4 sl5 sl6 sl7 sl8 sl9 sl10 sl11 sl12 sl13 sl14 sl15 : Array (Option Value)} {oc1 kV1 dc1 pm1 cd1 ct1 oc2 kV2 dc2 pm2 cd2 ct2 oc3 kV3 dc3 pm3 cd3 ct3 oc4 kV4 dc4 pm4 cd4 ct4 oc5 kV5 dc5 pm5 cd5 ct5 oc6 kV6 dc6 pm6 cd6 ct6 oc7 kV7 dc7 pm7 cd7 ct7 oc8 kV8 dc8 pm8 cd8 ct8 oc9 kV9 dc9 pm9 cd9 ct9 oc10 kV10 dc10 pm10 cd10 ct10 oc11 kV11 dc11 pm11 cd11 ct11 oc12 kV12 dc12 pm12 cd12 ct12 oc13 kV13 dc13 pm13 cd13 ct13 oc14 kV14 dc14 pm14 cd14 ct14 oc15 kV15 dc15 pm15 cd15 ct15 : Value} 
    (a1 : PySem.W.nsIn K mainGlobals "steps_from" = some (some (.ref f1))) (l1 : K.lookup f1 = some ⟨oc1, od1, .func (PySem.W.fnOf "steps_from" "steps_from" (defArgs S_steps_from) (defBody S_steps_from) (defScope S_steps_from) .none kV1 dc1 pm1 an1 cd1 ct1), sl1⟩) (c1 : PySem.W.codeIn K cd1 "steps_from" = true) (k1 : PySem.W.keepIn K (.ref f1) = true)
    (a2 : PySem.W.nsIn K mainGlobals "roads_from" = some (some (.ref f2))) (l2 : K.lookup f2 = some ⟨oc2, od2, .func (PySem.W.fnOf "roads_from" "roads_from" (defArgs S_roads_from) (defBody S_roads_from) (defScope S_roads_from) .none kV2 dc2 pm2 an2 cd2 ct2), sl2⟩) (c2 : PySem.W.codeIn K cd2 "roads_from" = true) (k2 : PySem.W.keepIn K (.ref f2) = true)
    (a3 : PySem.W.nsIn K mainGlobals "groups_of" = some (some (.ref f3))) (l3 : K.lookup f3 = some ⟨oc3, od3, .func (PySem.W.fnOf "groups_of" "groups_of" (defArgs S_groups_of) (defBody S_groups_of) (defScope S_groups_of) .none kV3 dc3 pm3 an3 cd3 ct3), sl3⟩) (c3 : PySem.W.codeIn K cd3 "groups_of" = true) (k3 : PySem.W.keepIn K (.ref f3) = true)
    (a4 : PySem.W.nsIn K mainGlobals "one_step_on" = some (some (.ref f4))) (l4 : K.lookup f4 = some ⟨oc4, od4, .func (PySem.W.fnOf "one_step_on" "one_step_on" (defArgs S_one_step_on) (defBody S_one_step_on) (defScope S_one_step_on) .none kV4 dc4 pm4 an4 cd4 ct4), sl4⟩) (c4 : PySem.W.codeIn K cd4 "one_step_on" = true) (k4 : PySem.W.keepIn K (.ref f4) = true)
    (a5 : PySem.W.nsIn K mainGlobals "_law_mixed" = some (some (.ref f5))) (l5 : K.lookup f5 = some ⟨oc5, od5, .func (PySem.W.fnOf "_law_mixed" "_law_mixed" (defArgs S__law_mixed) (defBody S__law_mixed) (defScope S__law_mixed) .none kV5 dc5 pm5 an5 cd5 ct5), sl5⟩) (c5 : PySem.W.codeIn K cd5 "_law_mixed" = true) (k5 : PySem.W.keepIn K (.ref f5) = true)
    (a6 : PySem.W.nsIn K mainGlobals "_law_cell" = some (some (.ref f6))) (l6 : K.lookup f6 = some ⟨oc6, od6, .func (PySem.W.fnOf "_law_cell" "_law_cell" (defArgs S__law_cell) (defBody S__law_cell) (defScope S__law_cell) .none kV6 dc6 pm6 an6 cd6 ct6), sl6⟩) (c6 : PySem.W.codeIn K cd6 "_law_cell" = true) (k6 : PySem.W.keepIn K (.ref f6) = true)
    (a7 : PySem.W.nsIn K mainGlobals "_law_least" = some (some (.ref f7))) (l7 : K.lookup f7 = some ⟨oc7, od7, .func (PySem.W.fnOf "_law_least" "_law_least" (defArgs S__law_least) (defBody S__law_least) (defScope S__law_least) .none kV7 dc7 pm7 an7 cd7 ct7), sl7⟩) (c7 : PySem.W.codeIn K cd7 "_law_least" = true) (k7 : PySem.W.keepIn K (.ref f7) = true)
    (a8 : PySem.W.nsIn K mainGlobals "_law_wholes" = some (some (.ref f8))) (l8 : K.lookup f8 = some ⟨oc8, od8, .func (PySem.W.fnOf "_law_wholes" "_law_wholes" (defArgs S__law_wholes) (defBody S__law_wholes) (defScope S__law_wholes) .none kV8 dc8 pm8 an8 cd8 ct8), sl8⟩) (c8 : PySem.W.codeIn K cd8 "_law_wholes" = true) (k8 : PySem.W.keepIn K (.ref f8) = true)
    (a9 : PySem.W.nsIn K mainGlobals "_law_view" = some (some (.ref f9))) (l9 : K.lookup f9 = some ⟨oc9, od9, .func (PySem.W.fnOf "_law_view" "_law_view" (defArgs S__law_view) (defBody S__law_view) (defScope S__law_view) .none kV9 dc9 pm9 an9 cd9 ct9), sl9⟩) (c9 : PySem.W.codeIn K cd9 "_law_view" = true) (k9 : PySem.W.keepIn K (.ref f9) = true)
    (a10 : PySem.W.nsIn K mainGlobals "_law_pairs" = some (some (.ref f10))) (l10 : K.lookup f10 = some ⟨oc10, od10, .func (PySem.W.fnOf "_law_pairs" "_law_pairs" (defArgs S__law_pairs) (defBody S__law_pairs) (defScope S__law_pairs) .none kV10 dc10 pm10 an10 cd10 ct10), sl10⟩) (c10 : PySem.W.codeIn K cd10 "_law_pairs" = true) (k10 : PySem.W.keepIn K (.ref f10) = true)
    (a11 : PySem.W.nsIn K mainGlobals "_law_met" = some (some (.ref f11))) (l11 : K.lookup f11 = some ⟨oc11, od11, .func (PySem.W.fnOf "_law_met" "_law_met" (defArgs S__law_met) (defBody S__law_met) (defScope S__law_met) .none kV11 dc11 pm11 an11 cd11 ct11), sl11⟩) (c11 : PySem.W.codeIn K cd11 "_law_met" = true) (k11 : PySem.W.keepIn K (.ref f11) = true)
    (a12 : PySem.W.nsIn K mainGlobals "_law_one_view" = some (some (.ref f12))) (l12 : K.lookup f12 = some ⟨oc12, od12, .func (PySem.W.fnOf "_law_one_view" "_law_one_view" (defArgs S__law_one_view) (defBody S__law_one_view) (defScope S__law_one_view) .none kV12 dc12 pm12 an12 cd12 ct12), sl12⟩) (c12 : PySem.W.codeIn K cd12 "_law_one_view" = true) (k12 : PySem.W.keepIn K (.ref f12) = true)
    (a13 : PySem.W.nsIn K mainGlobals "_law_has_one_less" = some (some (.ref f13))) (l13 : K.lookup f13 = some ⟨oc13, od13, .func (PySem.W.fnOf "_law_has_one_less" "_law_has_one_less" (defArgs S__law_has_one_less) (defBody S__law_has_one_less) (defScope S__law_has_one_less) .none kV13 dc13 pm13 an13 cd13 ct13), sl13⟩) (c13 : PySem.W.codeIn K cd13 "_law_has_one_less" = true) (k13 : PySem.W.keepIn K (.ref f13) = true)
    (a14 : PySem.W.nsIn K mainGlobals "_law_right" = some (some (.ref f14))) (l14 : K.lookup f14 = some ⟨oc14, od14, .func (PySem.W.fnOf "_law_right" "_law_right" (defArgs S__law_right) (defBody S__law_right) (defScope S__law_right) .none kV14 dc14 pm14 an14 cd14 ct14), sl14⟩) (c14 : PySem.W.codeIn K cd14 "_law_right" = true) (k14 : PySem.W.keepIn K (.ref f14) = true)
    (a15 : PySem.W.nsIn K mainGlobals "law" = some (some (.ref f15))) (l15 : K.lookup f15 = some ⟨oc15, od15, .func (PySem.W.fnOf "law" "law" (defArgs S_law) (defBody S_law) (defScope S_law) .none kV15 dc15 pm15 an15 cd15 ct15), sl15⟩) (c15 : PySem.W.codeIn K cd15 "law" = true) (k15 : PySem.W.keepIn K (.ref f15) = true)
    (z1 : PySem.W.nsIn K mainGlobals "len" = some none) (z2 : PySem.W.nsIn K mainGlobals "range" = some none) (z3 : PySem.W.nsIn K mainGlobals "tuple" = some none) (z4 : PySem.W.nsIn K mainGlobals "list" = some none) (z5 : PySem.W.nsIn K mainGlobals "int" = some none) (z6 : PySem.W.nsIn K mainGlobals "bool" = some none) (z7 : PySem.W.nsIn K mainGlobals "str" = some none) (z8 : PySem.W.nsIn K mainGlobals "dict" = some none) (z9 : PySem.W.nsIn K mainGlobals "sum" = some none) (z10 : PySem.W.nsIn K mainGlobals "all" = some none) (z11 : PySem.W.nsIn K mainGlobals "min" = some none) (z12 : PySem.W.nsIn K mainGlobals "max" = some none) (z13 : PySem.W.nsIn K mainGlobals "sorted" = some none) (z14 : PySem.W.nsIn K mainGlobals "enumerate" = some none) (z15 : PySem.W.nsIn K mainGlobals "zip" = some none) (z16 : PySem.W.nsIn K mainGlobals "isinstance" = some none) :
    ∃ fd : FuncData, (∀ (s : Shared) (v : Value), BindsTo s fd ⟨[v], []⟩ [("_law_script", v)]) ∧ ∀ base : Heap, K.In base → base.Ns mainGlobals mg → FnOk l.prog w K mg base CX0 4 fa fd ["_law_script"] (spLaw K) := by
  have e := hfa.symm.trans (PySem.W.mg_of X G a15)
  cases e
  have B : Blt mg := ⟨PySem.W.mg_none_of X G z1, PySem.W.mg_none_of X G z2, PySem.W.mg_none_of X G z3, PySem.W.mg_none_of X G z4, PySem.W.mg_none_of X G z5, PySem.W.mg_none_of X G z6, PySem.W.mg_none_of X G z7, PySem.W.mg_none_of X G z8, PySem.W.mg_none_of X G z9, PySem.W.mg_none_of X G z10, PySem.W.mg_none_of X G z11, PySem.W.mg_none_of X G z12, PySem.W.mg_none_of X G z13, PySem.W.mg_none_of X G z14, PySem.W.mg_none_of X G z15, PySem.W.mg_none_of X G z16⟩
  have F1 := fun_mk (st := S_steps_from) l1 c1 k1
  have D1 : Def K mg "steps_from" S_steps_from ["many", "views", "deal"] _ _ := ⟨F1, PySem.W.mg_of X G a1, F1.binds (ps := ["many", "views", "deal"]) fun _ _ _ _ _ _ us hl => ofLen3 us hl fun _ _ _ => rfl⟩
  have F2 := fun_mk (st := S_roads_from) l2 c2 k2
  have D2 : Def K mg "roads_from" S_roads_from ["many", "views", "deal"] _ _ := ⟨F2, PySem.W.mg_of X G a2, F2.binds (ps := ["many", "views", "deal"]) fun _ _ _ _ _ _ us hl => ofLen3 us hl fun _ _ _ => rfl⟩
  have F3 := fun_mk (st := S_groups_of) l3 c3 k3
  have D3 : Def K mg "groups_of" S_groups_of ["view"] _ _ := ⟨F3, PySem.W.mg_of X G a3, F3.binds (ps := ["view"]) fun _ _ _ _ _ _ us hl => ofLen1 us hl fun _ => rfl⟩
  have F4 := fun_mk (st := S_one_step_on) l4 c4 k4
  have D4 : Def K mg "one_step_on" S_one_step_on ["views", "groups", "roads", "newest"] _ _ := ⟨F4, PySem.W.mg_of X G a4, F4.binds (ps := ["views", "groups", "roads", "newest"]) fun _ _ _ _ _ _ us hl => ofLen4 us hl fun _ _ _ _ => rfl⟩
  have F5 := fun_mk (st := S__law_mixed) l5 c5 k5
  have D5 : Def K mg "_law_mixed" S__law_mixed ["_law_base", "_law_k"] _ _ := ⟨F5, PySem.W.mg_of X G a5, F5.binds (ps := ["_law_base", "_law_k"]) fun _ _ _ _ _ _ us hl => ofLen2 us hl fun _ _ => rfl⟩
  have F6 := fun_mk (st := S__law_cell) l6 c6 k6
  have D6 : Def K mg "_law_cell" S__law_cell ["_law_script", "_law_k"] _ _ := ⟨F6, PySem.W.mg_of X G a6, F6.binds (ps := ["_law_script", "_law_k"]) fun _ _ _ _ _ _ us hl => ofLen2 us hl fun _ _ => rfl⟩
  have F7 := fun_mk (st := S__law_least) l7 c7 k7
  have D7 : Def K mg "_law_least" S__law_least ["_law_signs"] _ _ := ⟨F7, PySem.W.mg_of X G a7, F7.binds (ps := ["_law_signs"]) fun _ _ _ _ _ _ us hl => ofLen1 us hl fun _ => rfl⟩
  have F8 := fun_mk (st := S__law_wholes) l8 c8 k8
  have D8 : Def K mg "_law_wholes" S__law_wholes ["_law_found"] _ _ := ⟨F8, PySem.W.mg_of X G a8, F8.binds (ps := ["_law_found"]) fun _ _ _ _ _ _ us hl => ofLen1 us hl fun _ => rfl⟩
  have F9 := fun_mk (st := S__law_view) l9 c9 k9
  have D9 : Def K mg "_law_view" S__law_view ["_law_script", "_law_at", "_law_many"] _ _ := ⟨F9, PySem.W.mg_of X G a9, F9.binds (ps := ["_law_script", "_law_at", "_law_many"]) fun _ _ _ _ _ _ us hl => ofLen3 us hl fun _ _ _ => rfl⟩
  have F10 := fun_mk (st := S__law_pairs) l10 c10 k10
  have D10 : Def K mg "_law_pairs" S__law_pairs ["_law_many", "_law_k", "_law_turn"] _ _ := ⟨F10, PySem.W.mg_of X G a10, F10.binds (ps := ["_law_many", "_law_k", "_law_turn"]) fun _ _ _ _ _ _ us hl => ofLen3 us hl fun _ _ _ => rfl⟩
  have F11 := fun_mk (st := S__law_met) l11 c11 k11
  have D11 : Def K mg "_law_met" S__law_met ["_law_many", "_law_views", "_law_deal"] _ _ := ⟨F11, PySem.W.mg_of X G a11, F11.binds (ps := ["_law_many", "_law_views", "_law_deal"]) fun _ _ _ _ _ _ us hl => ofLen3 us hl fun _ _ _ => rfl⟩
  have F12 := fun_mk (st := S__law_one_view) l12 c12 k12
  have D12 : Def K mg "_law_one_view" S__law_one_view ["_law_view_here", "_law_found"] _ _ := ⟨F12, PySem.W.mg_of X G a12, F12.binds (ps := ["_law_view_here", "_law_found"]) fun _ _ _ _ _ _ us hl => ofLen2 us hl fun _ _ => rfl⟩
  have F13 := fun_mk (st := S__law_has_one_less) l13 c13 k13
  have D13 : Def K mg "_law_has_one_less" S__law_has_one_less ["_law_views", "_law_found", "_law_place"] _ _ := ⟨F13, PySem.W.mg_of X G a13, F13.binds (ps := ["_law_views", "_law_found", "_law_place"]) fun _ _ _ _ _ _ us hl => ofLen3 us hl fun _ _ _ => rfl⟩
  have F14 := fun_mk (st := S__law_right) l14 c14 k14
  have D14 : Def K mg "_law_right" S__law_right ["_law_found", "_law_many", "_law_views", "_law_deal"] _ _ := ⟨F14, PySem.W.mg_of X G a14, F14.binds (ps := ["_law_found", "_law_many", "_law_views", "_law_deal"]) fun _ _ _ _ _ _ us hl => ofLen4 us hl fun _ _ _ _ => rfl⟩
  have F15 := fun_mk (st := S_law) l15 c15 k15
  have D15 : Def K mg "law" S_law ["_law_script"] _ _ := ⟨F15, PySem.W.mg_of X G a15, F15.binds (ps := ["_law_script"]) fun _ _ _ _ _ _ us hl => ofLen1 us hl fun _ => rfl⟩
  refine ⟨PySem.W.fnOf "law" "law" (defArgs S_law) (defBody S_law) (defScope S_law) .none kV15 dc15 pm15 an15 cd15 ct15, fun s v => .of_eq rfl, fun base _ _ => ?_⟩
  exact build B D1 D2 D3 D4 D5 D6 D7 D8 D9 D10 D11 D12 D13 D14 D15  
end Kc_k27
open PySem PySem.W PyProof.Rows
set_option maxRecDepth 100000 in
set_option maxHeartbeats 0 in
theorem PySem.Challenge.cw_knowcards_k27_steps_counted_holds : PySem.Challenge.rw_knowcards_k27_steps_counted.Holds := by
  w_on; o_law; k_head; (case hw => w_witness2)
  k_fill
  refine L2.walk_ofB (l := PySem.Challenge.rw_knowcards_k27_steps_counted) (k := 4) (x := "_law_script") rfl rfl ⟨rfl, by decide, by decide⟩ (fun w h Y => PySem.W.kIn_of Y) ?F
  case F =>
    intro w mg fa h KX G hmg
    refine' Kc_k27.all_mk KX G hmg ?a1 ?l1 ?c1 ?k1 ?a2 ?l2 ?c2 ?k2 ?a3 ?l3 ?c3 ?k3 ?a4 ?l4 ?c4 ?k4 ?a5 ?l5 ?c5 ?k5 ?a6 ?l6 ?c6 ?k6 ?a7 ?l7 ?c7 ?k7 ?a8 ?l8 ?c8 ?k8 ?a9 ?l9 ?c9 ?k9 ?a10 ?l10 ?c10 ?k10 ?a11 ?l11 ?c11 ?k11 ?a12 ?l12 ?c12 ?k12 ?a13 ?l13 ?c13 ?k13 ?a14 ?l14 ?c14 ?k14 ?a15 ?l15 ?c15 ?k15  ?z1 ?z2 ?z3 ?z4 ?z5 ?z6 ?z7 ?z8 ?z9 ?z10 ?z11 ?z12 ?z13 ?z14 ?z15 ?z16
    (case a1 => k_is); (case l1 => k_is); (case c1 => k_is); (case k1 => k_is)
    (case a2 => k_is); (case l2 => k_is); (case c2 => k_is); (case k2 => k_is)
    (case a3 => k_is); (case l3 => k_is); (case c3 => k_is); (case k3 => k_is)
    (case a4 => k_is); (case l4 => k_is); (case c4 => k_is); (case k4 => k_is)
    (case a5 => k_is); (case l5 => k_is); (case c5 => k_is); (case k5 => k_is)
    (case a6 => k_is); (case l6 => k_is); (case c6 => k_is); (case k6 => k_is)
    (case a7 => k_is); (case l7 => k_is); (case c7 => k_is); (case k7 => k_is)
    (case a8 => k_is); (case l8 => k_is); (case c8 => k_is); (case k8 => k_is)
    (case a9 => k_is); (case l9 => k_is); (case c9 => k_is); (case k9 => k_is)
    (case a10 => k_is); (case l10 => k_is); (case c10 => k_is); (case k10 => k_is)
    (case a11 => k_is); (case l11 => k_is); (case c11 => k_is); (case k11 => k_is)
    (case a12 => k_is); (case l12 => k_is); (case c12 => k_is); (case k12 => k_is)
    (case a13 => k_is); (case l13 => k_is); (case c13 => k_is); (case k13 => k_is)
    (case a14 => k_is); (case l14 => k_is); (case c14 => k_is); (case k14 => k_is)
    (case a15 => k_is); (case l15 => k_is); (case c15 => k_is); (case k15 => k_is)
    (case z1 => k_is); (case z2 => k_is); (case z3 => k_is); (case z4 => k_is); (case z5 => k_is); (case z6 => k_is); (case z7 => k_is); (case z8 => k_is); (case z9 => k_is); (case z10 => k_is); (case z11 => k_is); (case z12 => k_is); (case z13 => k_is); (case z14 => k_is); (case z15 => k_is); (case z16 => k_is)
