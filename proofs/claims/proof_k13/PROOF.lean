import PyProof.Rows.All
import Wide.All
import OpenK.AllK
import Wide.FinOn
import Lean
import PyProof.EqAt
import PyProof.EqKinds
import PyProof.TupleCall
import PyProof.NeKinds
import PyProof.SumWalkG
import PyProof.ConsumeWalk
import KE.IntBitsLaws
import PyProof.ZipIter
import PyProof.StrLawsReplace
import PyProof.StrCalls6
import PyProof.StrCalls2
import KE.KTryMore
import PyProof.ExcArgsOwn
import PyProof.Rows.EqDataRows
import PyProof.ListRange
import KE.KItemsList
import KE.KRevIter
import KE.KEqDict
import PyProof.RulesTry
import PyProof.Logic
import PyProof.Cells
import KE.KIntText
import PySem.Challenge.RW_knowcards_k13_whole_one_text_each
set_option compiler.extract_closed false
section
-- KcLayer
-- CHANGE: your row's module here, as the last of these rows
set_option Elab.async false
set_option linter.all false
set_option maxRecDepth 100000
/-! THE HAND LAYER, for ints, bools, texts, own classes, LISTS and tuples (index, slices, in, append, pop ..), calls, loops. Paste it whole ahead of your own text; what your proof does not reach may be deleted. -/
namespace L2
open PySem PySem.Spec PyProof.Rows

noncomputable abbrev Key := Sum Int Str
noncomputable def keyIs : Key → Value → Bool
  | .inl k, v => Value.isInt k v
  | .inr x, v => Value.isStrOf x v
noncomputable def keyH (w : World) : Key → Int
  | .inl k => hashInt k
  | .inr x => hashStr w x
theorem keyIs_shape : ∀ {k : Key} {v : Value}, keyIs k v = true → (∃ i t, k = Sum.inl i ∧ v = Value.int i t) ∨ (∃ x t, k = Sum.inr x ∧ v = Value.str x t)
  | .inl i, v, h => by
    obtain ⟨t, e⟩ := Value.isInt_shape (k := i) (v := v) h
    exact .inl ⟨i, t, rfl, e⟩
  | .inr x, v, h => by
    obtain ⟨t, e⟩ := Value.isStrOf_shape (x := x) (v := v) h
    exact .inr ⟨x, t, rfl, e⟩
theorem keyIs_int (i : Int) (t : Tok) : keyIs (.inl i) (.int i t) = true := by simp [keyIs, Value.isInt]
theorem keyIs_str (x : Str) (t : Tok) : keyIs (.inr x) (.str x t) = true := by simp [keyIs, Value.isStrOf]
theorem key_ll (a b : Int) : decide ((Sum.inl a : Key) = Sum.inl b) = (a == b) := by
  by_cases e : a = b
  · subst e; simp
  · have h : ¬ (Sum.inl a : Key) = Sum.inl b := fun q => e (Sum.inl.inj q)
    rw [decide_eq_false h]
    exact (beq_eq_false_iff_ne.mpr e).symm
theorem key_rr (a b : Str) : decide ((Sum.inr a : Key) = Sum.inr b) = decide (a = b) := by
  by_cases e : a = b
  · subst e; simp
  · have h : ¬ (Sum.inr a : Key) = Sum.inr b := fun q => e (Sum.inr.inj q)
    rw [decide_eq_false h, decide_eq_false e]
theorem key_lr (a : Int) (b : Str) : decide ((Sum.inl a : Key) = Sum.inr b) = false := decide_eq_false (fun q => nomatch q)
theorem key_rl (a : Str) (b : Int) : decide ((Sum.inr a : Key) = Sum.inl b) = false := decide_eq_false (fun q => nomatch q)

noncomputable def mixKind (prog : Program) (w : World) : PySem.KeyKind prog w Key where
  is := keyIs
  hash := keyH w
  inj := fun v a b ha hb => by
    rcases keyIs_shape ha with ⟨i, t, rfl, rfl⟩ | ⟨x, t, rfl, rfl⟩
    · rcases keyIs_shape hb with ⟨j, u, rfl, e⟩ | ⟨y, u, rfl, e⟩
      · injection e with e1 _; rw [e1]
      · exact nomatch e
    · rcases keyIs_shape hb with ⟨j, u, rfl, e⟩ | ⟨y, u, rfl, e⟩
      · exact nomatch e
      · injection e with e1 _; rw [e1]
  byValue := fun k v h => by
    rcases keyIs_shape h with ⟨i, t, rfl, rfl⟩ | ⟨x, t, rfl, rfl⟩ <;> rfl
  pyHash := fun hv h => by
    rcases keyIs_shape hv with ⟨i, t, rfl, rfl⟩ | ⟨x, t, rfl, rfl⟩
    · exact wpAny_pyHash_int h
    · exact wpAny_pyHash_str h
  eqBool := fun hu hv h => by
    rcases keyIs_shape hu with ⟨i, t, rfl, rfl⟩ | ⟨x, t, rfl, rfl⟩
    · rcases keyIs_shape hv with ⟨j, u, rfl, rfl⟩ | ⟨y, u, rfl, rfl⟩
      · rw [key_ll] at h; exact wpAny_eqBool_int h
      · rw [key_lr] at h; exact SeqAt.EqAt.int_str i t y u _ _ _ _ h
    · rcases keyIs_shape hv with ⟨j, u, rfl, rfl⟩ | ⟨y, u, rfl, rfl⟩
      · rw [key_rl] at h; exact SeqAt.EqAt.str_int x t j u _ _ _ _ h
      · rw [key_rr] at h; exact wpAny_eqBool_str h
  «strs» := fun k x t v h => by
    rcases keyIs_shape h with ⟨i, u, rfl, e⟩ | ⟨y, u, rfl, e⟩
    · exact nomatch e
    · injection e with e1 _
      subst e1
      cases v <;> rfl

theorem mixKind_int (prog : Program) (w : World) (i : Int) (t : Tok) : (mixKind prog w).is (.inl i) (.int i t) = true := keyIs_int i t
theorem mixKind_str (prog : Program) (w : World) (x : Str) (t : Tok) : (mixKind prog w).is (.inr x) (.str x t) = true := keyIs_str x t
end L2

namespace L2
open PySem PySem.Spec PyProof.Rows

inductive V where
  | non | bl (b : Bool) | int (i : Int) | str (x : Str) | byt (b : Array UInt8) | flt (b : UInt64) | ref (a : Addr) | ty (n : String)
  deriving DecidableEq

noncomputable def RelV : V → Value → Prop
  | .non, u => u = Value.none
  | .bl b, u => u = Value.bool b
  | .int i, u => ∃ t, u = Value.int i t
  | .str x, u => ∃ t, u = Value.str x t
  | .byt b, u => ∃ t, u = Value.bytes b t
  | .flt b, u => ∃ t, u = Value.float b t
  | .ref a, u => u = Value.ref a
  | .ty n, u => u = Value.type n

noncomputable abbrev Vals : List V → List Value → Prop := Paired RelV
theorem Vals.length {xs : List V} {us : List Value} (r : Vals xs us) : xs.length = us.length := Paired.length r
theorem Vals.get : ∀ {xs : List V} {us : List Value} {i : Nat} {x : V}, Vals xs us → xs[i]? = some x → ∃ u, us[i]? = some u ∧ RelV x u
  | _, _, _, _, .nil, e => by simp at e
  | _, _, 0, _, .cons r _, e => by simp at e; subst e; exact ⟨_, rfl, r⟩
  | _, _, i + 1, x, .cons _ t, e => by
    obtain ⟨u, h1, h2⟩ := Vals.get (i := i) (x := x) t (by simpa using e)
    exact ⟨u, by simpa using h1, h2⟩
theorem Vals.set {x : V} {u : Value} (r : RelV x u) : ∀ {xs : List V} {us : List Value} (i : Nat), Vals xs us → Vals (xs.set i x) (us.set i u)
  | _, _, _, .nil => .nil
  | _, _, 0, .cons _ t => .cons r t
  | _, _, i + 1, .cons q t => .cons q (Vals.set r i t)
theorem Vals.append : ∀ {xs ys : List V} {us ws : List Value}, Vals xs us → Vals ys ws → Vals (xs ++ ys) (us ++ ws)
  | _, _, _, _, .nil, s => s
  | _, _, _, _, .cons r t, s => .cons r (Vals.append t s)
theorem Vals.take : ∀ {xs : List V} {us : List Value} (n : Nat), Vals xs us → Vals (xs.take n) (us.take n)
  | _, _, 0, _ => .nil
  | _, _, _ + 1, .nil => .nil
  | _, _, n + 1, .cons r t => .cons r (Vals.take n t)
theorem Vals.drop : ∀ {xs : List V} {us : List Value} (n : Nat), Vals xs us → Vals (xs.drop n) (us.drop n)
  | _, _, 0, r => r
  | _, _, _ + 1, .nil => .nil
  | _, _, n + 1, .cons _ t => Vals.drop n t
noncomputable def RelO : Option V → Option Value → Prop
  | some v, some u => RelV v u
  | none, none => True
  | _, _ => False
noncomputable def KV {κ : Type} : List (κ × V) → List (κ × Value) → Prop := Paired fun (p : κ × V) (q : κ × Value) => p.1 = q.1 ∧ RelV p.2 q.2

noncomputable def kV : Key → V
  | .inl i => .int i
  | .inr x => .str x

inductive HO where
  /-- a list -/
  | lst (xs : List V)
  /-- a tuple (never changes) -/
  | tup (xs : List V)
  /-- a dict whose keys are ints and texts; one whose keys are tuples of ints and texts (the empty one is both) -/
  | dK (kvs : List (Key × V)) | dT (kvs : List (List Key × V))
  /-- a set of ints: its members, its size -/
  | set (S : Int → Bool) (n : Nat)
  /-- an instance of the class at C, its dict at dx, its attributes -/
  | ins (C dx : Addr) (fs : List (Str × V))
  /-- the dict of the instance at x -/
  | own (x : Addr)
  /-- the dict of an exception -/
  | xd (fs : List (Str × V))
  /-- a bound method, f of x -/
  | met (f x : Addr)
  /-- a range object lo, lo + 1, .. below hi -/
  | rng (lo hi : Int)
  /-- a thing that is known to the object (the script; a dict while a loop walks it): read, never written while it is so -/
  | frz (o : Obj) (u : HO)
  /-- a code object's table -/
  | tbl (ps : Array Value)
  /-- any other thing, by what is true of its one object (a def of one's own: SetO a S n := HO.ext fun h => ..) -/
  | ext (φ : Heap → Prop)

noncomputable abbrev Hp := Addr → Option HO
noncomputable def upd (H : Hp) (a : Addr) (o : HO) : Hp := fun b => if b = a then some o else H b
theorem upd_same {H : Hp} {a : Addr} {o : HO} : upd H a o a = some o := by unfold upd; rw [if_pos rfl]
theorem upd_ne {H : Hp} {a b : Addr} {o : HO} (h : b ≠ a) : upd H a o b = H b := by unfold upd; rw [if_neg h]
theorem ne_of {H : Hp} {a b : Addr} {o u : HO} (h : H a = some o) (h' : H b = some u) (d : o ≠ u) : a ≠ b := by
  intro e; subst e; rw [h] at h'; exact d (Option.some.inj h')
theorem ne_of_none {H : Hp} {a b : Addr} {o : HO} (h : H a = some o) (h' : H b = none) : a ≠ b := by
  intro e; subst e; rw [h] at h'; cases h'

noncomputable def IsTupD (h : Heap) (a : Addr) (items : Array Value) : Prop := ∃ o, h.get? a = some o ∧ o.cls = .type "tuple" ∧ (∃ n, o.data = .seq items n) ∧ o.dict = none
theorem IsTupD.lt {h : Heap} {a : Addr} {items : Array Value} (x : IsTupD h a items) : a < h.objs.size := let ⟨_, e, _⟩ := x; Heap.lt_size e
theorem IsTupD.tup {h : Heap} {a : Addr} {items : Array Value} (x : IsTupD h a items) : IsTup h a items := let ⟨o, e, c, d, _⟩ := x; ⟨o, e, c, d⟩
theorem IsTupD.new (h : Heap) (items : Array Value) : IsTupD (h.push { cls := .type "tuple", data := .seq items }) h.objs.size items := ⟨_, Heap.get?_push_size _ rfl, rfl, ⟨_, rfl⟩, rfl⟩
section
variable (P : Program) (w : World)
noncomputable def ObjOk (H : Hp) (h : Heap) (a : Addr) : HO → Prop
  | .lst xs => xs.length ≤ sizeLine ∧ ∃ (its : List Value) (n : Nat), Vals xs its ∧ h.get? a = some { cls := .type "list", data := .seq its.toArray n }
  | .tup xs => xs.length ≤ sizeLine ∧ ∃ its : List Value, Vals xs its ∧ IsTupD h a its.toArray
  | .dK kvs => kvs.length ≤ sizeLine ∧ (a == sysModules) = false ∧ ∃ vs, KV kvs vs ∧ h.DictOf (mixKind P w) a vs
  | .dT kvs => kvs.length ≤ sizeLine ∧ (a == sysModules) = false ∧ ∃ xs : List (List Key × Addr × Value),
      Paired (fun (p : List Key × V) (q : List Key × Addr × Value) => p.1 = q.1 ∧ H q.2.1 = some (.tup (p.1.map kV)) ∧ RelV p.2 q.2.2) kvs xs ∧
      ∃ o es ep, h.get? a = some o ∧ o.ExactDict ∧ o.data = .dict es ep ∧ es.toList = xs.map (entryOfKey (tupleKind (mixKind P w))) ∧ (xs.map (·.1)).Nodup
  | .set S n => h.SetOf (intKind P w) a S n
  | .ins C dx fs => H dx = some (.own a) ∧ fs.length ≤ 1000 ∧ dx ≠ a ∧ h.get? a = some (PySem.W.instObj C dx) ∧
      ∃ mA, h.Ns1 dx mA ∧ (∀ f, RelO (fs.lookup f) (mA f)) ∧ PySem.Within mA (fs.map (·.1))
  | .own _ => ∃ o, h.get? a = some o
  | .xd fs => ∃ mA, h.Ns1 a mA ∧ ∀ f, RelO (fs.lookup f) (mA f)
  | .rng lo hi => ∃ t u v, h.get? a = some { cls := .type "range", data := .fields #[.int lo t, .int hi u, .int 1 v] }
  | .frz o u => h.get? a = some o ∧ ObjOk H h a u
  | .tbl ps => h.get? a = some { cls := .none, data := .fields ps }
  | .met f x => h.get? a = some (PySem.W.methodObj (.ref f) (.ref x))
  | .ext φ => φ h ∧ (∃ o, h.get? a = some o) ∧ ∀ h1 h2 : Heap, φ h1 → (∀ o, h1.get? a = some o → h2.get? a = some o) → φ h2
noncomputable def HOk (H : Hp) (h : Heap) : Prop := ∀ a o, H a = some o → ObjOk P w H h a o
end

section
variable {P : Program} {w : World} {H H' : Hp} {h h' : Heap} {a : Addr} {o : HO}
theorem ObjOk.lt (x : ObjOk P w H h a o) : a < h.objs.size := by
  cases o with
  | lst xs => obtain ⟨_, _, _, _, e⟩ := x; exact Heap.lt_size e
  | tup xs => obtain ⟨_, _, _, p⟩ := x; exact p.lt
  | dK kvs => obtain ⟨_, _, _, _, o, _, _, e, _⟩ := x; exact Heap.lt_size e
  | dT kvs => obtain ⟨_, _, _, _, o, _, _, e, _⟩ := x; exact Heap.lt_size e
  | set S n => obtain ⟨o, _, _, _, e, _⟩ := x; exact Heap.lt_size e
  | ins C dx fs => obtain ⟨_, _, _, e, _⟩ := x; exact Heap.lt_size e
  | own y => obtain ⟨_, e⟩ := x; exact Heap.lt_size e
  | xd fs => obtain ⟨_, ⟨_, _, _, e, _⟩, _⟩ := x; exact Heap.lt_size e
  | rng lo hi => obtain ⟨_, _, _, e⟩ := x; exact Heap.lt_size e
  | frz ob u => obtain ⟨e, _⟩ := x; exact Heap.lt_size e
  | tbl ps => exact Heap.lt_size (show h.get? a = some _ from x)
  | met f y => exact Heap.lt_size (show h.get? a = some _ from x)
  | ext φ => obtain ⟨_, ⟨_, e⟩, _⟩ := x; exact Heap.lt_size e
theorem Paired.mapP {α β : Type} {F G : α → β → Prop} : ∀ {l₁ : List α} {l₂ : List β}, Paired F l₁ l₂ → (∀ a b, F a b → G a b) → Paired G l₁ l₂
  | _, _, .nil, _ => .nil
  | _, _, .cons r t, f => .cons (f _ _ r) (Paired.mapP t f)
theorem ObjOk.stay (x : ObjOk P w H h a o) (k : ∀ b u, (b = a ∨ H b = some (.own a)) → h.get? b = some u → h'.get? b = some u)
    (ho : ∀ b, H b = some (.own a) → H' b = some (.own a)) (ht : ∀ b xs, H b = some (.tup xs) → H' b = some (.tup xs)) : ObjOk P w H' h' a o := by
  induction o with
  | lst xs => obtain ⟨z, its, n, r, e⟩ := x; exact ⟨z, its, n, r, k _ _ (.inl rfl) e⟩
  | tup xs => obtain ⟨z, its, r, ob, e, c⟩ := x; exact ⟨z, its, r, ob, k _ _ (.inl rfl) e, c⟩
  | dK kvs => obtain ⟨z, y, vs, r, ob, es, ep, e, c⟩ := x; exact ⟨z, y, vs, r, ob, es, ep, k _ _ (.inl rfl) e, c⟩
  | dT kvs =>
    obtain ⟨z, y, xs, r, ob, es, ep, e, c⟩ := x
    exact ⟨z, y, xs, Paired.mapP r fun p q z => ⟨z.1, ht _ _ z.2.1, z.2.2⟩, ob, es, ep, k _ _ (.inl rfl) e, c⟩
  | set S n => obtain ⟨ob, es, ep, t, e, c⟩ := x; exact ⟨ob, es, ep, t, k _ _ (.inl rfl) e, c⟩
  | ins C dx fs =>
    obtain ⟨d, z, ne, e, mA, ⟨od, es, ep, e2, c⟩, r⟩ := x
    exact ⟨ho _ d, z, ne, k _ _ (.inl rfl) e, mA, ⟨od, es, ep, k _ _ (.inr d) e2, c⟩, r⟩
  | own y => obtain ⟨ob, e⟩ := x; exact ⟨ob, k _ _ (.inl rfl) e⟩
  | xd fs => obtain ⟨mA, ⟨od, es, ep, e, c⟩, r⟩ := x; exact ⟨mA, ⟨od, es, ep, k _ _ (.inl rfl) e, c⟩, r⟩
  | rng lo hi => obtain ⟨t, u, v, e⟩ := x; exact ⟨t, u, v, k _ _ (.inl rfl) e⟩
  | frz ob u ih => obtain ⟨e, q⟩ := x; exact ⟨k _ _ (.inl rfl) e, ih q⟩
  | tbl ps =>
    have e : h.get? a = some { cls := .none, data := .fields ps } := x
    show h'.get? a = some { cls := .none, data := .fields ps }
    exact k a _ (.inl rfl) e
  | met f y =>
    have e : h.get? a = some (PySem.W.methodObj (.ref f) (.ref y)) := x
    show h'.get? a = some (PySem.W.methodObj (.ref f) (.ref y))
    exact k a _ (.inl rfl) e
  | ext φ => obtain ⟨p, ⟨o, e⟩, st⟩ := x; exact ⟨st _ _ p fun o q => k _ _ (.inl rfl) q, ⟨o, k _ _ (.inl rfl) e⟩, st⟩
theorem HOk.lt (x : HOk P w H h) (e : H a = some o) : a < h.objs.size := (x a o e).lt
theorem HOk.fresh (x : HOk P w H h) (e : h.objs.size ≤ a) : H a = none := by
  cases q : H a with
  | none => rfl
  | some u => exact absurd (Nat.lt_of_lt_of_le (x.lt q) e) (Nat.lt_irrefl _)
theorem HOk.kept (x : HOk P w H h) (k : ∀ b u, h.get? b = some u → h'.get? b = some u) : HOk P w H h' := fun a o e =>
  (x a o e).stay (fun b u _ q => k b u q) (fun _ q => q) fun _ _ q => q
theorem HOk.laid (x : HOk P w H h) (k : ∀ b u, h.get? b = some u → h'.get? b = some u) (hp : h.objs.size ≤ a) (new : ObjOk P w (upd H a o) h' a o) : HOk P w (upd H a o) h' := fun b u e => by
  have hn := x.fresh hp
  by_cases hb : b = a
  · subst hb; rw [upd_same] at e; cases e; exact new
  · rw [upd_ne hb] at e
    exact (x b u e).stay (fun c v _ q => k c v q) (fun c q => by rw [upd_ne (ne_of_none q hn)]; exact q) fun c xs q => by rw [upd_ne (ne_of_none q hn)]; exact q
end

noncomputable def Rd (H : Hp) (a : Addr) (u : HO) : Prop := H a = some u ∨ ∃ o, H a = some (.frz o u)
theorem Rd.of {H : Hp} {a : Addr} {u : HO} (h : H a = some u) : Rd H a u := .inl h
theorem Rd.ok {P : Program} {w : World} {H : Hp} {h : Heap} {a : Addr} {u : HO} (r : Rd H a u) (x : HOk P w H h) : ObjOk P w H h a u := by
  rcases r with r | ⟨o, r⟩
  · exact x a u r
  · obtain ⟨_, q⟩ := x a _ r
    exact q
noncomputable def Mut : Option HO → Prop
  | some (.lst _) => True
  | some (.dK _) => True
  | some (.dT _) => True
  | some (.set _ _) => True
  | some (.ins _ _ _) => True
  | some (.ext _) => True
  | _ => False
section
variable {P : Program} {w : World} {H : Hp} {h h' : Heap} {x e : Addr} {o' : HO}
theorem HOk.write (ok : HOk P w H h) (mu : Mut (H x)) (he : e = x ∨ H e = some (.own x)) (k : ∀ b u, b ≠ e → h.get? b = some u → h'.get? b = some u) (heo : ∃ u, h'.get? e = some u)
    (new : ObjOk P w (upd H x o') h' x o') : HOk P w (upd H x o') h' := fun b u q => by
  have nown : ∀ c y, H c = some (.own y) → c ≠ x := fun c y r z => by subst z; rw [r] at mu; exact mu
  have ntup : ∀ c xs, H c = some (.tup xs) → c ≠ x := fun c xs r z => by subst z; rw [r] at mu; exact mu
  by_cases hb : b = x
  · subst hb; rw [upd_same] at q; cases q; exact new
  · rw [upd_ne hb] at q
    by_cases hbe : b = e
    · have q' : H b = some (.own x) := by
        rcases he with z | z
        · exact absurd (hbe.trans z) hb
        · rw [hbe]; exact z
      rw [q] at q'; cases q'
      obtain ⟨v, hv⟩ := heo
      exact ⟨v, by rw [hbe]; exact hv⟩
    · refine (ok b u q).stay (fun c v hc r => k c v ?_ r) (fun c r => by rw [upd_ne (nown c b r)]; exact r) fun c xs r => by rw [upd_ne (ntup c xs r)]; exact r
      rcases hc with rfl | hc
      · exact hbe
      · rintro rfl
        rcases he with z | z
        · exact nown c b hc z
        · rw [hc] at z; cases z; exact hb rfl
end

/-! ### kept unless tracked; of the frames at fs (the callers') the slots may change (an exception that passes writes there); of the records at ex (iterators) nothing is said -/
structure Un (fs ex : List Addr) (H H' : Hp) (h h' : Heap) : Prop where
  keep : ∀ b o, h.get? b = some o → H b = none → b ∉ fs → b ∉ ex → h'.get? b = some o
  slot : ∀ b o, h.get? b = some o → H b = none → b ∈ fs → b ∉ ex → ∃ sl, h'.get? b = some { o with slots := sl }
  free : ∀ b o, h.get? b = some o → H b = none → b ∉ ex → H' b = none
  there : ∀ b o, h.get? b = some o → b ∉ ex → ∃ o', h'.get? b = some o'
  tups : ∀ b xs, H b = some (.tup xs) → H' b = some (.tup xs)
  frzs : ∀ b o u, H b = some (.frz o u) → H' b = some (.frz o u)
  tbls : ∀ b ps, H b = some (.tbl ps) → ∃ more, H' b = some (.tbl (ps ++ more))
section
variable {fs fs' ex ex' : List Addr} {H H1 H2 : Hp} {h h1 h2 h' : Heap} {a x e : Addr} {o : HO}
theorem Un.any (u : Un fs ex H H1 h h1) {b : Addr} {ob : Obj} (q : h.get? b = some ob) (n : H b = none) (hx : b ∉ ex) : ∃ sl, h1.get? b = some { ob with slots := sl } := by
  by_cases hb : b ∈ fs
  · exact u.slot b ob q n hb hx
  · exact ⟨ob.slots, u.keep b ob q n hb hx⟩
theorem Un.trans (a : Un fs ex H H1 h h1) (b : Un fs ex H1 H2 h1 h2) : Un fs ex H H2 h h2 where
  keep := fun c ob q n hc hx => b.keep c ob (a.keep c ob q n hc hx) (a.free c ob q n hx) hc hx
  slot := fun c ob q n hc hx => by
    obtain ⟨sl, e1⟩ := a.slot c ob q n hc hx
    obtain ⟨sl', e2⟩ := b.slot c _ e1 (a.free c ob q n hx) hc hx
    exact ⟨sl', e2⟩
  free := fun c ob q n hx => by
    obtain ⟨o', e1⟩ := a.there c ob q hx
    exact b.free c o' e1 (a.free c ob q n hx) hx
  there := fun c ob q hx => by
    obtain ⟨o', e1⟩ := a.there c ob q hx
    exact b.there c o' e1 hx
  tups := fun c xs q => b.tups c xs (a.tups c xs q)
  frzs := fun c ob xs q => b.frzs c ob xs (a.frzs c ob xs q)
  tbls := fun c ps q => by
    obtain ⟨m1, e1⟩ := a.tbls c ps q
    obtain ⟨m2, e2⟩ := b.tbls c _ e1
    exact ⟨m1 ++ m2, by rw [e2, Array.append_assoc]⟩
theorem Un.kept (k : ∀ b u, h.get? b = some u → h'.get? b = some u) : Un fs ex H H h h' :=
  ⟨fun b ob q _ _ _ => k b ob q, fun b ob q _ _ _ => ⟨ob.slots, k b ob q⟩, fun _ _ _ n _ => n, fun b ob q _ => ⟨ob, k b ob q⟩, fun _ _ q => q, fun _ _ _ q => q, fun _ ps q => ⟨#[], by rw [q]; simp⟩⟩
theorem Un.refl : Un fs ex H H h h := Un.kept fun _ _ q => q
theorem Un.laid (k : ∀ b u, h.get? b = some u → h'.get? b = some u) (hp : h.objs.size ≤ a) (hn : H a = none) : Un fs ex H (upd H a o) h h' where
  keep := fun b u q _ _ _ => k b u q
  slot := fun b u q _ _ _ => ⟨u.slots, k b u q⟩
  free := fun b u q n _ => by rw [upd_ne (Nat.ne_of_lt (Nat.lt_of_lt_of_le (Heap.lt_size q) hp))]; exact n
  there := fun b u q _ => ⟨u, k b u q⟩
  tups := fun b xs q => by rw [upd_ne (ne_of_none q hn)]; exact q
  frzs := fun b u xs q => by rw [upd_ne (ne_of_none q hn)]; exact q
  tbls := fun b ps q => ⟨#[], by rw [upd_ne (ne_of_none q hn), q]; simp⟩
theorem Un.write (mu : Mut (H x)) (he : e = x ∨ H e = some (.own x)) (k : ∀ b u, b ≠ e → h.get? b = some u → h'.get? b = some u) (heo : ∃ u, h'.get? e = some u) : Un fs ex H (upd H x o) h h' := by
  have hx : ∀ b, H b = none → b ≠ x := fun b n z => by subst z; rw [n] at mu; exact mu
  have hb : ∀ b, H b = none → b ≠ e := fun b n z => by
    subst z
    rcases he with r | r
    · exact hx b n r
    · rw [n] at r; cases r
  have hm : ∀ b u, H b = some u → ¬ Mut (some u) → b ≠ x := fun b u q nm z => by subst z; rw [q] at mu; exact nm mu
  refine ⟨fun b u q n _ _ => k b u (hb b n) q, fun b u q n _ _ => ⟨u.slots, k b u (hb b n) q⟩, fun b u q n _ => by rw [upd_ne (hx b n)]; exact n, fun b u q _ => ?_,
    fun b xs q => by rw [upd_ne (hm b _ q fun z => z)]; exact q, fun b u xs q => by rw [upd_ne (hm b _ q fun z => z)]; exact q, fun b ps q => ⟨#[], by rw [upd_ne (hm b _ q fun z => z), q]; simp⟩⟩
  by_cases hbe : b = e
  · subst hbe; exact heo
  · exact ⟨u, k b u hbe q⟩
theorem Un.mono (u : Un fs ex H H1 h h1) (hs : ∀ b ∈ fs, b ∈ fs') (hx : ∀ b ∈ ex, b ∈ ex') : Un fs' ex' H H1 h h1 :=
  ⟨fun b ob q n hb he => u.keep b ob q n (fun z => hb (hs b z)) fun z => he (hx b z), fun _ _ q n _ he => u.any q n fun z => he (hx _ z), fun b ob q n he => u.free b ob q n fun z => he (hx b z), fun b ob q he => u.there b ob q fun z => he (hx b z), u.tups, u.frzs, u.tbls⟩
end

/-! ### the heap without what is tracked -/
noncomputable def trk (h : Heap) (H : Hp) : List Addr := (List.range h.objs.size).filter fun a => (H a).isSome
noncomputable def hidT (h : Heap) (H : Hp) : Heap := PySem.W.hideAll h (trk h H)
theorem hidT_size (h : Heap) (H : Hp) : (hidT h H).objs.size = h.objs.size := PySem.W.hideAll_size _ _
theorem hidT_get {h : Heap} {H : Hp} {b : Addr} {o : Obj} (e : h.get? b = some o) (n : H b = none) : (hidT h H).get? b = some o :=
  PySem.W.hideAll_get _ e fun hm => by
    have q : (H b).isSome = true := (List.mem_filter.mp hm).2
    rw [n] at q; simp at q
theorem of_hidT {h : Heap} {H : Hp} {b : Addr} {o : Obj} (e : (hidT h H).get? b = some o) : h.get? b = some o ∧ H b = none := by
  have e' : h.get? b = some o := PySem.W.of_hideAll (trk h H) e
  refine ⟨e', ?_⟩
  cases q : H b with
  | none => rfl
  | some x =>
    have hm : b ∈ trk h H := List.mem_filter.mpr ⟨List.mem_range.mpr (Heap.lt_size e'), by simp [q]⟩
    have z : (hidT h H).get? b = none := PySem.W.hideAll_none (trk h H) hm
    rw [z] at e; cases e

/-! ### OpenK's ledger, filled with every new object but one -/
noncomputable def allNews (g h : Heap) (L : Addr) : List (Addr × Obj) := (List.range h.objs.size).filterMap fun a => if a = L ∨ (g.get? a).isSome = true then none else (h.get? a).map fun o => (a, o)
noncomputable def rest (g h : Heap) (L d : Addr) : List (Addr × Obj) := (allNews g h L).filter fun p => decide (p.1 ≠ d)
end L2

namespace L2
open PySem PySem.Spec PyProof.Rows

structure Mod (K : PySem.W.Frag) (mg : Str → Option Value) (base : Heap) : Prop where
  kin : K.In base
  glob : base.Ns mainGlobals mg
  blt : ∃ mb, base.Ns builtinsNs mb ∧ ∀ x : Str, x ≠ "__name__" → mb x = bootBuiltins x
  nolimit : base.NoLimit

structure Cx where
  prog : Program
  w : World
  K : PySem.W.Frag
  mg : Str → Option Value
  base : Heap
  A : Around
  N : List Str
  s₀ : Shared
  H₀ : Hp
  env : Env
  outer : List Env
  stack : List Env
  ex : List Addr
  fn : Str → Bool
  calm : Bool
  pn : List (Addr × Obj)
  xe : Value → Shared → Prop
noncomputable def frs (l : List Env) : List Addr := l.filterMap (·.frame)
noncomputable abbrev Cx.fs (X : Cx) : List Addr := frs X.outer

noncomputable def Vis (sc : Scope) (x : Str) : Prop := sc.names.lookup x = some .local ∨ sc.names.lookup x = some .cell ∨ sc.names.lookup x = some .free
noncomputable def Loc (sc : Scope) (x : Str) : Prop := sc.names.lookup x = some .local ∨ sc.names.lookup x = some .cell
noncomputable def Look (env : Env) (h : Heap) (m : Str → Option Value) (x : Str) (u : Value) : Prop :=
  (env.kindOf x = some .local ∧ m x = some u) ∨ ((env.kindOf x = some .cell ∨ env.kindOf x = some .free) ∧ ∃ c, env.cells.lookup x = some c ∧ h.IsCell c (some u))

structure Cx.Ok (X : Cx) : Prop where
  mod : Mod X.K X.mg X.base
  kind : X.env.scope.kind = .function
  glob : X.env.globals = mainGlobals
  blt : X.env.builtins = builtinsNs
  above : X.s₀.heap.objs.size ≤ X.env.locals
  inj : ∀ x y c, X.env.cells.lookup x = some c → X.env.cells.lookup y = some c → x = y
  has : ∀ x, (X.env.kindOf x = some .cell ∨ X.env.kindOf x = some .free) → ∃ c, X.env.cells.lookup x = some c
  cab : ∀ x c, X.fn x = true → X.env.cells.lookup x = some c → X.s₀.heap.objs.size ≤ c
  hd : X.calm = true → X.A.handled = none
  frames : X.A.frames = some X.stack
  stk : X.stack = X.outer ∨ (X.stack = X.env :: X.outer ∧ X.env.frame = some X.env.locals)
  exf : ∀ b ∈ X.ex, b ≠ X.env.locals ∧ ∀ x c, X.env.cells.lookup x = some c → c ≠ b
  bs : ∀ b o, X.base.get? b = some o → X.s₀.heap.get? b = some o ∧ X.H₀ b = none
  bsz : X.base.objs.size ≤ X.s₀.heap.objs.size
  noex : ∀ b o, X.base.get? b = some o → b ∉ X.ex
  exfs : ∀ b ∈ X.ex, b ∉ X.fs
  funs : X.s₀.heap.FunFrames X.base X.outer
  frf : ∀ b ∈ X.fs, X.H₀ b = none

structure Inv (X : Cx) (pins : List (Addr × Obj)) (σ : List (Option V)) (H : Hp) (s : Shared) : Prop where
  ok : X.Ok
  os : s.os = X.s₀.os
  bare : AllBare s.gens
  base : Un X.fs X.ex X.H₀ H X.s₀.heap s.heap
  loc : ∃ m, s.heap.Ns X.env.locals m ∧ ∀ (i : Nat) (x : Str) (v : V), X.N[i]? = some x → σ[i]? = some (some v) → Vis X.env.scope x → ∃ u, RelV v u ∧ Look X.env s.heap m x u
  cell : ∀ x c, X.env.cells.lookup x = some c → ∃ v, s.heap.IsCell c v
  free : H X.env.locals = none
  freeC : ∀ x c, X.env.cells.lookup x = some c → H c = none
  pin : ∀ p ∈ X.pn ++ pins, s.heap.get? p.1 = some p.2 ∧ H p.1 = none ∧ p.1 ≠ X.env.locals ∧ p.1 ∉ X.fs ∧ ∀ v, p.2.data ≠ .cell v
  hok : HOk X.prog X.w H s.heap
  len : σ.length = X.N.length

section
variable {X : Cx} {pins : List (Addr × Obj)} {σ : List (Option V)} {H H' : Hp} {s : Shared} {h' : Heap}

theorem Cx.Ok.nofr (ok : X.Ok) {b : Addr} {o : Obj} (e : X.base.get? b = some o) : b ∉ X.fs := fun hb => by
  have := (ok.funs.mem hb).1
  rw [e] at this; cases this
theorem Inv.bs (I : Inv X pins σ H s) : ∀ b o, X.base.get? b = some o → s.heap.get? b = some o ∧ H b = none := fun b o e =>
  ⟨I.base.keep b o (I.ok.bs b o e).1 (I.ok.bs b o e).2 (I.ok.nofr e) (I.ok.noex b o e), I.base.free b o (I.ok.bs b o e).1 (I.ok.bs b o e).2 (I.ok.noex b o e)⟩
theorem Inv.bk (I : Inv X pins σ H s) : ∀ b o, X.base.get? b = some o → s.heap.get? b = some o := fun b o e => (I.bs b o e).1
theorem Inv.mod (I : Inv X pins σ H s) : Mod X.K X.mg X.base := I.ok.mod
theorem Inv.kIn (I : Inv X pins σ H s) : X.K.In s.heap := I.ok.mod.kin.keeps I.bk
theorem Inv.nolimit (I : Inv X pins σ H s) : s.heap.NoLimit := I.ok.mod.nolimit.keeps I.bk
theorem Inv.lt (I : Inv X pins σ H s) : X.env.locals < s.heap.objs.size := let ⟨_, hn, _⟩ := I.loc; hn.lt
theorem Inv.sz (I : Inv X pins σ H s) : X.s₀.heap.objs.size ≤ s.heap.objs.size := Nat.le_trans I.ok.above (Nat.le_of_lt I.lt)
theorem Inv.nofs (I : Inv X pins σ H s) {a : Addr} (h : s.heap.objs.size ≤ a) : a ∉ X.fs := fun hb => by
  obtain ⟨_, o, ho, _⟩ := I.ok.funs.mem hb
  exact absurd (Nat.lt_of_lt_of_le (Heap.lt_size ho) (Nat.le_trans I.sz h)) (Nat.lt_irrefl _)
theorem Inv.cne (I : Inv X pins σ H s) : ∀ x c, X.env.cells.lookup x = some c → c ≠ X.env.locals := fun x c e z => by
  obtain ⟨v, o, ho, hd⟩ := I.cell x c e
  obtain ⟨m, ⟨o', es, ep, ho', hd', _⟩, _⟩ := I.loc
  rw [z, ho'] at ho; cases ho; rw [hd'] at hd; cases hd
theorem Inv.funs (I : Inv X pins σ H s) : s.heap.FunFrames X.base X.outer := by
  have all : ∀ (l : List Env), (∀ b ∈ frs l, b ∈ X.fs) → X.s₀.heap.FunFrames X.base l → s.heap.FunFrames X.base l := by
    intro l
    induction l with
    | nil => intro _ _; trivial
    | cons env r ih =>
      intro hs hl
      obtain ⟨hk, ⟨L, o, hf, hn, ho, hd⟩, hr⟩ := hl
      have hL : L ∈ X.fs := hs L (by unfold frs; rw [List.filterMap_cons, hf]; exact List.mem_cons_self)
      obtain ⟨sl, e⟩ := I.base.slot L o ho (I.ok.frf L hL) hL fun z => I.ok.exfs L z hL
      exact ⟨hk, ⟨L, _, hf, hn, e, hd⟩, ih (fun b hb => hs b (by unfold frs; rw [List.filterMap_cons, hf]; exact List.mem_cons_of_mem _ hb)) hr⟩
  exact all X.outer (fun _ hb => hb) I.ok.funs

theorem Inv.stack (I : Inv X pins σ H s) : s.heap.FunFrames X.base X.stack := by
  rcases I.ok.stk with e | ⟨e, hf⟩
  · rw [e]; exact I.funs
  · rw [e]
    obtain ⟨m, hn, _⟩ := I.loc
    refine .cons (by rw [I.ok.kind]; decide) hf hn ?_ I.funs
    exact Heap.get?_none_of_le (Nat.le_trans I.ok.bsz I.ok.above)
theorem Inv.stkSub (I : Inv X pins σ H s) : ∀ b ∈ frs X.stack, b ∈ X.env.locals :: X.fs := fun b hb => by
  rcases I.ok.stk with e | ⟨e, hf⟩
  · rw [e] at hb; exact List.mem_cons_of_mem _ hb
  · rw [e] at hb
    unfold frs at hb
    rw [List.filterMap_cons, hf] at hb
    exact hb
theorem Inv.stkFree (I : Inv X pins σ H s) : ∀ b ∈ frs X.stack, H b = none := fun b hb => by
  rcases List.mem_cons.mp (I.stkSub b hb) with e | hb
  · rw [e]; exact I.free
  · obtain ⟨_, o, ho, _⟩ := I.ok.funs.mem hb
    exact I.base.free b o ho (I.ok.frf b hb) fun z => I.ok.exfs b z hb

theorem Inv.step {g' : Array GenState} {t' : Nat} {d' : Drawn} {ch : List Addr} (I : Inv X pins σ H s)
    (hch : ∀ b ∈ ch, (b ∈ X.ex ∨ X.s₀.heap.objs.size ≤ b) ∧ b ≠ X.env.locals ∧ (∀ x c, X.env.cells.lookup x = some c → c ≠ b) ∧ ∀ p ∈ X.pn ++ pins, p.1 ≠ b)
    (keep : ∀ b o, b ≠ X.env.locals → b ∉ X.fs → b ∉ ch → s.heap.get? b = some o → H b = none → h'.get? b = some o)
    (slot : ∀ b o, b ≠ X.env.locals → b ∈ X.fs → b ∉ ch → s.heap.get? b = some o → H b = none → ∃ sl, h'.get? b = some { o with slots := sl }) (free : ∀ b o, b ∉ ch → s.heap.get? b = some o → H b = none → H' b = none)
    (there : ∀ b o, b ∉ ch → s.heap.get? b = some o → ∃ o', h'.get? b = some o')
    (tups : ∀ b xs, H b = some (.tup xs) → H' b = some (.tup xs)) (frzs : ∀ b o u, H b = some (.frz o u) → H' b = some (.frz o u)) (tbls : ∀ b ps, H b = some (.tbl ps) → ∃ more, H' b = some (.tbl (ps ++ more)))
    (ns : ∀ m, s.heap.Ns X.env.locals m → h'.Ns X.env.locals m) (hok : HOk X.prog X.w H' h') (hg : AllBare g') :
    Inv X pins σ H' { s with heap := h', gens := g', drawn := d', toks := t' } := by
  have neL : ∀ b o, X.s₀.heap.get? b = some o → b ≠ X.env.locals := fun b o e => Nat.ne_of_lt (Nat.lt_of_lt_of_le (Heap.lt_size e) I.ok.above)
  have neC : ∀ b o, X.s₀.heap.get? b = some o → b ∉ X.ex → b ∉ ch := fun b o e hx hb => by
    rcases (hch b hb).1 with z | z
    · exact hx z
    · exact absurd (Nat.lt_of_lt_of_le (Heap.lt_size e) z) (Nat.lt_irrefl _)
  have cellK : ∀ x c, X.env.cells.lookup x = some c → ∀ v, s.heap.IsCell c v → h'.IsCell c v := fun x c e v ⟨o, ho, hd⟩ => by
    have nch : c ∉ ch := fun z => (hch c z).2.2.1 x c e rfl
    by_cases hc : c ∈ X.fs
    · obtain ⟨sl, q⟩ := slot c o (I.cne x c e) hc nch ho (I.freeC x c e)
      exact ⟨_, q, hd⟩
    · exact ⟨o, keep c o (I.cne x c e) hc nch ho (I.freeC x c e), hd⟩
  refine ⟨I.ok, I.os, hg, ⟨fun b o e n hb hx => ?_, fun b o e n hb hx => ?_, fun b o e n hx => ?_, fun b o e hx => ?_, fun b xs e => tups b xs (I.base.tups b xs e), fun b o xs e => frzs b o xs (I.base.frzs b o xs e), fun b ps e => ?_⟩, ?_, fun x c e => ?_, ?_, fun x c e => ?_, fun p hp => ?_, hok, I.len⟩
  · exact keep b o (neL b o e) hb (neC b o e hx) (I.base.keep b o e n hb hx) (I.base.free b o e n hx)
  · obtain ⟨sl, e1⟩ := I.base.slot b o e n hb hx
    obtain ⟨sl', e2⟩ := slot b _ (neL b o e) hb (neC b o e hx) e1 (I.base.free b o e n hx)
    exact ⟨sl', e2⟩
  · obtain ⟨o', e1⟩ := I.base.there b o e hx
    exact free b o' (neC b o e hx) e1 (I.base.free b o e n hx)
  · obtain ⟨o', e1⟩ := I.base.there b o e hx
    exact there b o' (neC b o e hx) e1
  · obtain ⟨m1, e1⟩ := I.base.tbls b ps e
    obtain ⟨m2, e2⟩ := tbls b _ e1
    exact ⟨m1 ++ m2, by rw [e2, Array.append_assoc]⟩
  · obtain ⟨m, hn, hl⟩ := I.loc
    refine ⟨m, ns m hn, fun i x v e1 e2 e3 => ?_⟩
    obtain ⟨u, r, l⟩ := hl i x v e1 e2 e3
    refine ⟨u, r, ?_⟩
    rcases l with l | ⟨k, c, e, z⟩
    · exact .inl l
    · exact .inr ⟨k, c, e, cellK x c e _ z⟩
  · obtain ⟨v, z⟩ := I.cell x c e
    exact ⟨v, cellK x c e v z⟩
  · obtain ⟨m, ⟨o, _, _, ho, _⟩, _⟩ := I.loc
    exact free _ o (fun z => (hch _ z).2.1 rfl) ho I.free
  · obtain ⟨v, o, ho, hd⟩ := I.cell x c e
    exact free c o (fun z => (hch c z).2.2.1 x c e rfl) ho (I.freeC x c e)
  · obtain ⟨e, n, ne, nf, d⟩ := I.pin p hp
    have nch : p.1 ∉ ch := fun z => (hch p.1 z).2.2.2 p hp rfl
    exact ⟨keep p.1 p.2 ne nf nch e n, free p.1 p.2 nch e n, ne, nf, d⟩
theorem Inv.un {t' : Nat} (I : Inv X pins σ H s) (u : Un X.fs [] H H' s.heap h') (hok : HOk X.prog X.w H' h') : Inv X pins σ H' { s with heap := h', toks := t' } := by
  obtain ⟨m, ⟨o, es, ep, ho, r⟩, _⟩ := id I.loc
  obtain ⟨sl, hL⟩ := u.any ho I.free (by simp)
  exact I.step (g' := s.gens) (d' := s.drawn) (ch := []) (fun _ z => nomatch z) (fun b o _ hb _ e n => u.keep b o e n hb (by simp)) (fun b o _ hb _ e n => u.slot b o e n hb (by simp)) (fun b o _ e n => u.free b o e n (by simp)) (fun b o _ e => u.there b o e (by simp)) u.tups u.frzs u.tbls (fun m' hm => by
    obtain ⟨o', es', ep', ho', r'⟩ := hm
    rw [ho] at ho'; cases ho'
    exact ⟨_, es', ep', hL, r'⟩) hok I.bare
theorem Inv.call {g' : Array GenState} {t' : Nat} {d' : Drawn} {ch : List Addr} (I : Inv X pins σ H s) (u : Un (frs X.stack) ch H H' s.heap h') (hok : HOk X.prog X.w H' h') (hg : AllBare g')
    (hch : ∀ b ∈ ch, (b ∈ X.ex ∨ X.s₀.heap.objs.size ≤ b) ∧ b ≠ X.env.locals ∧ (∀ x c, X.env.cells.lookup x = some c → c ≠ b) ∧ ∀ p ∈ X.pn ++ pins, p.1 ≠ b) :
    Inv X pins σ H' { s with heap := h', gens := g', drawn := d', toks := t' } := by
  obtain ⟨m, ⟨o, es, ep, ho, r⟩, _⟩ := id I.loc
  obtain ⟨sl, hL⟩ := u.any ho I.free fun z => (hch _ z).2.1 rfl
  exact I.step (ch := ch) hch (fun b o hL hb hc e n => u.keep b o e n (fun z => (List.mem_cons.mp (I.stkSub b z)).elim hL hb) hc) (fun b o _ _ hc e n => u.any e n hc) (fun b o hc e n => u.free b o e n hc) (fun b o hc e => u.there b o e hc) u.tups u.frzs u.tbls (fun m' hm => by
    obtain ⟨o', es', ep', ho', r'⟩ := hm
    rw [ho] at ho'; cases ho'
    exact ⟨_, es', ep', hL, r'⟩) hok hg
theorem Inv.turned {t' : Nat} {it : Addr} (I : Inv X pins σ H s) (k : ∀ b o, b ≠ it → s.heap.get? b = some o → h'.get? b = some o) (hn : H it = none) (hL : it ≠ X.env.locals)
    (h1 : it ∈ X.ex ∨ X.s₀.heap.objs.size ≤ it) (h2 : ∀ x c, X.env.cells.lookup x = some c → c ≠ it) (h3 : ∀ p ∈ X.pn ++ pins, p.1 ≠ it) : Inv X pins σ H { s with heap := h', toks := t' } := by
  have nit : ∀ b u, H b = some u → b ≠ it := fun b u e z => by rw [z, hn] at e; cases e
  refine I.step (g' := s.gens) (d' := s.drawn) (ch := [it]) (fun b hb => ?_) (fun b o _ _ hc e _ => k b o (fun z => hc (by simp [z])) e) (fun b o _ _ hc e _ => ⟨o.slots, k b o (fun z => hc (by simp [z])) e⟩) (fun _ _ _ _ n => n)
    (fun b o hc e => ⟨o, k b o (fun z => hc (by simp [z])) e⟩) (fun _ _ e => e) (fun _ _ _ e => e) (fun b ps e => ⟨#[], by rw [e]; simp⟩) (fun m hm => ?_) (fun b u e => ?_) I.bare
  · have e : b = it := by simpa using hb
    subst e
    exact ⟨h1, hL, h2, h3⟩
  · obtain ⟨o, es, ep, ho, r⟩ := hm
    exact ⟨o, es, ep, k _ o (Ne.symm hL) ho, r⟩
  · refine (I.hok b u e).stay (fun c v hc q => k c v ?_ q) (fun _ q => q) fun _ _ q => q
    rcases hc with z | z
    · rw [z]; exact nit b u e
    · exact nit c _ z
theorem Inv.tok (I : Inv X pins σ H s) (t : Nat) : Inv X pins σ H { s with toks := t } := I.un (h' := s.heap) (t' := t) Un.refl I.hok
theorem Inv.kept {t' : Nat} (I : Inv X pins σ H s) (k : ∀ b u, s.heap.get? b = some u → h'.get? b = some u) : Inv X pins σ H { s with heap := h', toks := t' } := I.un (Un.kept k) (I.hok.kept k)
theorem Inv.laid {a : Addr} {o : HO} {t' : Nat} (I : Inv X pins σ H s) (k : ∀ b u, s.heap.get? b = some u → h'.get? b = some u) (hp : s.heap.objs.size ≤ a) (new : ObjOk X.prog X.w (upd H a o) h' a o) :
    Inv X pins σ (upd H a o) { s with heap := h', toks := t' } := I.un (Un.laid k hp (I.hok.fresh hp)) (I.hok.laid k hp new)
theorem Inv.write {x e : Addr} {o : HO} {t' : Nat} (I : Inv X pins σ H s) (mu : Mut (H x)) (he : e = x ∨ H e = some (.own x)) (k : ∀ b u, b ≠ e → s.heap.get? b = some u → h'.get? b = some u) (heo : ∃ u, h'.get? e = some u)
    (new : ObjOk X.prog X.w (upd H x o) h' x o) : Inv X pins σ (upd H x o) { s with heap := h', toks := t' } := I.un (Un.write mu he k heo) (I.hok.write mu he k heo new)
theorem Inv.weak {σ' : List (Option V)} (I : Inv X pins σ H s) (hl : σ'.length = σ.length) (w : ∀ (i : Nat) v, σ'[i]? = some (some v) → σ[i]? = some (some v)) : Inv X pins σ' H s :=
  ⟨I.ok, I.os, I.bare, I.base, let ⟨m, hn, hl'⟩ := I.loc; ⟨m, hn, fun i x v e1 e2 e3 => hl' i x v e1 (w i v e2) e3⟩, I.cell, I.free, I.freeC, I.pin, I.hok, hl.trans I.len⟩
theorem Inv.pins_of {pins' : List (Addr × Obj)} (I : Inv X pins σ H s) (h : ∀ p ∈ pins', s.heap.get? p.1 = some p.2 ∧ H p.1 = none ∧ p.1 ≠ X.env.locals ∧ p.1 ∉ X.fs ∧ ∀ v, p.2.data ≠ .cell v) : Inv X pins' σ H s :=
  ⟨I.ok, I.os, I.bare, I.base, I.loc, I.cell, I.free, I.freeC, fun p hp => (List.mem_append.mp hp).elim (fun z => I.pin p (List.mem_append_left _ z)) (h p), I.hok, I.len⟩

theorem nodup_ix {N : List Str} (hN : N.Nodup) {i j : Nat} {x : Str} (a : N[i]? = some x) (b : N[j]? = some x) : i = j := by
  obtain ⟨h1, e1⟩ := List.getElem?_eq_some_iff.mp a
  obtain ⟨h2, e2⟩ := List.getElem?_eq_some_iff.mp b
  exact (List.getElem_inj hN).mp (e1.trans e2.symm)

theorem store_ok2 {M : Model} {A : Around} {E : Value → Shared → Prop} {i : Nat} {x : Str} {v : V} {u : Value} {Q : Unit → Shared → Prop} (I : Inv X pins σ H s) (hN : X.N.Nodup) (hi : X.N[i]? = some x) (hx : Loc X.env.scope x) (r : RelV v u)
    (h : ∀ s', Inv X pins (σ.set i (some v)) H s' → (∃ a, Heap.SameBut a s.heap s'.heap ∧ (a = X.env.locals ∨ X.env.cells.lookup x = some a)) → Q () s') (hf : X.fn x = true ∨ X.env.scope.names.lookup x = some .local := by first | exact .inl rfl | exact .inr rfl | assumption) : wpAny M A (storeName X.env x u) Q E s := by
  obtain ⟨m, hn, hl⟩ := id I.loc
  have hcls : (X.env.scope.kind == .class || (X.env.scope.kind == .module && X.env.locals != X.env.globals)) = false := by rw [I.ok.kind]; rfl
  have hiσ : i < σ.length := by rw [I.len]; exact (List.getElem?_eq_some_iff.mp hi).1
  have cne := I.cne
  have tracked : ∀ {a : Addr} {h' : Heap}, (∃ o, s.heap.get? a = some o ∧ H a = none) → Heap.SameBut a s.heap h' → HOk X.prog X.w H h' := fun {a h'} ha hs b ob e => by
    obtain ⟨_, _, hfree⟩ := ha
    refine (I.hok b ob e).stay (fun c w' hc q => (hs.2 c ?_).trans q) (fun _ q => q) fun _ _ q => q
    rintro rfl
    rcases hc with rfl | hc
    · rw [hfree] at e; cases e
    · rw [hfree] at hc; cases hc
  rcases hx with hk | hk
  · refine wpAny_storeName_local hk hn (fun h' hn' hs => ?_) hcls
    obtain ⟨oL, _, _, hoL, _⟩ := id hn
    refine h _ ⟨I.ok, I.os, I.bare, ⟨fun b o e n hb hx => ?_, fun b o e n hb hx => ?_, I.base.free, fun b o e hx => ?_, I.base.tups, I.base.frzs, I.base.tbls⟩, ⟨_, hn', fun j y v' e1 e2 e3 => ?_⟩, fun y c e => ?_, I.free, I.freeC, fun p hp => ?_, tracked ⟨oL, hoL, I.free⟩ hs, by simpa using I.len⟩ ⟨_, hs, .inl rfl⟩
    · exact (hs.2 b (Nat.ne_of_lt (Nat.lt_of_lt_of_le (Heap.lt_size e) I.ok.above))).trans (I.base.keep b o e n hb hx)
    · obtain ⟨sl, e1⟩ := I.base.slot b o e n hb hx
      exact ⟨sl, (hs.2 b (Nat.ne_of_lt (Nat.lt_of_lt_of_le (Heap.lt_size e) I.ok.above))).trans e1⟩
    · obtain ⟨o', e1⟩ := I.base.there b o e hx
      exact ⟨o', (hs.2 b (Nat.ne_of_lt (Nat.lt_of_lt_of_le (Heap.lt_size e) I.ok.above))).trans e1⟩
    · by_cases hj : j = i
      · subst hj
        rw [hi] at e1; cases e1
        rw [List.getElem?_set_self hiσ] at e2
        cases e2
        exact ⟨u, r, .inl ⟨hk, by simp⟩⟩
      · rw [List.getElem?_set_ne (Ne.symm hj)] at e2
        obtain ⟨u', r', q⟩ := hl j y v' e1 e2 e3
        refine ⟨u', r', ?_⟩
        rcases q with ⟨k, e⟩ | ⟨k, c, e, z⟩
        · refine .inl ⟨k, ?_⟩
          have : y ≠ x := fun e => hj (nodup_ix hN e1 (e ▸ hi))
          simp [this, e]
        · exact .inr ⟨k, c, e, z.sameBut hs (cne y c e)⟩
    · obtain ⟨w', z⟩ := I.cell y c e
      exact ⟨w', z.sameBut hs (cne y c e)⟩
    · obtain ⟨e, n, ne, nf, d⟩ := I.pin p hp
      exact ⟨(hs.2 p.1 ne).trans e, n, ne, nf, d⟩
  · have hfn : X.fn x = true := by
      rcases hf with z | z
      · exact z
      · rw [z] at hk; cases hk
    obtain ⟨c, hc⟩ := I.ok.has x (.inl hk)
    obtain ⟨w', z⟩ := I.cell x c hc
    refine wpAny_storeName_cell I.ok.kind hk hc z (fun h' hc' hs => ?_)
    obtain ⟨oc, hoc, hocd⟩ := id z
    refine h { s with heap := h' } ⟨I.ok, I.os, I.bare, ⟨fun b o e n hb hx => ?_, fun b o e n hb hx => ?_, I.base.free, fun b o e hx => ?_, I.base.tups, I.base.frzs, I.base.tbls⟩, ⟨m, hn.sameBut hs (Ne.symm (cne x c hc)), fun j y v' e1 e2 e3 => ?_⟩, fun y c' e => ?_, I.free, I.freeC, fun p hp => ?_, tracked ⟨oc, hoc, I.freeC x c hc⟩ hs, by simpa using I.len⟩ ⟨c, hs, .inr hc⟩
    · exact (hs.2 b (Nat.ne_of_lt (Nat.lt_of_lt_of_le (Heap.lt_size e) (I.ok.cab x c hfn hc)))).trans (I.base.keep b o e n hb hx)
    · obtain ⟨sl, e1⟩ := I.base.slot b o e n hb hx
      exact ⟨sl, (hs.2 b (Nat.ne_of_lt (Nat.lt_of_lt_of_le (Heap.lt_size e) (I.ok.cab x c hfn hc)))).trans e1⟩
    · obtain ⟨o', e1⟩ := I.base.there b o e hx
      exact ⟨o', (hs.2 b (Nat.ne_of_lt (Nat.lt_of_lt_of_le (Heap.lt_size e) (I.ok.cab x c hfn hc)))).trans e1⟩
    · by_cases hj : j = i
      · subst hj
        rw [hi] at e1; cases e1
        rw [List.getElem?_set_self hiσ] at e2
        cases e2
        exact ⟨u, r, .inr ⟨.inl hk, c, hc, hc'⟩⟩
      · rw [List.getElem?_set_ne (Ne.symm hj)] at e2
        obtain ⟨u', r', q⟩ := hl j y v' e1 e2 e3
        refine ⟨u', r', ?_⟩
        rcases q with q | ⟨k, c', e, z'⟩
        · exact .inl q
        · refine .inr ⟨k, c', e, z'.sameBut hs ?_⟩
          rintro rfl
          exact hj (nodup_ix hN e1 (I.ok.inj _ _ _ e hc ▸ hi))
    · by_cases hcc : c' = c
      · subst hcc; exact ⟨_, hc'⟩
      · obtain ⟨w2, z2⟩ := I.cell y c' e
        exact ⟨w2, z2.sameBut hs hcc⟩
    · obtain ⟨e, n, ne, nf, d⟩ := I.pin p hp
      refine ⟨(hs.2 p.1 ?_).trans e, n, ne, nf, d⟩
      intro q
      rw [q, hoc] at e
      have q' : oc = p.2 := Option.some.inj e
      exact d w' (by rw [← q']; exact hocd)
theorem store_ok {M : Model} {A : Around} {E : Value → Shared → Prop} {i : Nat} {x : Str} {v : V} {u : Value} {Q : Unit → Shared → Prop} (I : Inv X pins σ H s) (hN : X.N.Nodup) (hi : X.N[i]? = some x) (hx : Loc X.env.scope x) (r : RelV v u)
    (h : ∀ s', Inv X pins (σ.set i (some v)) H s' → Q () s') (hf : X.fn x = true ∨ X.env.scope.names.lookup x = some .local := by first | exact .inl rfl | exact .inr rfl | assumption) : wpAny M A (storeName X.env x u) Q E s :=
  store_ok2 I hN hi hx r (fun s' I' _ => h s' I') hf
theorem Inv.call' {s' : Shared} {ch : List Addr} (I : Inv X pins σ H s) (ho : s'.os = s.os) (u : Un (frs X.stack) ch H H' s.heap s'.heap) (hok : HOk X.prog X.w H' s'.heap) (hg : AllBare s'.gens)
    (hch : ∀ b ∈ ch, (b ∈ X.ex ∨ X.s₀.heap.objs.size ≤ b) ∧ b ≠ X.env.locals ∧ (∀ x c, X.env.cells.lookup x = some c → c ≠ b) ∧ ∀ p ∈ X.pn ++ pins, p.1 ≠ b) : Inv X pins σ H' s' := by
  obtain ⟨h', g', d', t', o'⟩ := s'
  have e : o' = s.os := ho
  subst e
  exact I.call (g' := g') (t' := t') (d' := d') u hok hg hch
end

/-! ### the judgements -/
noncomputable abbrev XK := Value → Option Addr → Hp → Prop
noncomputable abbrev St := List (Option V)
noncomputable abbrev VK := V → Hp → Prop
noncomputable abbrev TE := St → Hp → VK → Prop
noncomputable abbrev TT := St → Hp → (Bool → Hp → Prop) → Prop
noncomputable abbrev TA := St → Hp → (List V → Hp → Prop) → Prop
structure Ends where
  nx : St → Hp → Prop
  rt : VK
  bk : St → Hp → Prop := fun _ _ => False
  ct : St → Hp → Prop := fun _ _ => False
noncomputable abbrev TS := Ends → St → Hp → Prop

noncomputable def EP (X : Cx) (pins : List (Addr × Obj)) (σ : St) (Q : VK) (u : Value) (s' : Shared) : Prop := ∃ v H', Inv X pins σ H' s' ∧ RelV v u ∧ Q v H'
noncomputable def TP (X : Cx) (pins : List (Addr × Obj)) (σ : St) (Q : Bool → Hp → Prop) (b : Bool) (s' : Shared) : Prop := ∃ H', Inv X pins σ H' s' ∧ Q b H'
noncomputable def AP (X : Cx) (pins : List (Addr × Obj)) (σ : St) (Q : List V → Hp → Prop) (us : List Value) (s' : Shared) : Prop := ∃ vs H', Inv X pins σ H' s' ∧ Vals vs us ∧ Q vs H'
noncomputable def SP (X : Cx) (pins : List (Addr × Obj)) (D : Ends) (f : Flow) (s' : Shared) : Prop :=
  match f with
  | .next => ∃ σ' H', Inv X pins σ' H' s' ∧ D.nx σ' H'
  | .brk => ∃ σ' H', Inv X pins σ' H' s' ∧ D.bk σ' H'
  | .cont => ∃ σ' H', Inv X pins σ' H' s' ∧ D.ct σ' H'
  | .ret u => ∃ v σ' H', Inv X pins σ' H' s' ∧ RelV v u ∧ D.rt v H'

noncomputable def PE (X : Cx) (e : Expr) (t : TE) : Prop :=
  ∀ (pins : List (Addr × Obj)) (s : Shared) (σ : St) (H : Hp) (Q : VK), Inv X pins σ H s → t σ H Q → wpAny (model X.prog X.w) X.A (eval e X.env) (EP X pins σ Q) X.xe s
noncomputable def PT (X : Cx) (e : Expr) (t : TT) : Prop :=
  ∀ (pins : List (Addr × Obj)) (s : Shared) (σ : St) (H : Hp) (Q : Bool → Hp → Prop), Inv X pins σ H s → t σ H Q → wpAny (model X.prog X.w) X.A (isTrue e X.env (eval e X.env)) (TP X pins σ Q) X.xe s
noncomputable def PW (X : Cx) (e : Expr) (t : TT) : Prop :=
  ∀ (whole : Sem Value) (pins : List (Addr × Obj)) (s : Shared) (σ : St) (H : Hp) (Q : Bool → Hp → Prop), Inv X pins σ H s → t σ H Q → wpAny (model X.prog X.w) X.A (isTrue e X.env whole) (TP X pins σ Q) X.xe s
theorem PW.pt {X : Cx} {e : Expr} {t : TT} (h : PW X e t) : PT X e t := h _
noncomputable def PA (X : Cx) (es : List Expr) (t : TA) : Prop :=
  ∀ (pos : Pos) (pins : List (Addr × Obj)) (s : Shared) (σ : St) (H : Hp) (Q : List V → Hp → Prop), Inv X pins σ H s → t σ H Q → wpAny (model X.prog X.w) X.A (spliced (backTo pos (starEach es X.env))) (AP X pins σ Q) X.xe s
noncomputable def PS (X : Cx) (st : Stmt) (t : TS) : Prop :=
  ∀ (pins : List (Addr × Obj)) (s : Shared) (σ : St) (H : Hp) (D : Ends), Inv X pins σ H s → t D σ H → wpAny (model X.prog X.w) X.A (exec st X.env) (SP X pins D) X.xe s
noncomputable def PSs (X : Cx) (st : List Stmt) (t : TS) : Prop :=
  ∀ (pins : List (Addr × Obj)) (s : Shared) (σ : St) (H : Hp) (D : Ends), Inv X pins σ H s → t D σ H → wpAny (model X.prog X.w) X.A (execs st X.env) (SP X pins D) X.xe s
theorem thn {α : Type} {t : Sem α} {Q Q' : α → Shared → Prop} {M : Model} {A : Around} {E : Value → Shared → Prop} {s : Shared} (h : wpAny M A t Q E s) (hQ : ∀ a s, Q a s → Q' a s) : wpAny M A t Q' E s := wpAny_mono h hQ fun _ _ x => x
end L2

namespace L2
open PySem PySem.Spec PyProof.Rows
section
variable {X : Cx}

/-! ### names and constants -/
noncomputable def tVar (i : Nat) : TE := fun σ H Q => ∃ v, σ[i]? = some (some v) ∧ Q v H
noncomputable def tC (v : V) : TE := fun _ H Q => Q v H
theorem pe_var {i : Nat} {x : Str} {pos : Pos} (hN : X.N[i]? = some x) (hv : Vis X.env.scope x) (hd : (x == ("__debug__" : Str)) = false := by decide) (hcd : (x == ("__classdict__" : Str)) = false := by decide) : PE X (.Name x pos) (tVar i) := by
  intro pins s σ H Q I h
  obtain ⟨v, e, h⟩ := h
  obtain ⟨m, hn, hl⟩ := I.loc
  obtain ⟨u, r, l⟩ := hl i x v hN e hv
  have fin : EP X pins σ Q u s := ⟨v, H, I, r, h⟩
  rcases l with ⟨hk, hm⟩ | ⟨hk, c, hc, hcell⟩
  · exact wpAny_Name (wpAny_loadName_local I.ok.kind hk hn hm fin) hd
  · rcases hk with hk | hk
    · exact wpAny_Name (wpAny_loadName_cell I.ok.kind hk hc hcell fin) hd
    · exact wpAny_Name (wpAny_loadName_free I.ok.kind hk hc hcell fin hcd) hd
theorem pe_int {i j pos} : PE X (.Constant (.int i) j pos) (tC (.int i)) := fun _ _ _ H _ I h => wpAny_Constant_int ⟨.int i, H, I.tok _, ⟨_, rfl⟩, h⟩
theorem pe_bl {b j pos} : PE X (.Constant (.bool b) j pos) (tC (.bl b)) := fun _ _ _ H _ I h => Constant_bool ⟨.bl b, H, I, rfl, h⟩
theorem pe_non {j pos} : PE X (.Constant .none j pos) (tC .non) := fun _ _ _ H _ I h => Constant_none ⟨.non, H, I, rfl, h⟩
theorem pe_str {x j pos} : PE X (.Constant (.str x) j pos) (tC (.str x)) := fun _ _ _ H _ I h => Calls.Constant_str ⟨.str x, H, I.tok _, ⟨_, rfl⟩, h⟩

noncomputable def Gl (X : Cx) (x : Str) : Prop := X.env.kindOf x = some .globalImplicit
theorem ld_glob {E : Value → Shared → Prop} {pins : List (Addr × Obj)} {s : Shared} {σ : St} {H : Hp} {x : Str} {u : Value} {pos : Pos} {Q : Value → Shared → Prop} (I : Inv X pins σ H s) (hg : Gl X x) (hm : X.mg x = some u) (h : Q u s)
    (hd : (x == ("__debug__" : Str)) = false := by decide) : wpAny (model X.prog X.w) X.A (eval (.Name x pos) X.env) Q E s :=
  Calls.Name_function_global I.ok.kind hg (Calls.loadGlobal_global (by rw [I.ok.glob]; exact I.mod.glob.keeps I.bk) hm h) hd
theorem ld_blt {E : Value → Shared → Prop} {pins : List (Addr × Obj)} {s : Shared} {σ : St} {H : Hp} {x : Str} {u : Value} {pos : Pos} {Q : Value → Shared → Prop} (I : Inv X pins σ H s) (hg : Gl X x) (hm : X.mg x = none) (hv : bootBuiltins x = some u) (h : Q u s)
    (hn : x ≠ "__name__" := by decide) (hd : (x == ("__debug__" : Str)) = false := by decide) : wpAny (model X.prog X.w) X.A (eval (.Name x pos) X.env) Q E s := by
  obtain ⟨mb, h1, h2⟩ := I.mod.blt
  exact Calls.Name_function_global I.ok.kind hg (Calls.loadGlobal_builtin (by rw [I.ok.glob]; exact I.mod.glob.keeps I.bk) hm (by rw [I.ok.blt]; exact h1.keeps I.bk) ((h2 x hn).trans hv) h) hd
theorem pe_glob {x : Str} {v : V} {u : Value} {pos : Pos} (hg : Gl X x) (hm : X.mg x = some u) (r : RelV v u) (hd : (x == ("__debug__" : Str)) = false := by decide) : PE X (.Name x pos) (tC v) :=
  fun _ _ _ H _ I h => ld_glob I hg hm ⟨v, H, I, r, h⟩ hd
theorem pe_bltn {x : Str} {v : V} {u : Value} {pos : Pos} (hg : Gl X x) (hm : X.mg x = none) (hv : bootBuiltins x = some u) (r : RelV v u) (hn : x ≠ "__name__" := by decide) (hd : (x == ("__debug__" : Str)) = false := by decide) : PE X (.Name x pos) (tC v) :=
  fun _ _ _ H _ I h => ld_blt I hg hm hv ⟨v, H, I, r, h⟩ hn hd

/-! ### arithmetic -/
variable {a b : Expr} {ta tb : TE} {pos : Pos}
/-! ### comparisons -/
noncomputable def tB (t : TE) : TT := fun σ H Q => t σ H fun x H1 => ∃ c, x = .bl c ∧ Q c H1
theorem pt_val {e : Expr} {t : TE} (h : PE X e t) (he : ∀ whole, isTrue e X.env whole = (do let v ← whole; standAt e.pos; holding [v] (truthy v)) := by intro _; rfl) : PT X e (tB t) := by
  intro pins s σ H Q I hw
  refine isTrue_plain (thn (h pins s σ H _ I hw) fun v s1 ⟨x, H1, I1, r1, q1⟩ => ?_) (he _)
  obtain ⟨d, rfl, q⟩ := q1
  cases r1
  exact wpAny_truthy_bool ⟨H1, I1, q⟩

/-! ### and, or, not -/
variable {tA tB' : TT} {rest : List Expr}
noncomputable def tAnd (t u : TT) : TT := fun σ H Q => t σ H fun c H1 => if c = true then u σ H1 Q else Q false H1
noncomputable def tOr (t u : TT) : TT := fun σ H Q => t σ H fun c H1 => if c = true then Q true H1 else u σ H1 Q
noncomputable def tNot (t : TT) : TT := fun σ H Q => t σ H fun c H1 => Q (!c) H1
theorem pw_and1 (ha : PT X a tA) : PW X (.BoolOp .And [a] pos) tA := by
  intro wh pins s σ H Q I h
  refine isTrue_and (thn (ha pins s σ H Q I h) fun c s1 e => ?_)
  cases c with
  | true => exact isTrue_and_nil e
  | false => exact e
theorem pw_or1 (ha : PT X a tA) : PW X (.BoolOp .Or [a] pos) tA := by
  intro wh pins s σ H Q I h
  refine isTrue_or (thn (ha pins s σ H Q I h) fun c s1 e => ?_)
  cases c with
  | false => exact isTrue_or_nil e
  | true => exact e
theorem pw_and (ha : PT X a tA) (hb : PW X (.BoolOp .And (b :: rest) pos) tB') : PW X (.BoolOp .And (a :: b :: rest) pos) (tAnd tA tB') := by
  intro wh pins s σ H Q I h
  refine isTrue_and (thn (ha pins s σ H _ I h) fun c s1 ⟨H1, I1, q1⟩ => ?_)
  cases c with
  | true => exact hb wh pins s1 σ H1 Q I1 q1
  | false => exact ⟨H1, I1, q1⟩
theorem pw_or (ha : PT X a tA) (hb : PW X (.BoolOp .Or (b :: rest) pos) tB') : PW X (.BoolOp .Or (a :: b :: rest) pos) (tOr tA tB') := by
  intro wh pins s σ H Q I h
  refine isTrue_or (thn (ha pins s σ H _ I h) fun c s1 ⟨H1, I1, q1⟩ => ?_)
  cases c with
  | true => exact ⟨H1, I1, q1⟩
  | false => exact hb wh pins s1 σ H1 Q I1 q1
theorem pt_not (ha : PT X a tA) : PT X (.UnaryOp .Not a pos) (tNot tA) := by
  intro pins s σ H Q I h
  exact isTrue_not (ha pins s σ H (fun c H1 => Q (!c) H1) I h)
noncomputable def tAndV (ta tb : TE) : TE := fun σ H Q => ta σ H fun x H1 => ∃ c, x = .bl c ∧ if c = true then tb σ H1 Q else Q (.bl false) H1
noncomputable def tOrV (ta tb : TE) : TE := fun σ H Q => ta σ H fun x H1 => ∃ c, x = .bl c ∧ if c = true then Q (.bl true) H1 else tb σ H1 Q
noncomputable def tNotV (ta : TE) : TE := fun σ H Q => ta σ H fun x H1 => ∃ c, x = .bl c ∧ Q (.bl (!c)) H1
theorem pe_one {op} {t : TE} (h : PE X a t) : PE X (.BoolOp op [a] pos) t := fun pins s σ H Q I hw => BoolOp_one (h pins s σ H Q I hw)
theorem pe_and (ha : PE X a ta) (hb : PE X (.BoolOp .And (b :: rest) pos) tb) : PE X (.BoolOp .And (a :: b :: rest) pos) (tAndV ta tb) := by
  intro pins s σ H Q I h
  refine BoolOp_and (thn (ha pins s σ H _ I h) fun v s1 ⟨x, H1, I1, r1, q1⟩ => ?_)
  obtain ⟨c, rfl, q1⟩ := q1
  cases r1
  refine wpAny_truthy_bool ?_
  cases c with
  | true => exact hb pins s1 σ H1 Q I1 q1
  | false => exact ⟨.bl false, H1, I1, rfl, q1⟩
theorem pe_not (ha : PE X a ta) : PE X (.UnaryOp .Not a pos) (tNotV ta) := by
  intro pins s σ H Q I h
  refine UnaryOp_ (thn (ha pins s σ H _ I h) fun v s1 ⟨x, H1, I1, r1, q1⟩ => ?_)
  obtain ⟨c, rfl, q1⟩ := q1
  cases r1
  exact not_of (wpAny_truthy_bool ⟨.bl (!c), H1, I1, rfl, q1⟩)
noncomputable def tIf (t : TT) (ta tb : TE) : TE := fun σ H Q => t σ H fun c H1 => if c = true then ta σ H1 Q else tb σ H1 Q
end
end L2

namespace L2
open PySem PySem.Spec PyProof.Rows

/-! ### a list, a tuple that is read: tracked, frozen, or an object of the module -/
noncomputable def SqL (K : PySem.W.Frag) (H : Hp) (a : Addr) (xs : List V) : Prop :=
  Rd H a (.lst xs) ∨
    ∃ (o : Obj) (its : Array Value) (n : Nat), K.lookup a = some o ∧ o.cls = .type "list" ∧ o.dict = none ∧ o.data = .seq its n ∧ its.size ≤ sizeLine ∧ Vals xs its.toList
noncomputable def SqT (K : PySem.W.Frag) (H : Hp) (a : Addr) (xs : List V) : Prop :=
  Rd H a (.tup xs) ∨
    ∃ (o : Obj) (its : Array Value) (n : Nat), K.lookup a = some o ∧ o.cls = .type "tuple" ∧ o.data = .seq its n ∧ its.size ≤ sizeLine ∧ Vals xs its.toList
noncomputable def absV : Value → Option V
  | .none => some .non
  | .bool b => some (.bl b)
  | .int i _ => some (.int i)
  | .str x _ => some (.str x)
  | .bytes b _ => some (.byt b)
  | .float b _ => some (.flt b)
  | .ref a => some (.ref a)
  | .type n => some (.ty n)
  | _ => none
theorem RelV.abs {x : V} {u : Value} (r : RelV x u) : absV u = some x := by
  cases x with
  | non => cases r; rfl
  | bl _ => cases r; rfl
  | int _ => obtain ⟨t, rfl⟩ := r; rfl
  | str _ => obtain ⟨t, rfl⟩ := r; rfl
  | byt _ => obtain ⟨t, rfl⟩ := r; rfl
  | flt _ => obtain ⟨t, rfl⟩ := r; rfl
  | ref _ => cases r; rfl
  | ty _ => cases r; rfl
theorem RelV.inj {x y : V} {u : Value} (r : RelV x u) (q : RelV y u) : x = y := Option.some.inj (r.abs.symm.trans q.abs)
theorem Vals.inj {xs ys : List V} {us : List Value} (h : Vals xs us) : Vals ys us → xs = ys := by
  induction h generalizing ys with
  | nil => intro h; cases h; rfl
  | cons r t ih => intro h; cases h with
    | cons r' t' => rw [r.inj r', ih t']
section
variable {X : Cx} {pins : List (Addr × Obj)} {σ : St} {H : Hp} {s : Shared} {a : Addr} {xs ys : List V}
theorem SqL.of {K : PySem.W.Frag} (h : H a = some (.lst xs)) : SqL K H a xs := .inl (.inl h)
theorem SqT.of {K : PySem.W.Frag} (h : H a = some (.tup xs)) : SqT K H a xs := .inl (.inl h)
theorem Inv.list (I : Inv X pins σ H s) (h : SqL X.K H a xs) : ∃ its : List Value, Vals xs its ∧ PlainL s.heap a its.toArray ∧ xs.length ≤ sizeLine := by
  rcases h with h | ⟨o, its, n, hk, hc, hd, hs, hz, r⟩
  · obtain ⟨z, its, n, r, e⟩ := h.ok I.hok
    exact ⟨its, r, ⟨_, n, e, rfl, rfl, rfl⟩, z⟩
  · refine ⟨its.toList, r, ⟨o, n, I.kIn a o hk, hc, hd, by simpa using hs⟩, ?_⟩
    have e := r.length
    simp only [Array.length_toList] at e
    omega
theorem Inv.tuple (I : Inv X pins σ H s) (h : SqT X.K H a xs) : ∃ its : List Value, Vals xs its ∧ IsTup s.heap a its.toArray ∧ xs.length ≤ sizeLine := by
  rcases h with h | ⟨o, its, n, hk, hc, hs, hz, r⟩
  · obtain ⟨z, its, r, p⟩ := h.ok I.hok
    exact ⟨its, r, p.tup, z⟩
  · refine ⟨its.toList, r, ⟨o, I.kIn a o hk, hc, n, by simpa using hs⟩, ?_⟩
    have e := r.length
    simp only [Array.length_toList] at e
    omega
theorem Inv.list_inj (I : Inv X pins σ H s) (h : SqL X.K H a xs) (h' : SqL X.K H a ys) : xs = ys := by
  obtain ⟨its, r, ⟨o, n, e, _, _, d⟩, _⟩ := I.list h
  obtain ⟨its', r', ⟨o', n', e', _, _, d'⟩, _⟩ := I.list h'
  rw [e] at e'; cases e'
  rw [d] at d'
  injection d' with d1 _
  have : its = its' := by simpa using congrArg Array.toList d1
  subst this
  exact r.inj r'
theorem Inv.tuple_inj (I : Inv X pins σ H s) (h : SqT X.K H a xs) (h' : SqT X.K H a ys) : xs = ys := by
  obtain ⟨its, r, ⟨o, e, _, n, d⟩, _⟩ := I.tuple h
  obtain ⟨its', r', ⟨o', e', _, n', d'⟩, _⟩ := I.tuple h'
  rw [e] at e'; cases e'
  rw [d] at d'
  injection d' with d1 _
  have : its = its' := by simpa using congrArg Array.toList d1
  subst this
  exact r.inj r'
end

/-! ### another wish about exceptions -/
noncomputable abbrev Cx.wish (X : Cx) (E : Value → Shared → Prop) : Cx := { X with xe := E }
noncomputable abbrev Cx.nox (X : Cx) : Cx := X.wish fun _ _ => False
theorem Cx.Ok.wish {X : Cx} (ok : X.Ok) (E : Value → Shared → Prop) : (X.wish E).Ok :=
  ⟨ok.mod, ok.kind, ok.glob, ok.blt, ok.above, ok.inj, ok.has, ok.cab, ok.hd, ok.frames, ok.stk, ok.exf, ok.bs, ok.bsz, ok.noex, ok.exfs, ok.funs, ok.frf⟩
theorem Cx.Ok.unwish {X : Cx} {E : Value → Shared → Prop} (ok : (X.wish E).Ok) : X.Ok :=
  ⟨ok.mod, ok.kind, ok.glob, ok.blt, ok.above, ok.inj, ok.has, ok.cab, ok.hd, ok.frames, ok.stk, ok.exf, ok.bs, ok.bsz, ok.noex, ok.exfs, ok.funs, ok.frf⟩
section
variable {X : Cx} {pins : List (Addr × Obj)} {σ : St} {H : Hp} {s : Shared} {E : Value → Shared → Prop}
theorem Inv.wish (I : Inv X pins σ H s) (E : Value → Shared → Prop) : Inv (X.wish E) pins σ H s := ⟨I.ok.wish E, I.os, I.bare, I.base, I.loc, I.cell, I.free, I.freeC, I.pin, I.hok, I.len⟩
theorem Inv.unwish (I : Inv (X.wish E) pins σ H s) : Inv X pins σ H s := ⟨I.ok.unwish, I.os, I.bare, I.base, I.loc, I.cell, I.free, I.freeC, I.pin, I.hok, I.len⟩
theorem SP.unwish {D : Ends} {f : Flow} {s' : Shared} (h : SP (X.wish E) pins D f s') : SP X pins D f s' := by
  cases f with
  | next => obtain ⟨σ', H', I, q⟩ := h; exact ⟨σ', H', I.unwish, q⟩
  | brk => obtain ⟨σ', H', I, q⟩ := h; exact ⟨σ', H', I.unwish, q⟩
  | cont => obtain ⟨σ', H', I, q⟩ := h; exact ⟨σ', H', I.unwish, q⟩
  | ret u => obtain ⟨v, σ', H', I, r, q⟩ := h; exact ⟨v, σ', H', I.unwish, r, q⟩
theorem PE.nox {e : Expr} {t : TE} (h : PE X.nox e t) : PE X e t := fun pins s σ H Q I hw =>
  wpAny_mono (h pins s σ H Q (I.wish _) hw) (fun _ _ ⟨v, H', I', r, q⟩ => ⟨v, H', I'.unwish, r, q⟩) fun _ _ z => False.elim z
theorem PT.nox {e : Expr} {t : TT} (h : PT X.nox e t) : PT X e t := fun pins s σ H Q I hw =>
  wpAny_mono (h pins s σ H Q (I.wish _) hw) (fun _ _ ⟨H', I', q⟩ => ⟨H', I'.unwish, q⟩) fun _ _ z => False.elim z
theorem PSs.nox {st : List Stmt} {t : TS} (h : PSs X.nox st t) : PSs X st t := fun pins s σ H D I hw =>
  wpAny_mono (h pins s σ H D (I.wish _) hw) (fun _ _ q => q.unwish) fun _ _ z => False.elim z
end

/-! ### blocks and small statements -/
section
variable {X : Cx} {st : Stmt} {rest : List Stmt} {t u : TS} {e : Expr} {te : TE} {pos : Pos}
noncomputable def tNext : TS := fun D σ H => D.nx σ H
noncomputable def tSeq (t u : TS) : TS := fun D σ H => t { D with nx := u D } σ H
theorem pss_nil : PSs X [] tNext := fun _ _ σ H _ I h => wpAny_execs_nil ⟨σ, H, I, h⟩
theorem pss_cons (h1 : PS X st t) (h2 : PSs X rest u) : PSs X (st :: rest) (tSeq t u) := by
  intro pins s σ H D I h
  refine wpAny_execs_cons (thn (h1 pins s σ H { D with nx := u D } I h) fun f s1 q => ?_)
  cases f with
  | next =>
    obtain ⟨σ', H', I', q⟩ := q
    exact h2 pins s1 σ' H' D I' q
  | ret v => exact q
  | brk => exact q
  | cont => exact q
theorem pss_one (h1 : PS X st t) : PSs X [st] t := by
  intro pins s σ H D I h
  refine wpAny_execs_cons (thn (h1 pins s σ H D I h) fun f s1 q => ?_)
  cases f with
  | next => exact wpAny_execs_nil q
  | ret v => exact q
  | brk => exact q
  | cont => exact q
noncomputable def tBreak : TS := fun D σ H => D.bk σ H
noncomputable def tCont : TS := fun D σ H => D.ct σ H
theorem Inv.quiet {pins : List (Addr × Obj)} {σ : St} {H : Hp} {s : Shared} (I : Inv X pins σ H s) : interactive X.env = false := by simp [interactive, I.ok.kind]
noncomputable def tDrop (te : TE) : TS := fun D σ H => te σ H fun _ H1 => D.nx σ H1
theorem ps_expr (he : PE X e te) (hs : swapsWith e none pos.line X.env = pure false := by rfl) : PS X (.Expr e pos) (tDrop te) := by
  intro pins s σ H D I h
  exact wpAny_Expr_any (thn (he pins s σ H _ I h) fun v s1 ⟨x, H1, I1, r1, q1⟩ => ⟨σ, H1, I1, q1⟩) I.quiet hs
noncomputable def tRet (te : TE) : TS := fun D σ H => te σ H D.rt
theorem ps_ret (he : PE X e te) : PS X (.Return (some e) pos) (tRet te) := by
  intro pins s σ H D I h
  exact wpAny_Return_some (thn (he pins s σ H _ I h) fun v s1 ⟨x, H1, I1, r1, q1⟩ => ⟨x, σ, H1, I1, r1, q1⟩)
noncomputable def tRetN : TS := fun D _ H => D.rt .non H
noncomputable def tIfS (c : TT) (t u : TS) : TS := fun D σ H => c σ H fun b H1 => if b = true then t D σ H1 else u D σ H1
theorem ps_if {c : Expr} {a b : List Stmt} {tc : TT} (hc : PT X c tc) (ha : PSs X a t) (hb : PSs X b u) : PS X (.If c a b pos) (tIfS tc t u) := by
  intro pins s σ H D I h
  refine wpAny_If (thn (hc pins s σ H _ I h) fun d s1 ⟨H1, I1, q1⟩ => ?_)
  cases d with
  | true => exact ha pins s1 σ H1 D I1 q1
  | false => exact hb pins s1 σ H1 D I1 q1
noncomputable def tNever : TS := fun _ _ _ => False
theorem ps_never : PS X st tNever := fun _ _ _ _ _ _ h => h.elim
end

/-! ### targets -/
noncomputable abbrev TG := V → St → Hp → (St → Hp → Prop) → Prop
noncomputable abbrev TGs := List V → St → Hp → (St → Hp → Prop) → Prop
noncomputable def PG (X : Cx) (target : Expr) (t : TG) : Prop :=
  ∀ (pins : List (Addr × Obj)) (s : Shared) (σ : St) (H : Hp) (v : V) (u : Value) (Q : St → Hp → Prop), Inv X pins σ H s → RelV v u → t v σ H Q →
    wpAny (model X.prog X.w) X.A (assign target X.env u) (fun _ s' => ∃ σ' H', Inv X pins σ' H' s' ∧ Q σ' H') X.xe s
noncomputable def PGs (X : Cx) (ts : List Expr) (t : TGs) : Prop :=
  ∀ (pins : List (Addr × Obj)) (s : Shared) (σ : St) (H : Hp) (vs : List V) (us : List Value) (Q : St → Hp → Prop), Inv X pins σ H s → Vals vs us → t vs σ H Q →
    wpAny (model X.prog X.w) X.A (assignInOrder ((assignEach ts X.env).map (·.2)) us) (fun _ s' => ∃ σ' H', Inv X pins σ' H' s' ∧ Q σ' H') X.xe s
noncomputable abbrev TSet := V → V → V → Hp → (Hp → Prop) → Prop
noncomputable def PSet (X : Cx) (t : TSet) : Prop :=
  ∀ (pins : List (Addr × Obj)) (s : Shared) (σ : St) (H : Hp) (o i v : V) (ov iv u : Value) (Q : Hp → Prop), Inv X pins σ H s → RelV o ov → RelV i iv → RelV v u → t o i v H Q →
    wpAny (model X.prog X.w) X.A (setItem ov iv u) (fun _ s' => ∃ H', Inv X pins σ H' s' ∧ Q H') X.xe s
section
variable {X : Cx} {pos : Pos}
noncomputable def gName (i : Nat) : TG := fun v σ H Q => Q (σ.set i (some v)) H
theorem pg_name {i : Nat} {x : Str} (hN : X.N.Nodup) (hi : X.N[i]? = some x) (hx : Loc X.env.scope x) (hf : X.fn x = true ∨ X.env.scope.names.lookup x = some .local := by first | exact .inl rfl | exact .inr rfl | assumption) : PG X (.Name x pos) (gName i) := by
  intro pins s σ H v u Q I r h
  exact wpAny_assign_Name (store_ok I hN hi hx r (fun s' I' => ⟨_, H, I', h⟩) hf)
noncomputable def gNil : TGs := fun vs σ H Q => vs = [] ∧ Q σ H
noncomputable def gCons (t : TG) (u : TGs) : TGs := fun vs σ H Q => ∃ v r, vs = v :: r ∧ t v σ H fun σ' H' => u r σ' H' Q
theorem pgs_nil : PGs X [] gNil := by
  intro pins s σ H vs us Q I r h
  obtain ⟨e, h⟩ := h
  subst e
  cases r
  exact assignInOrder_nil ⟨σ, H, I, h⟩
theorem pgs_cons {e : Expr} {es : List Expr} {t : TG} {u : TGs} (h1 : PG X e t) (h2 : PGs X es u)
    (hs : (assignEach (e :: es) X.env).map (·.2) = assign e X.env :: (assignEach es X.env).map (·.2) := by rfl) : PGs X (e :: es) (gCons t u) := by
  intro pins s σ H vs us Q I r h
  obtain ⟨v, vr, e1, h⟩ := h
  subst e1
  cases r with
  | cons r rr =>
    rw [hs]
    refine assignInOrder_cons (thn (h1 pins s σ H _ _ _ I r h) fun _ s1 ⟨σ1, H1, I1, q1⟩ => ?_)
    exact h2 pins s1 σ1 H1 _ _ Q I1 rr q1
noncomputable def gTup (K : PySem.W.Frag) (n : Nat) (t : TGs) : TG := fun v σ H Q => ∃ a xs, v = .ref a ∧ SqT K H a xs ∧ xs.length = n ∧ t xs σ H Q
theorem pg_tup {es : List Expr} {k : Nat} {t : TGs} {n : Nat} (hc : X.calm = true) (h : PGs X es t)
    (hn : (assignEach es X.env).length = n := by rfl) (hst : (assignEach es X.env).findIdx? (·.1) = none := by rfl) : PG X (.Tuple es k pos) (gTup X.K n t) := by
  intro pins s σ H v u Q I r hw
  obtain ⟨a, xs, e1, hq, hl, hw⟩ := hw
  subst e1
  cases r
  obtain ⟨its, rv, ht, hz⟩ := I.tuple hq
  refine assign_Tuple_tuple (I.ok.hd hc) ht (by simp [hn, ← hl, rv.length]) hst fun h' hx => ?_
  have I1 : Inv X pins σ H { s with heap := h' } := I.kept (t' := s.toks) fun b o e => hx b o (Nat.ne_of_lt (Heap.lt_size e)) e
  exact h pins _ σ H xs _ Q I1 (by simpa using rv) hw
noncomputable def gSub (to ti : TE) (t : TSet) : TG := fun v σ H Q => to σ H fun o H1 => ti σ H1 fun i H2 => t o i v H2 fun H3 => Q σ H3
theorem pg_sub {o i : Expr} {to ti : TE} {t : TSet} (ho : PE X o to) (hi : PE X i ti) (hs : PSet X t)
    (ha : ∀ v, assign (.Subscript o i pos) X.env v = (do
      let ov ← holding [v] (eval o X.env)
      let iv ← holding [v, ov] (eval i X.env)
      standAt pos
      holding [v, ov, iv] (setItem ov iv v)
      release [v, ov, iv] []) := by intro _; rfl) : PG X (.Subscript o i pos) (gSub to ti t) := by
  intro pins s σ H v u Q I r h
  rw [ha]
  refine wpAny_bind (wpAny_holding (thn (ho pins s σ H _ I h) fun ov s1 ⟨x, H1, I1, r1, q1⟩ => ?_))
  refine wpAny_bind (wpAny_holding (thn (hi pins s1 σ H1 _ I1 q1) fun iv s2 ⟨y, H2, I2, r2, q2⟩ => ?_))
  refine wpAny_bind (wpAny_standAt (wpAny_bind (wpAny_holding (thn (hs pins s2 σ H2 x y v ov iv u _ I2 r1 r2 r q2) fun _ s3 ⟨H3, I3, q3⟩ => ?_))))
  exact wpAny_release ⟨σ, H3, I3, q3⟩
noncomputable def tAsg (te : TE) (g : TG) : TS := fun D σ H => te σ H fun x H1 => g x σ H1 D.nx
theorem ps_asg {tg e : Expr} {te : TE} {g : TG} (he : PE X e te) (hg : PG X tg g) (hs : swapsWithSole [tg] e pos.line X.env = pure false := by rfl) (hw : swappedStores [tg] e X.env = pure none := by rfl)
    (h1 : (assignEach [tg] X.env).map (·.2) = [assign tg X.env] := by rfl) : PS X (.Assign [tg] e pos) (tAsg te g) := by
  intro pins s σ H D I h
  refine wpAny_Assign_stores (thn (he pins s σ H _ I h) fun v s1 ⟨x, H1, I1, r1, q1⟩ => ?_) hs hw
  rw [h1]
  exact thn (hg pins s1 σ H1 x v _ I1 r1 q1) fun _ s2 q => q
theorem ps_set {i : Nat} {x : Str} {e : Expr} {te : TE} {pos' : Pos} (hN : X.N.Nodup) (hi : X.N[i]? = some x) (hx : Loc X.env.scope x) (he : PE X e te) (hs : swapsWith e (some (.Name x pos')) pos.line X.env = pure false := by rfl) (hf : X.fn x = true ∨ X.env.scope.names.lookup x = some .local := by first | exact .inl rfl | exact .inr rfl | assumption) :
    PS X (.Assign [.Name x pos'] e pos) (tAsg te (gName i)) := by
  intro pins s σ H D I h
  refine wpAny_Assign_Name (thn (he pins s σ H _ I h) fun v s1 ⟨y, H1, I1, r1, q1⟩ => ?_) hs
  exact store_ok I1 hN hi hx r1 (fun s2 I2 => ⟨_, H1, I2, q1⟩) hf
end

/-! ### while -/
section
variable {X : Cx} {pos : Pos}
noncomputable def tWhile (c : TT) (tb : TS) : TS := fun D σ H => ∃ W : Nat → St → Hp → Prop, (∃ m, W m σ H) ∧ ∀ m σ H, W m σ H →
  c σ H fun b H1 => if b = true then ∃ N : St → Hp → Prop, (∀ σ' H', N σ' H' → ∃ m', m' < m ∧ W m' σ' H') ∧ tb { D with nx := N, ct := N, bk := D.nx } σ H1 else D.nx σ H1
theorem ps_while {c : Expr} {body : List Stmt} {tc : TT} {tb : TS} (hp : PassesOwn (model X.prog X.w) X.A X.env X.xe) (hc : PT X c tc) (hb : PSs X body tb) : PS X (.While c body [] pos) (tWhile tc tb) := by
  intro pins s σ H D I h
  obtain ⟨W, ⟨m0, w0⟩, turn⟩ := h
  refine wpAny_While (codeAny_whileLoop (fun n s' => ∃ σ' H', Inv X pins σ' H' s' ∧ W n σ' H') ?_ m0 ⟨σ, H, I, w0⟩)
  rintro n s1 ⟨σ1, H1, I1, w1⟩
  refine wpAny_passesOwn hp (thn (hc pins s1 σ1 H1 _ I1 (turn n σ1 H1 w1)) fun b s2 ⟨H2, I2, q2⟩ => ?_)
  cases b with
  | true =>
    obtain ⟨N, hN, q2⟩ := q2
    rw [if_pos rfl]
    refine wpAny_passesOwn hp (thn (hb pins s2 σ1 H2 _ I2 q2) fun f s3 q3 => ?_)
    cases f with
    | next =>
      obtain ⟨σ3, H3, I3, n3⟩ := q3
      obtain ⟨m', hm, w3⟩ := hN σ3 H3 n3
      exact ⟨m', hm, σ3, H3, I3, w3⟩
    | cont =>
      obtain ⟨σ3, H3, I3, n3⟩ := q3
      obtain ⟨m', hm, w3⟩ := hN σ3 H3 n3
      exact ⟨m', hm, σ3, H3, I3, w3⟩
    | brk => exact q3
    | ret v => exact q3
  | false =>
    rw [if_neg Bool.false_ne_true]
    exact wpAny_execs_nil ⟨σ1, H2, I2, q2⟩
end

/-! ### what a loop or a comprehension walks -/
structure It where
  go : Nat → Hp → Prop
  yld : Nat → Hp → V → Hp → Prop
  stop : Nat → Hp → Prop
noncomputable def FpOk (X : Cx) (pins : List (Addr × Obj)) (H : Hp) (b : Addr) : Prop :=
  H b = none ∧ b ≠ X.env.locals ∧ b ∉ X.fs ∧ (b ∈ X.ex ∨ X.s₀.heap.objs.size ≤ b) ∧ (∀ x c, X.env.cells.lookup x = some c → c ≠ b) ∧ ∀ p ∈ X.pn ++ pins, p.1 ≠ b
theorem Inv.fpOk {X : Cx} {pins : List (Addr × Obj)} {σ : St} {H H' : Hp} {s : Shared} {b : Addr} (I : Inv X pins σ H s) (hb : s.heap.objs.size ≤ b) (hn : H' b = none) : FpOk X pins H' b := by
  refine ⟨hn, Nat.ne_of_gt (Nat.lt_of_lt_of_le I.lt hb), I.nofs hb, .inr (Nat.le_trans I.sz hb), fun x c e z => ?_, fun p hp z => ?_⟩
  · obtain ⟨v, q⟩ := I.cell x c e
    exact absurd (Nat.lt_of_lt_of_le q.lt (by rw [z]; exact hb)) (Nat.lt_irrefl _)
  · exact absurd (Nat.lt_of_lt_of_le (Heap.lt_size (I.pin p hp).1) (by rw [z]; exact hb)) (Nat.lt_irrefl _)
structure Turn (P : Program) (w : World) (K : PySem.W.Frag) (tg : Expr) (J : It) (fp : List Addr) (it : Addr) (tn : Nat → Heap → Prop) : Prop where
  mem : it ∈ fp
  obj : ∀ i h, tn i h → ∀ b ∈ fp, ∃ o, h.get? b = some o ∧ ∀ v, o.data ≠ .cell v
  keep : ∀ i h h', tn i h → (∀ b ∈ fp, ∀ o, h.get? b = some o → h'.get? b = some o) → tn i h'
  item : ∀ (X : Cx), X.prog = P → X.w = w → X.K = K → X.calm = true → ∀ (i : Nat) (pins : List (Addr × Obj)) (s : Shared) (σ : St) (H : Hp) (E : Value → Shared → Prop), Inv X pins σ H s → (∀ b ∈ fp, FpOk X pins H b) → tn i s.heap → J.go i H →
    wpAny (model P w) X.A (pyNext (.ref it)) (fun r s1 => ∃ u, r = some u ∧
      wpAny (model P w) X.A (letOwnedTupleGo tg (.ref it) u) (fun _ s2 => ∃ x H', Inv X pins σ H' s2 ∧ RelV x u ∧ J.yld i H x H' ∧ tn (i + 1) s2.heap ∧ ∀ b ∈ fp, H' b = none) E s1) E s
  done : ∀ (X : Cx), X.prog = P → X.w = w → X.K = K → X.calm = true → ∀ (i : Nat) (pins : List (Addr × Obj)) (s : Shared) (σ : St) (H : Hp) (E : Value → Shared → Prop), Inv X pins σ H s → (∀ b ∈ fp, FpOk X pins H b) → tn i s.heap → J.stop i H →
    wpAny (model P w) X.A (pyNext (.ref it)) (fun r s1 => r = none ∧ Inv X pins σ H s1) E s
  self : ∀ (A : Around) (i : Nat) (s : Shared) (Q : Value → Shared → Prop) (E : Value → Shared → Prop), tn i s.heap → Q (.ref it) s → wpAny (model P w) A (pyIter (.ref it)) Q E s
noncomputable abbrev TI := St → Hp → (It → Hp → Prop) → Prop
noncomputable def PIE (X : Cx) (pins : List (Addr × Obj)) (σ : St) (tg : Expr) (R : It → Hp → Prop) (itv : Value) (s2 : Shared) : Prop :=
  ∃ (it : Addr) (fp : List Addr) (tn : Nat → Heap → Prop) (J : It) (H' : Hp), itv = .ref it ∧ Inv X pins σ H' s2 ∧ Turn X.prog X.w X.K tg J fp it tn ∧ tn 0 s2.heap ∧ (∀ b ∈ fp, FpOk X pins H' b) ∧ R J H'
noncomputable def PI (X : Cx) (tg iter : Expr) (wi : TI) : Prop :=
  ∀ (pins : List (Addr × Obj)) (s : Shared) (σ : St) (H : Hp) (R : It → Hp → Prop), Inv X pins σ H s → wi σ H R →
    wpAny (model X.prog X.w) X.A (eval iter X.env) (fun v s1 => wpAny (model X.prog X.w) X.A (pyIter v) (PIE X pins σ tg R) X.xe s1) X.xe s

theorem go_of {M : Model} {A : Around} {E : Value → Shared → Prop} {s : Shared} {tg : Expr} {it : Addr} {u : Value} {o : Obj} {n : String} {vs : Array Value} {Q : Unit → Shared → Prop} (ho : s.heap.get? it = some o) (hc : o.cls = .type n) (hd : o.data = .fields vs)
    (hn : ["enumerate", "zip", "dict_itemiterator", "dict_reverseitemiterator", "odict_iterator", "itertools.zip_longest", "itertools.pairwise"].contains n = false) (hQ : Q () s) : wpAny M A (letOwnedTupleGo tg (.ref it) u) Q E s := by
  unfold letOwnedTupleGo
  cases tg <;> first
    | exact wpAny_pure hQ
    | (cases u <;> first
        | exact wpAny_pure hQ
        | (refine wpAny_bind (wpAny_load ho ?_)
           rw [hc, hd]
           show wpAny M A (if (["enumerate", "zip", "dict_itemiterator", "dict_reverseitemiterator", "odict_iterator", "itertools.zip_longest", "itertools.pairwise"].contains n && vs[0]? == some (rawInt _)) = true then _ else _) Q E s
           rw [if_neg (by intro h; rw [hn, Bool.false_and] at h; cases h)]
           exact wpAny_pure hQ))

noncomputable def Itl (K : PySem.W.Frag) (a : Addr) : It :=
  ⟨fun i H => ∃ xs x, SqL K H a xs ∧ xs[i]? = some x, fun i H x H' => H' = H ∧ ∀ xs, SqL K H a xs → xs[i]? = some x, fun i H => ∃ xs, SqL K H a xs ∧ xs.length ≤ i⟩
noncomputable def Itt (K : PySem.W.Frag) (a : Addr) : It :=
  ⟨fun i H => ∃ xs x, SqT K H a xs ∧ xs[i]? = some x, fun i H x H' => H' = H ∧ ∀ xs, SqT K H a xs → xs[i]? = some x, fun i H => ∃ xs, SqT K H a xs ∧ xs.length ≤ i⟩
noncomputable def Itr (lo : Int) (n : Nat) : It := ⟨fun i _ => i < n, fun i H x H' => H' = H ∧ x = .int (lo + i), fun i _ => n ≤ i⟩
theorem turn_list {P : Program} {w : World} {K : PySem.W.Frag} {tg : Expr} (a it : Addr) : Turn P w K tg (Itl K a) [it] it (fun i h => h.IsListIter it a i) where
  mem := by simp
  obj := fun i h st b hb => by
    have e : b = it := by simpa using hb
    subst e
    obtain ⟨o, e, c, d⟩ := st
    exact ⟨o, e, fun v z => by rw [d] at z; cases z⟩
  keep := fun i h h' st k => st.at fun o e => k it (by simp) o e
  item := by
    intro X hP hw hK hc i pins s σ H E I hf st hg
    subst hP hw hK
    obtain ⟨xs, x, hq, hx⟩ := hg
    obtain ⟨its, rv, p, hz⟩ := I.list hq
    obtain ⟨u, hu, ru⟩ := rv.get hx
    obtain ⟨f0, f1, f2, f3, f4, f5⟩ := hf it (by simp)
    refine wpAny_pyNext_list_item st p.isList (x := u) (by simpa using hu) fun h' st' sb => ?_
    have I1 : Inv X pins σ H { s with heap := h' } := I.turned (t' := s.toks) (fun b o hb e => (sb.2 b hb).trans e) f0 f1 f3 f4 f5
    obtain ⟨o, e, c, d⟩ := id st'
    exact ⟨u, rfl, go_of (s := { s with heap := h' }) e c d (by decide) ⟨x, H, I1, ru, ⟨rfl, fun ys hy => by rw [I.list_inj hy hq]; exact hx⟩, st', fun b hb => (hf b hb).1⟩⟩
  done := by
    intro X hP hw hK hc i pins s σ H E I hf st hg
    subst hP hw hK
    obtain ⟨xs, hq, hx⟩ := hg
    obtain ⟨its, rv, p, hz⟩ := I.list hq
    obtain ⟨f0, f1, f2, f3, f4, f5⟩ := hf it (by simp)
    have hl := rv.length
    exact wpAny_pyNext_list_end (I.ok.hd hc) st p.isList (by simp; omega) fun h' eb => ⟨rfl, I.turned (t' := s.toks) (fun b o hb e => eb b o hb e) f0 f1 f3 f4 f5⟩
  self := fun _ _ _ _ _ st h => wpAny_pyIter_listiter st h
theorem turn_tuple {P : Program} {w : World} {K : PySem.W.Frag} {tg : Expr} (a it : Addr) : Turn P w K tg (Itt K a) [it] it (fun i h => h.IsTupleIter it a i) where
  mem := by simp
  obj := fun i h st b hb => by
    have e : b = it := by simpa using hb
    subst e
    obtain ⟨o, e, c, d⟩ := st
    exact ⟨o, e, fun v z => by rw [d] at z; cases z⟩
  keep := fun i h h' st k => st.at fun o e => k it (by simp) o e
  item := by
    intro X hP hw hK hc i pins s σ H E I hf st hg
    subst hP hw hK
    obtain ⟨xs, x, hq, hx⟩ := hg
    obtain ⟨its, rv, p, hz⟩ := I.tuple hq
    obtain ⟨u, hu, ru⟩ := rv.get hx
    obtain ⟨f0, f1, f2, f3, f4, f5⟩ := hf it (by simp)
    refine wpAny_pyNext_tuple_item st (show s.heap.IsTuple a its.toArray from p) (x := u) (by simpa using hu) fun h' st' sb => ?_
    have I1 : Inv X pins σ H { s with heap := h' } := I.turned (t' := s.toks) (fun b o hb e => (sb.2 b hb).trans e) f0 f1 f3 f4 f5
    obtain ⟨o, e, c, d⟩ := id st'
    exact ⟨u, rfl, go_of (s := { s with heap := h' }) e c d (by decide) ⟨x, H, I1, ru, ⟨rfl, fun ys hy => by rw [I.tuple_inj hy hq]; exact hx⟩, st', fun b hb => (hf b hb).1⟩⟩
  done := by
    intro X hP hw hK hc i pins s σ H E I hf st hg
    subst hP hw hK
    obtain ⟨xs, hq, hx⟩ := hg
    obtain ⟨its, rv, p, hz⟩ := I.tuple hq
    obtain ⟨f0, f1, f2, f3, f4, f5⟩ := hf it (by simp)
    have hl := rv.length
    exact wpAny_pyNext_tuple_end (I.ok.hd hc) st (show s.heap.IsTuple a its.toArray from p) (by simp; omega) fun h' eb => ⟨rfl, I.turned (t' := s.toks) (fun b o hb e => eb b o hb e) f0 f1 f3 f4 f5⟩
  self := fun _ _ _ _ _ st h => wpAny_pyIter_tupleiter st h
theorem turn_range {P : Program} {w : World} {K : PySem.W.Frag} {tg : Expr} (it : Addr) (lo : Int) (n : Nat) : Turn P w K tg (Itr lo n) [it] it (fun i h => IsRangeIter h it (lo + (i : Nat) * 1) ((n : Int) - (i : Nat)) 1) where
  mem := by simp
  obj := fun i h st b hb => by
    have e : b = it := by simpa using hb
    subst e
    exact ⟨_, st, fun v z => by
      have z' : Data.fields _ = Data.cell v := z
      cases z'⟩
  keep := fun i h h' st k => k it (by simp) _ st
  item := by
    intro X hP hw hK hc i pins s σ H E I hf st hg
    subst hP hw hK
    obtain ⟨f0, f1, f2, f3, f4, f5⟩ := hf it (by simp)
    have W := Walks.range (prog := X.prog) (w := X.w) (I.ok.hd hc) it lo 1 n
    refine W.item i s _ _ hg st fun v h' tk hv st' kk => ?_
    obtain ⟨t, rfl⟩ := hv
    have I1 : Inv X pins σ H { s with heap := h', toks := tk } := I.turned (fun b o hb e => kk b o (by simpa using hb) e) f0 f1 f3 f4 f5
    refine ⟨_, rfl, go_of (s := { s with heap := h', toks := tk }) (n := "range_iterator") st' rfl rfl (by decide) ⟨.int (lo + i), H, I1, ⟨t, ?_⟩, ⟨rfl, rfl⟩, st', fun b hb => (hf b hb).1⟩⟩
    rw [Int.mul_one]
  done := by
    intro X hP hw hK hc i pins s σ H E I hf st hg
    subst hP hw hK
    obtain ⟨f0, f1, f2, f3, f4, f5⟩ := hf it (by simp)
    exact wpAny_pyNext_range_end (I.ok.hd hc) st (by have : n ≤ i := hg; omega) fun h' eb => ⟨rfl, I.turned (t' := s.toks) (fun b o hb e => eb b o hb e) f0 f1 f3 f4 f5⟩
  self := fun _ _ _ _ _ st h => wpAny_pyIter_rangeiter st h
end L2

namespace L2
open PySem PySem.Spec PyProof.Rows
section
variable {X : Cx} {tg : Expr}
noncomputable def iList (K : PySem.W.Frag) (tl : TE) : TI := fun σ H R => tl σ H fun x H1 => ∃ a, x = .ref a ∧ (∃ xs, SqL K H1 a xs) ∧ R (Itl K a) H1
noncomputable def iTup (K : PySem.W.Frag) (tl : TE) : TI := fun σ H R => tl σ H fun x H1 => ∃ a, x = .ref a ∧ (∃ xs, SqT K H1 a xs) ∧ R (Itt K a) H1
theorem pi_list {l : Expr} {tl : TE} (hl : PE X l tl) : PI X tg l (iList X.K tl) := by
  intro pins s σ H R I h
  refine thn (hl pins s σ H _ I h) fun v s1 ⟨x, H1, I1, r1, q1⟩ => ?_
  obtain ⟨a, e, ⟨xs, hq⟩, q⟩ := q1
  subst e
  cases r1
  obtain ⟨its, rv, p, hz⟩ := I1.list hq
  refine wpAny_pyIter_list p.isList ?_
  refine ⟨s1.heap.objs.size, [s1.heap.objs.size], _, _, H1, rfl, I1.kept (t' := s1.toks) fun b o e => Heap.get?_push_of_some _ e, turn_list a _, ⟨_, Heap.get?_push_size _ rfl, rfl, rfl⟩, fun b hb => ?_, q⟩
  have e : b = s1.heap.objs.size := by simpa using hb
  subst e
  exact I1.fpOk (Nat.le_refl _) (I1.hok.fresh (Nat.le_refl _))
theorem pi_tup {l : Expr} {tl : TE} (hl : PE X l tl) : PI X tg l (iTup X.K tl) := by
  intro pins s σ H R I h
  refine thn (hl pins s σ H _ I h) fun v s1 ⟨x, H1, I1, r1, q1⟩ => ?_
  obtain ⟨a, e, ⟨xs, hq⟩, q⟩ := q1
  subst e
  cases r1
  obtain ⟨its, rv, p, hz⟩ := I1.tuple hq
  refine wpAny_pyIter_tuple (show s1.heap.IsTuple a its.toArray from p) ?_
  refine ⟨s1.heap.objs.size, [s1.heap.objs.size], _, _, H1, rfl, I1.kept (t' := s1.toks) fun b o e => Heap.get?_push_of_some _ e, turn_tuple a _, ⟨_, Heap.get?_push_size _ rfl, rfl, rfl⟩, fun b hb => ?_, q⟩
  have e : b = s1.heap.objs.size := by simpa using hb
  subst e
  exact I1.fpOk (Nat.le_refl _) (I1.hok.fresh (Nat.le_refl _))
theorem range_it {pins : List (Addr × Obj)} {σ : St} {H : Hp} {s : Shared} {R : It → Hp → Prop} {E : Value → Shared → Prop} {lo hi : Int} {t u v : Tok} {tk : Nat} (I : Inv X pins σ H s) (h1 : -(2 ^ 62) ≤ lo) (h2 : lo < 2 ^ 62) (h3 : -(2 ^ 62) ≤ hi) (h4 : hi < 2 ^ 62)
    (q : R (Itr lo (hi - lo).toNat) H) : wpAny (model X.prog X.w) X.A (pyIter (.ref s.heap.objs.size)) (PIE X pins σ tg R) E { s with heap := s.heap.push { cls := .type "range", data := .fields #[.int lo t, .int hi u, .int 1 v] }, toks := tk } := by
  refine wpAny_pyIter_range (IsRange.new ..) (small_one h1 h2 h3 h4) ?_
  have I1 : Inv X pins σ H { s with heap := s.heap.push { cls := .type "range", data := .fields #[.int lo t, .int hi u, .int 1 v] }, toks := tk } := I.kept fun b o e => Heap.get?_push_of_some _ e
  refine ⟨(s.heap.push { cls := .type "range", data := .fields #[.int lo t, .int hi u, .int 1 v] }).objs.size, [(s.heap.push { cls := .type "range", data := .fields #[.int lo t, .int hi u, .int 1 v] }).objs.size], _, _, H, rfl,
    I1.kept (t' := tk) fun b o e => Heap.get?_push_of_some _ e, turn_range _ lo (hi - lo).toNat, ?_, fun b hb => ?_, q⟩
  · have e1 : lo + ((0 : Nat) : Int) * 1 = lo := by simp
    have e2 : (((hi - lo).toNat : Nat) : Int) - ((0 : Nat) : Int) = Builtin.Range.rangeSize lo hi 1 := by rw [rangeSize_one]; split <;> omega
    show IsRangeIter _ _ (lo + ((0 : Nat) : Int) * 1) ((((hi - lo).toNat : Nat) : Int) - ((0 : Nat) : Int)) 1
    rw [e1, e2]
    exact Heap.get?_push_size _ rfl
  · have e : b = (s.heap.push { cls := .type "range", data := .fields #[.int lo t, .int hi u, .int 1 v] }).objs.size := by simpa using hb
    subst e
    exact I1.fpOk (Nat.le_refl _) (I1.hok.fresh (Nat.le_refl _))
noncomputable def iRng1 (ta : TA) : TI := fun σ H R => ta σ H fun vs H1 => ∃ j : Int, vs = [.int j] ∧ -(2 ^ 62) ≤ j ∧ j < 2 ^ 62 ∧ R (Itr 0 j.toNat) H1
noncomputable def iRng2 (ta : TA) : TI := fun σ H R => ta σ H fun vs H1 => ∃ i j : Int, vs = [.int i, .int j] ∧ (-(2 ^ 62) ≤ i ∧ i < 2 ^ 62 ∧ -(2 ^ 62) ≤ j ∧ j < 2 ^ 62) ∧ R (Itr i (j - i).toNat) H1
theorem pi_range1 {a : Expr} {ta : TA} {p pos : Pos} (hg : Gl X "range") (hm : X.mg "range" = none) (ha : PA X [a] ta) (hs : starEach [a] X.env = [(false, eval a X.env)] := by rfl) : PI X tg (.Call (.Name "range" p) [a] [] pos) (iRng1 ta) := by
  intro pins s σ H R I h
  refine Call_ (ld_blt I hg hm boot_range (PyProof.Rows.callWith_type1 (thn (ha pos pins s σ H _ I h) fun us s1 ⟨vs, H1, I1, r1, q1⟩ => ?_) hs rfl))
  obtain ⟨j, e, q1, q2, q⟩ := q1
  subst e
  cases r1 with
  | cons r rr =>
    cases rr
    obtain ⟨t, rfl⟩ := r
    exact call_range_1 (range_it I1 (by omega) (by omega) q1 q2 (by simpa using q))
/-! ### for -/
noncomputable def tFor (wi : TI) (g : TG) (tb : TS) : TS := fun D σ H => wi σ H fun J H1 => ∃ W : Nat → Nat → St → Hp → Prop, (∃ m, W 0 m σ H1) ∧ ∀ i m σ H, W i m σ H →
  (J.stop i H ∧ D.nx σ H) ∨ (J.go i H ∧ ∃ N : St → Hp → Prop, (∀ σ' H', N σ' H' → ∃ m', m' < m ∧ W (i + 1) m' σ' H') ∧ ∀ x H', J.yld i H x H' → g x σ H' fun σ2 H2 => tb { D with nx := N, ct := N, bk := D.nx } σ2 H2)
noncomputable def pinsAt (fp : List Addr) (h : Heap) : List (Addr × Obj) := fp.filterMap fun b => (h.get? b).map fun o => (b, o)
theorem mem_pinsAt {fp : List Addr} {h : Heap} {b : Addr} {o : Obj} (hb : b ∈ fp) (e : h.get? b = some o) : (b, o) ∈ pinsAt fp h := List.mem_filterMap.mpr ⟨b, hb, by rw [e]; rfl⟩
theorem of_pinsAt {fp : List Addr} {h : Heap} {p : Addr × Obj} (hp : p ∈ pinsAt fp h) : p.1 ∈ fp ∧ h.get? p.1 = some p.2 := by
  obtain ⟨b, hb, e⟩ := List.mem_filterMap.mp hp
  cases q : h.get? b with
  | none => rw [q] at e; cases e
  | some o =>
    rw [q] at e
    have e' : (b, o) = p := Option.some.inj e
    subst e'
    exact ⟨hb, q⟩
theorem Inv.pinned {pins : List (Addr × Obj)} {σ : St} {H : Hp} {s : Shared} {fp : List Addr} (I : Inv X pins σ H s) (hf : ∀ b ∈ fp, FpOk X pins H b) (ho : ∀ b ∈ fp, ∃ o, s.heap.get? b = some o ∧ ∀ v, o.data ≠ .cell v) : Inv X (pins ++ pinsAt fp s.heap) σ H s :=
  I.pins_of fun p hp => (List.mem_append.mp hp).elim (fun z => I.pin p (List.mem_append_right _ z)) fun z => by
    obtain ⟨hb, e⟩ := of_pinsAt z
    obtain ⟨f0, f1, f2, _⟩ := hf p.1 hb
    obtain ⟨o, e', d⟩ := ho p.1 hb
    rw [e] at e'; cases e'
    exact ⟨e, f0, f1, f2, d⟩
theorem Inv.unpinned {pins pl : List (Addr × Obj)} {σ : St} {H : Hp} {s : Shared} (I : Inv X (pins ++ pl) σ H s) : Inv X pins σ H s := I.pins_of fun p hp => I.pin p (List.mem_append_right _ (List.mem_append_left _ hp))
theorem ps_for {iter : Expr} {body : List Stmt} {wi : TI} {g : TG} {tb : TS} {pos : Pos} (hp : PassesOwn (model X.prog X.w) X.A X.env X.xe) (hc : X.calm = true) (hi : PI X tg iter wi) (hg : PG X tg g) (hb : PSs X body tb)
    (hs : ∀ x, foldedSetIterable iter X.env x = pure x := by intro _; rfl) : PS X (.For tg iter body [] pos) (tFor wi g tb) := by
  intro pins s σ H D I h
  refine wpAny_For (thn (hi pins s σ H _ I h) fun v s1 h1 => thn h1 fun itv s2 h2 => ?_) hs
  obtain ⟨it, fp, tn, J, H2, e, I2, T, st2, f2, W, ⟨m0, w0⟩, turn⟩ := h2
  subst e
  -- what stays true of the iterator's objects through the loop
  have stat : ∀ {H' : Hp}, (∀ b ∈ fp, H' b = none) → ∀ b ∈ fp, FpOk X pins H' b := fun hn b hb => ⟨hn b hb, (f2 b hb).2⟩
  refine codeAny_forLoop_any (fun n s' => ∃ i σ' H', Inv X pins σ' H' s' ∧ tn i s'.heap ∧ (∀ b ∈ fp, H' b = none) ∧ W i n σ' H') ?_ m0 ⟨0, σ, H2, I2, st2, fun b hb => (f2 b hb).1, w0⟩
  rintro n s3 ⟨i, σ3, H3, I3, st3, fr3, w3⟩
  rcases turn i n σ3 H3 w3 with ⟨stop, qn⟩ | ⟨go, N, hN, step⟩
  · refine wpAny_passesOwn hp (thn (T.done X rfl rfl rfl hc i pins s3 σ3 H3 X.xe I3 (stat fr3) st3 stop) fun r s4 ⟨hr, I4⟩ => ?_)
    subst hr
    exact wpAny_execs_nil ⟨σ3, H3, I4, qn⟩
  · refine wpAny_passesOwn hp (thn (T.item X rfl rfl rfl hc i pins s3 σ3 H3 X.xe I3 (stat fr3) st3 go) fun r s4 ⟨u, hr, h4⟩ => ?_)
    subst hr
    refine wpAny_passesOwn hp (thn h4 fun _ s5 ⟨x, H5, I5, r5, y5, st5, fr5⟩ => ?_)
    have I5' := I5.pinned (stat fr5) (T.obj _ _ st5)
    refine wpAny_passesOwn hp (thn (hg _ s5 σ3 H5 x u _ I5' r5 (step x H5 y5)) fun _ s6 ⟨σ6, H6, I6, q6⟩ => ?_)
    refine wpAny_passesOwn hp (thn (hb _ s6 σ6 H6 _ I6 q6) fun f s7 q7 => ?_)
    have again : ∀ {σ7 : St} {H7 : Hp}, Inv X (pins ++ pinsAt fp s5.heap) σ7 H7 s7 → N σ7 H7 → ∃ m, m < n ∧ ∃ i σ' H', Inv X pins σ' H' s7 ∧ tn i s7.heap ∧ (∀ b ∈ fp, H' b = none) ∧ W i m σ' H' := fun {σ7 H7} I7 n7 => by
      obtain ⟨m', hm, w7⟩ := hN σ7 H7 n7
      refine ⟨m', hm, i + 1, σ7, H7, I7.unpinned, T.keep _ _ _ st5 fun b hb o e => (I7.pin (b, o) (List.mem_append_right _ (List.mem_append_right _ (mem_pinsAt hb e)))).1, fun b hb => ?_, w7⟩
      obtain ⟨o, e, d⟩ := T.obj _ _ st5 b hb
      exact (I7.pin (b, o) (List.mem_append_right _ (List.mem_append_right _ (mem_pinsAt hb e)))).2.1
    cases f with
    | next => obtain ⟨σ7, H7, I7, n7⟩ := q7; exact again I7 n7
    | cont => obtain ⟨σ7, H7, I7, n7⟩ := q7; exact again I7 n7
    | brk => obtain ⟨σ7, H7, I7, q7⟩ := q7; exact ⟨σ7, H7, I7.unpinned, q7⟩
    | ret v => obtain ⟨x7, σ7, H7, I7, r7, q7⟩ := q7; exact ⟨x7, σ7, H7, I7.unpinned, r7, q7⟩
end

/-! ### the forms one uses -/
theorem for_list {K : PySem.W.Frag} {a : Addr} {xs : List V} {g : TG} {tb : TS} {D : Ends} {σ : St} {H : Hp} (Pv : Nat → St → Hp → Prop) (h0 : Pv 0 σ H) (hl : ∀ i σ H, i ≤ xs.length → Pv i σ H → SqL K H a xs)
    (hs : ∀ i x σ H, xs[i]? = some x → Pv i σ H → g x σ H fun σ2 H2 => tb { D with nx := Pv (i + 1), ct := Pv (i + 1), bk := D.nx } σ2 H2) (hd : ∀ σ H, Pv xs.length σ H → D.nx σ H) :
    ∃ W : Nat → Nat → St → Hp → Prop, (∃ m, W 0 m σ H) ∧ ∀ i m σ H, W i m σ H →
      ((Itl K a).stop i H ∧ D.nx σ H) ∨ ((Itl K a).go i H ∧ ∃ N : St → Hp → Prop, (∀ σ' H', N σ' H' → ∃ m', m' < m ∧ W (i + 1) m' σ' H') ∧ ∀ x H', (Itl K a).yld i H x H' → g x σ H' fun σ2 H2 => tb { D with nx := N, ct := N, bk := D.nx } σ2 H2) := by
  refine ⟨fun i m σ H => m = xs.length - i ∧ i ≤ xs.length ∧ Pv i σ H, ⟨xs.length, by simp, Nat.zero_le _, h0⟩, ?_⟩
  rintro i m σ H ⟨rfl, hi, p⟩
  have q := hl i σ H hi p
  by_cases hlt : i < xs.length
  · refine .inr ⟨⟨xs, xs[i], q, by simp [hlt]⟩, Pv (i + 1), fun σ' H' p' => ⟨xs.length - (i + 1), by omega, rfl, hlt, p'⟩, fun x H' y => ?_⟩
    obtain ⟨e, y⟩ := y
    subst e
    exact hs i x σ _ (y xs q) p
  · have e : i = xs.length := by omega
    subst e
    exact .inl ⟨⟨xs, q, Nat.le_refl _⟩, hd σ H p⟩
theorem for_tup {K : PySem.W.Frag} {a : Addr} {xs : List V} {g : TG} {tb : TS} {D : Ends} {σ : St} {H : Hp} (Pv : Nat → St → Hp → Prop) (h0 : Pv 0 σ H) (hl : ∀ i σ H, i ≤ xs.length → Pv i σ H → SqT K H a xs)
    (hs : ∀ i x σ H, xs[i]? = some x → Pv i σ H → g x σ H fun σ2 H2 => tb { D with nx := Pv (i + 1), ct := Pv (i + 1), bk := D.nx } σ2 H2) (hd : ∀ σ H, Pv xs.length σ H → D.nx σ H) :
    ∃ W : Nat → Nat → St → Hp → Prop, (∃ m, W 0 m σ H) ∧ ∀ i m σ H, W i m σ H →
      ((Itt K a).stop i H ∧ D.nx σ H) ∨ ((Itt K a).go i H ∧ ∃ N : St → Hp → Prop, (∀ σ' H', N σ' H' → ∃ m', m' < m ∧ W (i + 1) m' σ' H') ∧ ∀ x H', (Itt K a).yld i H x H' → g x σ H' fun σ2 H2 => tb { D with nx := N, ct := N, bk := D.nx } σ2 H2) := by
  refine ⟨fun i m σ H => m = xs.length - i ∧ i ≤ xs.length ∧ Pv i σ H, ⟨xs.length, by simp, Nat.zero_le _, h0⟩, ?_⟩
  rintro i m σ H ⟨rfl, hi, p⟩
  have q := hl i σ H hi p
  by_cases hlt : i < xs.length
  · refine .inr ⟨⟨xs, xs[i], q, by simp [hlt]⟩, Pv (i + 1), fun σ' H' p' => ⟨xs.length - (i + 1), by omega, rfl, hlt, p'⟩, fun x H' y => ?_⟩
    obtain ⟨e, y⟩ := y
    subst e
    exact hs i x σ _ (y xs q) p
  · have e : i = xs.length := by omega
    subst e
    exact .inl ⟨⟨xs, q, Nat.le_refl _⟩, hd σ H p⟩
theorem for_range {lo : Int} {n : Nat} {g : TG} {tb : TS} {D : Ends} {σ : St} {H : Hp} (Pv : Nat → St → Hp → Prop) (h0 : Pv 0 σ H)
    (hs : ∀ i σ H, i < n → Pv i σ H → g (.int (lo + i)) σ H fun σ2 H2 => tb { D with nx := Pv (i + 1), ct := Pv (i + 1), bk := D.nx } σ2 H2) (hd : ∀ σ H, Pv n σ H → D.nx σ H) :
    ∃ W : Nat → Nat → St → Hp → Prop, (∃ m, W 0 m σ H) ∧ ∀ i m σ H, W i m σ H →
      ((Itr lo n).stop i H ∧ D.nx σ H) ∨ ((Itr lo n).go i H ∧ ∃ N : St → Hp → Prop, (∀ σ' H', N σ' H' → ∃ m', m' < m ∧ W (i + 1) m' σ' H') ∧ ∀ x H', (Itr lo n).yld i H x H' → g x σ H' fun σ2 H2 => tb { D with nx := N, ct := N, bk := D.nx } σ2 H2) := by
  refine ⟨fun i m σ H => m = n - i ∧ i ≤ n ∧ Pv i σ H, ⟨n, by simp, Nat.zero_le _, h0⟩, ?_⟩
  rintro i m σ H ⟨rfl, hi, p⟩
  by_cases hlt : i < n
  · refine .inr ⟨hlt, Pv (i + 1), fun σ' H' p' => ⟨n - (i + 1), by omega, rfl, hlt, p'⟩, fun x H' y => ?_⟩
    obtain ⟨e, y⟩ := y
    subst e y
    exact hs i σ _ hlt p
  · have e : i = n := by omega
    subst e
    exact .inl ⟨Nat.le_refl _, hd σ H p⟩
end L2

namespace L2
open PySem PySem.Spec PyProof.Rows

noncomputable abbrev R2 := V → V → Hp → VK → Prop
noncomputable def OpR (X : Cx) (f : Value → Value → Sem Value) (r : R2) : Prop :=
  ∀ (pins : List (Addr × Obj)) (s : Shared) (σ : St) (H : Hp) (x y : V) (v u : Value) (Q : VK), Inv X pins σ H s → RelV x v → RelV y u → r x y H Q →
    wpAny (model X.prog X.w) X.A (f v u) (EP X pins σ Q) X.xe s
noncomputable def UnR (X : Cx) (f : Value → Sem Value) (r : V → Hp → VK → Prop) : Prop :=
  ∀ (pins : List (Addr × Obj)) (s : Shared) (σ : St) (H : Hp) (x : V) (v : Value) (Q : VK), Inv X pins σ H s → RelV x v → r x H Q →
    wpAny (model X.prog X.w) X.A (f v) (EP X pins σ Q) X.xe s
noncomputable def CallR (X : Cx) (f : Value) (r : List V → Hp → VK → Prop) : Prop :=
  ∀ (pins : List (Addr × Obj)) (s : Shared) (σ : St) (H : Hp) (xs : List V) (us : List Value) (Q : VK), Inv X pins σ H s → Vals xs us → r xs H Q →
    wpAny (model X.prog X.w) X.A (call f us) (EP X pins σ Q) X.xe s
noncomputable def tOp (r : R2) (ta tb : TE) : TE := fun σ H Q => ta σ H fun x H1 => tb σ H1 fun y H2 => r x y H2 Q
noncomputable def tUn (r : V → Hp → VK → Prop) (ta : TE) : TE := fun σ H Q => ta σ H fun x H1 => r x H1 Q
noncomputable def rI (C : Int → Int → Prop) (g : Int → Int → V) : R2 := fun x y H Q => ∃ i j, x = .int i ∧ y = .int j ∧ C i j ∧ Q (g i j) H
noncomputable def rI0 (g : Int → Int → V) : R2 := fun x y H Q => ∃ i j, x = .int i ∧ y = .int j ∧ Q (g i j) H
noncomputable def rU (g : Int → V) : V → Hp → VK → Prop := fun x H Q => ∃ i, x = .int i ∧ Q (g i) H

section
variable {X : Cx} {a b c : Expr} {ta tb tc : TE} {pos : Pos}

theorem binT (ha : PE X a ta) (hb : PE X b tb) {pins : List (Addr × Obj)} {s : Shared} {σ : St} {H : Hp} {R : V → V → Hp → Prop} (I : Inv X pins σ H s)
    (h : ta σ H fun x H1 => tb σ H1 fun y H2 => R x y H2) {Q : Value → Shared → Prop} {f : Value → Value → Sem Value}
    (hf : ∀ v u s2 x y H2, Inv X pins σ H2 s2 → RelV x v → RelV y u → R x y H2 → wpAny (model X.prog X.w) X.A (f v u) Q X.xe s2) :
    wpAny (model X.prog X.w) X.A (eval a X.env) (fun v s₁ => wpAny (model X.prog X.w) X.A (eval b X.env) (fun u s₂ => wpAny (model X.prog X.w) X.A (f v u) Q X.xe s₂) X.xe s₁) X.xe s := by
  refine thn (ha pins s σ H _ I h) fun v s1 ⟨x, H1, I1, r1, q1⟩ => ?_
  refine thn (hb pins s1 σ H1 _ I1 q1) fun u s2 ⟨y, H2, I2, r2, q2⟩ => ?_
  exact hf v u s2 x y H2 I2 r1 r2 q2

theorem pe_op {op : Operator} {r : R2} (ho : OpR X (binaryOp op) r) (ha : PE X a ta) (hb : PE X b tb) : PE X (.BinOp a op b pos) (tOp r ta tb) := by
  intro pins s σ H Q I h
  exact wpAny_BinOp (binT ha hb I h fun v u s2 x y H2 I2 rx ry q => ho pins s2 σ H2 x y v u Q I2 rx ry q)
theorem pe_un {op : UnaryOp} {r : V → Hp → VK → Prop} (ho : UnR X (unaryOp op) r) (ha : PE X a ta) : PE X (.UnaryOp op a pos) (tUn r ta) := by
  intro pins s σ H Q I h
  exact UnaryOp_ (thn (ha pins s σ H _ I h) fun v s1 ⟨x, H1, I1, r1, q1⟩ => ho pins s1 σ H1 x v Q I1 r1 q1)
/-! ### ints -/
theorem opI {f : Value → Value → Sem Value} {C : Int → Int → Prop} {g : Int → Int → Int}
    (rule : ∀ (i j : Int) (t u : Tok) (s : Shared) (Q : Value → Shared → Prop) (E : Value → Shared → Prop), C i j → Q (.int (g i j) s.toks) { s with toks := s.toks + 1 } → wpAny (model X.prog X.w) X.A (f (.int i t) (.int j u)) Q E s) :
    OpR X f (rI C fun i j => .int (g i j)) := by
  intro pins s σ H x y v u Q I rx ry h
  obtain ⟨i, j, rfl, rfl, hc, q⟩ := h
  obtain ⟨t, rfl⟩ := rx
  obtain ⟨t', rfl⟩ := ry
  exact rule i j t t' s _ _ hc ⟨.int (g i j), H, I.tok _, ⟨_, rfl⟩, q⟩
theorem opI0 {f : Value → Value → Sem Value} {g : Int → Int → Int}
    (rule : ∀ (i j : Int) (t u : Tok) (s : Shared) (Q : Value → Shared → Prop) (E : Value → Shared → Prop), Q (.int (g i j) s.toks) { s with toks := s.toks + 1 } → wpAny (model X.prog X.w) X.A (f (.int i t) (.int j u)) Q E s) :
    OpR X f (rI0 fun i j => .int (g i j)) := by
  intro pins s σ H x y v u Q I rx ry h
  obtain ⟨i, j, rfl, rfl, q⟩ := h
  obtain ⟨t, rfl⟩ := rx
  obtain ⟨t', rfl⟩ := ry
  exact rule i j t t' s _ _ ⟨.int (g i j), H, I.tok _, ⟨_, rfl⟩, q⟩
theorem opB0 {f : Value → Value → Sem Value} {g : Int → Int → Bool}
    (rule : ∀ (i j : Int) (t u : Tok) (s : Shared) (Q : Value → Shared → Prop) (E : Value → Shared → Prop), Q (.bool (g i j)) s → wpAny (model X.prog X.w) X.A (f (.int i t) (.int j u)) Q E s) :
    OpR X f (rI0 fun i j => .bl (g i j)) := by
  intro pins s σ H x y v u Q I rx ry h
  obtain ⟨i, j, rfl, rfl, q⟩ := h
  obtain ⟨t, rfl⟩ := rx
  obtain ⟨t', rfl⟩ := ry
  exact rule i j t t' s _ _ ⟨.bl (g i j), H, I, rfl, q⟩

noncomputable def CDiv (i j : Int) : Prop := 0 < j ∧ j < 1073741824
noncomputable def CMul (i j : Int) : Prop := (-(2 ^ 64) < i ∧ i < 2 ^ 64) ∨ (-(2 ^ 64) < j ∧ j < 2 ^ 64)
theorem CMul.ok {i j : Int} (h : CMul i j) : IntMulOk i j := by
  rcases h with ⟨h1, h2⟩ | ⟨h1, h2⟩
  · exact .of_left (intBits_le_64 h1 h2)
  · exact .of_right (intBits_le_64 h1 h2)
theorem op_add : OpR X (binaryOp .Add) (rI0 fun i j => .int (i + j)) := opI0 fun _ _ _ _ _ _ _ q => add_int q
theorem op_sub : OpR X (binaryOp .Sub) (rI0 fun i j => .int (i - j)) := opI0 fun _ _ _ _ _ _ _ q => sub_int q
theorem op_fdiv : OpR X (binaryOp .FloorDiv) (rI CDiv fun i j => .int (i / j)) := opI fun i j _ _ _ _ _ hc q => by
  have h1 : (0 : Int) < j := hc.1
  have h2 : j < 1073741824 := hc.2
  exact floordiv_int (by omega) (by rw [Int.fdiv_eq_ediv_of_nonneg i (by omega)]; exact q) (.inl (PyProof.noPylong_small (by omega)))
theorem op_mod : OpR X (binaryOp .Mod) (rI (fun _ j => 0 < j) fun i j => .int (i % j)) := opI fun i j _ _ _ _ _ hc q => by
  have h1 : (0 : Int) < j := hc
  exact mod_int' (by omega) (by rw [Int.fmod_eq_emod_of_nonneg i (by omega)]; exact q)
theorem unI {f : Value → Sem Value} {g : Int → Int}
    (rule : ∀ (i : Int) (t : Tok) (s : Shared) (Q : Value → Shared → Prop) (E : Value → Shared → Prop), Q (.int (g i) s.toks) { s with toks := s.toks + 1 } → wpAny (model X.prog X.w) X.A (f (.int i t)) Q E s) :
    UnR X f (rU fun i => .int (g i)) := by
  intro pins s σ H x v Q I rx h
  obtain ⟨i, rfl, q⟩ := h
  obtain ⟨t, rfl⟩ := rx
  exact rule i t s _ _ ⟨.int (g i), H, I.tok _, ⟨_, rfl⟩, q⟩
theorem un_neg : UnR X (unaryOp .USub) (rU fun i => .int (-i)) := unI fun _ _ _ _ _ q => neg_int q
/-! ### bools among ints: n += (a < b) -/
end

/-! ### comparisons -/
noncomputable def scal : V → V → Bool
  | .non, .non => true | .non, .int _ => true | .int _, .non => true | .non, .bl _ => true | .bl _, .non => true | .non, .str _ => true | .str _, .non => true
  | .int _, .int _ => true | .bl _, .bl _ => true | .str _, .str _ => true | .byt _, .byt _ => true
  | .int _, .str _ => true | .str _, .int _ => true | .bl _, .str _ => true | .str _, .bl _ => true
  | _, _ => false
noncomputable def rEq : R2 := fun x y H Q => scal x y = true ∧ Q (.bl (decide (x = y))) H
noncomputable def rNe : R2 := fun x y H Q => scal x y = true ∧ Q (.bl (!decide (x = y))) H

theorem dec_int {i j : Int} : decide (V.int i = V.int j) = (i == j) := by
  rw [Bool.eq_iff_iff]
  simp
theorem dec_bl {i j : Bool} : decide (V.bl i = V.bl j) = (i == j) := by
  rw [Bool.eq_iff_iff]
  simp
theorem dec_str {i j : Str} : decide (V.str i = V.str j) = (i == j) := by
  rw [Bool.eq_iff_iff]
  simp
theorem dec_byt {i j : Array UInt8} : decide (V.byt i = V.byt j) = (i.toList == j.toList) := by
  rw [Bool.eq_iff_iff]
  cases i
  cases j
  simp

section
variable {X : Cx} {a b c : Expr} {ta tb tc : TE} {pos : Pos}
theorem fin_bl {pins : List (Addr × Obj)} {σ : St} {H : Hp} {s : Shared} {Q : VK} {k k' : Bool} (I : Inv X pins σ H s) (q : Q (.bl k) H) (e : k = k') : EP X pins σ Q (.bool k') s := by
  subst e
  exact ⟨.bl k, H, I, rfl, q⟩
theorem op_eq : OpR X (compareOp .Eq) rEq := by
  intro pins s σ H x y v u Q I rx ry h
  obtain ⟨hs, q⟩ := h
  cases x with
  | non =>
    cases rx
    cases y with
    | non => cases ry; exact PySem.EqNone.eq_none_none (fin_bl I q (by simp))
    | bl j => cases ry; exact PySem.EqNone.eq_none_bool (fin_bl I q (by simp))
    | int j => obtain ⟨t', rfl⟩ := ry; exact PySem.EqNone.eq_none_int (fin_bl I q (by simp))
    | str j => obtain ⟨t', rfl⟩ := ry; exact PySem.EqNone.eq_none_str (fin_bl I q (by simp))
    | _ => exact absurd (show false = true from hs) Bool.false_ne_true
  | bl i =>
    cases rx
    cases y with
    | non => cases ry; exact PySem.EqNone.eq_bool_none (fin_bl I q (by simp))
    | bl j => cases ry; exact eq_bool (fin_bl I q dec_bl)
    | str j => obtain ⟨t', rfl⟩ := ry; exact PySem.EqMixed.eq_bool_str (fin_bl I q (by simp))
    | _ => exact absurd (show false = true from hs) Bool.false_ne_true
  | int i =>
    obtain ⟨t, rfl⟩ := rx
    cases y with
    | non => cases ry; exact PySem.EqNone.eq_int_none (fin_bl I q (by simp))
    | int j => obtain ⟨t', rfl⟩ := ry; exact eq_int (fin_bl I q dec_int)
    | str j => obtain ⟨t', rfl⟩ := ry; exact PySem.EqMixed.eq_int_str (fin_bl I q (by simp))
    | _ => exact absurd (show false = true from hs) Bool.false_ne_true
  | str i =>
    obtain ⟨t, rfl⟩ := rx
    cases y with
    | non => cases ry; exact PySem.EqNone.eq_str_none (fin_bl I q (by simp))
    | bl j => cases ry; exact PySem.EqMixed.eq_str_bool (fin_bl I q (by simp))
    | int j => obtain ⟨t', rfl⟩ := ry; exact PySem.EqMixed.eq_str_int (fin_bl I q (by simp))
    | str j => obtain ⟨t', rfl⟩ := ry; exact eq_str (fin_bl I q dec_str)
    | _ => exact absurd (show false = true from hs) Bool.false_ne_true
  | byt i =>
    obtain ⟨t, rfl⟩ := rx
    cases y with
    | byt j => obtain ⟨t', rfl⟩ := ry; exact PySem.W.eq_bytes (fin_bl I q dec_byt)
    | _ => exact absurd (show false = true from hs) Bool.false_ne_true
  | _ => cases y <;> exact absurd (show false = true from hs) Bool.false_ne_true
theorem op_ne : OpR X (compareOp .NotEq) rNe := by
  intro pins s σ H x y v u Q I rx ry h
  obtain ⟨hs, q⟩ := h
  cases x with
  | non =>
    cases rx
    cases y with
    | non => cases ry; exact PySem.EqNone.ne_none_none (fin_bl I q (by simp))
    | bl j => cases ry; exact PySem.EqNone.ne_none_bool (fin_bl I q (by simp))
    | int j => obtain ⟨t', rfl⟩ := ry; exact PySem.EqNone.ne_none_int (fin_bl I q (by simp))
    | str j => obtain ⟨t', rfl⟩ := ry; exact PySem.EqNone.ne_none_str (fin_bl I q (by simp))
    | _ => exact absurd (show false = true from hs) Bool.false_ne_true
  | bl i =>
    cases rx
    cases y with
    | non => cases ry; exact PySem.EqNone.ne_bool_none (fin_bl I q (by simp))
    | bl j => cases ry; exact ne_bool (fin_bl I q (congrArg not dec_bl))
    | str j => obtain ⟨t', rfl⟩ := ry; exact PySem.EqMixed.ne_bool_str (fin_bl I q (by simp))
    | _ => exact absurd (show false = true from hs) Bool.false_ne_true
  | int i =>
    obtain ⟨t, rfl⟩ := rx
    cases y with
    | non => cases ry; exact PySem.EqNone.ne_int_none (fin_bl I q (by simp))
    | int j => obtain ⟨t', rfl⟩ := ry; exact ne_int (fin_bl I q (congrArg not dec_int))
    | str j => obtain ⟨t', rfl⟩ := ry; exact PySem.EqMixed.ne_int_str (fin_bl I q (by simp))
    | _ => exact absurd (show false = true from hs) Bool.false_ne_true
  | str i =>
    obtain ⟨t, rfl⟩ := rx
    cases y with
    | non => cases ry; exact PySem.EqNone.ne_str_none (fin_bl I q (by simp))
    | bl j => cases ry; exact PySem.EqMixed.ne_str_bool (fin_bl I q (by simp))
    | int j => obtain ⟨t', rfl⟩ := ry; exact PySem.EqMixed.ne_str_int (fin_bl I q (by simp))
    | str j => obtain ⟨t', rfl⟩ := ry; exact ne_str (fin_bl I q (congrArg not dec_str))
    | _ => exact absurd (show false = true from hs) Bool.false_ne_true
  | byt i =>
    obtain ⟨t, rfl⟩ := rx
    cases y with
    | byt j => obtain ⟨t', rfl⟩ := ry; exact PySem.W.ne_bytes (fin_bl I q (congrArg not dec_byt))
    | _ => exact absurd (show false = true from hs) Bool.false_ne_true
  | _ => cases y <;> exact absurd (show false = true from hs) Bool.false_ne_true

theorem op_lt : OpR X (compareOp .Lt) (rI0 fun i j => .bl (decide (i < j))) := opB0 fun _ _ _ _ _ _ _ q => lt_int q
theorem op_le : OpR X (compareOp .LtE) (rI0 fun i j => .bl (decide (i ≤ j))) := opB0 fun _ _ _ _ _ _ _ q => le_int q
theorem op_gt : OpR X (compareOp .Gt) (rI0 fun i j => .bl (decide (j < i))) := opB0 fun _ _ _ _ _ _ _ q => gt_int q
theorem OpR.or {f : Value → Value → Sem Value} {r r' : R2} (h : OpR X f r) (h' : OpR X f r') : OpR X f (fun x y H Q => r x y H Q ∨ r' x y H Q) := by
  intro pins s σ H x y v u Q I rx ry q
  rcases q with q | q
  · exact h pins s σ H x y v u Q I rx ry q
  · exact h' pins s σ H x y v u Q I rx ry q

theorem nomark (b : Expr) {op : CmpOp} (h : op ≠ .In := by decide) (h2 : op ≠ .NotIn := by decide) : behindInMarks op b = false := by
  have e1 : (op == CmpOp.In) = false := by cases op <;> first | rfl | exact absurd rfl h
  have e2 : (op == CmpOp.NotIn) = false := by cases op <;> first | rfl | exact absurd rfl h2
  cases b <;> simp [behindInMarks, e1, e2]
theorem pe_cmpR {op : CmpOp} {r : R2} (ho : OpR X (compareOp op) r) (ha : PE X a ta) (hb : PE X b tb) (hm : behindInMarks op b = false) : PE X (.Compare a [op] [b] pos) (tOp r ta tb) := by
  intro pins s σ H Q I h
  exact wpAny_Compare1 (binT ha hb I h fun v u s2 x y H2 I2 rx ry q => ho pins s2 σ H2 x y v u Q I2 rx ry q) hm
noncomputable def tTest (t : TE) : TT := fun σ H Q => t σ H fun x H' => ∃ k, x = .bl k ∧ Q k H'
theorem pt_cmpR {op : CmpOp} {r : R2} (ho : OpR X (compareOp op) r) (ha : PE X a ta) (hb : PE X b tb) (hm : behindInMarks op b = false) : PT X (.Compare a [op] [b] pos) (tTest (tOp r ta tb)) := by
  intro pins s σ H Q I h
  refine wpAny_isTrue_Compare1 (thn (ha pins s σ H _ I h) fun v s1 ⟨x, H1, I1, r1, q1⟩ => thn (hb pins s1 σ H1 _ I1 q1) fun u s2 ⟨y, H2, I2, r2, q2⟩ =>
    thn (ho pins s2 σ H2 x y v u _ I2 r1 r2 q2) fun c s3 ⟨z, H3, I3, r3, k, e, q3⟩ => ?_) hm
  subst e
  cases r3
  exact wpAny_truthy_bool ⟨H3, I3, q3⟩
noncomputable def tChain (r r' : R2) (ta tb tc : TE) : TE := fun σ H Q => ta σ H fun x H1 => tb σ H1 fun y H2 => r x y H2 fun z H3 => ∃ k, z = .bl k ∧
  (if k = true then tc σ H3 fun w' H4 => r' y w' H4 Q else Q (.bl false) H3)
theorem pe_chain {op op' : CmpOp} {r r' : R2} (ho : OpR X (compareOp op) r) (ho' : OpR X (compareOp op') r') (ha : PE X a ta) (hb : PE X b tb) (hc : PE X c tc)
    (hm : lastMarks [op, op'] [b, c] = false := by with_unfolding_all rfl) : PE X (.Compare a [op, op'] [b, c] pos) (tChain r r' ta tb tc) := by
  intro pins s σ H Q I h
  refine Compare_chain (thn (ha pins s σ H _ I h) fun v s1 ⟨x, H1, I1, r1, q1⟩ => chain_link (thn (hb pins s1 σ H1 _ I1 q1) fun u s2 ⟨y, H2, I2, r2, q2⟩ =>
    thn (ho pins s2 σ H2 x y v u _ I2 r1 r2 q2) fun d s3 ⟨z, H3, I3, r3, k, e, q3⟩ => ?_)) hm
  subst e
  cases r3
  refine wpAny_truthy_bool ?_
  cases k with
  | false => exact ite_ff ⟨.bl false, H3, I3, rfl, q3⟩
  | true => exact ite_tt (chain_last (thn (hc pins s3 σ H3 _ I3 q3) fun w' s4 ⟨z', H4, I4, r4, q4⟩ => ho' pins s4 σ H4 y z' u w' Q I4 r2 r4 q4))
/-! ### truth -/
theorem line63 : (sizeLine : Nat) < 2 ^ 63 := by rw [sizeLine_eq]; decide
/-! ### strs and bytes -/
theorem op_add_str : OpR X (binaryOp .Add) (fun x y H Q => ∃ i j, x = .str i ∧ y = .str j ∧ i.length + j.length ≤ sizeLine ∧ Q (.str (i ++ j)) H) := by
  intro pins s σ H x y v u Q I rx ry h
  obtain ⟨i, j, rfl, rfl, hz, q⟩ := h
  obtain ⟨t, rfl⟩ := rx
  obtain ⟨t', rfl⟩ := ry
  exact add_str (fun t' tk => ⟨.str (i ++ j), H, I.tok _, ⟨_, rfl⟩, q⟩) hz
/-! ### scalar builtins, by CallR -/
theorem vals1 {x : V} {us : List Value} (r : Vals [x] us) : ∃ u, us = [u] ∧ RelV x u := by
  cases r with
  | cons r1 r2 => cases r2; exact ⟨_, rfl, r1⟩
theorem call_int1 : CallR X (.type "int") (fun xs H Q => (∃ i, xs = [.int i] ∧ Q (.int i) H) ∨ ∃ k, xs = [.bl k] ∧ Q (.int (if k then 1 else 0)) H) := by
  intro pins s σ H xs us Q I r h
  rcases h with ⟨i, rfl, q⟩ | ⟨k, rfl, q⟩
  · obtain ⟨u, rfl, t, rfl⟩ := vals1 r
    exact call_int_int ⟨.int i, H, I, ⟨_, rfl⟩, q⟩
  · obtain ⟨u, rfl, r1⟩ := vals1 r
    cases r1
    exact call_int_bool ⟨.int (if k then 1 else 0), H, I.tok _, ⟨_, rfl⟩, q⟩
theorem call_str_int : CallR X (.type "str") (fun xs H Q => ∃ i, xs = [.int i] ∧ i.natAbs.log2 < 1920 ∧ Q (.str (toString i)) H) := by
  intro pins s σ H xs us Q I r h
  obtain ⟨i, rfl, hz, q⟩ := h
  obtain ⟨u, rfl, t, rfl⟩ := vals1 r
  exact PySem.P.str_of_int hz ⟨.str _, H, I.tok _, ⟨_, rfl⟩, q⟩
end
end L2

namespace L2
open PySem PySem.Spec PyProof.Rows

/-! ### an instance, its attributes a map -/
structure ObjM (h : Heap) (x dx C : Addr) (mA : Str → Option Value) : Prop where
  obj : h.get? x = some (PySem.W.instObj C dx)
  ns : h.Ns1 dx mA
  ne : dx ≠ x

theorem lookIn_ns {h : Heap} {dx : Addr} {mA : Str → Option Value} (n : h.Ns1 dx mA) : ∃ od, h.get? dx = some od ∧ ∀ name, PySem.W.lookIn name od = some (mA name) := by
  obtain ⟨o, es, ep, ho, hd, hk, _, hm⟩ := n
  refine ⟨o, ho, fun name => ?_⟩
  have e := hm name
  unfold nsFind findBy at e
  rw [← Array.find?_toList] at e
  unfold PySem.W.lookIn
  rw [hd]
  dsimp only
  split
  · rename_i y q
    rw [q] at e
    exact congrArg some e
  · rename_i q
    rw [q] at e
    have a : es.toList.any (·.refKey) = false := by
      rw [List.any_eq_false]
      intro y hy
      obtain ⟨z, t, hkey⟩ := hk y (Array.mem_toList_iff.mp hy)
      simp [DictEntry.refKey, hkey]
    have a' : ¬ es.toList.any (·.refKey) = true := by rw [a]; exact Bool.false_ne_true
    rw [if_neg a']
    exact congrArg some e

theorem ObjM.look {h : Heap} {x dx C : Addr} {mA : Str → Option Value} (I : ObjM h x dx C mA) : ∃ od, PySem.W.InstAt h x (PySem.W.instObj C dx) C (some od) ∧ ∀ name, PySem.W.lookIn name od = some (mA name) :=
  let ⟨od, ho, hl⟩ := lookIn_ns I.ns
  ⟨od, ⟨I.obj, rfl, rfl, ho⟩, hl⟩

section
variable {prog : Program} {w : World} {A : Around} {E : Value → Shared → Prop} {s : Shared} {K : PySem.W.Frag} {x dx C f : Addr} {mA : Str → Option Value} {name : Str} {v : Value}

end

/-! ### the attributes as a list of pairs -/
section
variable {P : Program} {w : World} {H H' : Hp} {h h' : Heap} {a C dx : Addr} {fs fs' : List (Str × V)}
theorem ins_get (hok : HOk P w H h) (e : H a = some (.ins C dx fs)) : ∃ mA, ObjM h a dx C mA ∧ (∀ f, RelO (fs.lookup f) (mA f)) ∧ PySem.Within mA (fs.map (·.1)) ∧ fs.length ≤ 1000 ∧ H dx = some (.own a) := by
  obtain ⟨d, z, ne, ob, mA, n, r, q⟩ := (show ObjOk P w H h a (.ins C dx fs) from hok a _ e)
  exact ⟨mA, ⟨ob, n, ne⟩, r, q, z, d⟩
end

/-! ### what of the text a class must have -/
structure Cls (K : PySem.W.Frag) (C : Addr) : Prop where
  pg : PySem.W.plainGet K C Str.empty = true
  hd : PySem.W.hasDictIn K C = true
  po : PySem.W.plainOver K C = true
  sa : PySem.W.findIn K (.ref C) "__setattr__" = some (some (.builtin "object.__setattr__"))
theorem Cls.get {K : PySem.W.Frag} {C : Addr} (c : Cls K C) (f : Str) : PySem.W.plainGet K C f = true := c.pg
structure Con (K : PySem.W.Frag) (C : Addr) (f : Str) (v : V) (u : Value) : Prop where
  at_ : PySem.W.findIn K (.ref C) f = some (some u)
  rel : RelV v u
  get : PySem.W.specialIn K u "__get__" = some none
  cp : PySem.W.copiedNames.contains f = false
structure Meth (K : PySem.W.Frag) (C : Addr) (m : Str) (f : Addr) : Prop where
  at_ : PySem.W.findIn K (.ref C) m = some (some (.ref f))
  fn : PySem.W.isFn K (.ref f) = true
  kp : PySem.W.keepIn K (.ref f) = true

section
variable {X : Cx} {pins : List (Addr × Obj)} {σ : St} {H : Hp} {s : Shared} {a C dx : Addr} {fs : List (Str × V)} {f : Str} {v : V} {A : Around} {E : Value → Shared → Prop}

end

/-! ### readings and rules -/
section
variable {X : Cx} {o e value : Expr} {f : Str} {pos pos' tpos : Pos} {ta tv : TE}
end

/-! ### isinstance -/
section
variable {X : Cx} {pins : List (Addr × Obj)} {σ : St} {H : Hp} {s : Shared} {A : Around} {E : Value → Shared → Prop} {Q : Value → Shared → Prop} {c : Value} {b : Bool}
inductive TyOf (K : PySem.W.Frag) (H : Hp) : V → Value → Prop where
  | non : TyOf K H .non (.type "NoneType")
  | bl (x : Bool) : TyOf K H (.bl x) (.type "bool")
  | int (i : Int) : TyOf K H (.int i) (.type "int")
  | str (x : Str) : TyOf K H (.str x) (.type "str")
  | flt (x : UInt64) : TyOf K H (.flt x) (.type "float")
  | lst {a : Addr} {xs : List V} (e : H a = some (.lst xs)) : TyOf K H (.ref a) (.type "list")
  | frz {a : Addr} {o : Obj} {xs : List V} (e : H a = some (.frz o (.lst xs))) : TyOf K H (.ref a) (.type "list")
  | tup {a : Addr} {xs : List V} (e : H a = some (.tup xs)) : TyOf K H (.ref a) (.type "tuple")
  | dK {a : Addr} {kvs : List (Key × V)} (e : H a = some (.dK kvs)) : TyOf K H (.ref a) (.type "dict")
  | dT {a : Addr} {kvs : List (List Key × V)} (e : H a = some (.dT kvs)) : TyOf K H (.ref a) (.type "dict")
  | ins {a C dx : Addr} {fs : List (Str × V)} (e : H a = some (.ins C dx fs)) (cl : Cls K C) (ha : PySem.W.findIn K (.ref C) "__class__" = some (some (.builtin "object.__class__")))
      (hn : PySem.W.specialIn K (.builtin "object.__class__") "__get__" = some (some (.builtin "getset_descriptor.__get__"))) (htk : PySem.W.takesIn K (.builtin "object.__class__") = some true)
      (hm : PySem.W.mroIn K C (.type "object") = some true) : TyOf K H (.ref a) (.ref C)
theorem isinst_ok {x : V} {u t : Value} (I : Inv X pins σ H s) (rx : RelV x u) (ty : TyOf X.K H x t) (e : PySem.W.kitOne X.K t c = some b) (h : ∀ tk, Q (.bool b) { s with toks := tk }) :
    wpAny (model X.prog X.w) A (call (.builtin "isinstance") [u, c]) Q E s := by
  cases ty with
  | non => cases (show u = Value.none from rx); exact PySem.W.kia_one PySem.W.kitx_none I.kIn True.intro e (fun z => nomatch z) h
  | bl y => cases (show u = Value.bool y from rx); exact PySem.W.kia_one PySem.W.kitx_bool I.kIn True.intro e (fun z => nomatch z) h
  | int i => obtain ⟨t, q⟩ := (show ∃ t, u = Value.int i t from rx); cases q; exact PySem.W.kia_one PySem.W.kitx_int I.kIn True.intro e (fun z => nomatch z) h
  | str y => obtain ⟨t, q⟩ := (show ∃ t, u = Value.str y t from rx); cases q; exact PySem.W.kia_one PySem.W.kitx_str I.kIn True.intro e (fun z => nomatch z) h
  | flt y => obtain ⟨t, q⟩ := (show ∃ t, u = Value.float y t from rx); cases q; exact PySem.W.kia_one PySem.W.kitx_float I.kIn True.intro e (fun z => nomatch z) h
  | @lst a xs ea =>
    cases (show u = Value.ref a from rx)
    obtain ⟨_, _, n, _, h1⟩ := (show ObjOk X.prog X.w H s.heap a (.lst xs) from I.hok a _ ea)
    exact PySem.W.kia_one PySem.W.kitx_list I.kIn ⟨_, h1, rfl⟩ e (fun z => nomatch z) h
  | @frz a ob xs ea =>
    cases (show u = Value.ref a from rx)
    obtain ⟨_, _, _, n, _, h1⟩ := (show ObjOk X.prog X.w H s.heap a (.frz ob (.lst xs)) from I.hok a _ ea)
    exact PySem.W.kia_one PySem.W.kitx_list I.kIn ⟨_, h1, rfl⟩ e (fun z => nomatch z) h
  | @tup a xs ea =>
    cases (show u = Value.ref a from rx)
    obtain ⟨_, _, _, p⟩ := (show ObjOk X.prog X.w H s.heap a (.tup xs) from I.hok a _ ea)
    obtain ⟨o, h1, h2, _⟩ := p
    exact PySem.W.kia_one PySem.W.kitx_tuple I.kIn ⟨o, h1, h2⟩ e (fun z => nomatch z) h
  | @dK a kvs ea =>
    cases (show u = Value.ref a from rx)
    obtain ⟨_, _, vs, _, p⟩ := (show ObjOk X.prog X.w H s.heap a (.dK kvs) from I.hok a _ ea)
    obtain ⟨o, es, ep, h1, h2, _⟩ := p
    exact PySem.W.kia_one PySem.W.kitx_dict I.kIn ⟨o, h1, h2.1⟩ e (fun z => nomatch z) h
  | @dT a kvs ea =>
    cases (show u = Value.ref a from rx)
    obtain ⟨_, _, xs, _, o, es, ep, h1, h2, _⟩ := (show ObjOk X.prog X.w H s.heap a (.dT kvs) from I.hok a _ ea)
    exact PySem.W.kia_one PySem.W.kitx_dict I.kIn ⟨o, h1, h2.1⟩ e (fun z => nomatch z) h
  | @ins a C dx fs ea cl ha hn htk hm =>
    cases (show u = Value.ref a from rx)
    obtain ⟨mA, O, _⟩ := ins_get I.hok ea
    obtain ⟨od, J, _⟩ := O.look
    exact PySem.W.kia_one (PySem.W.kitx_own (cl.get _) cl.hd ha hn htk hm) I.kIn J e (fun z => nomatch z) h
end
end L2

namespace L2
open PySem PySem.Spec PyProof.Rows

/-! ### room -/
structure Room (k : Nat) (A : Around) : Prop where
  hd : A.handled = none
  dp : A.depth + 3 * k + 5 < recursionLimit
  un : A.units + 16 * k + 200 < cLine
theorem Room.mono {j k : Nat} {A : Around} (r : Room k A) (h : j ≤ k) : Room j A := ⟨r.hd, by have := r.dp; omega, by have := r.un; omega⟩
theorem Room.deeper {k : Nat} {A : Around} (r : Room (k + 1) A) (env : Env) : Room k (A.deeper env) :=
  ⟨r.hd, by have := r.dp; show A.depth + 1 + 3 * k + 5 < _; omega, by have := r.un; show A.units + 3 + 16 * k + 200 < _; omega⟩
theorem Room.in1 {k : Nat} {A : Around} (r : Room (k + 1) A) : Room k A.in1 :=
  ⟨r.hd, by have := r.dp; show A.depth + 3 * k + 5 < _; omega, by have := r.un; show A.units + 1 + 16 * k + 200 < _; omega⟩
theorem Room.depth {k : Nat} {A : Around} (r : Room k A) : A.depth < recursionLimit := by have := r.dp; omega
theorem Room.units {k : Nat} {A : Around} (r : Room k A) : A.units + 64 < cLine := by have := r.un; omega
theorem Room.units0 {k : Nat} {A : Around} (r : Room k A) : A.units < cLine := by have := r.un; omega

/-! ### argument lists and displays -/
noncomputable def tNil : TA := fun _ H Q => Q [] H
noncomputable def tCons (ta : TE) (tr : TA) : TA := fun σ H Q => ta σ H fun x H1 => tr σ H1 fun xs H2 => Q (x :: xs) H2
section
variable {X : Cx} {e : Expr} {es : List Expr} {te : TE} {t : TA} {pos : Pos}
theorem pa_nil : PA X [] tNil := fun _ _ _ _ H Q I h => Calls.spliced_nil ⟨[], H, I, .nil, h⟩
theorem pa_cons (ha : PE X e te) (hr : PA X es t) (hs : starEach (e :: es) X.env = (false, eval e X.env) :: starEach es X.env := by rfl) : PA X (e :: es) (tCons te t) := by
  intro pos pins s σ H Q I h
  rw [hs]
  show wpAny _ _ (spliced ((false, eval e X.env) :: backTo pos (starEach es X.env))) _ _ s
  refine Calls.spliced_cons (thn (ha pins s σ H _ I h) fun u s1 ⟨x, H1, I1, r1, q1⟩ => ?_)
  exact thn (hr pos pins s1 σ H1 _ I1 q1) fun us s2 ⟨xs, H2, I2, r2, q2⟩ => ⟨x :: xs, H2, I2, .cons r1 r2, q2⟩

noncomputable def tTup (t : TA) : TE := fun σ H Q => t σ H fun xs H1 => xs.length ≤ sizeLine ∧ ∀ p, H1 p = none → Q (.ref p) (upd H1 p (.tup xs))
noncomputable def tLst (t : TA) : TE := fun σ H Q => t σ H fun xs H1 => xs.length ≤ sizeLine ∧ ∀ p, H1 p = none → Q (.ref p) (upd H1 p (.lst xs))
end

/-! ### what a def promises -/
noncomputable abbrev Sp := List V → Hp → VK → XK → Prop
noncomputable abbrev CXT := List Env → Hp → Shared → XK → Value → Shared → Prop

structure Env0 (P : Program) (w : World) (K : PySem.W.Frag) (mg : Str → Option Value) (base : Heap) (A : Around) (outer : List Env) (s : Shared) (H : Hp) : Prop where
  frames : A.frames = some outer
  mod : Mod K mg base
  bs : ∀ b o, base.get? b = some o → s.heap.get? b = some o ∧ H b = none
  bsz : base.objs.size ≤ s.heap.objs.size
  funs : s.heap.FunFrames base outer
  frf : ∀ b ∈ frs outer, H b = none
  hok : HOk P w H s.heap
  bare : AllBare s.gens
noncomputable def CE (outer : List Env) (P : Program) (w : World) (H : Hp) (s : Shared) (Q : VK) (u : Value) (s' : Shared) : Prop :=
  ∃ v H', s'.os = s.os ∧ AllBare s'.gens ∧ Un (frs outer) [] H H' s.heap s'.heap ∧ HOk P w H' s'.heap ∧ RelV v u ∧ Q v H'
noncomputable def CR (CX : CXT) (outer : List Env) (P : Program) (w : World) (H : Hp) (s : Shared) (Q : VK) (E : XK) (r : Result) (s' : Shared) : Prop :=
  match r with
  | .ok (.ret u) => CE outer P w H s Q u s'
  | .ok _ => False
  | .error e => CX outer H s E e s'
structure FnOk (P : Program) (w : World) (K : PySem.W.Frag) (mg : Str → Option Value) (base : Heap) (CX : CXT) (k : Nat) (f : Addr) (fd : FuncData) (ps : List Str) (sp : Sp) : Prop where
  len : ∀ vs H Q E, sp vs H Q E → vs.length = ps.length
  run : ∀ (A : Around) (outer : List Env) (s : Shared) (H : Hp) (args : Args) (us : List Value) (vs : List V) (Q : VK) (E : XK), Room k A → Env0 P w K mg base A outer s H → BindsTo s fd args (ps.zip us) → Vals vs us → sp vs H Q E →
    codeAny (model P w) A (.call (.ref f) args) (CR CX outer P w H s Q E) s
theorem FnOk.mono {P : Program} {w : World} {K : PySem.W.Frag} {mg : Str → Option Value} {base : Heap} {CX : CXT} {j k : Nat} {f : Addr} {fd : FuncData} {ps : List Str} {sp : Sp} (F : FnOk P w K mg base CX j f fd ps sp) (h : j ≤ k) :
    FnOk P w K mg base CX k f fd ps sp := ⟨F.len, fun A outer s H args us vs Q E hr => F.run A outer s H args us vs Q E (hr.mono h)⟩
theorem Env0.in1 {P : Program} {w : World} {K : PySem.W.Frag} {mg : Str → Option Value} {base : Heap} {A : Around} {outer : List Env} {s : Shared} {H : Hp} (e : Env0 P w K mg base A outer s H) :
    Env0 P w K mg base A.in1 outer s H := ⟨e.frames, e.mod, e.bs, e.bsz, e.funs, e.frf, e.hok, e.bare⟩

section
variable {X : Cx} {pins : List (Addr × Obj)} {σ : St} {H : Hp} {s s' : Shared}
theorem Inv.env0 (I : Inv X pins σ H s) : Env0 X.prog X.w X.K X.mg X.base X.A X.stack s H :=
  ⟨I.ok.frames, I.ok.mod, I.bs, Nat.le_trans I.ok.bsz I.sz, I.stack, I.stkFree, I.hok, I.bare⟩
theorem Inv.after {Q : VK} {u : Value} (I : Inv X pins σ H s) (h : CE X.stack X.prog X.w H s Q u s') : EP X pins σ Q u s' := by
  obtain ⟨v, H', os, bare, un, hok, r, q⟩ := h
  obtain ⟨hh, g, d, t, os'⟩ := s'
  obtain rfl : os' = s.os := os
  exact ⟨v, H', I.call (h' := hh) (g' := g) (d' := d) (t' := t) (ch := []) un hok bare (fun b z => absurd z (by simp)), r, q⟩
end

/-! ### calls -/
noncomputable def tCall (sp : Sp) (dvs : List V) (E : XK) (t : TA) : TE := fun σ H Q => t σ H fun vs H1 => sp (vs ++ dvs) H1 Q E
noncomputable def Binds (K : PySem.W.Frag) (fd : FuncData) (ps : List Str) (ds : List Value) : Prop :=
  ∀ (s : Shared) (us : List Value), K.In s.heap → (us ++ ds).length = ps.length → BindsTo s fd ⟨us, []⟩ (ps.zip (us ++ ds))
theorem Binds.all {K : PySem.W.Frag} {fd : FuncData} {ps : List Str} (h : ∀ us : List Value, us.length = ps.length → bindArgs fd ⟨us, []⟩ = pure (ps.zip us)) : Binds K fd ps [] := fun s us _ hl => by
  rw [List.append_nil] at hl ⊢
  exact .of_eq (h us hl)

noncomputable def Passes (CX : CXT) (X : Cx) (E : XK) : Prop := ∀ (pins : List (Addr × Obj)) (σ : St) (H : Hp) (s : Shared) (e : Value) (s' : Shared), Inv X pins σ H s → CX X.stack H s E e s' → X.xe e s'

section
variable {X : Cx} {CX : CXT} {k : Nat} {f C : Addr} {fd : FuncData} {ps : List Str} {sp : Sp} {dvs : List V} {ds : List Value} {E : XK} {x m : Str} {p pos apos : Pos} {e o : Expr} {es : List Expr} {ta : TE} {t : TA}

theorem run_fn {pins : List (Addr × Obj)} {σ : St} {H : Hp} {s : Shared} {Q : VK} {us : List Value} {vs : List V} (F : FnOk X.prog X.w X.K X.mg X.base CX k f fd ps sp) (hr : Room k X.A) (hb : Binds X.K fd ps ds) (hd : Vals dvs ds) (hx : Passes CX X E)
    (I : Inv X pins σ H s) (r : Vals vs us) (h : sp (vs ++ dvs) H Q E) : wpAny (model X.prog X.w) X.A (call (.ref f) us) (EP X pins σ Q) X.xe s := by
  have r2 : Vals (vs ++ dvs) (us ++ ds) := r.append hd
  have hl : (us ++ ds).length = ps.length := by rw [← r2.length]; exact F.len _ _ _ _ h
  refine wpAny_call (codeAny_mono (F.run X.A X.stack s H ⟨us, []⟩ (us ++ ds) (vs ++ dvs) Q E hr I.env0 (hb s us I.kIn hl) r2 h) fun r s' hq => ?_)
  cases r with
  | error e => exact hx pins σ H s e s' I hq
  | ok fl =>
    cases fl with
    | ret u => exact I.after hq
    | next => exact False.elim hq
    | brk => exact False.elim hq
    | cont => exact False.elim hq

theorem pe_call (F : FnOk X.prog X.w X.K X.mg X.base CX k f fd ps sp) (hr : Room k X.A) (hg : Gl X x) (hm : X.mg x = some (.ref f)) (hk : PySem.W.keepIn X.K (.ref f) = true) (hb : Binds X.K fd ps ds) (hd : Vals dvs ds) (hx : Passes CX X E)
    (ha : PA X (e :: es) t) (hdb : (x == ("__debug__" : Str)) = false := by decide) (he : starEach (e :: es) X.env = (false, eval e X.env) :: starEach es X.env := by rfl) (hpl : (backTo pos (starEach es X.env)).any (·.1) = false := by rfl) :
    PE X (.Call (.Name x p) (e :: es) [] pos) (tCall sp dvs E t) := by
  intro pins s σ H Q I h
  refine wpAny_Call_Name_kw (ld_glob I hg hm ?_ hdb)
  refine PySem.W.callWith_K (h₀ := X.base) I.ok.mod.kin hk (thn (ha pos pins s σ H _ I h) fun us s1 ⟨vs, H1, I1, r, q⟩ => ⟨I1.kIn, ?_⟩) he hpl
  exact run_fn F hr hb hd hx I1 r q
structure Mk (K : PySem.W.Frag) (C f : Addr) : Prop where
  makes : PySem.W.makesIn K C = true
  init : PySem.W.findIn K (.ref C) "__init__" = some (some (.ref f))
  fn : PySem.W.isFn K (.ref f) = true
  kp : PySem.W.keepIn K (.ref C) = true

end

/-! ### keywords -/
section
variable {X : Cx} {CX : CXT} {k : Nat} {f C : Addr} {fd : FuncData} {ps ks : List Str} {sp : Sp} {E : XK} {x m : Str} {p pos apos kpos : Pos} {e o : Expr} {es : List Expr} {kws : List Keyword} {te ta : TE} {t tk : TA} {nm : Option Str}
structure KBinds (K : PySem.W.Frag) (fd : FuncData) (ps ks : List Str) (g : List Value → List Value → List Value) (gV : List V → List V → List V) : Prop where
  to : ∀ (s : Shared) (us ws : List Value), K.In s.heap → (g us ws).length = ps.length → BindsTo s fd ⟨us, ks.zip ws⟩ (ps.zip (g us ws))
  rel : ∀ {vs : List V} {us : List Value} {zs : List V} {ws : List Value}, Vals vs us → Vals zs ws → Vals (gV vs zs) (g us ws)
variable {g : List Value → List Value → List Value} {gV : List V → List V → List V}
end

/-! ### a def's body keeps its promise -/
structure FnScope (N P : List Str) (sc : Scope) : Prop where
  kind : sc.kind = .function
  co : sc.isCoroutine = false
  gen : sc.isGenerator = false
  nd : N.Nodup
  pre : N.take P.length = P
  par : ∀ x ∈ P, sc.names.lookup x = some .local ∨ sc.names.lookup x = some .cell
  nofree : ∀ y ∈ sc.names, y.2 ≠ .free

theorem bindL_out {kindOf : Str → Option NameKind} {x : Str} : ∀ {binds : List (Str × Value)} {m : Str → Option Value}, (∀ v, (x, v) ∉ binds) → bindL kindOf binds m x = m x
  | [], _, _ => rfl
  | (n, v) :: r, m, h => by
    unfold bindL
    rw [bindL_out fun w hw => h w (List.mem_cons_of_mem _ hw)]
    split
    · have : x ≠ n := by rintro rfl; exact h v List.mem_cons_self
      simp [this]
    · rfl
theorem bindC_out {kindOf : Str → Option NameKind} {x : Str} : ∀ {binds : List (Str × Value)} {m : Str → Option Value}, (∀ v, (x, v) ∉ binds) → bindC kindOf binds m x = m x
  | [], _, _ => rfl
  | (n, v) :: r, m, h => by
    unfold bindC
    rw [bindC_out fun w hw => h w (List.mem_cons_of_mem _ hw)]
    split
    · rfl
    · have : x ≠ n := by rintro rfl; exact h v List.mem_cons_self
      simp [this]
theorem bindL_get {kindOf : Str → Option NameKind} {x : Str} {v : Value} : ∀ {P : List Str} {vs : List Value} {i : Nat} {m : Str → Option Value}, P.Nodup → P[i]? = some x → vs[i]? = some v → kindOf x = some .local →
    bindL kindOf (P.zip vs) m x = some v
  | [], _, _, _, _, h, _, _ => by simp at h
  | _ :: _, [], _, _, _, _, h, _ => by simp at h
  | p :: P, w :: vs, 0, m, nd, h1, h2, hk => by
    simp at h1 h2; subst h1; subst h2
    show bindL kindOf ((p, w) :: P.zip vs) m p = _
    unfold bindL
    rw [bindL_out fun v hv => (List.nodup_cons.mp nd).1 (List.of_mem_zip hv).1, if_pos hk]
    simp
  | p :: P, w :: vs, i + 1, m, nd, h1, h2, hk => by
    show bindL kindOf ((p, w) :: P.zip vs) m x = _
    unfold bindL
    exact bindL_get (i := i) (List.nodup_cons.mp nd).2 (by simpa using h1) (by simpa using h2) hk
theorem bindC_get {kindOf : Str → Option NameKind} {x : Str} {v : Value} : ∀ {P : List Str} {vs : List Value} {i : Nat} {m : Str → Option Value}, P.Nodup → P[i]? = some x → vs[i]? = some v → kindOf x ≠ some .local →
    bindC kindOf (P.zip vs) m x = some v
  | [], _, _, _, _, h, _, _ => by simp at h
  | _ :: _, [], _, _, _, _, h, _ => by simp at h
  | p :: P, w :: vs, 0, m, nd, h1, h2, hk => by
    simp at h1 h2; subst h1; subst h2
    show bindC kindOf ((p, w) :: P.zip vs) m p = _
    unfold bindC
    rw [bindC_out fun v hv => (List.nodup_cons.mp nd).1 (List.of_mem_zip hv).1, if_neg hk]
    simp
  | p :: P, w :: vs, i + 1, m, nd, h1, h2, hk => by
    show bindC kindOf ((p, w) :: P.zip vs) m x = _
    unfold bindC
    exact bindC_get (i := i) (List.nodup_cons.mp nd).2 (by simpa using h1) (by simpa using h2) hk

noncomputable def start (N : List Str) (vs : List V) : St := vs.map some ++ List.replicate (N.length - vs.length) none

noncomputable def cxOf (CX : CXT) (P : Program) (w : World) (K : PySem.W.Frag) (mg : Str → Option Value) (base : Heap) (N : List Str) (qual : Str) (scope : Scope) (f : Addr) (cd : Value) (A : Around) (outer : List Env) (s : Shared) (H : Hp) (E : XK) : Cx where
  prog := P
  w := w
  K := K
  mg := mg
  base := base
  A := A.deeper (envOfC qual scope s.heap.objs.size f cd)
  N := N
  s₀ := s
  H₀ := H
  env := envOfC qual scope s.heap.objs.size f cd
  outer := outer
  stack := envOfC qual scope s.heap.objs.size f cd :: outer
  ex := []
  calm := true
  fn := fun _ => true
  pn := []
  xe := fun e s' => wpAny (model P w) (A.deeper (envOfC qual scope s.heap.objs.size f cd)) («leaving» (envOfC qual scope s.heap.objs.size f cd) e) (fun _ s'' => CX outer H s E e s'') (fun e' s'' => CX outer H s E e' s'') s'

theorem cell_has {sc : Scope} {n : Nat} {x : Str} (h : sc.names.lookup x = some .cell) : ∃ c, (cellsFrom n sc.names []).lookup x = some c := by
  have q := PySem.W.cellsFrom_some sc.names n [] (.inl h)
  exact Option.isSome_iff_exists.mp q

theorem inv_start {CX : CXT} {P : Program} {w : World} {K : PySem.W.Frag} {mg : Str → Option Value} {base : Heap} {N ps : List Str} {qual : Str} {scope : Scope} {f : Addr} {cd : Value} {A : Around} {outer : List Env} {s s1 : Shared} {H : Hp} {E : XK} {us : List Value} {vs : List V}
    (S : FnScope N ps scope) (hd : A.handled = none) (e0 : Env0 P w K mg base A outer s H) (hl : vs.length = ps.length) (r : Vals vs us)
    (x : InCallC s s.heap.objs.size (bindL (envOfC qual scope s.heap.objs.size f cd).kindOf (ps.zip us) fun _ => none) (cellsFrom (s.heap.objs.size + 1) scope.names []) (bindC (envOfC qual scope s.heap.objs.size f cd).kindOf (ps.zip us) fun _ => none) s1) :
    Inv (cxOf CX P w K mg base N qual scope f cd A outer s H E) [] (start N vs) H s1 := by
  have hpl : ps.length ≤ N.length := by have := congrArg List.length S.pre; rw [List.length_take] at this; omega
  obtain ⟨h1, tk, rfl, hk⟩ := x.done
  have noA : ∀ b : Addr, b ∉ (cxOf CX P w K mg base N qual scope f cd A outer s H E).ex := fun b z => absurd (show b ∈ ([] : List Addr) from z) (by simp)
  refine ⟨⟨e0.mod, S.kind, rfl, rfl, Nat.le_refl _, fun y z c h1 h2 => ?_, fun y hy => ?_, fun y c _ h => ?_, fun _ => hd, Around.frames_deeper e0.frames, .inr ⟨rfl, rfl⟩, fun b z => absurd z (noA b), e0.bs, e0.bsz, fun b _ _ => noA b, fun b z => absurd z (noA b), e0.funs, e0.frf⟩,
    rfl, e0.bare, Un.kept hk, ⟨_, x.toInCall.ns, fun i y v h1 h2 h3 => ?_⟩, fun y c h => ⟨_, x.cell y c h⟩, e0.hok.fresh (Nat.le_refl _), fun y c h => ?_, fun p hp => absurd (show p ∈ ([] : List (Addr × Obj)) from hp) (by simp), e0.hok.kept hk, ?_⟩
  · exact name_of_addr x.apart (PySem.mem_of_lookup h1) (PySem.mem_of_lookup h2)
  · have hy : scope.names.lookup y = some .cell ∨ scope.names.lookup y = some .free := hy
    rcases hy with hy | hy
    · exact cell_has hy
    · exact absurd rfl (S.nofree _ (PySem.mem_of_lookup hy))
  · exact Nat.le_of_lt (x.above y c (PySem.mem_of_lookup h))
  · have hi : i < vs.length := by
      unfold start at h2
      by_cases hi : i < vs.length
      · exact hi
      · rw [List.getElem?_append_right (by simpa using hi)] at h2
        rw [List.getElem?_replicate] at h2
        split at h2 <;> cases h2
    have ha : vs[i]? = some v := by
      unfold start at h2
      rw [List.getElem?_append_left (by simpa using hi), List.getElem?_map] at h2
      cases e : vs[i]? with
      | none => rw [e] at h2; cases h2
      | some a => rw [e] at h2; cases h2; rfl
    obtain ⟨u, hu, rv⟩ := r.get ha
    have hp : ps[i]? = some y := by
      rw [← S.pre, List.getElem?_take_of_lt (by omega)]; exact h1
    have ndP : ps.Nodup := by rw [← S.pre]; exact S.nd.sublist (List.take_sublist _ _)
    refine ⟨u, rv, ?_⟩
    rcases S.par y (List.mem_of_getElem? hp) with k | k
    · exact .inl ⟨k, bindL_get ndP hp hu k⟩
    · obtain ⟨c, e⟩ := cell_has (n := s.heap.objs.size + 1) k
      refine .inr ⟨.inl k, c, e, ?_⟩
      have q := x.cell y c e
      rw [bindC_get ndP hp hu (by show scope.names.lookup y ≠ _; rw [k]; decide)] at q
      exact q
  · exact e0.hok.fresh (Nat.le_of_lt (x.above y c (PySem.mem_of_lookup h)))
  · unfold start
    show _ = N.length
    rw [List.length_append, List.length_map, List.length_replicate]
    omega

theorem fn_of {CX : CXT} {P : Program} {w : World} {K : PySem.W.Frag} {mg : Str → Option Value} {base : Heap} {k : Nat} {f : Addr} {name qual : Str} {params : Arguments} {body : List Stmt} {scope : Scope} {dV kV doc pm cdv ct oc : Value} {an od : Option Addr}
    {osl : Array (Option Value)} {N ps : List Str} {sp : Sp} (lk : K.lookup f = some ⟨oc, od, .func (PySem.W.fnOf name qual params body scope dV kV doc pm an cdv ct), osl⟩) (hcd : PySem.W.codeIn K cdv qual = true) (S : FnScope N ps scope)
    (len : ∀ vs H Q E, sp vs H Q E → vs.length = ps.length)
    (hbody : ∀ (A : Around) (outer : List Env) (s : Shared) (H : Hp) (vs : List V) (Q : VK) (E : XK), Room k (A.deeper (envOfC qual scope s.heap.objs.size f cdv)) → sp vs H Q E →
      ∃ t, PSs (cxOf CX P w K mg base N qual scope f cdv A outer s H E) body t ∧ t { nx := fun _ H' => Q .non H', rt := Q } (start N vs) H) :
    FnOk P w K mg base CX (k + 1) f (PySem.W.fnOf name qual params body scope dV kV doc pm an cdv ct) ps sp := by
  refine ⟨len, fun A outer s H args us vs Q E hr e0 hb r hsp => ?_⟩
  have hl := len _ _ _ _ hsp
  have KX : K.In s.heap := e0.mod.kin.keeps fun b o e => (e0.bs b o e).1
  have lim : s.heap.NoLimit := e0.mod.nolimit.keeps fun b o e => (e0.bs b o e).1
  have hkind : ∀ y ∈ ps.zip us, scope.names.lookup y.1 = some .local ∨ (scope.names.lookup y.1 = some .cell ∧ ((cellsFrom (s.heap.objs.size + 1) scope.names []).lookup y.1).isSome = true) := fun ⟨n, v⟩ hy => by
    rcases S.par n (List.of_mem_zip hy).1 with q | q
    · exact .inl q
    · exact .inr ⟨q, PySem.W.cellsFrom_some _ _ _ (.inl q)⟩
  refine codeAny_call_function hr.depth (KX _ _ lk) rfl S.co S.gen rfl (PySem.W.codeRec_of KX hcd) (hb _ _ _ _ ?_)
  refine wpAny_newFunctionEnv_cells S.kind hkind fun env he s1 x => ?_
  subst he
  refine ⟨lim.keeps x.toInCall.keep, codeAny_func ?_⟩
  obtain ⟨t, ht, hq⟩ := hbody A outer s H vs Q E (hr.deeper _) hsp
  have I : Inv (cxOf CX P w K mg base N qual scope f cdv A outer s H E) [] (start N vs) H s1 := inv_start S hr.hd e0 hl r x
  refine wpAny_mono (ht [] s1 (start N vs) H _ I hq) (fun fl s' hs => ?_) fun e s' hs => hs
  have fin : ∀ {σ' : St} {H' : Hp} {v : V} {u : Value}, Inv (cxOf CX P w K mg base N qual scope f cdv A outer s H E) [] σ' H' s' → RelV v u → Q v H' → CE outer P w H s Q u s' :=
    fun {σ' H' v u} J rv q => ⟨v, H', J.os, J.bare, J.base, J.hok, rv, q⟩
  cases fl with
  | ret u =>
    obtain ⟨v, σ', H', J, rv, q⟩ := hs
    exact fin J rv q
  | next =>
    obtain ⟨σ', H', J, q⟩ := hs
    exact fin (v := V.non) (u := Value.none) J rfl q
  | brk =>
    obtain ⟨_, _, _, q⟩ := hs
    exact False.elim q
  | cont =>
    obtain ⟨_, _, _, q⟩ := hs
    exact False.elim q
end L2

namespace L2
open PySem PySem.Spec PyProof.Rows
section
variable {X : Cx} {x : Str} {p pos : Pos} {e : Expr} {es : List Expr} {t : TA} {id T : String} {r : List V → Hp → VK → Prop}

noncomputable def tCB (r : List V → Hp → VK → Prop) (t : TA) : TE := fun σ H Q => t σ H fun vs H1 => r vs H1 Q
theorem pe_callB (hc : CallR X (.builtin id) r) (hg : Gl X x) (hm : X.mg x = none) (hv : bootBuiltins x = some (.builtin id)) (ha : PA X (e :: es) t) (hn : x ≠ "__name__" := by decide) (hdb : (x == ("__debug__" : Str)) = false := by decide)
    (he : starEach (e :: es) X.env = (false, eval e X.env) :: starEach es X.env := by rfl) (hpl : (backTo pos (starEach es X.env)).any (·.1) = false := by rfl) : PE X (.Call (.Name x p) (e :: es) [] pos) (tCB r t) := by
  intro pins s σ H Q I h
  refine wpAny_Call_Name_kw (ld_blt I hg hm hv ?_ hn hdb)
  exact PyProof.Rows.callWith_builtin1 (thn (ha pos pins s σ H _ I h) fun us s1 ⟨vs, H1, I1, r1, q1⟩ => hc pins s1 σ H1 vs us Q I1 r1 q1) he hpl
theorem pe_callTy (hc : CallR X (.type T) r) (hg : Gl X x) (hm : X.mg x = none) (hv : bootBuiltins x = some (.type T)) (ha : PA X (e :: es) t) (hn : x ≠ "__name__" := by decide) (hdb : (x == ("__debug__" : Str)) = false := by decide)
    (he : starEach (e :: es) X.env = (false, eval e X.env) :: starEach es X.env := by rfl) (hpl : (backTo pos (starEach es X.env)).any (·.1) = false := by rfl) : PE X (.Call (.Name x p) (e :: es) [] pos) (tCB r t) := by
  intro pins s σ H Q I h
  refine wpAny_Call_Name_kw (ld_blt I hg hm hv ?_ hn hdb)
  exact PyProof.Rows.callWith_type1 (thn (ha pos pins s σ H _ I h) fun us s1 ⟨vs, H1, I1, r1, q1⟩ => hc pins s1 σ H1 vs us Q I1 r1 q1) he hpl
end
end L2

namespace HT
open PySem PyProof.Rows

section
open PySem.SeqAt
open PySem.AutoSeq1 (wpAny_loadPart')
open PySem.MeetsSeq PySem.MeetsSeq2 PySem.MeetsSeq3

end

section
variable {prog : Program} {w : World} {A : Around} {E : Value → Shared → Prop} {s : Shared}

theorem cat_tup {t b : Addr} {vs ws : List Value} {Q : Value → Shared → Prop} (ht : IsTup s.heap t vs.toArray) (hb : IsTup s.heap b ws.toArray) (hv : vs ≠ [])
    (h1 : ws = [] → Q (.ref t) s) (h2 : ws ≠ [] → Q (.ref s.heap.objs.size) { s with heap := s.heap.push { cls := .type "tuple", data := .seq (vs ++ ws).toArray } })
    (hsz : vs.length + ws.length ≤ sizeLine) : wpAny (model prog w) A (binaryOp .Add (.ref t) (.ref b)) Q E s := by
  obtain ⟨⟨cls, dd, data, sl⟩, ho, hc, n, hd⟩ := id ht
  obtain ⟨⟨cls2, dd2, data2, sl2⟩, ho2, hc2, n2, hd2⟩ := id hb
  simp only at hc hd hc2 hd2
  subst hc hd hc2 hd2
  have e : vs.toArray ++ ws.toArray = (vs ++ ws).toArray := by simp
  by_cases hw : ws = []
  · exact concat_meets ⟨_, ho, rfl⟩ ⟨_, ho2, rfl⟩ noFill_tuple_add seq_tuple_add PySem.F.slot_tuple_add PySem.F.entry_tuple_add (PySem.F.args_tuple_add_2 _ _)
      (tuple_addW1 t b vs.toArray ws.toArray n n2 dd dd2 sl sl2 (by simpa using hv) (by simp [hw])) ⟨ho, ho2, h1 hw⟩
  · refine concat_meets ⟨_, ho, rfl⟩ ⟨_, ho2, rfl⟩ noFill_tuple_add seq_tuple_add PySem.F.slot_tuple_add PySem.F.entry_tuple_add (PySem.F.args_tuple_add_2 _ _)
      (tuple_addW2 t b vs.toArray ws.toArray n n2 dd dd2 sl sl2 (by simpa using hv) (by simpa using hw) (by rw [List.size_toArray, List.size_toArray]; exact hsz)) ⟨ho, ho2, ?_⟩
    rw [e]
    exact h2 hw

/-! ### t[a:b], not the whole -/
noncomputable def sIx (n d : Nat) : Option Int → Nat
  | none => d
  | some v => if v < 0 then (v + (n : Int)).toNat else min v.toNat n
theorem sIx_le (n d : Nat) (hd : d ≤ n) (o : Option Int) : sIx n d o ≤ n := by
  cases o with
  | none => exact hd
  | some v =>
    show (if v < 0 then (v + (n : Int)).toNat else min v.toNat n) ≤ n
    by_cases hv : v < 0
    · rw [if_pos hv]; omega
    · rw [if_neg hv]; exact Nat.min_le_right _ _
theorem clip_eq (v : Int) (n d : Nat) : (if v < 0 then max (v + (n : Int)) 0 else min v (n : Int)) = ((sIx n d (some v) : Nat) : Int) := by
  show (if v < 0 then max (v + (n : Int)) 0 else min v (n : Int)) = (((if v < 0 then (v + (n : Int)).toNat else min v.toNat n) : Nat) : Int)
  by_cases hv : v < 0
  · simp only [if_pos hv]; omega
  · simp only [if_neg hv]; omega
theorem adjust_gen (lo hi : Option Int) (n : Nat) : Builtin.Slice.sliceAdjust lo hi 1 (n : Int) = (((sIx n 0 lo : Nat) : Int), ((sIx n n hi : Nat) : Int)) := by
  have h1 : ¬ ((1 : Int) < 0) := by omega
  unfold Builtin.Slice.sliceAdjust
  simp only [h1, if_false]
  refine Prod.ext ?_ ?_
  · cases lo with
    | none => rfl
    | some v => exact clip_eq v n 0
  · cases hi with
    | none => rfl
    | some v => exact clip_eq v n n
theorem places_gen (i j : Nat) : Builtin.Slice.slicePlaces (i : Int) (j : Int) 1 = j - i := by
  unfold Builtin.Slice.slicePlaces
  have h1 : (1 : Int) > 0 := by omega
  simp only [h1, if_true, Int.ediv_one]
  split <;> omega
theorem slicePart_ {v : Value} {o : Option Int} {Q : Option Int → Shared → Prop} (p : IsPart v o) (h : Q o s) : wpAny (model prog w) A (Builtin.Slice.slicePartIndex v) Q E s := by
  cases p with
  | none => exact slicePart_none h
  | int i t => exact slicePart_int h
theorem sliceApplied_gen {sl : Addr} {vl vu : Value} {lo hi : Option Int} {n : Nat} {Q : Int × Int × Nat → Shared → Prop} (hs : s.heap.IsSliceOf sl vl vu .none) (pl : IsPart vl lo) (pu : IsPart vu hi)
    (h : Q (((sIx n 0 lo : Nat) : Int), 1, sIx n n hi - sIx n 0 lo) s) : wpAny (model prog w) A (Builtin.Slice.sliceApplied (.ref sl) (pure (n : Int))) Q E s := by
  obtain ⟨os, hos, hcs, hds⟩ := id hs
  unfold Builtin.Slice.sliceApplied Builtin.Slice.sliceFields
  refine wpAny_bind (wpAny_bind (wpAny_field hos hds (x := vl) rfl (wpAny_bind (wpAny_field hos hds (x := vu) rfl (wpAny_bind (wpAny_field hos hds (x := .none) rfl (wpAny_pure ?_)))))))
  refine wpAny_bind (slicePart_none ?_)
  show wpAny _ _ (if ((1 : Int) == 0) = true then _ else _) _ _ s
  rw [if_neg (by decide)]
  refine wpAny_bind (slicePart_ pl (wpAny_bind (slicePart_ pu (wpAny_bind (wpAny_pure ?_)))))
  show wpAny _ _ (match Builtin.Slice.sliceAdjust lo hi 1 (n : Int) with | (lo, hi) => pure (lo, (1 : Int), Builtin.Slice.slicePlaces lo hi 1)) _ _ s
  rw [adjust_gen lo hi n]
  show wpAny _ _ (pure (((sIx n 0 lo : Nat) : Int), (1 : Int), Builtin.Slice.slicePlaces ((sIx n 0 lo : Nat) : Int) ((sIx n n hi : Nat) : Int) 1)) _ _ s
  rw [places_gen]
  exact wpAny_pure h
theorem pick_gen (xs : Array Value) (i k : Nat) : ((List.range k).filterMap fun (m : Nat) => xs[((i : Int) + (m : Int) * 1).toNat]?).toArray = ((xs.toList.drop i).take k).toArray := by
  have e : (fun (m : Nat) => xs[((i : Int) + (m : Int) * 1).toNat]?) = fun m => xs[i + m]? := by
    funext m
    have : ((i : Int) + (m : Int) * 1).toNat = i + m := by omega
    rw [this]
  rw [e]
  have := pick_run xs i k
  rw [List.filterMap_map] at this
  have e2 : ((fun x => xs[x]?) ∘ fun x => i + x) = fun m => xs[i + m]? := rfl
  rw [e2] at this
  rw [this]

theorem getItem_tuple_cut {t sl : Addr} {items : Array Value} {vl vu : Value} {lo hi : Option Int} {Q : Value → Shared → Prop} (ht : IsTup s.heap t items) (hs : s.heap.IsSliceOf sl vl vu .none) (pl : IsPart vl lo) (pu : IsPart vu hi)
    (hw : ¬ (sIx items.size 0 lo = 0 ∧ sIx items.size items.size hi = items.size))
    (h : Q (.ref s.heap.objs.size) { s with heap := s.heap.push { cls := .type "tuple", data := .seq ((items.toList.drop (sIx items.size 0 lo)).take (sIx items.size items.size hi - sIx items.size 0 lo)).toArray } })
    (hsz : items.size ≤ sizeLine) : wpAny (model prog w) A (getItem (.ref t) (.ref sl)) Q E s := by
  have htake : sizeOk (.seq ((items.toList.drop (sIx items.size 0 lo)).take (sIx items.size items.size hi - sIx items.size 0 lo)).toArray) := by
    show ((items.toList.drop (sIx items.size 0 lo)).take (sIx items.size items.size hi - sIx items.size 0 lo)).toArray.size ≤ sizeLine
    rw [List.size_toArray, List.length_take, List.length_drop, Array.length_toList]
    omega
  have hj : sIx items.size items.size hi ≤ items.size := sIx_le _ _ (Nat.le_refl _) hi
  obtain ⟨os, hos, hcs, hds⟩ := id hs
  have hTs : s.TypeIs (.ref sl) "slice" := ⟨os, hos, hcs⟩
  unfold getItem
  try with_reducible refine wpAny_holding ?_
  first | refine wpAny_bind (wpAny_pure ?_) | skip
  refine wpAny_bind (wpAny_sequenceKey ht.typeIs (by decide) ?_)
  refine wpAny_bind (wpAny_callSpecial?_slot (name := Str.ofString "__getitem__") ht.typeIs PyProof.Rows.slot_tuple_getitem
    (wpAny_call_entry PyProof.Rows.slot_tuple_getitem ht.typeIs entry_tuple_getitem ?_ (args_tuple_getitem _ _)))
  show wpAny _ _ (Builtin.Tuple.tupleItemsOf (.ref t) >>= _) _ _ s
  refine wpAny_bind (tupleItemsOf_ ht ?_)
  refine wpAny_bind (wpAny_typeOf hTs ?_)
  rw [if_pos (by decide)]
  refine wpAny_bind (sliceApplied_gen hs pl pu ?_)
  have hno : ¬ ((((sIx items.size 0 lo : Nat) : Int) == 0 && (1 : Int) == 1 && (sIx items.size items.size hi - sIx items.size 0 lo) == items.size) = true) := by
    intro q
    rw [Bool.and_eq_true, Bool.and_eq_true] at q
    have q1 : ((sIx items.size 0 lo : Nat) : Int) = 0 := eq_of_beq q.1.1
    have q2 : sIx items.size items.size hi - sIx items.size 0 lo = items.size := eq_of_beq q.2
    exact hw ⟨by omega, by omega⟩
  show wpAny _ _ (if (((sIx items.size 0 lo : Nat) : Int) == 0 && (1 : Int) == 1 && (sIx items.size items.size hi - sIx items.size 0 lo) == items.size) = true then _ else _) _ _ s
  rw [if_neg hno, pick_gen]
  first
    | exact wpAny_bind (m := Builtin.Tuple.tupleExact _) (wpAny_newObj_type (wpAny_pure ⟨_, rfl, wpAny_pure h⟩) htake)
    | exact wpAny_bind (m := Builtin.Tuple.tupleExact _) (wpAny_newObj_type (wpAny_bind (wpAny_pure (wpAny_pure ⟨_, rfl, wpAny_pure h⟩))) htake)
    | exact wpAny_bind (wpAny_bind (m := Builtin.Tuple.tupleExact _) (wpAny_newObj_type (wpAny_pure (wpAny_pure ⟨_, rfl, wpAny_pure h⟩)) htake))
    | exact wpAny_bind (wpAny_bind (m := Builtin.Tuple.tupleExact _) (wpAny_newObj_type (wpAny_pure ⟨_, rfl, wpAny_pure h⟩) htake))
end
end HT

namespace L2
open PySem PySem.Spec PyProof.Rows

/-! ### the parts of a slice -/
noncomputable abbrev TO := St → Hp → (Option Int → Hp → Prop) → Prop
noncomputable def PO (X : Cx) (e : Option Expr) (t : TO) : Prop :=
  ∀ (pins : List (Addr × Obj)) (s : Shared) (σ : St) (H : Hp) (Q : Option Int → Hp → Prop), Inv X pins σ H s → t σ H Q →
    wpAny (model X.prog X.w) X.A (evalPart e X.env) (fun u s' => ∃ o H', Inv X pins σ H' s' ∧ IsPart u o ∧ Q o H') X.xe s
noncomputable def tNoPart : TO := fun _ H Q => Q none H
noncomputable def tPart (t : TE) : TO := fun σ H Q => t σ H fun x H1 => ∃ i, x = .int i ∧ Q (some i) H1

theorem intsAre_of {ns : List Int} : ∀ {us : List Value}, Vals (ns.map V.int) us → IntsAre us ns := by
  induction ns with
  | nil => intro us r; rw [List.map_nil] at r; cases r; exact .nil
  | cons n ns ih =>
    intro us r
    rw [List.map_cons] at r
    cases r with
    | cons r1 r2 =>
      obtain ⟨t, e⟩ := r1
      subst e
      exact .cons n t (ih r2)

section
variable {X : Cx} {e : Expr} {te : TE} {lo hi : Option Expr} {tl th : TO} {pos p2 : Pos}

theorem po_none : PO X none tNoPart := by
  intro pins s σ H Q I h
  rw [evalPart_none]
  exact wpAny_pure ⟨none, H, I, .none, h⟩
theorem po_some (h : PE X e te) : PO X (some e) (tPart te) := by
  intro pins s σ H Q I hw
  rw [evalPart_some]
  refine thn (h pins s σ H _ I hw) fun u s1 ⟨x, H1, I1, r1, q1⟩ => ?_
  obtain ⟨i, rfl, q⟩ := q1
  obtain ⟨t, rfl⟩ := r1
  exact ⟨some i, H1, I1, .int i t, q⟩

noncomputable def SlR (X : Cx) (r : V → Option Int → Option Int → Hp → VK → Prop) : Prop :=
  ∀ (pins : List (Addr × Obj)) (s : Shared) (σ : St) (H : Hp) (x : V) (v vl vu : Value) (lo hi : Option Int) (sl : Addr) (Q : VK), Inv X pins σ H s → RelV x v → s.heap.IsSliceOf sl vl vu .none → IsPart vl lo → IsPart vu hi → r x lo hi H Q →
    ∃ T id, typeLookup (.type T) "__getitem__" = pure (some (.builtin id)) ∧ s.TypeIs v T ∧ wpAny (model X.prog X.w) X.A (getItem v (.ref sl)) (EP X pins σ Q) X.xe s
theorem SlR.or {r r' : V → Option Int → Option Int → Hp → VK → Prop} (h : SlR X r) (h' : SlR X r') : SlR X (fun x lo hi H Q => r x lo hi H Q ∨ r' x lo hi H Q) := by
  intro pins s σ H x v vl vu lo hi sl Q I rx hs pl pu q
  rcases q with q | q
  · exact h pins s σ H x v vl vu lo hi sl Q I rx hs pl pu q
  · exact h' pins s σ H x v vl vu lo hi sl Q I rx hs pl pu q
noncomputable def tSl (r : V → Option Int → Option Int → Hp → VK → Prop) (te : TE) (tl th : TO) : TE := fun σ H Q => te σ H fun x H1 => tl σ H1 fun l H2 => th σ H2 fun u H3 => r x l u H3 Q
theorem pe_slice {r : V → Option Int → Option Int → Hp → VK → Prop} (hr : SlR X r) (he : PE X e te) (hl : PO X lo tl) (hu : PO X hi th) : PE X (.Subscript e (.Slice lo hi none p2) pos) (tSl r te tl th) := by
  intro pins s σ H Q I h
  refine Subscript_ (thn (he pins s σ H _ I h) fun v s1 ⟨x, H1, I1, r1, q1⟩ => ?_)
  refine wpAny_Slice (thn (hl pins s1 σ H1 _ I1 q1) fun vl s2 ⟨l, H2, I2, pl, q2⟩ => thn (hu pins s2 σ H2 _ I2 q2) fun vu s3 ⟨u, H3, I3, pu, q3⟩ => ?_)
  rw [evalPart_none]
  refine wpAny_pure ?_
  have I4 : Inv X pins σ H3 { s3 with heap := s3.heap.push { cls := .type "slice", data := .fields #[vl, vu, .none] } } := I3.kept (t' := s3.toks) fun b ob q => Heap.get?_push_of_some _ q
  obtain ⟨T, id, hT, ht, hg⟩ := hr pins { s3 with heap := s3.heap.push { cls := .type "slice", data := .fields #[vl, vu, .none] } } σ H3 x v vl vu l u s3.heap.objs.size Q I4 r1 (Heap.IsSliceOf.new ..) pl pu q3
  show wpAny (model X.prog X.w) X.A (subscriptTail e (.Slice lo hi none p2) v (.ref s3.heap.objs.size)) (EP X pins σ Q) X.xe { s3 with heap := s3.heap.push { cls := .type "slice", data := .fields #[vl, vu, .none] } }
  exact tail_any (ops := [.ref s3.heap.objs.size, v]) ht hT hg (by with_unfolding_all rfl)

noncomputable def cutV (xs : List V) (lo hi : Option Int) : List V := (xs.drop (HT.sIx xs.length 0 lo)).take (HT.sIx xs.length xs.length hi - HT.sIx xs.length 0 lo)
theorem cutV_length (xs : List V) (lo hi : Option Int) : (cutV xs lo hi).length ≤ xs.length := by
  unfold cutV
  rw [List.length_take, List.length_drop]
  omega
noncomputable def rSlT (K : PySem.W.Frag) : V → Option Int → Option Int → Hp → VK → Prop := fun x lo hi H Q => ∃ a xs, x = .ref a ∧ SqT K H a xs ∧
  ¬ (HT.sIx xs.length 0 lo = 0 ∧ HT.sIx xs.length xs.length hi = xs.length) ∧ ∀ p, H p = none → Q (.ref p) (upd H p (.tup (cutV xs lo hi)))
theorem sl_tup : SlR X (rSlT X.K) := by
  intro pins s σ H x v vl vu lo hi sl Q I rx hs pl pu h
  obtain ⟨a, xs, rfl, hx, hw, q⟩ := h
  cases rx
  obtain ⟨its, r, ht, hz⟩ := I.tuple hx
  have hlen : its.toArray.size = xs.length := by rw [List.size_toArray]; exact r.length.symm
  refine ⟨"tuple", _, PyProof.Rows.slot_tuple_getitem.lookup, ht.typeIs, ?_⟩
  refine HT.getItem_tuple_cut ht hs pl pu (by rw [hlen]; exact hw) ?_ (by rw [hlen]; exact hz)
  rw [hlen]
  refine ⟨.ref s.heap.objs.size, _, I.laid (t' := s.toks) (o := .tup (cutV xs lo hi)) (fun b ob q => Heap.get?_push_of_some _ q) (Nat.le_refl _) ?_, rfl, q _ (I.hok.fresh (Nat.le_refl _))⟩
  exact ⟨Nat.le_trans (cutV_length xs lo hi) hz, _, (r.drop (HT.sIx xs.length 0 lo)).take (HT.sIx xs.length xs.length hi - HT.sIx xs.length 0 lo), IsTupD.new _ _⟩

/-! ### t < u, t + u -/
noncomputable def rCatT (K : PySem.W.Frag) : R2 := fun x y H Q => ∃ a b xs ys, x = .ref a ∧ y = .ref b ∧ SqT K H a xs ∧ SqT K H b ys ∧ xs ≠ [] ∧ xs.length + ys.length ≤ sizeLine ∧
  (ys = [] → Q (.ref a) H) ∧ (ys ≠ [] → ∀ p, H p = none → Q (.ref p) (upd H p (.tup (xs ++ ys))))
theorem Vals.nil_iff {xs : List V} {us : List Value} (r : Vals xs us) : us = [] ↔ xs = [] := by
  cases r with
  | nil => simp
  | cons _ _ => simp
theorem op_catT : OpR X (binaryOp .Add) (rCatT X.K) := by
  intro pins s σ H x y v u Q I rx ry h
  obtain ⟨a, b, xs, ys, rfl, rfl, ha, hb, hx, hz, q1, q2⟩ := h
  cases rx
  cases ry
  obtain ⟨its, r1, p1, _⟩ := I.tuple ha
  obtain ⟨its2, r2, p2, _⟩ := I.tuple hb
  refine HT.cat_tup p1 p2 (fun z => hx (r1.nil_iff.mp z)) (fun z => ⟨.ref a, H, I, rfl, q1 (r2.nil_iff.mp z)⟩) (fun z => ?_) (by rw [← r1.length, ← r2.length]; exact hz)
  refine ⟨.ref s.heap.objs.size, _, I.laid (t' := s.toks) (o := .tup (xs ++ ys)) (fun b ob q => Heap.get?_push_of_some _ q) (Nat.le_refl _) ?_, rfl, q2 (fun w => z (r2.nil_iff.mpr w)) _ (I.hok.fresh (Nat.le_refl _))⟩
  exact ⟨by rw [List.length_append]; exact hz, _, r1.append r2, IsTupD.new _ _⟩
end
end L2

namespace L2
open PySem PySem.Spec PyProof.Rows

/-! ### places -/
noncomputable def ixN (n : Nat) (i : Int) : Option Nat := if 0 ≤ i then (if i < n then some i.toNat else none) else if -(n : Int) ≤ i then some (i + n).toNat else none
noncomputable def atI {α : Type} (xs : List α) (i : Int) : Option α := (ixN xs.length i).bind fun j => xs[j]?
theorem ixN_seq {n : Nat} {i : Int} {j : Nat} (h : ixN n i = some j) : seqIndex? i n = some j ∧ j < n ∧ -(n : Int) ≤ i ∧ i < n := by
  unfold ixN at h
  by_cases h0 : 0 ≤ i
  · rw [if_pos h0] at h
    by_cases h1 : i < n
    · rw [if_pos h1] at h
      have e : i.toNat = j := Option.some.inj h
      exact ⟨by rw [seqIndex_of h0 h1, e], by omega, by omega, h1⟩
    · rw [if_neg h1] at h; cases h
  · rw [if_neg h0] at h
    by_cases h1 : -(n : Int) ≤ i
    · rw [if_pos h1] at h
      have e : (i + n).toNat = j := Option.some.inj h
      exact ⟨by rw [seqIndex_neg (by omega) h1, e], by omega, h1, by omega⟩
    · rw [if_neg h1] at h; cases h
theorem atI_get {α : Type} {xs : List α} {i : Int} {v : α} (h : atI xs i = some v) : ∃ j, seqIndex? i xs.length = some j ∧ xs[j]? = some v ∧ j < xs.length ∧ -(xs.length : Int) ≤ i ∧ i < xs.length := by
  unfold atI at h
  cases e : ixN xs.length i with
  | none => rw [e] at h; cases h
  | some j =>
    rw [e] at h
    obtain ⟨h1, h2, h3, h4⟩ := ixN_seq e
    exact ⟨j, h1, h, h2, h3, h4⟩
theorem atI_nat {α : Type} {xs : List α} {j : Nat} {v : α} (h : xs[j]? = some v) : atI xs (j : Int) = some v := by
  have hj : j < xs.length := (List.getElem?_eq_some_iff.mp h).1
  have e : ixN xs.length (j : Int) = some j := by
    unfold ixN
    rw [if_pos (by omega), if_pos (by omega)]; simp
  unfold atI; rw [e]; exact h
/-! ### what may be subscripted -/
noncomputable def PlainIx (b : Expr) : Prop := ∀ o i, subscripted b false o i = operate [o, i] (getItem o i)
noncomputable def IxR (X : Cx) (r : R2) : Prop :=
  ∀ (value slice : Expr) (pins : List (Addr × Obj)) (s : Shared) (σ : St) (H : Hp) (x y : V) (v u : Value) (Q : VK), Inv X pins σ H s → RelV x v → RelV y u → r x y H Q →
    subscripted slice false v u = operate [v, u] (getItem v u) → wpAny (model X.prog X.w) X.A (subscriptTail value slice v u) (EP X pins σ Q) X.xe s
noncomputable def MtR (X : Cx) (id : String) (r : V → List V → Hp → VK → Prop) : Prop :=
  ∀ (pins : List (Addr × Obj)) (s : Shared) (σ : St) (H : Hp) (x : V) (xs : List V) (v : Value) (us : List Value) (Q : VK), Inv X pins σ H s → RelV x v → Vals xs us → r x xs H Q →
    wpAny (model X.prog X.w) X.A (call (.builtin id) (v :: us)) (EP X pins σ Q) X.xe s
section
variable {X : Cx} {a b : Expr} {ta tb : TE} {pos : Pos}
theorem IxR.or {r r' : R2} (h : IxR X r) (h' : IxR X r') : IxR X (fun x y H Q => r x y H Q ∨ r' x y H Q) := by
  intro value slice pins s σ H x y v u Q I rx ry q hs
  rcases q with q | q
  · exact h value slice pins s σ H x y v u Q I rx ry q hs
  · exact h' value slice pins s σ H x y v u Q I rx ry q hs
theorem MtR.or {id : String} {r r' : V → List V → Hp → VK → Prop} (h : MtR X id r) (h' : MtR X id r') : MtR X id (fun x xs H Q => r x xs H Q ∨ r' x xs H Q) := by
  intro pins s σ H x xs v us Q I rx rs q
  rcases q with q | q
  · exact h pins s σ H x xs v us Q I rx rs q
  · exact h' pins s σ H x xs v us Q I rx rs q
theorem pe_ix {r : R2} (hr : IxR X r) (ha : PE X a ta) (hb : PE X b tb) (hs : PlainIx b) : PE X (.Subscript a b pos) (tOp r ta tb) := by
  intro pins s σ H Q I h
  exact Subscript_ (binT ha hb I h fun v u s2 x y H2 I2 rx ry q => hr a b pins s2 σ H2 x y v u Q I2 rx ry q (hs _ _))

noncomputable def rIxL (K : PySem.W.Frag) : R2 := fun x y H Q => ∃ p xs i v, x = .ref p ∧ y = .int i ∧ SqL K H p xs ∧ atI xs i = some v ∧ Q v H
noncomputable def rIxT (K : PySem.W.Frag) : R2 := fun x y H Q => ∃ p xs i v, x = .ref p ∧ y = .int i ∧ SqT K H p xs ∧ atI xs i = some v ∧ Q v H
theorem ix_list : IxR X (rIxL X.K) := by
  intro value slice pins s σ H x y v u Q I rx ry h hs
  obtain ⟨p, xs, i, z, rfl, rfl, hq, he, q⟩ := h
  cases rx
  obtain ⟨t, rfl⟩ := ry
  obtain ⟨its, r, pl, hz⟩ := I.list hq
  obtain ⟨j, h1, h2, h3, h4, h5⟩ := atI_get he
  obtain ⟨w, ew, rw'⟩ := r.get h2
  have hl := r.length
  have hn := line63
  have fin : EP X pins σ Q w s := ⟨z, H, I, rw', q⟩
  by_cases h0 : 0 ≤ i
  · have hj : i.toNat = j := by
      rw [seqIndex_of h0 h5] at h1
      exact Option.some.inj h1
    exact item_listR pl.isList h0 (by omega) (by rw [hj]; simpa using ew) fin hs
  · have hj : (i + (its.toArray.size : Int)).toNat = j := by
      rw [seqIndex_neg (by omega) h4] at h1
      rw [List.size_toArray, ← hl]
      exact Option.some.inj h1
    exact subscriptTail_builtinR (x := w) pl.isList.typeIs slot_list_getitem.lookup
      (wpAny_getItem_list_neg (Q := fun r s' => r = w ∧ EP X pins σ Q r s') pl.isList (by omega) (by rw [List.size_toArray] <;> omega) (by omega) (by rw [hj]; simpa using ew) ⟨rfl, fin⟩) hs
theorem ix_tup : IxR X (rIxT X.K) := by
  intro value slice pins s σ H x y v u Q I rx ry h hs
  obtain ⟨p, xs, i, z, rfl, rfl, hq, he, q⟩ := h
  cases rx
  obtain ⟨t, rfl⟩ := ry
  obtain ⟨its, r, pl, hz⟩ := I.tuple hq
  obtain ⟨j, h1, h2, h3, h4, h5⟩ := atI_get he
  obtain ⟨w, ew, rw'⟩ := r.get h2
  have hl := r.length
  have hn := line63
  have fin : EP X pins σ Q w s := ⟨z, H, I, rw', q⟩
  exact subscriptTail_builtinR (x := w) pl.typeIs slot_tuple_getitem.lookup
    (getItem_tuple (j := j) (Q := fun r s' => r = w ∧ EP X pins σ Q r s') pl (by omega) (by omega) (by rw [List.size_toArray, ← hl]; exact h1) (by simpa using ew) ⟨rfl, fin⟩) hs
/-! ### xs[i] = v, any sign -/
theorem mapSeq_set (its : List Value) (n j : Nat) (u : Value) : Obj.mapSeq (·.setIfInBounds j u) { cls := .type "list", data := .seq its.toArray n } = { cls := .type "list", data := .seq (its.set j u).toArray n } := by
  simp [Obj.mapSeq]
theorem Inv.lst {pins : List (Addr × Obj)} {σ : St} {H : Hp} {s : Shared} {p : Addr} {xs : List V} (I : Inv X pins σ H s) (h : H p = some (.lst xs)) :
    ∃ (its : List Value) (n : Nat), Vals xs its ∧ s.heap.get? p = some { cls := .type "list", data := .seq its.toArray n } ∧ xs.length ≤ sizeLine := by
  obtain ⟨z, its, n, r, e⟩ := I.hok p _ h
  exact ⟨its, n, r, e, z⟩
theorem Inv.lstUpd {pins : List (Addr × Obj)} {σ : St} {H : Hp} {s : Shared} {p : Addr} {xs ys : List V} {its its' : List Value} {n n' : Nat} {f : Obj → Obj} (I : Inv X pins σ H s) (h : H p = some (.lst xs))
    (ho : s.heap.get? p = some { cls := .type "list", data := .seq its.toArray n }) (hf : f { cls := .type "list", data := .seq its.toArray n } = { cls := .type "list", data := .seq its'.toArray n' }) (r : Vals ys its') (hz : ys.length ≤ sizeLine) (t : Nat) :
    Inv X pins σ (upd H p (.lst ys)) { s with heap := s.heap.update p f, toks := t } := by
  have e : (s.heap.update p f).get? p = some { cls := .type "list", data := .seq its'.toArray n' } := by
    rw [Heap.get?_update_self f ho (by rw [hf] <;> rfl), hf]
  refine I.write (x := p) (e := p) (by rw [h]; trivial) (.inl rfl) (fun b u hb q => (Heap.get?_update_other _ _ (Ne.symm hb)).trans q) ⟨_, e⟩ ?_
  exact ⟨hz, its', n', r, e⟩
noncomputable def rSetL : V → V → V → Hp → (Hp → Prop) → Prop := fun o i v H Q => ∃ p xs k j, o = .ref p ∧ i = .int k ∧ H p = some (.lst xs) ∧ ixN xs.length k = some j ∧ Q (upd H p (.lst (xs.set j v)))
theorem set_list : PSet X rSetL := by
  intro pins s σ H o i v ov iv u Q I ro ri rv h
  obtain ⟨p, xs, k, j, rfl, rfl, hp, hj, q⟩ := h
  cases ro
  obtain ⟨t, rfl⟩ := ri
  obtain ⟨its, n, r, ho, hz⟩ := I.lst hp
  obtain ⟨h1, h2, h3, h4⟩ := ixN_seq hj
  have hl := r.length
  have hn := line63
  have I' : Inv X pins σ (upd H p (.lst (xs.set j v))) { s with heap := s.heap.update p (Obj.mapSeq (·.setIfInBounds j u)) } :=
    I.lstUpd hp ho (mapSeq_set its n j u) (r.set rv j) (by rw [List.length_set]; exact hz) s.toks
  by_cases h0 : 0 ≤ k
  · have hk : k.toNat = j := by
      rw [seqIndex_of h0 h4] at h1
      exact Option.some.inj h1
    exact PySem.W.ki_setAt ho h0 (by omega) (by rw [List.size_toArray, ← hl]; exact h4) (by rw [hk]; exact ⟨_, I', q⟩)
  · have hk : (k + (its.toArray.size : Int)).toNat = j := by
      rw [seqIndex_neg (by omega) h3] at h1
      rw [List.size_toArray, ← hl]
      exact Option.some.inj h1
    exact PySem.W.ki_setBack ho (by omega) (by rw [List.size_toArray, ← hl]; exact h3) (by omega) (by rw [hk]; exact ⟨_, I', q⟩)

/-! ### slices -/
theorem slice_bounds (lo hi : Option Int) (n : Nat) : (sliceBounds lo hi none n).1 = ((HT.sIx n 0 lo : Nat) : Int) ∧ (sliceBounds lo hi none n).2.1 = ((HT.sIx n n hi : Nat) : Int) ∧ (sliceBounds lo hi none n).2.2 = 1 := by
  refine ⟨?_, ?_, rfl⟩
  · cases lo with
    | none => simp [sliceBounds, HT.sIx]
    | some i =>
      simp only [sliceBounds, HT.sIx, Option.getD_none, show (1 : Int) > 0 by decide, if_true]
      by_cases h : i < 0
      · simp only [h, if_true] <;> omega
      · simp only [h, if_false] <;> omega
  · cases hi with
    | none => simp [sliceBounds, HT.sIx]
    | some i =>
      simp only [sliceBounds, HT.sIx, Option.getD_none, show (1 : Int) > 0 by decide, if_true]
      by_cases h : i < 0
      · simp only [h, if_true] <;> omega
      · simp only [h, if_false] <;> omega
theorem slicePick_cut (its : List Value) (lo hi : Option Int) : slicePick its.toArray lo hi none = ((its.drop (HT.sIx its.length 0 lo)).take (HT.sIx its.length its.length hi - HT.sIx its.length 0 lo)).toArray := by
  obtain ⟨h1, h2, h3⟩ := slice_bounds lo hi its.toArray.size
  unfold slicePick
  rw [h1, h2, h3]
  simp only [sliceRange_one, pick_run, List.size_toArray] <;> rfl
noncomputable def rSlL (K : PySem.W.Frag) : V → Option Int → Option Int → Hp → VK → Prop := fun x lo hi H Q => ∃ a xs, x = .ref a ∧ SqL K H a xs ∧ ∀ p, H p = none → Q (.ref p) (upd H p (.lst (cutV xs lo hi)))
theorem sl_list : SlR X (rSlL X.K) := by
  intro pins s σ H x v vl vu lo hi sl Q I rx hs pl pu h
  obtain ⟨a, xs, rfl, hx, q⟩ := h
  cases rx
  obtain ⟨its, r, ht, hz⟩ := I.list hx
  have hlen := r.length
  refine ⟨"list", _, slot_list_getitem.lookup, ht.isList.typeIs, ?_⟩
  refine wpAny_getItem_list_slice ht.isList hs pl pu .none (by simp) ?_ (by rw [List.size_toArray] <;> omega)
  rw [slicePick_cut, ← hlen]
  refine ⟨.ref s.heap.objs.size, _, I.laid (t' := s.toks) (o := .lst (cutV xs lo hi)) (fun b ob q => Heap.get?_push_of_some _ q) (Nat.le_refl _) ?_, rfl, q _ (I.hok.fresh (Nat.le_refl _))⟩
  exact ⟨Nat.le_trans (cutV_length xs lo hi) hz, _, 0, (r.drop (HT.sIx xs.length 0 lo)).take (HT.sIx xs.length xs.length hi - HT.sIx xs.length 0 lo), Heap.get?_push_size _ rfl⟩

/-! ### in, not in: flat items -/
noncomputable def flatV : V → Bool
  | .non => true
  | .bl _ => true
  | .int _ => true
  | .str _ => true
  | _ => false
noncomputable def eqV : V → V → Bool
  | .non, .non => true
  | .bl a, .bl b => a == b
  | .bl a, .int b => (if a then 1 else 0) == b
  | .int a, .bl b => a == (if b then 1 else 0)
  | .int a, .int b => a == b
  | .str a, .str b => a == b
  | _, _ => false
theorem eqAt_V {A : Around} {s : Shared} {y x : V} {u v : Value} (ry : RelV y u) (rx : RelV x v) (fy : flatV y = true) (fx : flatV x = true) : SeqAt.EqAt A s u v (eqV y x) := by
  cases y with
  | non =>
    cases ry
    cases x with
    | non => cases rx; exact SeqAt.EqAt.same _
    | bl b => cases rx; exact SeqAt.EqAt.none_bool b
    | int b => obtain ⟨t, rfl⟩ := rx; exact SeqAt.EqAt.none_int b t
    | str b => obtain ⟨t, rfl⟩ := rx; exact SeqAt.EqAt.none_str b t
    | _ => exact absurd (show false = true from fx) Bool.false_ne_true
  | bl a =>
    cases ry
    cases x with
    | non => cases rx; exact SeqAt.EqAt.bool_none a
    | bl b => cases rx; exact SeqAt.EqAt.bool_bool a b
    | int b => obtain ⟨t, rfl⟩ := rx; exact SeqAt.EqAt.bool_int a b t
    | str b => obtain ⟨t, rfl⟩ := rx; exact SeqAt.EqAt.bool_str a b t
    | _ => exact absurd (show false = true from fx) Bool.false_ne_true
  | int a =>
    obtain ⟨t', rfl⟩ := ry
    cases x with
    | non => cases rx; exact SeqAt.EqAt.int_none a t'
    | bl b => cases rx; exact SeqAt.EqAt.int_bool a t' b
    | int b => obtain ⟨t, rfl⟩ := rx; exact SeqAt.EqAt.int_int a t' b t
    | str b => obtain ⟨t, rfl⟩ := rx; exact SeqAt.EqAt.int_str a t' b t
    | _ => exact absurd (show false = true from fx) Bool.false_ne_true
  | str a =>
    obtain ⟨t', rfl⟩ := ry
    cases x with
    | non => cases rx; exact SeqAt.EqAt.str_none a t'
    | bl b => cases rx; exact SeqAt.EqAt.str_bool a t' b
    | int b => obtain ⟨t, rfl⟩ := rx; exact SeqAt.EqAt.str_int a t' b t
    | str b => obtain ⟨t, rfl⟩ := rx; exact SeqAt.EqAt.str_str a t' b t
    | _ => exact absurd (show false = true from fx) Bool.false_ne_true
  | _ => exact absurd (show false = true from fy) Bool.false_ne_true
noncomputable def eqU (x : V) (u : Value) : Bool := match u with
  | .none => eqV .non x
  | .bool b => eqV (.bl b) x
  | .int i _ => eqV (.int i) x
  | .str z _ => eqV (.str z) x
  | _ => false
theorem eqU_of {x y : V} {u : Value} (r : RelV y u) (f : flatV y = true) : eqU x u = eqV y x := by
  cases y with
  | non => cases r; rfl
  | bl b => cases r; rfl
  | int i => obtain ⟨t, rfl⟩ := r; rfl
  | str z => obtain ⟨t, rfl⟩ := r; rfl
  | _ => exact absurd (show false = true from f) Bool.false_ne_true
theorem any_eqU {x : V} : ∀ {xs : List V} {us : List Value}, Vals xs us → xs.all flatV = true → us.any (eqU x) = xs.any fun y => eqV y x
  | _, _, .nil, _ => rfl
  | y :: xs, u :: us, .cons r t, f => by
    rw [List.all_cons, Bool.and_eq_true] at f
    rw [List.any_cons, List.any_cons, eqU_of r f.1, any_eqU t f.2]
theorem mem_eqAt {A : Around} {s : Shared} {x : V} {v : Value} (rx : RelV x v) (fx : flatV x = true) : ∀ {xs : List V} {us : List Value}, Vals xs us → xs.all flatV = true → ∀ u ∈ us, SeqAt.EqAt A s u v (eqU x u)
  | _, _, .nil, _ => fun u hu => by cases hu
  | y :: xs, u :: us, .cons r t, f => fun u' hu => by
    rw [List.all_cons, Bool.and_eq_true] at f
    rcases List.mem_cons.mp hu with rfl | hu
    · rw [eqU_of r f.1]; exact eqAt_V r rx f.1 fx
    · exact mem_eqAt rx fx t f.2 u' hu
noncomputable def inV (x : V) (xs : List V) : Bool := xs.any fun y => eqV y x
noncomputable def rIn (K : PySem.W.Frag) (neg : Bool) : R2 := fun x y H Q => ∃ p xs, y = .ref p ∧ (SqL K H p xs ∨ SqT K H p xs) ∧ flatV x = true ∧ xs.all flatV = true ∧ Q (.bl (if neg then !inV x xs else inV x xs)) H
theorem op_in_seq : OpR X (compareOp .In) (rIn X.K false) := by
  intro pins s σ H x y v u Q I rx ry h
  obtain ⟨p, xs, rfl, hq, fx, fs, q⟩ := h
  cases ry
  rcases hq with hq | hq
  · obtain ⟨its, r, pl, hz⟩ := I.list hq
    refine SeqAt.in_listAt (eqU x) pl.isList (fun w hw => mem_eqAt rx fx r fs w (by simpa using hw)) ⟨.bl _, H, I, rfl, ?_⟩
    rw [show its.toArray.any (eqU x) = its.any (eqU x) by simp, any_eqU r fs]
    exact q
  · obtain ⟨its, r, pl, hz⟩ := I.tuple hq
    refine SeqAt.in_tupleAt (eqU x) pl (fun w hw => mem_eqAt rx fx r fs w (by simpa using hw)) ⟨.bl _, H, I, rfl, ?_⟩
    rw [show its.toArray.any (eqU x) = its.any (eqU x) by simp, any_eqU r fs]
    exact q
theorem op_notIn_seq : OpR X (compareOp .NotIn) (rIn X.K true) := by
  intro pins s σ H x y v u Q I rx ry h
  obtain ⟨p, xs, rfl, hq, fx, fs, q⟩ := h
  cases ry
  rcases hq with hq | hq
  · obtain ⟨its, r, pl, hz⟩ := I.list hq
    refine SeqAt.notIn_listAt (eqU x) pl.isList (fun w hw => mem_eqAt rx fx r fs w (by simpa using hw)) ⟨.bl _, H, I, rfl, ?_⟩
    rw [show its.toArray.any (eqU x) = its.any (eqU x) by simp, any_eqU r fs]
    exact q
  · obtain ⟨its, r, pl, hz⟩ := I.tuple hq
    refine SeqAt.notIn_tupleAt (eqU x) pl (fun w hw => mem_eqAt rx fx r fs w (by simpa using hw)) ⟨.bl _, H, I, rfl, ?_⟩
    rw [show its.toArray.any (eqU x) = its.any (eqU x) by simp, any_eqU r fs]
    exact q
/-! ### len, list(x), tuple(x) of any list or tuple that is read -/
theorem call_len_seq : CallR X (.builtin "len") (fun xs H Q => ∃ p ys, xs = [.ref p] ∧ (SqL X.K H p ys ∨ SqT X.K H p ys) ∧ Q (.int ys.length) H) := by
  intro pins s σ H xs us Q I r h
  obtain ⟨p, ys, rfl, hq, q⟩ := h
  obtain ⟨u, rfl, rx⟩ := vals1 r
  cases rx
  have hn := line63
  rcases hq with hq | hq
  · obtain ⟨its, r', pl, hz⟩ := I.list hq
    have hlen := r'.length
    exact Calls.call_len_list pl.isList (by simp only [List.size_toArray] <;> omega) ⟨.int ys.length, H, I.tok _, ⟨s.toks + 1, by rw [List.size_toArray, hlen]⟩, q⟩
  · obtain ⟨its, r', pl, hz⟩ := I.tuple hq
    have hlen := r'.length
    exact len_tuple pl (by simp only [List.size_toArray] <;> omega) ⟨.int ys.length, H, I.tok _, ⟨s.toks + 1, by rw [List.size_toArray, hlen]⟩, q⟩
theorem CallR.or {f : Value} {r r' : List V → Hp → VK → Prop} (h : CallR X f r) (h' : CallR X f r') : CallR X f (fun xs H Q => r xs H Q ∨ r' xs H Q) := by
  intro pins s σ H xs us Q I rs q
  rcases q with q | q
  · exact h pins s σ H xs us Q I rs q
  · exact h' pins s σ H xs us Q I rs q
theorem call_list_of : CallR X (.type "list") (fun xs H Q => ∃ p ys, xs = [.ref p] ∧ (SqL X.K H p ys ∨ SqT X.K H p ys) ∧ ∀ l, H l = none → Q (.ref l) (upd H l (.lst ys))) := by
  intro pins s σ H xs us Q I r h
  obtain ⟨p, ys, rfl, hq, q⟩ := h
  obtain ⟨u, rfl, rx⟩ := vals1 r
  cases rx
  have fin : ∀ (its : List Value), Vals ys its → ys.length ≤ sizeLine → ∀ (h' : Heap) (c' : Nat), (∀ b o', s.heap.get? b = some o' → h'.get? b = some o') →
      h'.get? s.heap.objs.size = some { cls := .type "list", dict := none, data := .seq its.toArray c', slots := #[] } → EP X pins σ Q (.ref s.heap.objs.size) { s with heap := h' } := fun its r' hz h' c' kp e =>
    ⟨.ref s.heap.objs.size, _, I.laid (t' := s.toks) kp (Nat.le_refl _) (show ObjOk X.prog X.w _ h' _ (.lst ys) from ⟨hz, its, c', r', e⟩), rfl, q _ (I.hok.fresh (Nat.le_refl _))⟩
  rcases hq with hq | hq
  · obtain ⟨its, r', pl, hz⟩ := I.list hq
    have hlen := r'.length
    obtain ⟨o, ho, hc, n, hd⟩ := pl.isList
    exact call_list_seq p (.inl rfl) ho hc hd (fun h' c' kp e => fin its r' hz h' c' kp e) (by simp only [List.size_toArray] <;> omega)
  · obtain ⟨its, r', pl, hz⟩ := I.tuple hq
    have hlen := r'.length
    obtain ⟨o, ho, hc, n, hd⟩ := pl
    exact call_list_seq p (.inr rfl) ho hc hd (fun h' c' kp e => fin its r' hz h' c' kp e) (by simp only [List.size_toArray] <;> omega)
theorem call_tuple_of : CallR X (.type "tuple") (fun xs H Q => ∃ p ys, xs = [.ref p] ∧ ((SqL X.K H p ys ∧ ∀ l, H l = none → Q (.ref l) (upd H l (.tup ys))) ∨ (SqT X.K H p ys ∧ Q (.ref p) H))) := by
  intro pins s σ H xs us Q I r h
  obtain ⟨p, ys, rfl, h⟩ := h
  obtain ⟨u, rfl, rx⟩ := vals1 r
  cases rx
  rcases h with ⟨hq, q⟩ | ⟨hq, q⟩
  · obtain ⟨its, r', pl, hz⟩ := I.list hq
    have hlen := r'.length
    refine call_tuple_list pl.isList (fun h' kp => ?_) (by simp only [List.size_toArray] <;> omega)
    have I1 : Inv X pins σ H { s with heap := h' } := I.kept (t' := s.toks) kp
    have I2 : Inv X pins σ (upd H h'.objs.size (.tup ys)) { s with heap := h'.push { cls := .type "tuple", data := .seq its.toArray } } :=
      I1.laid (t' := s.toks) (fun b o e => Heap.get?_push_of_some _ e) (Nat.le_refl _) (show ObjOk X.prog X.w _ _ _ (.tup ys) from ⟨hz, its, r', IsTupD.new _ _⟩)
    exact ⟨.ref h'.objs.size, _, I2, rfl, q _ (I1.hok.fresh (Nat.le_refl _))⟩
  · obtain ⟨its, r', pl, hz⟩ := I.tuple hq
    exact call_tuple_same pl ⟨.ref p, H, I, rfl, q⟩

/-! ### the call of a builtin's method: o.m(..) -/
noncomputable def tyV (K : PySem.W.Frag) (T : String) (x : V) (H : Hp) : Prop := match x with
  | .str _ => T = "str"
  | .int _ => T = "int"
  | .ref p => (T = "list" ∧ ∃ xs, SqL K H p xs) ∨ (T = "tuple" ∧ ∃ o, K.lookup p = some o ∧ o.cls = .type "tuple" ∧ o.dict = none) ∨
      (T = "dict" ∧ ((∃ kvs, H p = some (.dK kvs)) ∨ ∃ kvs, H p = some (.dT kvs))) ∨ (T = "set" ∧ ∃ S n, H p = some (.set S n))
  | _ => False
theorem tyV_is {pins : List (Addr × Obj)} {σ : St} {H : Hp} {s : Shared} {T : String} {x : V} {v : Value} (I : Inv X pins σ H s) (r : RelV x v) (ty : tyV X.K T x H) :
    s.TypeIs v T ∧ ∀ a, v = .ref a → ∃ ob, s.heap.get? a = some ob ∧ ob.dict = none := by
  cases x with
  | str z =>
    obtain ⟨t, rfl⟩ := r
    cases (show T = "str" from ty)
    exact ⟨typeIs_str s z t, fun _ e => nomatch e⟩
  | int i =>
    obtain ⟨t, rfl⟩ := r
    cases (show T = "int" from ty)
    exact ⟨typeIs_int s i t, fun _ e => nomatch e⟩
  | ref p =>
    cases r
    rcases ty with ⟨rfl, xs, hq⟩ | ⟨rfl, o, hk, hc, hd⟩ | ⟨rfl, hk⟩ | ⟨rfl, S, n, hk⟩
    · obtain ⟨its, _, pl, _⟩ := I.list hq
      refine ⟨pl.isList.typeIs, fun a e => ?_⟩
      cases e
      obtain ⟨o, n, e, c, hd, _⟩ := pl
      exact ⟨o, e, hd⟩
    · refine ⟨⟨o, I.kIn p o hk, hc⟩, fun a e => ?_⟩
      cases e
      exact ⟨o, I.kIn _ o hk, hd⟩
    · have z : ∃ o, s.heap.get? p = some o ∧ o.ExactDict := by
        rcases hk with ⟨kvs, hk⟩ | ⟨kvs, hk⟩
        · obtain ⟨_, _, _, _, o, _, _, e, ex, _⟩ := I.hok p _ hk
          exact ⟨o, e, ex⟩
        · obtain ⟨_, _, _, _, o, _, _, e, ex, _⟩ := I.hok p _ hk
          exact ⟨o, e, ex⟩
      obtain ⟨o, e, ex⟩ := z
      refine ⟨⟨o, e, ex.1⟩, fun a e2 => ?_⟩
      cases e2
      exact ⟨o, e, ex.2.1⟩
    · obtain ⟨o, _, _, _, e, ex, _⟩ := I.hok p _ hk
      refine ⟨⟨o, e, ex.1⟩, fun a e2 => ?_⟩
      cases e2
      exact ⟨o, e, ex.2.1⟩
  | _ => exact False.elim ty
noncomputable def tBM0 (K : PySem.W.Frag) (T : String) (r : V → List V → Hp → VK → Prop) (to : TE) : TE := fun σ H Q => to σ H fun x H1 => tyV K T x H1 ∧ r x [] H1 Q
noncomputable def tBM (K : PySem.W.Frag) (T : String) (r : V → List V → Hp → VK → Prop) (to : TE) (t : TA) : TE := fun σ H Q => to σ H fun x H1 => tyV K T x H1 ∧ t σ H1 fun xs H2 => r x xs H2 Q
variable {o e : Expr} {es : List Expr} {to : TE} {t : TA} {name : Str} {apos cpos : Pos} {T id : String} {r : V → List V → Hp → VK → Prop}
theorem pe_bm0 (pa : PlainAttrs T) (slot : Slot T name id) (hty : typeOf (.builtin id) = pure (.type "method_descriptor")) (hm : MtR X id r) (ho : PE X o to)
    (hbase : attributeBase o name X.env (eval o X.env) = eval o X.env := by rfl) (hline : (apos.endLine == cpos.line) = true := by rfl) : PE X (.Call (.Attribute o name apos) [] [] cpos) (tBM0 X.K T r to) := by
  intro pins s σ H Q I h
  refine wpAny_Call_method0_late hbase hline (thn (ho pins s σ H _ I h) fun v s1 ⟨x, H1, I1, r1, ty, q1⟩ => ?_)
  obtain ⟨h1, h2⟩ := tyV_is I1 r1 ty
  exact ⟨T, id, pa, slot, hty, h1, h2, Calls.callWith_builtin rfl (PySem.evalArgs_none (hm pins s1 σ H1 x [] v [] Q I1 r1 .nil q1))⟩
theorem pe_bm (pa : PlainAttrs T) (slot : Slot T name id) (hty : typeOf (.builtin id) = pure (.type "method_descriptor")) (hm : MtR X id r) (ho : PE X o to) (ha : PA X (e :: es) t)
    (hbase : attributeBase o name X.env (eval o X.env) = eval o X.env := by rfl)
    (hfew : ((backTo cpos (starEach (e :: es) X.env)).all (fun x => !x.1) && (backToKw cpos (keywordEach [] X.env)).all (fun x => x.1.isSome)
      && decide ((e :: es).length + ([] : List Keyword).length + (if ([] : List Keyword).isEmpty then 0 else 1) < 30)) = true := by rfl)
    (hline : (apos.endLine == cpos.line) = true := by rfl) (hs : starEach (e :: es) X.env = (false, eval e X.env) :: starEach es X.env := by rfl) (hplain : (backTo cpos (starEach es X.env)).any (·.1) = false := by rfl) :
    PE X (.Call (.Attribute o name apos) (e :: es) [] cpos) (tBM X.K T r to t) := by
  intro pins s σ H Q I h
  refine wpAny_Call_method_late hbase hfew hline rfl (thn (ho pins s σ H _ I h) fun v s1 ⟨x, H1, I1, r1, ty, q1⟩ => ?_)
  obtain ⟨h1, h2⟩ := tyV_is I1 r1 ty
  refine ⟨T, id, pa, slot, hty, h1, h2, ?_⟩
  have hA := ha cpos pins s1 σ H1 _ I1 q1
  rw [hs] at hA ⊢
  refine Calls.callWith_builtin (by show (false || (backTo cpos (starEach es X.env)).any (·.1)) = false; rw [hplain] <;> rfl) (Calls.evalArgs_plain ?_)
  exact thn hA fun us s2 ⟨vs, H2, I2, r2, q2⟩ => hm pins s2 σ H2 x vs v us Q I2 r1 r2 q2
/- xs.append(e), list.index on a module's tuple .. are MtR facts of 06m -/
end
end L2

namespace L2
open PySem PySem.Spec PyProof.Rows

noncomputable def MtM (X : Cx) (id : String) (r : V → List V → Hp → VK → Prop) : Prop :=
  ∀ (pins : List (Addr × Obj)) (s : Shared) (σ : St) (H : Hp) (x : V) (xs : List V) (v : Value) (us : List Value) (Q : VK), Inv X pins σ H s → RelV x v → Vals xs us → r x xs H Q →
    wpAny (model X.prog X.w) X.A (call (.builtin id) (v :: us)) (EP X pins σ Q) X.xe s

/-! ### lists of values -/
theorem Vals.one {x : V} {us : List Value} (h : Vals [x] us) : ∃ u, us = [u] ∧ RelV x u := by
  cases h with
  | cons r t => cases t; exact ⟨_, rfl, r⟩
theorem Vals.two {x y : V} {us : List Value} (h : Vals [x, y] us) : ∃ u v, us = [u, v] ∧ RelV x u ∧ RelV y v := by
  cases h with
  | cons r t => cases t with
    | cons q z => cases z; exact ⟨_, _, rfl, r, q⟩
theorem Vals.zero : ∀ {us : List Value}, Vals [] us → us = []
  | _, .nil => rfl
theorem Vals.dropLast {xs : List V} {us : List Value} (h : Vals xs us) : Vals xs.dropLast us.dropLast := by
  induction h with
  | nil => exact .nil
  | cons r t ih =>
    cases t with
    | nil => exact .nil
    | cons q t' => exact .cons r ih
theorem Vals.eraseIdx : ∀ {xs : List V} {us : List Value} (i : Nat), Vals xs us → Vals (xs.eraseIdx i) (us.eraseIdx i)
  | _, _, _, .nil => .nil
  | _, _, 0, .cons _ t => t
  | _, _, i + 1, .cons r t => .cons r (Vals.eraseIdx i t)
theorem erase_last {α : Type} (l : List α) : l.eraseIdx (l.length - 1) = l.dropLast := by
  induction l with
  | nil => rfl
  | cons a r ih =>
    cases r with
    | nil => rfl
    | cons b r =>
      have e : (a :: b :: r).length - 1 = ((b :: r).length - 1) + 1 := by
        have h1 : (a :: b :: r).length = r.length + 2 := rfl
        have h2 : (b :: r).length = r.length + 1 := rfl
        omega
      rw [e, List.eraseIdx_cons_succ, ih]
      all_goals rfl
section
variable {X : Cx} {pins : List (Addr × Obj)} {σ : St} {H : Hp} {s : Shared} {l b : Addr} {xs ys zs : List V}

/-! ### the two steps: a tracked list is rewritten, a new list is laid -/
theorem Inv.lset {its its' : List Value} {n : Nat} {f : Array Value → Array Value} {t' : Nat} (I : Inv X pins σ H s) (hH : H l = some (.lst xs))
    (e : s.heap.get? l = some { cls := .type "list", data := .seq its.toArray n }) (hf : f its.toArray = its'.toArray) (hv : Vals ys its') (hz : ys.length ≤ sizeLine) :
    Inv X pins σ (upd H l (.lst ys)) { s with heap := s.heap.update l (Obj.mapSeq f), toks := t' } := by
  have q := PySem.IsL.update e f
  rw [hf] at q
  refine I.write (x := l) (e := l) (by rw [hH]; exact trivial) (.inl rfl) (fun b' u hb hu => (Heap.get?_update_other s.heap (Obj.mapSeq f) (Ne.symm hb)).trans hu) ⟨_, q⟩ ?_
  exact ⟨hz, its', _, hv, q⟩
theorem Inv.lnew {its : List Value} {t' : Nat} (I : Inv X pins σ H s) (hv : Vals ys its) (hz : ys.length ≤ sizeLine) :
    Inv X pins σ (upd H s.heap.objs.size (.lst ys)) { s with heap := s.heap.push { cls := .type "list", data := .seq its.toArray }, toks := t' } :=
  I.laid (fun _ _ q => Heap.get?_push_of_some _ q) (Nat.le_refl _) ⟨hz, its, 0, hv, Heap.get?_push_size _ rfl⟩
theorem Inv.fresh (I : Inv X pins σ H s) : H s.heap.objs.size = none := I.hok.fresh (Nat.le_refl _)
theorem Inv.lstM (I : Inv X pins σ H s) (hH : H l = some (.lst xs)) : xs.length ≤ sizeLine ∧ ∃ (its : List Value) (n : Nat), Vals xs its ∧ xs.length = its.length ∧ s.heap.get? l = some { cls := .type "list", data := .seq its.toArray n } := by
  obtain ⟨z, its, n, r, e⟩ := I.hok l _ hH
  exact ⟨z, its, n, r, r.length, e⟩

theorem notLongL {n : Nat} (h : n ≤ sizeLine) : Builtin.List.listTooLong n = false := by
  unfold Builtin.List.listTooLong
  exact decide_eq_false (by omega)
end

section
variable {X : Cx}

/-! ### methods -/
noncomputable def rAppend : V → List V → Hp → VK → Prop := fun x vs H Q => ∃ l xs y, x = .ref l ∧ vs = [y] ∧ H l = some (.lst xs) ∧ xs.length < sizeLine ∧ Q .non (upd H l (.lst (xs ++ [y])))
theorem mt_append : MtM X "list.append" rAppend := by
  intro pins s σ H x vs v us Q I rx rv h
  obtain ⟨l, xs, y, rfl, rfl, hH, hz, q⟩ := h
  cases rx
  obtain ⟨u, rfl, ru⟩ := rv.one
  obtain ⟨z, its, n, r, hl, e⟩ := I.lstM hH
  refine call_meets F.slot_list_append ⟨_, e, rfl⟩ F.entry_list_append (F.args_list_append_2 _ _) (PySem.list_append l its.toArray n u (by rw [List.size_toArray]; omega)) ⟨e, ?_⟩
  refine ⟨.non, _, I.lset (its' := its ++ [u]) hH e (by simp) (r.append (.cons ru .nil)) ?_, rfl, q⟩
  rw [List.length_append, List.length_singleton]
  omega

noncomputable def rExtend : V → List V → Hp → VK → Prop := fun x vs H Q => ∃ l b xs zs, x = .ref l ∧ vs = [.ref b] ∧ H l = some (.lst xs) ∧ H b = some (.lst zs) ∧ xs.length + zs.length ≤ sizeLine ∧ Q .non (upd H l (.lst (xs ++ zs)))
theorem mt_extend : MtM X "list.extend" rExtend := by
  intro pins s σ H x vs v us Q I rx rv h
  obtain ⟨l, b, xs, zs, rfl, rfl, hH, hB, hz, q⟩ := h
  cases rx
  obtain ⟨u, rfl, ru⟩ := rv.one
  cases ru
  obtain ⟨z, its, n, r, hl, e⟩ := I.lstM hH
  obtain ⟨z2, its2, n2, r2, hl2, e2⟩ := I.lstM hB
  have hsz : its.toArray.size + its2.toArray.size ≤ sizeLine := by rw [List.size_toArray, List.size_toArray]; omega
  have hlong : ¬ (!its.toArray.isEmpty && Builtin.List.listTooLong (its.toArray.size + its2.toArray.size)) = true := by
    rw [notLongL hsz, Bool.and_false]
    exact Bool.false_ne_true
  refine call_meets F.slot_list_extend ⟨_, e, rfl⟩ F.entry_list_extend (F.args_list_extend_2 _ _)
    (AutoSeq1.list_extend_list_list_0 l its.toArray n b its2.toArray n2 hlong (by rw [List.size_toArray]; omega) (by omega)) ⟨e, e2, ?_⟩
  refine ⟨.non, _, I.lset (its' := its ++ its2) hH e (by simp) (r.append r2) ?_, rfl, q⟩
  rw [List.length_append]
  omega

noncomputable def rPop : V → List V → Hp → VK → Prop := fun x vs H Q => ∃ l xs y, x = .ref l ∧ vs = [] ∧ H l = some (.lst xs) ∧ xs[xs.length - 1]? = some y ∧ Q y (upd H l (.lst xs.dropLast))
theorem mt_pop : MtM X "list.pop" rPop := by
  intro pins s σ H x vs v us Q I rx rv h
  obtain ⟨l, xs, y, rfl, rfl, hH, hy, q⟩ := h
  cases rx
  have hus := rv.zero
  subst hus
  obtain ⟨z, its, n, r, hl, e⟩ := I.lstM hH
  obtain ⟨u, hu, ru⟩ := r.get hy
  have hy' : its.toArray[its.toArray.size - 1]? = some u := by
    show its.toArray[its.length - 1]? = some u
    rw [← Array.getElem?_toList, ← hl]
    exact hu
  refine call_meets F.slot_list_pop ⟨_, e, rfl⟩ F.entry_list_pop (F.args_list_pop_1 _) (MeetsSeq.list_pop_last l its.toArray n u hy' (by rw [List.size_toArray]; omega)) ⟨e, ?_⟩
  refine ⟨y, _, I.lset (its' := its.dropLast) hH e ?_ r.dropLast ?_, ru, q⟩
  · show its.toArray.eraseIdxIfInBounds (its.toArray.size - 1) = its.dropLast.toArray
    rw [List.size_toArray, List.eraseIdxIfInBounds_toArray, erase_last]
  · rw [List.length_dropLast]
    omega

/-! ### list + list, list += list, list * int -/
noncomputable def rCat : R2 := fun x y H Q => ∃ l b xs zs, x = .ref l ∧ y = .ref b ∧ H l = some (.lst xs) ∧ H b = some (.lst zs) ∧ xs.length + zs.length ≤ sizeLine ∧ ∀ p, H p = none → Q (.ref p) (upd H p (.lst (xs ++ zs)))
theorem op_cat : OpR X (binaryOp .Add) rCat := by
  intro pins s σ H x y v u Q I rx ry h
  obtain ⟨l, b, xs, zs, rfl, rfl, hH, hB, hz, q⟩ := h
  cases rx
  cases ry
  obtain ⟨z, its, n, r, hl, e⟩ := I.lstM hH
  obtain ⟨z2, its2, n2, r2, hl2, e2⟩ := I.lstM hB
  refine PySem.P.add_list e e2 ?_ (by rw [List.size_toArray, List.size_toArray]; omega)
  have ea : its.toArray ++ its2.toArray = (its ++ its2).toArray := by simp
  rw [ea]
  exact ⟨.ref _, _, I.lnew (t' := s.toks) (r.append r2) (by rw [List.length_append]; omega), rfl, q _ I.fresh⟩
/-! ### del xs[i] -/
end

/-! ### xs[a:b] = ys -/
section
variable {prog : Program} {w : World} {A : Around} {E : Value → Shared → Prop} {s : Shared}
end

section
variable {X : Cx}
end
end L2

namespace Att
open PySem PySem.W PySem.Calls PyProof.Rows

/-! ### the script -/
theorem ints_of_wellAll {P : Params} {h : Heap} : ∀ (ns : List Int) (vs : List Value), WellAll P h vs (ns.map WData.int) → IntsAre vs ns := by
  intro ns
  induction ns with
  | nil =>
    intro vs w
    rw [List.map_nil] at w
    cases w
    exact .nil
  | cons n ns ih =>
    intro vs w
    rw [List.map_cons] at w
    cases w with
    | cons a b =>
      cases a
      exact .cons _ _ (ih _ b)

theorem script_of {l : OpenLaw} {n : Nat} (hn : l.most = some n) {P : Params} {h : Heap} {args : List WData} {vals : List Value}
    (hpre : l.row.toRowW.claim.pre args = true) (hwl : WellAll P h vals args) :
    ∃ a vs ns, vals = [Value.ref a] ∧ args = [WData.list (ns.map WData.int)] ∧ h.get? a = some { cls := .type "list", data := .seq vs.toArray } ∧ IntsAre vs ns ∧ ns.length ≤ n := by
  have hsh : WShape.hasAll [] args [.list .int] = true := (pre_splitW hpre).1
  have hc : l.pre.holds [] { args := args } = true := (pre_splitW hpre).2
  obtain ⟨d, r, rfl, h1, h2⟩ := hasAllW_cons hsh
  obtain rfl := hasAllW_nil h2
  obtain ⟨xs, rfl, h3⟩ := hasW_list h1
  obtain ⟨ns, rfl⟩ := items_int h3
  have hlen : ns.length ≤ n := by
    unfold OpenLaw.pre at hc
    have h4 : (WTm.not (.lt (.lit (.int (n : Int))) (.len (.arg 0)))).holds [] { args := [.list (ns.map .int)] } = true := by
      have h4 := (holds_andW hc).1
      rw [hn] at h4
      exact h4
    have h5 := condW_of h4 (w_not (w_lt w_lit (w_len_list (w_arg rfl))))
    rw [List.length_map] at h5
    refine Nat.le_of_not_lt fun q => ?_
    have q' : (n : Int) < ((ns.length : Nat) : Int) := by omega
    first
      | (rw [decide_eq_true q'] at h5; exact absurd h5 (by decide))
      | (simp at h5; omega)
  cases hwl with
  | cons w1 w2 =>
    cases w2
    cases w1 with
    | list ho hall => exact ⟨_, _, ns, rfl, rfl, ho, ints_of_wellAll ns _ hall, hlen⟩

theorem post_true (l : OpenLaw) (args : List WData) : l.row.toRowW.claim.post args (.bool true) args = true :=
  postW_of (r := l.row.toRowW) (X := (true == true))
    (show WShape.has [] (.bool true) .bool = true by first | rfl | decide | simp [WShape.has, WShape.arms, WShape.armsAll])
    (show (WTm.eq .res (.lit (.bool true))).value [] { args := args, res := some (.bool true), after := args } = some (.bool (true == true)) from w_eq_bool (w_res rfl) w_lit) rfl

/-! ### the attachment: holds_open's last premise (the goal 'hc' behind k_head) from a wpAny of the law's body -/
theorem attach_call {l : OpenLaw} {n : Nat} {q : Program} {loose : List Str} {XP : (Str → Option Value) → Heap → Prop} {YP : World → Heap → Prop} {d : DefRec}
    (hn : l.most = some n) (hdf : d.params.defaults = [])
    (call : ∀ (w : World) (s₀ s₁ : Shared) (mg mb : Str → Option Value) (fa : Addr) (o : Obj) (pm cd doc : Value) (a : Addr) (vs : List Value) (ns : List Int),
      Ground q loose [] XP w s₀ mg mb s₁.heap → YP w s₁.heap →
      s₁.heap.get? fa = some o → o.data = .func (docDef d.name d.params d.body d.scope pm cd doc) → s₁.heap.CodeRec cd d.name → mg d.name = some (.ref fa) →
      s₁.heap.get? a = some { cls := .type "list", data := .seq vs.toArray } → IntsAre vs ns → ns.length ≤ n → s₁.gens = #[] →
      codeAny (model l.prog w) callerA (.call (.ref fa) ⟨[.ref a], []⟩) (fun r s' => r = .ok (.ret (.bool true)) ∧ OldK s₁.heap s'.heap ∧ s'.os = s₁.os ∧ AllBare s'.gens) s₁) :
    WalkO q loose XP YP l.row.toRowW d [] (fun f vs => PySem.call f vs) := by
  intro w s₀ s₁ mg mb G Y fa o pm cd doc dV kV ho hd hcd hD hmg hg args vals as hpre hlay hrd hwl hlo
  obtain rfl : dV = .none := Dflts.none hD hdf
  obtain rfl : kV = .none := Dflts.noKw hD
  obtain ⟨a, vs, ns, rfl, rfl, hobj, hints, hlen⟩ := script_of hn hpre hwl
  refine enter_call (codeAny_mono (call w s₀ s₁ mg mb fa o pm cd doc a vs ns G Y ho (fd_plain hd) hcd hmg hobj hints hlen hg) fun r s' hq => ?_)
  obtain ⟨rfl, h2, h3, h4⟩ := hq
  exact ⟨.inl ⟨.bool true, .bool true, [], rfl, fun _ => rfl, .bool true, post_true l _, fun _ => ⟨List.Pairwise.nil, fun _ hm => (nomatch hm)⟩⟩, h2, h3, h4⟩

/-! ### rules over ANY heap (no ledger) from facts about the written part K: the library's own take a ledger (News) for what they write -/
section
variable {prog : Program} {w : World} {A : Around} {E : Value → Shared → Prop} {s : Shared} {K : Frag}

/-! the whole heap as the ledger: makes every rule that writes through a ledger a rule over any heap -/
noncomputable def ledger (h : Heap) (L d : Addr) : List (Addr × Obj) := (List.range h.objs.size).filterMap fun a => if a = L ∨ a = d then none else (h.get? a).map fun o => (a, o)
end
end Att

namespace L2
open PySem PySem.Spec PyProof.Rows

theorem vals_ints : ∀ {vs : List Value} {ns : List Int}, IntsAre vs ns → Vals (ns.map V.int) vs
  | _, _, .nil => .nil
  | _, _, .cons n t h => .cons ⟨t, rfl⟩ (vals_ints h)

noncomputable def Only (H : Hp) : Prop := ∀ b, H b = none ∨ ∃ o xs, H b = some (.frz o (.lst xs))

theorem law_call {P : Program} {w : World} {K : PySem.W.Frag} {mg mb : Str → Option Value} {CX : CXT} {k : Nat} {fa a : Addr} {fd : FuncData} {x : Str} {sp : Sp} {s₁ : Shared} {vs : List Value} {ns : List Int}
    (KX : K.In s₁.heap) (hns : s₁.heap.Ns mainGlobals mg) (hb : s₁.heap.Ns builtinsNs mb) (hbb : ∀ x : Str, x ≠ "__name__" → mb x = bootBuiltins x) (hlim : s₁.heap.NoLimit) (hg : s₁.gens = #[])
    (ha : s₁.heap.get? a = some { cls := .type "list", data := .seq vs.toArray }) (hi : IntsAre vs ns) (hl : ns.length ≤ sizeLine) (hr : Room k callerA)
    (F : ∀ base : Heap, K.In base → base.Ns mainGlobals mg → FnOk P w K mg base CX k fa fd [x] sp) (hbind : ∀ (s : Shared) (u : Value), BindsTo s fd ⟨[u], []⟩ [(x, u)])
    (hsp : ∀ H : Hp, Only H → SqL K H a (ns.map V.int) → sp [.ref a] H (fun v _ => v = .bl true) fun _ _ _ => False)
    (hCX : ∀ H e s', CX [] H s₁ (fun _ _ _ => False) e s' → False) :
    codeAny (model P w) callerA (.call (.ref fa) ⟨[.ref a], []⟩) (fun r s' => r = .ok (.ret (.bool true)) ∧ OldK s₁.heap s'.heap ∧ s'.os = s₁.os ∧ AllBare s'.gens) s₁ := by
  have rv := vals_ints hi
  have lenV := hi.length
  -- from an abstract heap in which nothing but the script may be tracked
  have core : ∀ H : Hp, Only H → SqL K H a (ns.map V.int) → HOk P w H s₁.heap → (∀ b, H b ≠ none → b = a) → (H a ≠ none → K.lookup a = none) →
      codeAny (model P w) callerA (.call (.ref fa) ⟨[.ref a], []⟩) (fun r s' => r = .ok (.ret (.bool true)) ∧ OldK s₁.heap s'.heap ∧ s'.os = s₁.os ∧ AllBare s'.gens) s₁ := by
    intro H hO hS hok hA hK
    have base_of : ∀ {b : Addr} {o : Obj}, s₁.heap.get? b = some o → H b = none → (hidT s₁.heap H).get? b = some o := fun e n => hidT_get e n
    have noA : ∀ {b : Addr} {o : Obj} {es : Array DictEntry} {ep : Nat}, s₁.heap.get? b = some o → o.data = .dict es ep → H b = none := fun {b o es ep} e d => by
      cases q : H b with
      | none => rfl
      | some u =>
        have e' : b = a := hA b (by rw [q]; simp)
        subst e'
        rw [ha] at e; cases e
        have d' : Data.seq vs.toArray _ = Data.dict es ep := d
        cases d'
    have nsK : ∀ {b : Addr} {m : Str → Option Value}, s₁.heap.Ns b m → (hidT s₁.heap H).Ns b m := fun {b m} ⟨o, es, ep, e, d, r⟩ => ⟨o, es, ep, base_of e (noA e d), d, r⟩
    have hKb : K.In (hidT s₁.heap H) := fun b o e => base_of (KX b o e) (by
      cases q : H b with
      | none => rfl
      | some u =>
        have e' : b = a := hA b (by rw [q]; simp)
        subst e'
        rw [hK (by rw [q]; simp)] at e; cases e)
    have hM : Mod K mg (hidT s₁.heap H) := ⟨hKb, nsK hns, ⟨mb, nsK hb, hbb⟩, let ⟨mc, h1, h2⟩ := hlim; ⟨mc, nsK h1, h2⟩⟩
    have e0 : Env0 P w K mg (hidT s₁.heap H) callerA [] s₁ H := ⟨rfl, hM, fun b o e => of_hidT e, Nat.le_of_eq (hidT_size _ _), trivial, fun b hb => absurd (show b ∈ ([] : List Addr) from hb) (by simp), hok, .of_eq hg⟩
    refine codeAny_mono ((F _ hKb (nsK hns)).run callerA [] s₁ H ⟨[.ref a], []⟩ [.ref a] [.ref a] _ _ hr e0 (hbind s₁ (.ref a)) (.cons rfl .nil) (hsp H hO hS)) fun r s' h => ?_
    cases r with
    | error e => exact (hCX H e s' h).elim
    | ok fl =>
      cases fl with
      | next => exact False.elim h
      | brk => exact False.elim h
      | cont => exact False.elim h
      | ret u =>
        obtain ⟨v, H', os, bare, un, hok', r', q⟩ := h
        have q' : v = .bl true := q
        subst q'
        obtain rfl : u = Value.bool true := r'
        refine ⟨rfl, OldK.of_keep fun b o e => ?_, os, bare⟩
        cases q : H b with
        | none => exact un.keep b o e q (by intro z; exact absurd (show b ∈ ([] : List Addr) from z) (by simp)) (by simp)
        | some u =>
          rcases hO b with z | ⟨ob, xs, z⟩
          · rw [q] at z; cases z
          · have z2 := un.frzs b ob _ z
            obtain ⟨e1, _⟩ := hok b _ z
            obtain ⟨e2, _⟩ := hok' b _ z2
            rw [e] at e1; cases e1
            exact e2
  cases hk : K.lookup a with
  | some o =>
    -- the script is one of the module's own objects
    have e := KX a o hk
    rw [ha] at e
    cases e
    refine core (fun _ => none) (fun _ => .inl rfl) (.inr ⟨_, vs.toArray, _, hk, rfl, rfl, rfl, by rw [List.size_toArray, lenV]; exact hl, by simpa using rv⟩) (fun b u z => by have z' : (none : Option HO) = some u := z; cases z') (fun b z => absurd rfl z) fun z => absurd rfl z
  | none =>
    refine core (fun b => if b = a then some (.frz { cls := .type "list", data := .seq vs.toArray } (.lst (ns.map V.int))) else none) (fun b => ?_) (.inl (.inr ⟨{ cls := .type "list", data := .seq vs.toArray }, if_pos rfl⟩)) (fun b u z => ?_) (fun b z => ?_) fun _ => hk
    · by_cases hb : b = a
      · exact .inr ⟨_, _, if_pos hb⟩
      · exact .inl (if_neg hb)
    · by_cases hb : b = a
      · have z' := (if_pos hb).symm.trans z
        cases z'
        subst hb
        exact ⟨ha, by rw [List.length_map]; exact hl, vs, _, rv, ha⟩
      · have z' := (if_neg hb).symm.trans z
        cases z'
    · by_cases hb : b = a
      · exact hb
      · exact absurd (if_neg hb) z
end L2

namespace L2
open PySem PySem.Spec PyProof.Rows

noncomputable abbrev KOf {K : PySem.W.Frag} {h : Heap} (_ : K.In h) : PySem.W.Frag := K

theorem walk_of {l : PySem.W.OpenLaw} {n k : Nat} {q : Program} {loose : List Str} {XP : (Str → Option Value) → Heap → Prop} {YP : World → Heap → Prop} {d : DefRec} {K : Params → PySem.W.Frag} {CX : World → CXT} {sp : World → Sp} {x : Str}
    (hn : l.most = some n) (hn2 : n ≤ sizeLine) (hdf : d.params.defaults = []) (hr : Room k callerA)
    (hY : ∀ (w : World) (h : Heap), YP w h → (K w.params).In h)
    (F : ∀ (w : World) (mg : Str → Option Value) (fa : Addr) (h : Heap), (K w.params).In h → h.Ns mainGlobals mg → mg d.name = some (.ref fa) →
      ∃ fd : FuncData, (∀ (s : Shared) (u : Value), BindsTo s fd ⟨[u], []⟩ [(x, u)]) ∧
        ∀ base : Heap, (K w.params).In base → base.Ns mainGlobals mg → FnOk l.prog w (K w.params) mg base (CX w) k fa fd [x] (sp w))
    (hsp : ∀ (w : World) (H : Hp) (a : Addr) (ns : List Int), ns.length ≤ n → Only H → SqL (K w.params) H a (ns.map V.int) → sp w [.ref a] H (fun v _ => v = .bl true) fun _ _ _ => False)
    (hCX : ∀ (w : World) (H : Hp) (s : Shared) (e : Value) (s' : Shared), CX w [] H s (fun _ _ _ => False) e s' → False) :
    PySem.W.WalkO q loose XP YP l.row.toRowW d [] (fun f vs => PySem.call f vs) := by
  refine Att.attach_call hn hdf fun w s₀ s₁ mg mb fa o pm cd doc a vs ns G Y ho hd hcd hmg hobj hints hlen hg => ?_
  have KX := hY w _ Y
  obtain ⟨fd, hb, hF⟩ := F w mg fa _ KX G.T.g hmg
  exact law_call KX G.T.g G.T.b G.T.builtins G.T.nolimit hg hobj hints (Nat.le_trans hlen hn2) hr hF hb (fun H hO hS => hsp w H a ns hlen hO hS) fun H e s' => hCX w H s₁ e s'
end L2

/- THE LAST THEOREM (shape; LID, My.* are yours):
   My.Adr: a structure of the addresses that your layer names (classes, functions); My.Txt K t: a structure (Prop) of the equations over K;
   My.txt_mk : {K} {implicit addresses ..} (e1 : nsIn K mainGlobals "law" = some (some (.ref f))) (e2 : K.lookup f = some ⟨oc, od, .func (fnOf "law" "law" params body scope dV kV doc pm an cdv ct), sl⟩) (e3 : codeIn K cdv "law" = true) .. : ∃ t, My.Txt K t

set_option maxRecDepth 100000 in
set_option maxHeartbeats 0 in
theorem PySem.Challenge.cw_LID_holds : PySem.Challenge.rw_LID.Holds := by
  w_on; o_law; k_head; (case hw => w_witness2)
  k_fill
  refine L2.walk_of (l := PySem.Challenge.rw_LID) (n := 63) (k := 40) (x := "script") (CX := fun w => ..) (sp := fun _ => My.sp_law) rfl (by decide) rfl ⟨rfl, by decide, by decide⟩ (fun w h Y => PySem.W.kIn_of Y) ?F ?S ?C
  case F =>
    intro w mg fa h KX G hmg
    have T : ∃ t, My.Txt (L2.KOf KX) t := by
      dsimp only [L2.KOf]                          -- K must stand as «<heap const> w.params» for k_is
      refine' My.txt_mk ?e1 ?e2 ?e3 ..
      (case e1 => PySem.W.k_is)                    -- in the order: a name -> its address -> its object -> its parts
      (case e2 => PySem.W.k_is)
      ..
    obtain ⟨t, T⟩ := T
    have e0 := hmg.symm.trans (PySem.W.mg_of KX G T.law)
    cases e0                                       -- fa is the law's own address
    exact ⟨_, fun s u => .of_eq rfl, fun base kb nb => My.law_fn T kb nb⟩     -- if «.of_eq rfl» comes too early: refine' ⟨_, ?b, fun base kb nb => My.law_fn T kb nb⟩; exact fun s u => .of_eq rfl
  case S => exact fun w H a ns hl hO hS => ..
  case C => exact ..
(the tactic k_is has no namespace: write k_is) -/

/-! SHORT WORDS over the layer: a def of the text, its body, what a loop and a test want. -/
namespace L2
open PySem PySem.Spec PyProof.Rows

/-! ### the text by places -/
noncomputable def defArgs (s : Stmt) : Arguments := match s with
  | .FunctionDef _ a _ _ _ _ _ _ _ _ => a
  | _ => { posonlyargs := [], args := [], vararg := none, kwonlyargs := [], kw_defaults := [], kwarg := none, defaults := [] }
noncomputable def defBody (s : Stmt) : List Stmt := match s with
  | .FunctionDef _ _ b _ _ _ _ _ _ _ => b
  | _ => []
noncomputable def defScope (s : Stmt) : Scope := match s with
  | .FunctionDef _ _ _ _ _ _ sc _ _ _ => sc
  | _ => { kind := .function, names := [], isGenerator := false, isCoroutine := false }

/-! ### no exception leaves a def -/
noncomputable abbrev CX0 : CXT := fun _ _ _ _ _ _ => False
noncomputable abbrev E0 : XK := fun _ _ _ => False
theorem pass0 {X : Cx} : Passes CX0 X E0 := fun _ _ _ _ _ _ _ h => h.elim

/-! ### a def (or method) of the text as it stands behind the top -/
structure Fun (K : PySem.W.Frag) (x qual : Str) (st : Stmt) (f : Addr) (fd : FuncData) : Prop where
  ex : ∃ (oc : Value) (od : Option Addr) (kV doc pm : Value) (an : Option Addr) (cdv ct : Value) (osl : Array (Option Value)),
    fd = PySem.W.fnOf x qual (defArgs st) (defBody st) (defScope st) .none kV doc pm an cdv ct ∧ K.lookup f = some ⟨oc, od, .func fd, osl⟩ ∧ PySem.W.codeIn K cdv qual = true
  kp : PySem.W.keepIn K (.ref f) = true
section
variable {P : Program} {w : World} {K : PySem.W.Frag} {mg : Str → Option Value} {base : Heap}
theorem Fun.ok {x qual : Str} {st : Stmt} {f : Addr} {fd : FuncData} {N ps : List Str} {k : Nat} {sp : Sp} (F : Fun K x qual st f fd) (S : FnScope N ps (defScope st)) (len : ∀ vs H Q E, sp vs H Q E → vs.length = ps.length)
    (hbody : ∀ (cdv : Value) (A : Around) (outer : List Env) (s : Shared) (H : Hp) (vs : List V) (Q : VK) (E : XK), Room k (A.deeper (envOfC qual (defScope st) s.heap.objs.size f cdv)) → sp vs H Q E →
      ∃ t, PSs (cxOf CX0 P w K mg base N qual (defScope st) f cdv A outer s H E).nox (defBody st) t ∧ t { nx := fun _ H' => Q .non H', rt := Q } (start N vs) H) : FnOk P w K mg base CX0 (k + 1) f fd ps sp := by
  obtain ⟨oc, od, kV, doc, pm, an, cdv, ct, osl, rfl, lk, hcd⟩ := F.ex
  refine fn_of lk hcd S len fun A outer s H vs Q E hr hsp => ?_
  obtain ⟨t, h, q⟩ := hbody cdv A outer s H vs Q E hr hsp
  exact ⟨t, h.nox, q⟩
theorem Fun.binds {x qual : Str} {st : Stmt} {f : Addr} {fd : FuncData} {ps : List Str} (F : Fun K x qual st f fd)
    (h : ∀ (kV doc pm : Value) (an : Option Addr) (cdv ct : Value) (us : List Value), us.length = ps.length → bindArgs (PySem.W.fnOf x qual (defArgs st) (defBody st) (defScope st) .none kV doc pm an cdv ct) ⟨us, []⟩ = pure (ps.zip us)) : Binds K fd ps [] := by
  obtain ⟨oc, od, kV, doc, pm, an, cdv, ct, osl, rfl, lk, hcd⟩ := F.ex
  exact .all (h kV doc pm an cdv ct)
theorem fun_mk {x qual : Str} {st : Stmt} {f : Addr} {oc : Value} {od an : Option Addr} {osl : Array (Option Value)} {kV doc pm cdv ct : Value} (l : K.lookup f = some ⟨oc, od, .func (PySem.W.fnOf x qual (defArgs st) (defBody st) (defScope st) .none kV doc pm an cdv ct), osl⟩)
    (c : PySem.W.codeIn K cdv qual = true) (k : PySem.W.keepIn K (.ref f) = true) : Fun K x qual st f (PySem.W.fnOf x qual (defArgs st) (defBody st) (defScope st) .none kV doc pm an cdv ct) := ⟨⟨oc, od, kV, doc, pm, an, cdv, ct, osl, rfl, l, c⟩, k⟩
end
theorem small1000 {n : Nat} (h : n ≤ 1000) : n < sizeLine := Nat.lt_of_le_of_lt h (by decide)

/-! ### expressions in short: the name that stands in the i-th slot -/
section
variable {X : Cx}
theorem pv (i : Nat) {x : Str} {pos : Pos} (hN : X.N[i]? = some x := by rfl) (hv : Vis X.env.scope x := by first | exact Or.inl rfl | exact Or.inr (Or.inl rfl) | exact Or.inr (Or.inr rfl)) (hd : (x == ("__debug__" : Str)) = false := by decide)
    (hcd : (x == ("__classdict__" : Str)) = false := by decide) : PE X (.Name x pos) (tVar i) := pe_var hN hv hd hcd
end

/-! ### tests -/
theorem iteF {A B : Prop} (h : B) : if false = true then A else B := by
  rw [if_neg Bool.false_ne_true]
  exact h
theorem iteT {A B : Prop} (h : A) : if true = true then A else B := by
  rw [if_pos rfl]
  exact h
/-! ### heaps -/
noncomputable def Same (H H' : Hp) : Prop := ∀ b o, H b = some o → H' b = some o
theorem Same.refl (H : Hp) : Same H H := fun _ _ h => h
theorem Same.trans {H H1 H2 : Hp} (a : Same H H1) (b : Same H1 H2) : Same H H2 := fun c o h => b c o (a c o h)
theorem Same.free {H H' : Hp} (e : Same H H') {l : Addr} (h : H' l = Option.none) : H l = Option.none := by
  cases q : H l with
  | none => rfl
  | some o =>
    rw [e l o q] at h
    cases h
theorem Same.seq {K : PySem.W.Frag} {H H' : Hp} {a : Addr} {xs : List V} (e : Same H H') (h : SqL K H a xs) : SqL K H' a xs := by
  rcases h with (h | ⟨o, h⟩) | h
  · exact .inl (.inl (e _ _ h))
  · exact .inl (.inr ⟨o, e _ _ h⟩)
  · exact .inr h

end L2

end

section
-- KcComp
set_option Elab.async false
set_option linter.all false
set_option maxRecDepth 100000
set_option maxHeartbeats 4000000
namespace L2
open PySem PySem.Spec PyProof.Rows

/-! ### addresses -/
theorem ltNe {a b : Addr} {n : Nat} (h : a < n) (h' : n ≤ b) : a ≠ b := Nat.ne_of_lt (Nat.lt_of_lt_of_le h h')
theorem neLt {a b : Addr} {n : Nat} (h : n ≤ a) (h' : b < n) : a ≠ b := Nat.ne_of_gt (Nat.lt_of_lt_of_le h' h)
/-! ### a list comprehension's block: its own context over the enclosing one -/
noncomputable def clOf (env : Env) : List (Str × NameKind) → List (Str × Addr) → List (Str × Addr)
  | [], acc => acc
  | (n, k) :: r, acc => if k = .free then (match env.cells.lookup n with | some c => clOf env r ((n, c) :: acc) | none => clOf env r acc) else clOf env r acc
theorem clOf_sound {env : Env} : ∀ (ns : List (Str × NameKind)) (acc : List (Str × Addr)), (∀ p ∈ acc, env.cells.lookup p.1 = some p.2) → ∀ p ∈ clOf env ns acc, env.cells.lookup p.1 = some p.2
  | [], acc, h => by intro p hp; exact h p hp
  | (n, k) :: r, acc, h => by
    intro p hp
    rw [clOf] at hp
    split at hp
    · split at hp
      · rename_i c hc
        refine clOf_sound r _ (fun q hq => ?_) p hp
        rcases List.mem_cons.mp hq with rfl | hq
        · exact hc
        · exact h q hq
      · exact clOf_sound r acc h p hp
    · exact clOf_sound r acc h p hp
theorem clOf_acc {env : Env} : ∀ (ns : List (Str × NameKind)) (acc : List (Str × Addr)), ∀ p ∈ acc, p ∈ clOf env ns acc
  | [], acc => fun p hp => hp
  | (n, k) :: r, acc => fun p hp => by
    rw [clOf]
    split
    · split
      · exact clOf_acc r _ p (List.mem_cons_of_mem _ hp)
      · exact clOf_acc r acc p hp
    · exact clOf_acc r acc p hp
theorem clOf_has {env : Env} : ∀ (ns : List (Str × NameKind)) (acc : List (Str × Addr)) (x : Str) (c : Addr), (x, NameKind.free) ∈ ns → env.cells.lookup x = some c → (x, c) ∈ clOf env ns acc
  | [], acc, x, c => fun h _ => (nomatch h)
  | (n, k) :: r, acc, x, c => fun h hc => by
    rw [clOf]
    rcases List.mem_cons.mp h with e | h
    · cases e
      rw [if_pos rfl, hc]
      exact clOf_acc r _ _ List.mem_cons_self
    · split
      · split
        · exact clOf_has r _ x c h hc
        · exact clOf_has r acc x c h hc
      · exact clOf_has r acc x c h hc
theorem lookup_of_mem {α : Type} {x : Str} {c : α} : ∀ {l : List (Str × α)}, (x, c) ∈ l → ∃ d, l.lookup x = some d
  | (y, d) :: r, h => by
    rw [List.lookup_cons]
    cases e : x == y with
    | true => exact ⟨d, rfl⟩
    | false =>
      rcases List.mem_cons.mp h with q | q
      · cases q
        rw [beq_self_eq_true] at e
        cases e
      · exact lookup_of_mem q
theorem clOf_lookup {env : Env} {ns : List (Str × NameKind)} {x : Str} {c : Addr} (h : (clOf env ns []).lookup x = some c) : env.cells.lookup x = some c :=
  clOf_sound ns [] (fun _ hp => (nomatch hp)) (x, c) (PySem.mem_of_lookup h)
theorem clOf_some {env : Env} {ns : List (Str × NameKind)} {x : Str} {c : Addr} (hm : (x, NameKind.free) ∈ ns) (hc : env.cells.lookup x = some c) : (clOf env ns []).lookup x = some c := by
  obtain ⟨d, hd⟩ := lookup_of_mem (clOf_has ns [] x c hm hc)
  have e := clOf_lookup hd
  rw [hc] at e
  cases e
  exact hd
theorem closure_of {scope : Scope} {env : Env} (h : ∀ y ∈ scope.names, y.2 = .free → ∃ c, env.cells.lookup y.1 = some c) : closureFor scope env = pure (clOf env scope.names []) := by
  have go : ∀ (ns : List (Str × NameKind)) (acc : List (Str × Addr)), (∀ y ∈ ns, y.2 = .free → ∃ c, env.cells.lookup y.1 = some c) →
      (forIn ns acc fun (x : Str × NameKind) (cs : List (Str × Addr)) => (match x with
        | (name, kind) => if (kind == NameKind.free) = true then (do let c ← cellOf env name; pure (ForInStep.yield ((name, c) :: cs))) else pure (ForInStep.yield cs) : Sem (ForInStep (List (Str × Addr))))) = (pure (clOf env ns acc) : Sem (List (Str × Addr))) := by
    intro ns
    induction ns with
    | nil => intro acc _; rfl
    | cons y r ih =>
      intro acc hy
      obtain ⟨n, k⟩ := y
      have ih' := fun acc => ih acc fun z hz => hy z (List.mem_cons_of_mem _ hz)
      rw [List.forIn_cons, clOf]
      by_cases hk : k = .free
      · subst hk
        obtain ⟨c, hc⟩ := hy (n, .free) List.mem_cons_self rfl
        have hc' : env.cells.lookup n = some c := hc
        simp only [beq_self_eq_true, if_true, cellOf, hc', pure_bind]
        exact ih' _
      · have hb : (k == NameKind.free) = false := by simpa using hk
        simp only [hb, Bool.false_eq_true, if_false, pure_bind, if_neg hk]
        exact ih' _
  unfold closureFor
  have g := go scope.names [] h
  simp only [bind_pure]
  exact g

structure CompScope (sc scope : Scope) (NX N : List Str) (ix : List (Option Nat)) : Prop where
  kind : scope.kind = .function
  nocell : ∀ y ∈ scope.names, y.2 ≠ .cell
  names : ∀ y ∈ scope.names, y.2 = .local → scope.names.lookup y.1 = some .local
  free : ∀ y ∈ scope.names, y.2 = .free → sc.names.lookup y.1 = some .cell ∨ sc.names.lookup y.1 = some .free
  nd : N.Nodup
  len : ix.length = N.length
  at_ : ∀ p ∈ N.zip ix, ∀ i ∈ p.2, NX[i]? = some p.1 ∧ scope.names.lookup p.1 = some .free
noncomputable def sub (ix : List (Option Nat)) (σ : St) : St := ix.map fun o => match o with | some i => (match σ[i]? with | some v => v | none => none) | none => none

noncomputable def cxComp (X : Cx) (N : List Str) (scope : Scope) (C : Addr) (s : Shared) (H : Hp) (fp : List Addr) : Cx where
  prog := X.prog
  w := X.w
  K := X.K
  mg := X.mg
  base := X.base
  A := X.A
  N := N
  s₀ := s
  H₀ := H
  env := compEnvC scope (clOf X.env scope.names []) C X.env
  outer := X.stack
  stack := X.stack
  ex := fp
  fn := fun _ => false
  calm := X.calm
  pn := []
  xe := fun _ _ => False

theorem relabel_look {scope : Scope} {env : Env} {x : Str} {k : NameKind} (h : (relabel scope env).names.lookup x = some k) : scope.names.lookup x = some k ∨ (k = .cell ∧ scope.names.lookup x = some .free) := by
  have go : ∀ ns : List (Str × NameKind), (ns.map fun (n, k) => if (k == NameKind.free && env.scope.kind == .function && env.kindOf n == some .cell) then (n, NameKind.cell) else (n, k)).lookup x = some k →
      ns.lookup x = some k ∨ (k = .cell ∧ ns.lookup x = some .free) := by
    intro ns
    induction ns with
    | nil => intro q; simp at q
    | cons y r ih =>
      obtain ⟨n, k'⟩ := y
      intro q
      rw [List.map_cons] at q
      by_cases hc : (k' == NameKind.free && env.scope.kind == .function && env.kindOf n == some .cell) = true
      · simp only [hc, if_true] at q
        have hk' : k' = .free := by
          have := (Bool.and_eq_true _ _ ▸ hc)
          have h1 := (Bool.and_eq_true _ _ ▸ this.1)
          exact eq_of_beq h1.1
        subst hk'
        rw [List.lookup_cons] at q ⊢
        cases e : x == n with
        | true =>
          rw [e] at q
          cases q
          exact .inr ⟨rfl, rfl⟩
        | false =>
          rw [e] at q
          exact ih q
      · simp only [hc] at q
        rw [if_neg (by simp)] at q
        rw [List.lookup_cons] at q ⊢
        cases e : x == n with
        | true => rw [e] at q; exact .inl q
        | false => rw [e] at q; exact ih q
  exact go scope.names h
theorem relabel_free {scope : Scope} {env : Env} {x : Str} (h : scope.names.lookup x = some .free) : (relabel scope env).names.lookup x = some .cell ∨ (relabel scope env).names.lookup x = some .free := by
  have go : ∀ ns : List (Str × NameKind), ns.lookup x = some .free →
      (ns.map fun (n, k) => if (k == NameKind.free && env.scope.kind == .function && env.kindOf n == some .cell) then (n, NameKind.cell) else (n, k)).lookup x = some .cell ∨
      (ns.map fun (n, k) => if (k == NameKind.free && env.scope.kind == .function && env.kindOf n == some .cell) then (n, NameKind.cell) else (n, k)).lookup x = some .free := by
    intro ns
    induction ns with
    | nil => intro q; simp at q
    | cons y r ih =>
      obtain ⟨n, k'⟩ := y
      intro q
      rw [List.map_cons]
      rw [List.lookup_cons] at q
      cases e : x == n with
      | true =>
        rw [e] at q
        cases q
        by_cases hc : (NameKind.free == NameKind.free && env.scope.kind == .function && env.kindOf n == some .cell) = true
        · simp only [hc, if_true]
          rw [List.lookup_cons, e]
          exact .inl rfl
        · simp only [hc]
          rw [if_neg (by simp), List.lookup_cons, e]
          exact .inr rfl
      | false =>
        rw [e] at q
        have z := ih q
        by_cases hc : (k' == NameKind.free && env.scope.kind == .function && env.kindOf n == some .cell) = true
        · simp only [hc, if_true]
          rw [List.lookup_cons, e]
          exact z
        · simp only [hc]
          rw [if_neg (by simp), List.lookup_cons, e]
          exact z
  exact go scope.names h

theorem Inv.gone {X : Cx} {pins : List (Addr × Obj)} {σ σ₂ : St} {H H₂ : Hp} {s s₂ : Shared} {C : Addr} {h'' : Heap} (I : Inv X pins σ H s) (I2 : Inv X pins σ₂ H₂ s₂) (hC : s₂.heap.objs.size ≤ C) (hn : H C = none) (hs : Heap.SameBut C s.heap h'') : Inv X pins σ H { s with heap := h'' } :=
  I.turned (t' := s.toks) (it := C) (fun b o hb e => hs.extBut b o hb e) hn (Nat.ne_of_gt (Nat.lt_of_lt_of_le I2.lt hC)) (.inr (Nat.le_trans I2.sz hC))
    (fun x c e => by
      obtain ⟨v, o, ho, _⟩ := I2.cell x c e
      exact ltNe (Heap.lt_size ho) hC) fun q hq => ltNe (Heap.lt_size (I2.pin q hq).1) hC
/-! ### the tests of a clause -/
noncomputable def PTL (X : Cx) (ifs : List Expr) (t : TT) : Prop :=
  ∀ (pins : List (Addr × Obj)) (s : Shared) (σ : St) (H : Hp) (Q : Bool → Hp → Prop), Inv X pins σ H s → t σ H Q →
    wpAny (model X.prog X.w) X.A (forIn ifs true fun c r => if r = true then do let ok ← isTrue c X.env (eval c X.env); pure (ForInStep.yield ok) else pure (ForInStep.yield r)) (TP X pins σ Q) X.xe s
noncomputable def tAlways : TT := fun _ H Q => Q true H
theorem ptl_nil {X : Cx} : PTL X [] tAlways := fun _ _ _ H _ I h => wpAny_tests_nil ⟨H, I, h⟩
theorem ptl_one {X : Cx} {c : Expr} {t : TT} (h : PT X c t) : PTL X [c] t := fun pins s σ H Q I q => wpAny_tests_one (h pins s σ H Q I q)

/-! ### the rule -/
noncomputable def CompBody (J : It) (g : TG) (tt : TT) (te : TE) (σ₀ : St) (p : Addr) (Q : VK) (W : Nat → Nat → List V → Hp → Prop) : Prop :=
  ∀ i m acc H, W i m acc H → H p = some (.lst acc) ∧
    ((J.stop i H ∧ Q (.ref p) H) ∨ (J.go i H ∧ acc.length < sizeLine ∧ ∃ N : List V → Hp → Prop, (∀ acc' H', N acc' H' → ∃ m', m' < m ∧ W (i + 1) m' acc' H') ∧
      ∀ x H1, J.yld i H x H1 → g x σ₀ H1 fun σ2 H2 => tt σ2 H2 fun b H3 => if b = true then te σ2 H3 fun y H4 => H4 p = some (.lst acc) ∧ N (acc ++ [y]) (upd H4 p (.lst (acc ++ [y]))) else N acc H3))
noncomputable abbrev CF (α : Type) := Addr → Shared → Hp → List Addr → α
noncomputable def tComp (wi : TI) (g : CF TG) (tt : CF TT) (te : CF TE) (ix : List (Option Nat)) : TE := fun σ H Q => wi σ H fun J H1 => ∀ p, H1 p = none →
  ∃ W : Nat → Nat → List V → Hp → Prop, (∃ m, W 0 m [] (upd H1 p (.lst []))) ∧ ∀ C s' H' fp, CompBody J (g C s' H' fp) (tt C s' H' fp) (te C s' H' fp) (sub ix σ) p Q W
section
variable {X : Cx} {elt tg iter : Expr} {ifs : List Expr} {scope sc : Scope} {pos : Pos} {NX N : List Str} {ix : List (Option Nat)} {wi : TI} {g : CF TG} {tt : CF TT} {te : CF TE}

theorem comp_loop {prog : Program} {w : World} {A : Around} {R : Result → Shared → Prop} {s : Shared} {it acc : Value} {env : Env} (I : Nat → Shared → Prop)
    (turn : ∀ n s, I n s → wpAny (model prog w) A (pyNext it) (fun r s₁ => match r with
      | none => R (.ok .next) s₁
      | some v => wpAny (model prog w) A (letOwnedTupleGo tg it v) (fun _ s₁' => wpAny (model prog w) A (assign tg env v) (fun _ s₂ =>
          wpAny (model prog w) A (forIn ifs true fun c r => if r = true then do let ok ← isTrue c env (eval c env); pure (ForInStep.yield ok) else pure (ForInStep.yield r)) (fun ok s₃ =>
            if ok = true then wpAny (model prog w) A (eval elt env) (fun x s₄ =>
              wpAny (model prog w) A (call (.builtin "list.append") [acc, x]) (fun _ s₅ => ∃ m, m < n ∧ I m s₅) (fun _ _ => False) s₄) (fun _ _ => False) s₃
            else ∃ m, m < n ∧ I m s₃) (fun _ _ => False) s₂) (fun _ _ => False) s₁') (fun _ _ => False) s₁) (fun _ _ => False) s)
    (n : Nat) (h : I n s) : codeAny (model prog w) A (.compLoop (.ListComp elt [⟨tg, iter, ifs, 0⟩] scope pos) 0 it acc env) R s := by
  refine codeAny_loop rfl I (fun n s hI => ?_) n h
  show wpAny _ A ((compTurn (.ListComp elt [⟨tg, iter, ifs, 0⟩] scope pos) 0 it acc env).onRaise (fun x => do noteFrame x env; theTreesLotGoes x)) _ _ s
  refine wpAny_noted ?_
  rw [compTurn_list]
  refine wpAny_bind (wpAny_standAt (wpAny_bind (wpAny_mono (turn n s hI) (fun r s₁ h₁ => ?_) fun _ _ z => z.elim)))
  cases r with
  | none => exact wpAny_pure h₁
  | some v =>
    refine wpAny_bind (wpAny_mono h₁ (fun _ s₁' h₁' => ?_) fun _ _ z => z.elim)
    refine wpAny_bind (wpAny_mono h₁' (fun _ s₂ h₂ => wpAny_bind (wpAny_mono h₂ (fun ok s₃ h₃ => ?_) fun _ _ z => z.elim)) fun _ _ z => z.elim)
    cases ok with
    | false => exact wpAny_pure ⟨rfl, h₃⟩
    | true => exact wpAny_bind (wpAny_bind (wpAny_mono h₃ (fun x s₄ h₄ => wpAny_bind (wpAny_mono h₄ (fun _ s₅ h₅ => wpAny_pure (wpAny_pure ⟨rfl, h₅⟩)) fun _ _ z => z.elim)) fun _ _ z => z.elim))

theorem comp_block {pins : List (Addr × Obj)} {σ : St} {H : Hp} {s : Shared} {fp : List Addr} {it : Addr} {J : It} {tn : Nat → Heap → Prop} {Q : VK} {E : Value → Shared → Prop} {RR : Value → Addr → Result → Shared → Prop}
    (hc : X.calm = true) (hsc : X.env.scope = sc) (hNX : X.N = NX) (S : CompScope sc scope NX N ix)
    (hg : ∀ C s H fp, PG (cxComp X N scope C s H fp) tg (g C s H fp)) (ht : ∀ C s H fp, PTL (cxComp X N scope C s H fp) ifs (tt C s H fp)) (he : ∀ C s H fp, PE (cxComp X N scope C s H fp) elt (te C s H fp))
    (I : Inv X pins σ H s) (T : Turn X.prog X.w X.K tg J fp it tn) (st : tn 0 s.heap) (hf : ∀ b ∈ fp, FpOk X pins H b)
    (hq : ∀ p, H p = none → ∃ W : Nat → Nat → List V → Hp → Prop, (∃ m, W 0 m [] (upd H p (.lst []))) ∧ ∀ C s' H' fp, CompBody J (g C s' H' fp) (tt C s' H' fp) (te C s' H' fp) (sub ix σ) p Q W)
    (hR : ∀ p C s' H' m, s.heap.objs.size ≤ p → s.heap.objs.size ≤ C → s'.heap.Ns C m → H' C = none → Q (.ref p) H' → Inv X pins σ H' s' → RR (.ref p) C (.ok .next) s') :
    wpAny (model X.prog X.w) X.A (newList []) (fun acc s₃ => wpAny (model X.prog X.w) X.A (newFunctionEnv scope X.env.globals (clOf X.env scope.names []) [] X.env.qual none .none (some X.env)) (fun cenv s₄ =>
      codeAny (model X.prog X.w) X.A (.compStart (.ListComp elt [⟨tg, iter, ifs, 0⟩] scope pos) 0 (.ref it) acc { cenv with scope := relabel scope X.env }) (RR acc cenv.locals) s₄) E s₃) E s := by
  refine wpAny_newObj_type (wpAny_newFunctionEnv S.nocell (by intro y hy; simp at hy) (fun h₁ hns₁ hsb₁ => ?_) S.kind)
  dsimp only at hns₁ hsb₁ ⊢
  have hsz : (s.heap.push { cls := .type "list", dict := none, data := .seq ([] : List Value).toArray }).objs.size = s.heap.objs.size + 1 := Heap.size_push ..
  generalize hC : (s.heap.push { cls := .type "list", dict := none, data := .seq ([] : List Value).toArray }).objs.size = C at hns₁ hsb₁ ⊢
  rw [hsz] at hC
  generalize hp : s.heap.objs.size = p at hC
  have pC : p ≠ C := by omega
  have old : ∀ b o, s.heap.get? b = some o → h₁.get? b = some o := fun b o e => hsb₁.extBut b o (ltNe (Heap.lt_size e) (by omega)) (Heap.get?_push_of_some _ (Heap.get?_push_of_some _ e))
  have hnew : h₁.get? p = some { cls := .type "list", data := .seq ([] : List Value).toArray } := hsb₁.extBut _ _ pC (Heap.get?_push_of_some _ (by rw [← hp]; exact Heap.get?_push_size _ rfl))
  have hfp : H p = none := I.hok.fresh (by omega)
  have hfC : H C = none := I.hok.fresh (by omega)
  have lt : ∀ b ∈ fp, b < p := fun b hb => by
    obtain ⟨o, e, _⟩ := T.obj 0 _ st b hb
    rw [← hp]
    exact Heap.lt_size e
  -- the free names' cells
  have hcells : ∀ y ∈ scope.names, y.2 = .free → ∃ c, X.env.cells.lookup y.1 = some c := fun y hy hk => by
    refine I.ok.has y.1 ?_
    show X.env.scope.names.lookup y.1 = some .cell ∨ X.env.scope.names.lookup y.1 = some .free
    rw [hsc]
    exact S.free y hy hk
  have noown : ∀ x, scope.names.lookup x ≠ some .cell := fun x e => S.nocell _ (PySem.mem_of_lookup e) rfl
  have hok : (cxComp X N scope C s H fp).Ok := by
    refine ⟨I.ok.mod, S.kind, I.ok.glob, I.ok.blt, by show s.heap.objs.size ≤ C; omega, fun x y c h1 h2 => I.ok.inj x y c (clOf_lookup h1) (clOf_lookup h2), fun x hx => ?_, fun x c z => (by cases z), I.ok.hd, I.ok.frames, .inl rfl, fun b hb => ?_, I.bs, Nat.le_trans I.ok.bsz I.sz, fun b o e hb => ?_, fun b hb z => ?_, I.stack, I.stkFree⟩
    · have hx' : scope.names.lookup x = some .free := by
        rcases hx with hx | hx
        · rcases relabel_look hx with q | q
          · exact absurd q (noown x)
          · exact q.2
        · rcases relabel_look hx with q | q
          · exact q
          · exact q.2
      obtain ⟨c, hc'⟩ := hcells _ (PySem.mem_of_lookup hx') rfl
      exact ⟨c, clOf_some (PySem.mem_of_lookup hx') hc'⟩
    · refine ⟨?_, fun x c e => (hf b hb).2.2.2.2.1 x c (clOf_lookup e)⟩
      show b ≠ C
      exact ltNe (lt b hb) (by omega)
    · rcases (hf b hb).2.2.2.1 with z | z
      · exact I.ok.noex b o e z
      · exact absurd (Nat.lt_of_lt_of_le (Heap.lt_size e) (Nat.le_trans I.ok.bsz z)) (Nat.lt_irrefl _)
    · rcases List.mem_cons.mp (I.stkSub b z) with q | q
      · exact (hf b hb).2.1 q
      · exact (hf b hb).2.2.1 q
  -- the free names' values lie in cells that stay
  have locs : ∀ h' : Heap, (∀ x c o, X.env.cells.lookup x = some c → s.heap.get? c = some o → ∃ sl, h'.get? c = some { o with slots := sl }) →
      ∀ (i : Nat) (x : Str) (v : V), N[i]? = some x → (sub ix σ)[i]? = some (some v) → ∃ u, RelV v u ∧ ∀ m, Look (compEnvC scope (clOf X.env scope.names []) C X.env) h' m x u := by
    intro h' hk i x v h1 h2
    obtain ⟨k, hk', hv⟩ : ∃ k, ix[i]? = some (some k) ∧ σ[k]? = some (some v) := by
      unfold sub at h2
      rw [List.getElem?_map] at h2
      cases e : ix[i]? with
      | none => rw [e] at h2; cases h2
      | some o =>
        rw [e] at h2
        cases o with
        | none => cases h2
        | some k =>
          refine ⟨k, rfl, ?_⟩
          have h2' : (match σ[k]? with | some v => v | none => none) = some v := Option.some.inj h2
          cases e2 : σ[k]? with
          | none => rw [e2] at h2'; cases h2'
          | some z =>
            rw [e2] at h2'
            rw [show z = some v from h2']
    have hm : (x, some k) ∈ N.zip ix := by
      refine List.mem_of_getElem? (i := i) ?_
      rw [List.getElem?_zip_eq_some]
      exact ⟨h1, hk'⟩
    obtain ⟨a1, a2⟩ := S.at_ _ hm k (by simp)
    have hX := S.free _ (PySem.mem_of_lookup a2) rfl
    have hvis : Vis X.env.scope x := by
      show _ ∨ _ ∨ _
      rw [hsc]
      exact .inr hX
    obtain ⟨m, hn, hl⟩ := I.loc
    obtain ⟨u, r, l⟩ := hl k x v (by rw [hNX]; exact a1) hv hvis
    refine ⟨u, r, fun m' => .inr ⟨relabel_free a2, ?_⟩⟩
    rcases l with ⟨l, _⟩ | ⟨_, c, e, z⟩
    · have l' : X.env.scope.names.lookup x = some .local := l
      rw [hsc] at l'
      rcases hX with q | q <;> (rw [q] at l'; cases l')
    · obtain ⟨o, ho, hd⟩ := z
      obtain ⟨sl, e'⟩ := hk x c o e ho
      exact ⟨c, clOf_some (PySem.mem_of_lookup a2) e, _, e', hd⟩
  have hlen : (sub ix σ).length = N.length := by
    unfold sub
    rw [List.length_map]
    exact S.len
  have I1 : Inv (cxComp X N scope C s H fp) [] (sub ix σ) (upd H p (.lst [])) { s with heap := h₁, toks := s.toks + ([] : List (Str × Value)).length } := by
    refine ⟨hok, rfl, I.bare, Un.laid old (Nat.le_of_eq hp) hfp, ⟨_, hns₁, fun i x v h1 h2 h3 => ?_⟩, fun x c e => ?_, ?_, fun x c e => ?_, fun q hq => (nomatch hq), I.hok.laid old (Nat.le_of_eq hp) ⟨Nat.zero_le _, [], 0, .nil, hnew⟩, hlen⟩
    · obtain ⟨u, r, l⟩ := locs h₁ (fun y c o _ ho => ⟨o.slots, old c o ho⟩) i x v h1 h2
      exact ⟨u, r, l _⟩
    · obtain ⟨v, o, ho, hd⟩ := I.cell x c (clOf_lookup e)
      exact ⟨v, o, old c o ho, hd⟩
    · show upd H p _ C = none
      rw [upd_ne (Ne.symm pC)]
      exact hfC
    · have e' := clOf_lookup e
      obtain ⟨v, o, ho, hd⟩ := I.cell x c e'
      rw [upd_ne (ltNe (Heap.lt_size ho) (Nat.le_of_eq hp))]
      exact I.freeC x c e'
  -- back to the block's first names
  have back : ∀ {pl : List (Addr × Obj)} {σ' : St} {H' : Hp} {s' : Shared}, Inv (cxComp X N scope C s H fp) pl σ' H' s' → Inv (cxComp X N scope C s H fp) pl (sub ix σ) H' s' := fun {pl σ' H' s'} J => by
    obtain ⟨m, hn, _⟩ := J.loc
    refine ⟨J.ok, J.os, J.bare, J.base, ⟨m, hn, fun i x v h1 h2 h3 => ?_⟩, J.cell, J.free, J.freeC, J.pin, J.hok, hlen⟩
    obtain ⟨u, r, l⟩ := locs s'.heap (fun y c o hc' ho => J.base.any ho (I.freeC y c hc') fun hb => (hf c hb).2.2.2.2.1 y c hc' rfl) i x v h1 h2
    exact ⟨u, r, l _⟩
  obtain ⟨W, ⟨m0, w0⟩, turn⟩ := hq p hfp
  have st1 : tn 0 h₁ := T.keep 0 _ _ st fun b _ o e => old b o e
  have fp1 : ∀ {H' : Hp}, (∀ b ∈ fp, H' b = none) → ∀ b ∈ fp, FpOk (cxComp X N scope C s H fp) [] H' b := fun {H'} hn b hb =>
    ⟨hn b hb, (hok.exf b hb).1, hok.exfs b hb, .inl hb, (hok.exf b hb).2, fun q hq => (nomatch hq)⟩
  have loop : codeAny (model X.prog X.w) X.A (.compLoop (.ListComp elt [⟨tg, iter, ifs, 0⟩] scope pos) 0 (.ref it) (.ref p) (compEnvC scope (clOf X.env scope.names []) C X.env)) (RR (.ref p) C) { s with heap := h₁, toks := s.toks + ([] : List (Str × Value)).length } := by
    refine comp_loop (fun n s' => ∃ i acc H', Inv (cxComp X N scope C s H fp) [] (sub ix σ) H' s' ∧ tn i s'.heap ∧ (∀ b ∈ fp, H' b = none) ∧ W i n acc H') ?_ m0
      ⟨0, [], _, I1, st1, fun b hb => by rw [upd_ne (ltNe (lt b hb) (Nat.le_refl _))]; exact (hf b hb).1, w0⟩
    rintro n s3 ⟨i, acc, H3, I3, st3, fr3, w3⟩
    obtain ⟨hacc, w4⟩ := turn C s H fp i n acc H3 w3
    rcases w4 with ⟨stop, qn⟩ | ⟨go, hln, N', hN', step⟩
    · refine thn (T.done (cxComp X N scope C s H fp) rfl rfl rfl hc i [] s3 _ H3 (fun _ _ => False) I3 (fp1 fr3) st3 stop) fun r s4 ⟨hr, I4⟩ => ?_
      subst hr
      obtain ⟨m, hn, _⟩ := I4.loc
      refine hR p C s4 H3 m (by omega) (by omega) hn I4.free qn ?_
      exact I.call' I4.os I4.base I4.hok I4.bare fun b hb => ⟨(hf b hb).2.2.2.1, (hf b hb).2.1, (hf b hb).2.2.2.2.1, (hf b hb).2.2.2.2.2⟩
    · refine thn (T.item (cxComp X N scope C s H fp) rfl rfl rfl hc i [] s3 _ H3 (fun _ _ => False) I3 (fp1 fr3) st3 go) fun r s4 ⟨u, hr, h4⟩ => ?_
      subst hr
      refine thn h4 fun _ s5 ⟨x, H5, I5, r5, y5, st5, fr5⟩ => ?_
      have I5' := I5.pinned (fp1 fr5) (T.obj _ _ st5)
      refine thn (hg C s H fp _ s5 _ H5 x u _ I5' r5 (step x H5 y5)) fun _ s6 ⟨σ6, H6, I6, q6⟩ => ?_
      have later : ∀ {s7 : Shared} {H7 : Hp} {acc' : List V} {σ7 : St}, Inv (cxComp X N scope C s H fp) ([] ++ pinsAt fp s5.heap) σ7 H7 s7 → (∃ m', m' < n ∧ W (i + 1) m' acc' H7) →
          ∃ m, m < n ∧ ∃ i acc H', Inv (cxComp X N scope C s H fp) [] (sub ix σ) H' s7 ∧ tn i s7.heap ∧ (∀ b ∈ fp, H' b = none) ∧ W i m acc H' := fun {s7 H7 acc' σ7} I7 ⟨m', hm, w7⟩ => by
        refine ⟨m', hm, i + 1, acc', H7, back (I7.unpinned (pins := [])), T.keep _ _ _ st5 fun b hb o e => (I7.pin (b, o) (List.mem_append_right _ (List.mem_append_right _ (mem_pinsAt hb e)))).1, fun b hb => ?_, w7⟩
        obtain ⟨o, e, d⟩ := T.obj _ _ st5 b hb
        exact (I7.pin (b, o) (List.mem_append_right _ (List.mem_append_right _ (mem_pinsAt hb e)))).2.1
      refine thn (ht C s H fp _ s6 σ6 H6 _ I6 q6) fun ok s7 ⟨H7, I7, q7⟩ => ?_
      cases ok with
      | false => exact later I7 (hN' _ _ q7)
      | true =>
        refine thn (he C s H fp _ s7 σ6 H7 _ I7 q7) fun y s8 ⟨v8, H8, I8, r8, hacc8, w8⟩ => ?_
        refine thn (mt_append (X := cxComp X N scope C s H fp) _ s8 σ6 H8 (.ref p) [v8] (.ref p) [y] (fun _ H9 => H9 = upd H8 p (.lst (acc ++ [v8]))) I8 rfl (.cons r8 .nil) ⟨p, acc, v8, rfl, rfl, hacc8, hln, rfl⟩) fun _ s9 ⟨_, H9, I9, _, e9⟩ => ?_
        subst e9
        exact later I9 (hN' _ _ w8)
  exact codeAny_compStart_list loop (T.self _ 0 _ _ _ st1 loop)

theorem pe_comp (hc : X.calm = true) (S : CompScope sc scope NX N ix) (hi : PI X tg iter wi)
    (hg : ∀ C s H fp, PG (cxComp X N scope C s H fp) tg (g C s H fp)) (ht : ∀ C s H fp, PTL (cxComp X N scope C s H fp) ifs (tt C s H fp)) (he : ∀ C s H fp, PE (cxComp X N scope C s H fp) elt (te C s H fp))
    (hsc : X.env.scope = sc := by rfl) (hNX : X.N = NX := by rfl) (hs : ∀ x, foldedSetIterable iter X.env x = pure x := by intro _; rfl) :
    PE X (.ListComp elt [⟨tg, iter, ifs, 0⟩] scope pos) (tComp wi g tt te ix) := by
  intro pins s σ H Q I h
  rw [eval_ListComp]
  have hcells : closureFor scope X.env = pure (clOf X.env scope.names []) := closure_of fun y hy hk => by
    refine I.ok.has y.1 ?_
    show X.env.scope.names.lookup y.1 = some .cell ∨ X.env.scope.names.lookup y.1 = some .free
    rw [hsc]
    exact S.free y hy hk
  refine wpAny_comprehension_free (use := none) rfl hs hcells S.kind S.names (thn (hi pins s σ H _ I h) fun v s1 h1 => thn h1 fun itv s2 h2 => ?_)
  obtain ⟨it, fp, tn, J, H2, e, I2, T, st2, f2, hq⟩ := h2
  subst e
  refine comp_block (Q := Q) (RR := fun acc C => compPost (model X.prog X.w) X.A X.xe none (EP X pins σ Q) acc C) hc hsc hNX S hg ht he I2 T st2 f2 hq ?_
  intro p C s' H' m hp hC hn hfree q I'
  exact ⟨m, hn, fun h'' hs'' => ⟨.ref p, H', I'.gone I2 hC hfree hs'', rfl, q⟩⟩
theorem ps_setComp {i : Nat} {y : Str} {py spos : Pos} (hN : X.N.Nodup) (hy : X.N[i]? = some y) (hl : X.env.scope.names.lookup y = some .local) (hc : X.calm = true) (S : CompScope sc scope NX N ix) (hi : PI X tg iter wi)
    (hg : ∀ C s H fp, PG (cxComp X N scope C s H fp) tg (g C s H fp)) (ht : ∀ C s H fp, PTL (cxComp X N scope C s H fp) ifs (tt C s H fp)) (he : ∀ C s H fp, PE (cxComp X N scope C s H fp) elt (te C s H fp))
    (hsw : swapsWith (.ListComp elt [⟨tg, iter, ifs, 0⟩] scope pos) (some (.Name y py)) spos.line X.env = pure true := by rfl)
    (hsc : X.env.scope = sc := by rfl) (hNX : X.N = NX := by rfl) (hs : ∀ x, foldedSetIterable iter X.env x = pure x := by intro _; rfl) :
    PS X (.Assign [.Name y py] (.ListComp elt [⟨tg, iter, ifs, 0⟩] scope pos) spos) (tAsg (tComp wi g tt te ix) (gName i)) := by
  intro pins s σ H D I h
  rw [exec_Assign_Name_used _ _ _ _ hsw]
  have hcells : closureFor scope X.env = pure (clOf X.env scope.names []) := closure_of fun z hz hk => by
    refine I.ok.has z.1 ?_
    show X.env.scope.names.lookup z.1 = some .cell ∨ X.env.scope.names.lookup z.1 = some .free
    rw [hsc]
    exact S.free z hz hk
  refine wpAny_bind (wpAny_standAt (wpAny_bind ?_))
  show wpAny _ X.A (do let _ ← comprehension (.ListComp elt [⟨tg, iter, ifs, 0⟩] scope pos) scope X.env _ (newList []) false (eval iter X.env) (some (assign (.Name y py) X.env))) _ _ s
  refine wpAny_bind (thn (wpAny_comprehension_free (use := some (assign (.Name y py) X.env)) (Q := fun _ s' => SP X pins D .next s') rfl hs hcells S.kind S.names (thn (hi pins s σ H _ I h) fun v s1 h1 => thn h1 fun itv s2 h2 => ?_)) fun _ s' q => wpAny_pure (wpAny_pure q))
  obtain ⟨it, fp, tn, J, H2, e, I2, T, st2, f2, hq⟩ := h2
  subst e
  refine comp_block (Q := fun x H1 => gName i x σ H1 D.nx) (RR := fun acc C => compPost (model X.prog X.w) X.A X.xe (some (assign (.Name y py) X.env)) (fun _ s' => SP X pins D .next s') acc C) hc hsc hNX S hg ht he I2 T st2 f2 hq ?_
  intro p C s' H' m hp hC hn hfree q I'
  refine wpAny_assign_Name (store_ok2 (v := .ref p) I' hN hy (.inl hl) rfl (fun s'' I'' ⟨a, hsb, ha⟩ => ?_) (.inr hl))
  have ne : C ≠ a := by
    rcases ha with rfl | ha
    · exact Nat.ne_of_gt (Nat.lt_of_lt_of_le I2.lt hC)
    · obtain ⟨v, o, ho, _⟩ := I2.cell y a ha
      exact Nat.ne_of_gt (Nat.lt_of_lt_of_le (Heap.lt_size ho) hC)
  exact ⟨m, hn.sameBut hsb ne, fun h'' hs'' => ⟨_, H', I''.gone I2 hC hfree hs'', q⟩⟩
end

/-! ### the forms one uses: W from a word over the turn, the new list, the heap -/
section
variable {g : CF TG} {tt : CF TT} {te : CF TE} {σ₀ : St} {p : Addr} {Q : VK} {H : Hp}
theorem comp_of {J : It} {n : Nat} {Y : Nat → Hp → V → Hp → Prop} (Pv : Nat → List V → Hp → Prop) (h0 : Pv 0 [] (upd H p (.lst []))) (hp : ∀ i acc H, i ≤ n → Pv i acc H → H p = some (.lst acc) ∧ acc.length ≤ i) (hz : n ≤ sizeLine)
    (hgo : ∀ i acc H, i < n → Pv i acc H → J.go i H) (hst : ∀ acc H, Pv n acc H → J.stop n H) (hy : ∀ i acc H x H1, i < n → Pv i acc H → J.yld i H x H1 → Y i H x H1)
    (hs : ∀ C s' H' fp, ∀ i x acc H H1, i < n → Pv i acc H → Y i H x H1 → g C s' H' fp x σ₀ H1 fun σ2 H2 => tt C s' H' fp σ2 H2 fun b H3 => if b = true then te C s' H' fp σ2 H3 fun y H4 => H4 p = some (.lst acc) ∧ Pv (i + 1) (acc ++ [y]) (upd H4 p (.lst (acc ++ [y]))) else Pv (i + 1) acc H3)
    (hd : ∀ acc H, Pv n acc H → Q (.ref p) H) :
    ∃ W : Nat → Nat → List V → Hp → Prop, (∃ m, W 0 m [] (upd H p (.lst []))) ∧ ∀ C s' H' fp, CompBody J (g C s' H' fp) (tt C s' H' fp) (te C s' H' fp) σ₀ p Q W := by
  refine ⟨fun i m acc H => m = n - i ∧ i ≤ n ∧ Pv i acc H, ⟨n, by simp, Nat.zero_le _, h0⟩, ?_⟩
  rintro C s' H' fp i m acc H ⟨rfl, hi, w⟩
  obtain ⟨h1, h2⟩ := hp i acc H hi w
  refine ⟨h1, ?_⟩
  by_cases hlt : i < n
  · exact .inr ⟨hgo i acc H hlt w, by omega, Pv (i + 1), fun acc' H' q => ⟨n - (i + 1), by omega, rfl, hlt, q⟩, fun x H1 y => hs C s' H' fp i x acc H H1 hlt w (hy i acc H x H1 hlt w y)⟩
  · have e : i = n := by omega
    subst e
    exact .inl ⟨hst acc H w, hd acc H w⟩
theorem comp_list {K : PySem.W.Frag} {a : Addr} {xs : List V} (Pv : Nat → List V → Hp → Prop) (h0 : Pv 0 [] (upd H p (.lst []))) (hp : ∀ i acc H, i ≤ xs.length → Pv i acc H → H p = some (.lst acc) ∧ acc.length ≤ i) (hl : ∀ i acc H, i ≤ xs.length → Pv i acc H → SqL K H a xs) (hz : xs.length ≤ sizeLine)
    (hs : ∀ C s' H' fp, ∀ i x acc H, xs[i]? = some x → Pv i acc H → g C s' H' fp x σ₀ H fun σ2 H2 => tt C s' H' fp σ2 H2 fun b H3 => if b = true then te C s' H' fp σ2 H3 fun y H4 => H4 p = some (.lst acc) ∧ Pv (i + 1) (acc ++ [y]) (upd H4 p (.lst (acc ++ [y]))) else Pv (i + 1) acc H3)
    (hd : ∀ acc H, Pv xs.length acc H → Q (.ref p) H) :
    ∃ W : Nat → Nat → List V → Hp → Prop, (∃ m, W 0 m [] (upd H p (.lst []))) ∧ ∀ C s' H' fp, CompBody (Itl K a) (g C s' H' fp) (tt C s' H' fp) (te C s' H' fp) σ₀ p Q W :=
  comp_of (Y := fun i H x H1 => H1 = H ∧ xs[i]? = some x) Pv h0 hp hz (fun i acc H hi w => ⟨xs, xs[i], hl i acc H (Nat.le_of_lt hi) w, by simp [hi]⟩) (fun acc H w => ⟨xs, hl _ acc H (Nat.le_refl _) w, Nat.le_refl _⟩)
    (fun i acc H x H1 hi w y => ⟨y.1, y.2 xs (hl i acc H (Nat.le_of_lt hi) w)⟩) (fun C s' H' fp i x acc H H1 hi w y => by
      obtain ⟨e, y⟩ := y
      subst e
      exact hs C s' H' fp i x acc _ y w) hd
theorem comp_tup {K : PySem.W.Frag} {a : Addr} {xs : List V} (Pv : Nat → List V → Hp → Prop) (h0 : Pv 0 [] (upd H p (.lst []))) (hp : ∀ i acc H, i ≤ xs.length → Pv i acc H → H p = some (.lst acc) ∧ acc.length ≤ i) (hl : ∀ i acc H, i ≤ xs.length → Pv i acc H → SqT K H a xs) (hz : xs.length ≤ sizeLine)
    (hs : ∀ C s' H' fp, ∀ i x acc H, xs[i]? = some x → Pv i acc H → g C s' H' fp x σ₀ H fun σ2 H2 => tt C s' H' fp σ2 H2 fun b H3 => if b = true then te C s' H' fp σ2 H3 fun y H4 => H4 p = some (.lst acc) ∧ Pv (i + 1) (acc ++ [y]) (upd H4 p (.lst (acc ++ [y]))) else Pv (i + 1) acc H3)
    (hd : ∀ acc H, Pv xs.length acc H → Q (.ref p) H) :
    ∃ W : Nat → Nat → List V → Hp → Prop, (∃ m, W 0 m [] (upd H p (.lst []))) ∧ ∀ C s' H' fp, CompBody (Itt K a) (g C s' H' fp) (tt C s' H' fp) (te C s' H' fp) σ₀ p Q W :=
  comp_of (Y := fun i H x H1 => H1 = H ∧ xs[i]? = some x) Pv h0 hp hz (fun i acc H hi w => ⟨xs, xs[i], hl i acc H (Nat.le_of_lt hi) w, by simp [hi]⟩) (fun acc H w => ⟨xs, hl _ acc H (Nat.le_refl _) w, Nat.le_refl _⟩)
    (fun i acc H x H1 hi w y => ⟨y.1, y.2 xs (hl i acc H (Nat.le_of_lt hi) w)⟩) (fun C s' H' fp i x acc H H1 hi w y => by
      obtain ⟨e, y⟩ := y
      subst e
      exact hs C s' H' fp i x acc _ y w) hd
theorem comp_range {lo : Int} {n : Nat} (Pv : Nat → List V → Hp → Prop) (h0 : Pv 0 [] (upd H p (.lst []))) (hp : ∀ i acc H, i ≤ n → Pv i acc H → H p = some (.lst acc) ∧ acc.length ≤ i) (hz : n ≤ sizeLine)
    (hs : ∀ C s' H' fp, ∀ i acc H, i < n → Pv i acc H → g C s' H' fp (.int (lo + i)) σ₀ H fun σ2 H2 => tt C s' H' fp σ2 H2 fun b H3 => if b = true then te C s' H' fp σ2 H3 fun y H4 => H4 p = some (.lst acc) ∧ Pv (i + 1) (acc ++ [y]) (upd H4 p (.lst (acc ++ [y]))) else Pv (i + 1) acc H3)
    (hd : ∀ acc H, Pv n acc H → Q (.ref p) H) :
    ∃ W : Nat → Nat → List V → Hp → Prop, (∃ m, W 0 m [] (upd H p (.lst []))) ∧ ∀ C s' H' fp, CompBody (Itr lo n) (g C s' H' fp) (tt C s' H' fp) (te C s' H' fp) σ₀ p Q W :=
  comp_of (Y := fun i H x H1 => H1 = H ∧ x = .int (lo + i)) Pv h0 hp hz (fun i acc H hi w => hi) (fun acc H w => Nat.le_refl _) (fun i acc H x H1 hi w y => y) (fun C s' H' fp i x acc H H1 hi w y => by
      obtain ⟨e, e2⟩ := y
      subst e e2
      exact hs C s' H' fp i acc _ hi w) hd
end
end L2

end

section
-- KcIter
set_option Elab.async false
set_option linter.all false
set_option maxRecDepth 100000
set_option maxHeartbeats 4000000
namespace L2
open PySem PySem.Spec PyProof.Rows

/-! ### drawing from a tuple's iterator inside enumerate and zip -/
section
variable {prog : Program} {w : World} {A : Around} {E : Value → Shared → Prop} {s : Shared}
theorem draw_tuple_item {jt t : Addr} {i : Nat} {its : Array Value} {y : Value} {Q : Value → Shared → Prop} (h1 : s.heap.IsTupleIter jt t i) (h2 : s.heap.IsTuple t its) (hy : its[i]? = some y)
    (k : ∀ h', h'.IsTupleIter jt t (i + 1) → Heap.SameBut jt s.heap h' → Q y { s with heap := h' }) : wpAny (model prog w) A (Builtin.SmallTypes.nextOf (.ref jt)) Q E s := by
  obtain ⟨o, ho, hc, hd⟩ := id h1
  obtain ⟨ot, hot, _, nt, hdt⟩ := h2
  unfold Builtin.SmallTypes.nextOf
  refine wpAny_bind (wpAny_callSpecial?_slot (name := Str.ofString "__next__") h1.typeIs F.slot_tuple_iterator_next (wpAny_call_entry F.slot_tuple_iterator_next h1.typeIs F.entry_tuple_iterator_next ?_ (F.args_tuple_iterator_next_1 _)))
  show wpAny _ _ (field (.ref jt) 0 >>= _) _ _ s
  refine wpAny_bind (wpAny_field ho hd (x := .ref t) rfl ?_)
  show wpAny _ _ (if (Value.ref t == Value.none) = true then _ else _) _ _ s
  rw [if_neg (show ¬ ((Value.ref t == Value.none) = true) from Bool.false_ne_true)]
  show wpAny _ _ (field (.ref jt) 1 >>= _) _ _ s
  refine wpAny_bind (wpAny_field ho hd (x := .int i 0) rfl ?_)
  show wpAny _ _ (seqItems? (.ref t) >>= _) _ _ s
  refine wpAny_bind (wpAny_seqItems hot hdt ?_)
  simp only [Int.toNat_natCast, hy]
  refine wpAny_bind (wpAny_setField ho hd (by simp) (wpAny_pure ⟨y, rfl, wpAny_pure (k _ ?_ (Heap.SameBut.update ..))⟩))
  exact ⟨_, Heap.get?_update_self _ ho (Obj.isFreed_of_fields (Obj.data_mapFields hd _)), (Obj.cls_mapFields ..).trans hc, by rw [Obj.data_mapFields hd]; simp [rawInt]⟩
theorem draw_tuple_end {jt t : Addr} {i : Nat} {its : Array Value} {Q : Value → Shared → Prop} (hh : A.handled = none) (h1 : s.heap.IsTupleIter jt t i) (h2 : s.heap.IsTuple t its) (hy : its[i]? = none)
    (k : ∀ h' e, Heap.ExtBut jt s.heap h' → (∃ o, h'.get? e = some o ∧ o.cls = .type "StopIteration") → E (.ref e) { s with heap := h' }) : wpAny (model prog w) A (Builtin.SmallTypes.nextOf (.ref jt)) Q E s := by
  obtain ⟨o, ho, hc, hd⟩ := id h1
  obtain ⟨ot, hot, _, nt, hdt⟩ := h2
  unfold Builtin.SmallTypes.nextOf
  refine wpAny_bind (wpAny_callSpecial?_slot (name := Str.ofString "__next__") h1.typeIs F.slot_tuple_iterator_next (wpAny_call_entry F.slot_tuple_iterator_next h1.typeIs F.entry_tuple_iterator_next ?_ (F.args_tuple_iterator_next_1 _)))
  show wpAny _ _ (field (.ref jt) 0 >>= _) _ _ s
  refine wpAny_bind (wpAny_field ho hd (x := .ref t) rfl ?_)
  show wpAny _ _ (if (Value.ref t == Value.none) = true then _ else _) _ _ s
  rw [if_neg (show ¬ ((Value.ref t == Value.none) = true) from Bool.false_ne_true)]
  show wpAny _ _ (field (.ref jt) 1 >>= _) _ _ s
  refine wpAny_bind (wpAny_field ho hd (x := .int i 0) rfl ?_)
  show wpAny _ _ (seqItems? (.ref t) >>= _) _ _ s
  refine wpAny_bind (wpAny_seqItems hot hdt ?_)
  simp only [Int.toNat_natCast, hy]
  refine wpAny_bind (wpAny_rule (wpAny_bind (wpAny_setField ho hd (by simp) ?_)))
  show wpAny _ _ (newExc (.type "StopIteration") [] >>= _) _ _ _
  refine wpAny_bind ?_
  simp only [newExc, newTuple]
  refine wpAny_bind (wpAny_newObj_type ?_ (by size_fits))
  refine wpAny_bind (m := firstArgMember _ _) (wpAny_of_eq (a := Value.none) (by first | rfl | (simp only [firstArgMember]; rfl)) ?_)
  refine wpAny_newObj_type ?_ (by size_fits)
  simp only [raiseNew]
  refine wpAny_bind (wpAny_handled ?_)
  first | rw [show A.in1.handled = none from hh] | rw [hh]
  refine wpAny_bind (wpAny_pure (wpAny_throw ?_))
  exact k _ _ (((Heap.SameBut.update ..).extBut.push _).push _) ⟨_, Heap.get?_push_size _ rfl, rfl⟩
end
theorem draws_tuple {prog : Program} {w : World} {A : Around} (hh : A.handled = none) (jt t : Addr) (hne : t ≠ jt) (its : Array Value) :
    Draws prog w A jt [jt, t] its.size (fun i v => its[i]? = some v) (fun i h => h.IsTupleIter jt t i ∧ h.IsTuple t its) where
  live := fun _ _ st => let ⟨o, ho, _⟩ := st.1; ⟨o, ho⟩
  frame := fun _ _ _ st hk => ⟨st.1.at fun o e => hk jt (by simp) o e, let ⟨o, ho, r⟩ := st.2; ⟨o, hk t (by simp) o ho, r⟩⟩
  item := fun i s Q E hi st hQ => draw_tuple_item st.1 st.2 (y := its[i]) (by simp [hi]) fun h' a b => hQ _ h' s.toks (by simp [hi]) ⟨a, st.2.extBut b.extBut hne⟩ b
  done := fun s Q E st hE => draw_tuple_end hh st.1 st.2 (by simp) hE

theorem Inv.offBase {X : Cx} {pins : List (Addr × Obj)} {σ : St} {H : Hp} {s : Shared} {c : Addr} {o : Obj} (I : Inv X pins σ H s) (f : FpOk X pins H c) (e : X.base.get? c = some o) : False := by
  rcases f.2.2.2.1 with z | z
  · exact I.ok.noex c o e z
  · exact absurd (Nat.lt_of_lt_of_le (Heap.lt_size e) (Nat.le_trans I.ok.bsz z)) (Nat.lt_irrefl _)
/-! ### the sources: lists and tuples in one -/
structure Src where
  Sq : PySem.W.Frag → Hp → Addr → List V → Prop
  Is : Heap → Addr → Array Value → Prop
  It : Heap → Addr → Addr → Nat → Prop
  icls : String
  get : ∀ {X : Cx} {pins : List (Addr × Obj)} {σ : St} {H : Hp} {s : Shared} {a : Addr} {xs : List V}, Inv X pins σ H s → Sq X.K H a xs → ∃ its : List Value, Vals xs its ∧ Is s.heap a its.toArray ∧ xs.length ≤ sizeLine
  inj : ∀ {X : Cx} {pins : List (Addr × Obj)} {σ : St} {H : Hp} {s : Shared} {a : Addr} {xs ys : List V}, Inv X pins σ H s → Sq X.K H a xs → Sq X.K H a ys → xs = ys
  off : ∀ {X : Cx} {pins : List (Addr × Obj)} {σ : St} {H : Hp} {s : Shared} {a c : Addr} {xs : List V}, Inv X pins σ H s → Sq X.K H a xs → FpOk X pins H c → c ≠ a
  isSeq : ∀ {h : Heap} {a : Addr} {its : Array Value}, Is h a its → ∃ o n, h.get? a = some o ∧ o.data = .seq its n
  isIt : ∀ {h : Heap} {jt a : Addr} {i : Nat}, It h jt a i → ∃ o, h.get? jt = some o ∧ o.cls = .type icls ∧ o.data = .fields #[.ref a, .int i 0]
  mkI : ∀ {h : Heap} {jt a : Addr} {i : Nat} {o : Obj}, h.get? jt = some o → o.cls = .type icls → o.data = .fields #[.ref a, .int i 0] → It h jt a i
  itKeep : ∀ {h h' : Heap} {jt a : Addr} {i : Nat}, It h jt a i → (∀ o, h.get? jt = some o → h'.get? jt = some o) → It h' jt a i
  isKeep : ∀ {h h' : Heap} {a : Addr} {its : Array Value}, Is h a its → (∀ o, h.get? a = some o → h'.get? a = some o) → Is h' a its
  draws : ∀ {prog : Program} {w : World} {A : Around}, A.handled = none → ∀ (jt a : Addr), a ≠ jt → ∀ its : Array Value, Draws prog w A jt [jt, a] its.size (fun i v => its[i]? = some v) (fun i h => It h jt a i ∧ Is h a its)
  iter : ∀ {prog : Program} {w : World} {A : Around} {E : Value → Shared → Prop} {s : Shared} {a : Addr} {its : Array Value} {Q : Value → Shared → Prop}, Is s.heap a its →
    Q (.ref s.heap.objs.size) { s with heap := s.heap.push { cls := .type icls, data := .fields #[.ref a, .int 0 0] } } → wpAny (model prog w) A (pyIter (.ref a)) Q E s
noncomputable def srcL : Src where
  Sq := SqL
  Is := fun h a its => h.IsList a its
  It := fun h jt a i => h.IsListIter jt a i
  icls := "list_iterator"
  get := fun I h => let ⟨its, r, p, z⟩ := I.list h; ⟨its, r, p.isList, z⟩
  inj := fun I h h' => I.list_inj h h'
  off := fun {X pins σ H s a c xs} I h f e => by
    subst e
    rcases h with (h | ⟨o, h⟩) | ⟨o, its, n, hk, _⟩
    · rw [f.1] at h; cases h
    · rw [f.1] at h; cases h
    · exact I.offBase f (I.ok.mod.kin _ _ hk)
  isSeq := fun h => let ⟨o, ho, _, n, hd⟩ := h; ⟨o, n, ho, hd⟩
  isIt := fun h => h
  mkI := fun h1 h2 h3 => ⟨_, h1, h2, h3⟩
  itKeep := fun h k => h.at k
  isKeep := fun h k => h.at k
  draws := fun hh jt a hne its => Draws.list hh jt a hne its
  iter := fun h q => wpAny_pyIter_list h q
noncomputable def srcT : Src where
  Sq := SqT
  Is := fun h a its => h.IsTuple a its
  It := fun h jt a i => h.IsTupleIter jt a i
  icls := "tuple_iterator"
  get := fun I h => let ⟨its, r, p, z⟩ := I.tuple h; ⟨its, r, p, z⟩
  inj := fun I h h' => I.tuple_inj h h'
  off := fun {X pins σ H s a c xs} I h f e => by
    subst e
    rcases h with (h | ⟨o, h⟩) | ⟨o, its, n, hk, _⟩
    · rw [f.1] at h; cases h
    · rw [f.1] at h; cases h
    · exact I.offBase f (I.ok.mod.kin _ _ hk)
  isSeq := fun h => let ⟨o, ho, _, n, hd⟩ := h; ⟨o, n, ho, hd⟩
  isIt := fun h => h
  mkI := fun h1 h2 h3 => ⟨_, h1, h2, h3⟩
  itKeep := fun h k => h.at k
  isKeep := fun h k => let ⟨o, ho, r⟩ := h; ⟨o, k o ho, r⟩
  draws := fun hh jt a hne its => draws_tuple hh jt a hne its
  iter := fun h q => wpAny_pyIter_tuple h q

/-! ### untracked records turn, a new object is laid -/
theorem Inv.turns {X : Cx} {pins : List (Addr × Obj)} {σ : St} {H : Hp} {s : Shared} {h' : Heap} {t' : Nat} {ch : List Addr} {T : Addr} {o : HO} (I : Inv X pins σ H s) (hf : ∀ b ∈ ch, FpOk X pins H b)
    (k : ∀ b ob, b ∉ ch → s.heap.get? b = some ob → h'.get? b = some ob) (hT : s.heap.objs.size ≤ T) (new : ObjOk X.prog X.w (upd H T o) h' T o) : Inv X pins σ (upd H T o) { s with heap := h', toks := t' } := by
  have hn : H T = none := I.hok.fresh hT
  have nc : ∀ b u, H b = some u → b ∉ ch := fun b u e z => by
    have := (hf b z).1
    rw [e] at this
    cases this
  refine I.step (g' := s.gens) (d' := s.drawn) (ch := ch) (fun b hb => ⟨(hf b hb).2.2.2.1, (hf b hb).2.1, (hf b hb).2.2.2.2.1, (hf b hb).2.2.2.2.2⟩) (fun b ob _ _ hc e _ => k b ob hc e) (fun b ob _ _ hc e _ => ⟨ob.slots, k b ob hc e⟩)
    (fun b ob _ e n => ?_) (fun b ob hc e => ⟨ob, k b ob hc e⟩) (fun b xs e => ?_) (fun b ob xs e => ?_) (fun b ps e => ⟨#[], ?_⟩) (fun m hm => ?_) (fun b u e => ?_) I.bare
  · rw [upd_ne (ltNe (Heap.lt_size e) hT)]
    exact n
  · rw [upd_ne (ne_of_none e hn)]
    exact e
  · rw [upd_ne (ne_of_none e hn)]
    exact e
  · rw [upd_ne (ne_of_none e hn), e]
    simp
  · obtain ⟨ob, es, ep, ho, r⟩ := hm
    exact ⟨ob, es, ep, k _ ob (fun z => (hf _ z).2.1 rfl) ho, r⟩
  · by_cases hb : b = T
    · subst hb
      rw [upd_same] at e
      cases e
      exact new
    · rw [upd_ne hb] at e
      refine (I.hok b u e).stay (fun c v hc q => k c v ?_ q) (fun c q => by rw [upd_ne (ne_of_none q hn)]; exact q) fun c xs q => by rw [upd_ne (ne_of_none q hn)]; exact q
      rcases hc with z | z
      · rw [z]; exact nc b u e
      · exact nc c _ z
theorem Inv.turnsN {X : Cx} {pins : List (Addr × Obj)} {σ : St} {H : Hp} {s : Shared} {h' : Heap} {t' : Nat} {ch : List Addr} (I : Inv X pins σ H s) (hf : ∀ b ∈ ch, FpOk X pins H b)
    (k : ∀ b ob, b ∉ ch → s.heap.get? b = some ob → h'.get? b = some ob) : Inv X pins σ H { s with heap := h', toks := t' } := by
  have nc : ∀ b u, H b = some u → b ∉ ch := fun b u e z => by
    have := (hf b z).1
    rw [e] at this
    cases this
  refine I.step (g' := s.gens) (d' := s.drawn) (ch := ch) (fun b hb => ⟨(hf b hb).2.2.2.1, (hf b hb).2.1, (hf b hb).2.2.2.2.1, (hf b hb).2.2.2.2.2⟩) (fun b ob _ _ hc e _ => k b ob hc e) (fun b ob _ _ hc e _ => ⟨ob.slots, k b ob hc e⟩)
    (fun b ob _ e n => n) (fun b ob hc e => ⟨ob, k b ob hc e⟩) (fun b xs e => e) (fun b ob xs e => e) (fun b ps e => ⟨#[], by rw [e]; simp⟩) (fun m hm => ?_) (fun b u e => ?_) I.bare
  · obtain ⟨ob, es, ep, ho, r⟩ := hm
    exact ⟨ob, es, ep, k _ ob (fun z => (hf _ z).2.1 rfl) ho, r⟩
  · refine (I.hok b u e).stay (fun c v hc q => k c v ?_ q) (fun c q => q) fun c xs q => q
    rcases hc with z | z
    · rw [z]; exact nc b u e
    · exact nc c _ z

/-! ### enumerate, its tuples unpacked -/
noncomputable def Ite (S : Src) (K : PySem.W.Frag) (a : Addr) : It :=
  ⟨fun i H => ∃ xs x, S.Sq K H a xs ∧ xs[i]? = some x, fun i H x H' => ∃ T v, H T = none ∧ x = .ref T ∧ H' = upd H T (.tup [.int i, v]) ∧ ∀ xs, S.Sq K H a xs → xs[i]? = some v, fun i H => ∃ xs, S.Sq K H a xs ∧ xs.length = i⟩
section
variable {X : Cx} {elts : List Expr} {k0 : Nat} {tpos : Pos}
noncomputable def iEnum (S : Src) (K : PySem.W.Frag) (ta : TA) : TI := fun σ H R => ta σ H fun vs H1 => ∃ a xs, vs = [.ref a] ∧ S.Sq K H1 a xs ∧ R (Ite S K a) H1
end
end L2

end

section
-- KcOps
set_option Elab.async false
set_option linter.all false
set_option maxRecDepth 100000
set_option maxHeartbeats 4000000
namespace L2
open PySem PySem.Spec PyProof.Rows

section
variable {X : Cx}
/-! ### isinstance(x, T) for a built-in T -/
noncomputable def rIsi (K : PySem.W.Frag) : List V → Hp → VK → Prop := fun xs H Q => ∃ x T t b, xs = [x, .ty T] ∧ TyOf K H x t ∧ PySem.W.kitOne K t (.type T) = some b ∧ Q (.bl b) H
theorem call_isi : CallR X (.builtin "isinstance") (rIsi X.K) := by
  intro pins s σ H xs us Q I r h
  obtain ⟨x, T, t, b, rfl, ty, e, q⟩ := h
  obtain ⟨u, v, rfl, ru, rv⟩ := r.two
  cases (show v = Value.type T from rv)
  exact isinst_ok I ru ty e fun tk => ⟨.bl b, H, I.tok tk, rfl, q⟩
theorem kit_int_int (K : PySem.W.Frag) : PySem.W.kitOne K (.type "int") (.type "int") = some true := by unfold PySem.W.kitOne; rw [if_pos (beq_self_eq_true _)]
theorem kit_int_bool (K : PySem.W.Frag) : PySem.W.kitOne K (.type "int") (.type "bool") = some false := by show (if (Value.type "int" == Value.type "bool") = true then some true else if PySem.W.kitMeta "bool" = true then (fastBuiltinMro "int").map (·.contains (.type "bool")) else none) = some false; decide +kernel
/-! ### all of a list of truths, sum of a list of ints -/
theorem all_get : ∀ (bs : List Bool), (List.range bs.length).all (fun i => bs.getD i false) = bs.all id := by
  intro bs
  induction bs with
  | nil => rfl
  | cons b r ih =>
    rw [List.length_cons, List.range_succ_eq_map, List.all_cons, List.all_map, List.all_cons]
    show (b && _) = (b && _)
    rw [← ih]
    rfl
theorem vals_bl {bs : List Bool} {us : List Value} (r : Vals (bs.map V.bl) us) : us = bs.map Value.bool := by
  induction bs generalizing us with
  | nil => cases r; rfl
  | cons b t ih =>
    cases r with
    | cons q r' =>
      rw [List.map_cons, ← ih r', show _ = Value.bool b from q]
theorem Inv.walked {pins : List (Addr × Obj)} {σ : St} {H : Hp} {s : Shared} {h' : Heap} {tk : Nat} {o : Obj} (I : Inv X pins σ H s) (hk : ∀ b ob, b ∉ [s.heap.objs.size] → (s.heap.push o).get? b = some ob → h'.get? b = some ob) : Inv X pins σ H { s with heap := h', toks := tk } :=
  I.kept fun b ob e => hk b ob (fun z => absurd (List.mem_singleton.mp z) (Nat.ne_of_lt (Heap.lt_size e))) (Heap.get?_push_of_some _ e)
theorem call_allL (hc : X.calm = true) : CallR X (.builtin "all") (fun xs H Q => ∃ (p : Addr) (bs : List Bool), xs = [.ref p] ∧ SqL X.K H p (bs.map V.bl) ∧ Q (.bl (bs.all id)) H) := by
  intro pins s σ H xs us Q I r h
  obtain ⟨p, bs, rfl, hq, q⟩ := h
  obtain ⟨u, rfl, rx⟩ := r.one
  cases rx
  obtain ⟨its, rv, pl, hz⟩ := I.list hq
  have e := vals_bl rv
  subst e
  refine call_all_walk (wpAny_pyIter_list pl.isList ⟨s.heap.objs.size, _, _, _, _, _, fun i => bs.getD i false, rfl, Walks.list (show X.A.in1.handled = none from I.ok.hd hc) _ p (by obtain ⟨o, ho, _⟩ := pl.isList; exact Nat.ne_of_lt (Heap.lt_size ho)) (bs.map Value.bool).toArray,
    ⟨⟨_, Heap.get?_push_size _ rfl, rfl, rfl⟩, pl.isList.push _⟩, ?_, fun h' tk hk => ?_⟩)
  · intro i v s' Q' E' hP hQ
    have hP' : (bs.map Value.bool)[i]? = some v := by simpa using hP
    rw [List.getElem?_map] at hP'
    cases e : bs[i]? with
    | none => rw [e] at hP'; cases hP'
    | some b =>
      rw [e] at hP'
      cases hP'
      have : bs.getD i false = b := by rw [List.getD_eq_getElem?_getD, e]; rfl
      have hQ' : Q' (bs.getD i false) s' := hQ
      rw [this] at hQ'
      exact wpAny_truthy_bool hQ'
  · refine ⟨.bl (bs.all id), H, I.walked hk, ?_, q⟩
    show Value.bool _ = Value.bool _
    rw [← all_get]
    simp
theorem preSum_list (ns : List Int) : ∀ k, k ≤ ns.length → preSum (fun i => ns.getD i 0) k = (ns.take k).sum := by
  intro k
  induction k with
  | zero => intro _; simp [preSum]
  | succ k ih =>
    intro hk
    have hlt : k < ns.length := hk
    rw [preSum, ih (Nat.le_of_lt hlt), List.take_add_one, List.sum_append, List.getElem?_eq_getElem hlt, List.getD_eq_getElem?_getD, List.getElem?_eq_getElem hlt]
    simp
theorem call_sumL (hc : X.calm = true) : CallR X (.builtin "sum") (fun xs H Q => ∃ (p : Addr) (ns : List Int), xs = [.ref p] ∧ SqL X.K H p (ns.map V.int) ∧ Q (.int ns.sum) H) := by
  intro pins s σ H xs us Q I r h
  obtain ⟨p, ns, rfl, hq, q⟩ := h
  obtain ⟨u, rfl, rx⟩ := r.one
  cases rx
  obtain ⟨its, rv, pl, hz⟩ := I.list hq
  have hlen : ns.length = its.length := by have := rv.length; simpa using this
  have ia := intsAre_of rv
  refine call_sum_walkG (wpAny_pyIter_list pl.isList ⟨s.heap.objs.size, _, _, _, _, _, fun i => ns.getD i 0, rfl, Walks.list (show X.A.in1.handled = none from I.ok.hd hc) _ p (by obtain ⟨o, ho, _⟩ := pl.isList; exact Nat.ne_of_lt (Heap.lt_size ho)) its.toArray,
    ⟨⟨_, Heap.get?_push_size _ rfl, rfl, rfl⟩, pl.isList.push _⟩, fun b hb => ?_, ?_, fun h' tk t' hk => ?_⟩)
  · have hp : p < s.heap.objs.size := by
      obtain ⟨o, ho, _⟩ := pl.isList
      exact Heap.lt_size ho
    show b < (s.heap.push _).objs.size
    rw [Heap.size_push]
    rcases List.mem_cons.mp hb with rfl | hb
    · exact Nat.lt_succ_self _
    · obtain rfl := List.mem_singleton.mp hb
      exact Nat.lt_succ_of_lt hp
  · intro i v hP
    have hP' : its[i]? = some v := by simpa using hP
    have hlt : i < ns.length := by
      have := (List.getElem?_eq_some_iff.mp hP').1
      omega
    obtain ⟨u', hu', ru'⟩ := rv.get (x := .int ns[i]) (i := i) (by rw [List.getElem?_map, List.getElem?_eq_getElem hlt] <;> rfl)
    rw [hP'] at hu'
    cases hu'
    obtain ⟨t, e⟩ := (show ∃ t, v = Value.int ns[i] t from ru')
    refine ⟨t, ?_⟩
    show v = Value.int (ns.getD i 0) t
    rw [e, List.getD_eq_getElem?_getD, List.getElem?_eq_getElem hlt]
    rfl
  · refine ⟨.int ns.sum, H, I.walked hk, ⟨t', ?_⟩, q⟩
    rw [show its.toArray.size = ns.length by simp; omega, preSum_list ns _ (Nat.le_refl _), List.take_length]

/-! ### == and != of two lists, two tuples, item by item: flat items, or one and the same object -/
noncomputable def EqE (x y : V) (b : Bool) : Prop := (flatV x = true ∧ flatV y = true ∧ b = eqV x y) ∨ (∃ a, x = .ref a ∧ y = .ref a ∧ b = true)
theorem EqE.at {A : Around} {s : Shared} {x y : V} {b : Bool} {u v : Value} (h : EqE x y b) (ru : RelV x u) (rv : RelV y v) : SeqAt.EqAt A s u v b := by
  rcases h with ⟨f1, f2, rfl⟩ | ⟨a, rfl, rfl, rfl⟩
  · exact eqAt_V ru rv f1 f2
  · cases ru
    cases rv
    exact SeqAt.EqAt.same _
end
end L2

end

section
-- KcBase
set_option Elab.async false
set_option linter.all false
set_option maxRecDepth 100000
set_option maxHeartbeats 4000000
namespace L2
open PySem PySem.Spec PyProof.Rows

/-! ### an own def that is called, all that is asked of it in one -/
noncomputable def FnB (P : Program) (w : World) (K : PySem.W.Frag) (mg : Str → Option Value) (base : Heap) (k : Nat) (x : Str) (ps : List Str) (sp : Sp) : Prop :=
  ∃ f fd, FnOk P w K mg base CX0 k f fd ps sp ∧ mg x = some (.ref f) ∧ PySem.W.keepIn K (.ref f) = true ∧ Binds K fd ps []
theorem pe_callF {X : Cx} {k : Nat} {x : Str} {ps : List Str} {sp : Sp} {p pos : Pos} {e : Expr} {es : List Expr} {t : TA} (F : FnB X.prog X.w X.K X.mg X.base k x ps sp) (hr : Room k X.A) (ha : PA X (e :: es) t) (hg : Gl X x := by rfl)
    (hdb : (x == ("__debug__" : Str)) = false := by decide) (he : starEach (e :: es) X.env = (false, eval e X.env) :: starEach es X.env := by rfl) (hpl : (backTo pos (starEach es X.env)).any (·.1) = false := by rfl) :
    PE X (.Call (.Name x p) (e :: es) [] pos) (tCall sp [] E0 t) := by
  obtain ⟨f, fd, ok, m, kp, b⟩ := F
  exact pe_call ok hr hg m kp b .nil pass0 ha hdb he hpl
theorem FnB.mono {P : Program} {w : World} {K : PySem.W.Frag} {mg : Str → Option Value} {base : Heap} {j k : Nat} {x : Str} {ps : List Str} {sp : Sp} (F : FnB P w K mg base j x ps sp) (h : j ≤ k) : FnB P w K mg base k x ps sp := by
  obtain ⟨f, fd, ok, r⟩ := F
  exact ⟨f, fd, ok.mono h, r⟩
structure Def (K : PySem.W.Frag) (mg : Str → Option Value) (x : Str) (st : Stmt) (ps : List Str) (f : Addr) (fd : FuncData) : Prop where
  fn : Fun K x x st f fd
  m : mg x = some (.ref f)
  b : Binds K fd ps []
theorem Def.ok {P : Program} {w : World} {K : PySem.W.Frag} {mg : Str → Option Value} {base : Heap} {x : Str} {st : Stmt} {N ps : List Str} {f : Addr} {fd : FuncData} {k : Nat} {sp : Sp} (D : Def K mg x st ps f fd) (S : FnScope N ps (defScope st)) (len : ∀ vs H Q E, sp vs H Q E → vs.length = ps.length)
    (hbody : ∀ (cdv : Value) (A : Around) (outer : List Env) (s : Shared) (H : Hp) (vs : List V) (Q : VK) (E : XK), Room k (A.deeper (envOfC x (defScope st) s.heap.objs.size f cdv)) → sp vs H Q E →
      ∃ t, PSs (cxOf CX0 P w K mg base N x (defScope st) f cdv A outer s H E).nox (defBody st) t ∧ t { nx := fun _ H' => Q .non H', rt := Q } (start N vs) H) : FnB P w K mg base (k + 1) x ps sp :=
  ⟨f, fd, D.fn.ok S len hbody, D.m, D.fn.kp, D.b⟩

/-! ### products of ints of many figures -/
theorem op_mulB {X : Cx} : OpR X (binaryOp .Mult) (rI IntMulOk fun i j => .int (i * j)) := opI fun _ _ _ _ _ _ _ hc q => mul_int q hc

/-! ### the law's head, with the bits of the script's ints -/
theorem bits_items : ∀ (ns : List Int), ∀ n ∈ ns, Builtin.Int.intBits n ≤ PySem.W.WData.weightAll (ns.map PySem.W.WData.int)
  | [], n, h => (nomatch h)
  | m :: r, n, h => by
    rw [List.map_cons, PySem.W.WData.weightAll]
    have e : PySem.W.WData.weight (.int m) = Builtin.Int.intBits m := by
      rw [PySem.W.WData.weight]
      rfl
    rw [e]
    rcases List.mem_cons.mp h with rfl | h
    · omega
    · have := bits_items r n h
      omega
theorem bits_of_lay {ns : List Int} (h : PySem.W.WData.layableAll [PySem.W.WData.list (ns.map PySem.W.WData.int)] = true) : ∀ n ∈ ns, Builtin.Int.intBits n ≤ 1048576 := by
  intro n hn
  have h1 : PySem.W.WData.layable (PySem.W.WData.list (ns.map PySem.W.WData.int)) = true := by
    unfold PySem.W.WData.layableAll at h
    rw [List.all_cons, Bool.and_eq_true] at h
    exact h.1
  unfold PySem.W.WData.layable at h1
  rw [Bool.and_eq_true] at h1
  have h2 : PySem.W.WData.weight (PySem.W.WData.list (ns.map PySem.W.WData.int)) ≤ 2 ^ 20 := of_decide_eq_true h1.2
  rw [PySem.W.WData.weight] at h2
  have h3 := bits_items ns n hn
  have e : (2 : Nat) ^ 20 = 1048576 := by decide
  omega
noncomputable def ScriptOk (K : PySem.W.Frag) (H : Hp) (a : Addr) (ns : List Int) : Prop := SqL K H a (ns.map V.int) ∧ ns.length ≤ 63 ∧ ∀ n ∈ ns, Builtin.Int.intBits n ≤ 1048576
noncomputable def spLaw (K : PySem.W.Frag) : Sp := fun vs H Q _ => ∃ (a : Addr) (ns : List Int), vs = [.ref a] ∧ ScriptOk K H a ns ∧ ∀ H', Q (.bl true) H'
theorem walk_ofB {l : PySem.W.OpenLaw} {k : Nat} {q : Program} {loose : List Str} {XP : (Str → Option Value) → Heap → Prop} {YP : World → Heap → Prop} {d : DefRec} {K : Params → PySem.W.Frag} {x : Str}
    (hn : l.most = some 63) (hdf : d.params.defaults = []) (hr : Room k callerA) (hY : ∀ (w : World) (h : Heap), YP w h → (K w.params).In h)
    (F : ∀ (w : World) (mg : Str → Option Value) (fa : Addr) (h : Heap), (K w.params).In h → h.Ns mainGlobals mg → mg d.name = some (.ref fa) →
      ∃ fd : FuncData, (∀ (s : Shared) (u : Value), BindsTo s fd ⟨[u], []⟩ [(x, u)]) ∧
        ∀ base : Heap, (K w.params).In base → base.Ns mainGlobals mg → FnOk l.prog w (K w.params) mg base CX0 k fa fd [x] (spLaw (K w.params))) :
    PySem.W.WalkO q loose XP YP l.row.toRowW d [] (fun f vs => PySem.call f vs) := by
  intro w s₀ s₁ mg mb G Y fa o pm cd doc dV kV ho hd hcd hD hmg hg args vals as hpre hlay hrd hwl hlo
  obtain rfl : dV = .none := PySem.W.Dflts.none hD hdf
  obtain rfl : kV = .none := PySem.W.Dflts.noKw hD
  obtain ⟨a, vs, ns, rfl, rfl, hobj, hints, hlen⟩ := Att.script_of hn hpre hwl
  have hbits := bits_of_lay hlay
  have KX := hY w _ Y
  obtain ⟨fd, hb, hF⟩ := F w mg fa _ KX G.T.g hmg
  have c := law_call KX G.T.g G.T.b G.T.builtins G.T.nolimit hg hobj hints (Nat.le_trans hlen (by decide)) hr hF hb (fun H hO hS => ⟨a, ns, rfl, ⟨hS, hlen, hbits⟩, fun _ => rfl⟩) fun H e s' z => z
  refine PySem.W.enter_call (codeAny_mono c fun r s' hq => ?_)
  obtain ⟨rfl, h2, h3, h4⟩ := hq
  exact ⟨.inl ⟨.bool true, .bool true, [], rfl, fun _ => rfl, .bool true, Att.post_true l _, fun _ => ⟨List.Pairwise.nil, fun _ hm => (nomatch hm)⟩⟩, h2, h3, h4⟩

/-! ### loops over any source -/
/-! ### two names at once -/
/-! ### heaps -/
theorem same_new {H : Hp} {p : Addr} (h : H p = none) (o : HO) : Same H (upd H p o) := fun b u q => by rw [upd_ne (ne_of_none q h)]; exact q
theorem Same.upd {H H' : Hp} {p : Addr} (s : Same H H') (h : H p = none) (o : HO) : Same H (upd H' p o) := fun b u q => by rw [upd_ne (ne_of_none q h)]; exact s b u q
theorem Same.tup {K : PySem.W.Frag} {H H' : Hp} {a : Addr} {xs : List V} (e : Same H H') (h : SqT K H a xs) : SqT K H' a xs := by
  rcases h with (h | ⟨o, h⟩) | h
  · exact .inl (.inl (e _ _ h))
  · exact .inl (.inr ⟨o, e _ _ h⟩)
  · exact .inr h
theorem small {n : Nat} (h : n ≤ 1000) : n ≤ sizeLine := Nat.le_of_lt (small1000 h)
theorem atI_ints {ns : List Int} {k : Int} (h0 : 0 ≤ k) (h1 : k < (ns.length : Int)) : atI (ns.map V.int) k = some (.int (ns.getD k.toNat 0)) := by
  have hk : k.toNat < ns.length := by omega
  have e : k = ((k.toNat : Nat) : Int) := by omega
  have q : atI (ns.map V.int) ((k.toNat : Nat) : Int) = some (.int (ns.getD k.toNat 0)) := atI_nat (by rw [List.getElem?_map, List.getElem?_eq_getElem hk, List.getD_eq_getElem?_getD, List.getElem?_eq_getElem hk] <;> rfl)
  rw [← e] at q
  exact q
theorem ite_of {c : Bool} {A B : Prop} (h1 : c = true → A) (h2 : c = false → B) : if c = true then A else B := by
  cases c with
  | true => rw [if_pos rfl]; exact h1 rfl
  | false => rw [if_neg Bool.false_ne_true]; exact h2 rfl

/-! ### the numbers out of a script: within it the cell, beyond it a draw -/
theorem ScriptOk.same {K : PySem.W.Frag} {H H' : Hp} {a : Addr} {ns : List Int} (h : ScriptOk K H a ns) (s : Same H H') : ScriptOk K H' a ns := ⟨s.seq h.1, h.2⟩
structure Blt (mg : Str → Option Value) : Prop where
  len : mg "len" = none
  range : mg "range" = none
  tuple : mg "tuple" = none
  list : mg "list" = none
  int : mg "int" = none
  bool : mg "bool" = none
  str : mg "str" = none
  dict : mg "dict" = none
  sum : mg "sum" = none
  all : mg "all" = none
  min : mg "min" = none
  max : mg "max" = none
  sorted : mg "sorted" = none
  enumerate : mg "enumerate" = none
  zip : mg "zip" = none
  isinstance : mg "isinstance" = none
end L2

end

section
-- KcZip
set_option Elab.async false
set_option linter.all false
set_option maxRecDepth 100000
set_option maxHeartbeats 4000000
namespace L2
open PySem PySem.Spec PyProof.Rows

/-! ### zip of two sources, its tuples unpacked -/
structure ZApart (z TI TO j1 j2 : Addr) (fp1 fp2 : List Addr) : Prop where
  a1 : TI ≠ z
  a2 : TO ≠ z
  a3 : j1 ≠ z
  a4 : j2 ≠ z
  a5 : TI ≠ TO
  a6 : TI ≠ j1
  a7 : TI ≠ j2
  a8 : TO ≠ j1
  a9 : TO ≠ j2
  b0 : j1 ≠ j2
  b1 : z ∉ fp1
  b2 : TO ∉ fp1
  b3 : j2 ∉ fp1
  b4 : z ∉ fp2
  b5 : TO ∉ fp2
  b6 : j1 ∉ fp2
section
variable {prog : Program} {w : World} {A : Around} {E : Value → Shared → Prop} {s : Shared}
theorem _root_.PySem.Draws.but {it : Addr} {fp : List Addr} {n i : Nat} {P : Nat → Value → Prop} {St : Nat → Heap → Prop} {h h' : Heap} {c : Addr} (D : Draws prog w A it fp n P St) (hst : St i h) (hs : Heap.SameBut c h h') (hc : c ∉ fp) : St i h' :=
  D.frame i _ _ hst fun b hb o e => hs.extBut b o (fun z => hc (by rw [← z]; exact hb)) e
theorem zip_itemD {z TI TO j1 j2 : Addr} {fp1 fp2 : List Addr} {n1 n2 k : Nat} {P1 P2 : Nat → Value → Prop} {S1 S2 : Nat → Heap → Prop} {a b : Value} {Q : Value → Shared → Prop} (Z : ZApart z TI TO j1 j2 fp1 fp2)
    (D1 : Draws prog w A j1 fp1 n1 P1 S1) (D2 : Draws prog w A j2 fp2 n2 P2 S2) (hz : IsZip s.heap z TI TO .none) (hTI : IsPair s.heap TI (.ref j1) (.ref j2)) (hTO : IsPair s.heap TO a b) (h1 : S1 k s.heap) (h2 : S2 k s.heap) (l1 : k < n1) (l2 : k < n2)
    (hQ : ∀ x y h' tk, P1 k x → P2 k y → IsZip h' z TI TO (rawInt s.heap.objs.size) → (∃ a b, IsPair h' TO a b) → S1 (k + 1) h' → S2 (k + 1) h' → IsPair h' s.heap.objs.size x y →
      (∀ c o, c ∉ [z, TI, TO, j1, j2] → s.heap.get? c = some o → h'.get? c = some o) → IsPair h' TI (.ref j1) (.ref j2) → Q (.ref s.heap.objs.size) { s with heap := h', toks := tk }) :
    wpAny (model prog w) A (Builtin.«zip.__next__» ⟨[.ref z], []⟩) (fun fin s' => ∃ v, fin = .done (.ret v) ∧ Q v s') E s := by
  obtain ⟨hp, g, d, tk₀, os⟩ := s
  show wpAny _ _ (field (.ref z) 2 >>= _) _ _ _
  refine wpAny_bind (wpAny_field hz rfl (x := .bool false) rfl ?_)
  show wpAny _ _ (field (.ref z) 3 >>= _) _ _ _
  refine wpAny_bind (wpAny_field hz rfl (x := .ref TI) rfl ?_)
  refine wpAny_bind (wpAny_seqItems hTI rfl ?_)
  show wpAny _ _ (Builtin.SmallTypes.ownedTupleIsFree (.ref z) >>= _) _ _ _
  refine wpAny_bind ?_
  unfold Builtin.SmallTypes.ownedTupleIsFree
  refine wpAny_bind (wpAny_field hz rfl (x := .none) rfl (wpAny_pure ?_))
  simp only [if_true]
  refine wpAny_bind (wpAny_rule ?_)
  refine wpAny_bind (wpAny_field hz rfl (x := .ref TO) rfl ?_)
  refine wpAny_bind (wpAny_setField_rec hz (by simp) fun g1 hz1 hs1 => ?_)
  replace hz1 : IsZip g1 z TI TO .ellipsis := hz1
  replace hs1 : Heap.SameBut z hp g1 := hs1
  refine wpAny_bind ?_
  simp only [List.zipIdx_cons, List.zipIdx_nil, List.forIn_cons, List.forIn_nil]
  refine wpAny_bind (wpAny_bind (wpAny_onRaise ?_))
  show wpAny _ _ (Builtin.SmallTypes.nextOf (.ref j1) >>= _) _ _ _
  refine wpAny_bind (D1.item k ⟨g1, g, d, tk₀, os⟩ _ _ l1 (D1.but h1 hs1 Z.b1) fun x g2 tk1 px st1 hs2 => wpAny_pure ?_)
  replace hs2 : Heap.SameBut j1 g1 g2 := hs2
  have hTO2 : IsPair g2 TO a b := hs2.extBut _ _ Z.a8 (hs1.extBut _ _ Z.a2 hTO)
  refine wpAny_bind (wpAny_seqItems hTO2 rfl ?_)
  refine wpAny_bind (wpAny_updateSeq_pair hTO2 fun g3 hTO3 hs3 => ?_)
  replace hTO3 : IsPair g3 TO x b := hTO3
  replace hs3 : Heap.SameBut TO g2 g3 := hs3
  refine wpAny_bind (wpAny_letGo (wpAny_pure ?_))
  refine wpAny_bind (wpAny_bind (wpAny_onRaise ?_))
  show wpAny _ _ (Builtin.SmallTypes.nextOf (.ref j2) >>= _) _ _ _
  refine wpAny_bind (D2.item k ⟨g3, g, d, tk1, os⟩ _ _ l2 (D2.but (D2.but (D2.but h2 hs1 Z.b4) hs2 Z.b6) hs3 Z.b5) fun y g4 tk2 py st2 hs4 => wpAny_pure ?_)
  replace hs4 : Heap.SameBut j2 g3 g4 := hs4
  have hTO4 : IsPair g4 TO x b := hs4.extBut _ _ Z.a9 hTO3
  refine wpAny_bind (wpAny_seqItems hTO4 rfl ?_)
  refine wpAny_bind (wpAny_updateSeq_pair hTO4 fun g5 hTO5 hs5 => ?_)
  replace hTO5 : IsPair g5 TO x y := hTO5
  replace hs5 : Heap.SameBut TO g4 g5 := hs5
  refine wpAny_bind (wpAny_letGo (wpAny_pure (wpAny_pure ?_)))
  refine wpAny_bind (wpAny_seqItems hTO5 rfl ?_)
  refine wpAny_bind (wpAny_newTuple ?_)
  have hsz : g5.objs.size = hp.objs.size := by rw [hs5.1, hs4.1, hs3.1, hs2.1, hs1.1]
  have hz5 : IsZip g5 z TI TO .ellipsis := hs5.extBut _ _ Z.a2.symm (hs4.extBut _ _ Z.a4.symm (hs3.extBut _ _ Z.a2.symm (hs2.extBut _ _ Z.a3.symm hz1)))
  have k5 : ∀ c o, c ≠ z → c ≠ TO → c ≠ j1 → c ≠ j2 → hp.get? c = some o → g5.get? c = some o := fun c o c1 c2 c3 c4 e =>
    hs5.extBut _ _ c2 (hs4.extBut _ _ c4 (hs3.extBut _ _ c2 (hs2.extBut _ _ c3 (hs1.extBut _ _ c1 e))))
  have st15 : S1 (k + 1) g5 := D1.but (D1.but (D1.but st1 hs3 Z.b2) hs4 Z.b3) hs5 Z.b2
  have st25 : S2 (k + 1) g5 := D2.but st2 hs5 Z.b5
  have zlt : z < g5.objs.size := Heap.lt_size hz5
  show wpAny _ _ (Builtin.SmallTypes.ownedTupleHandOut (.ref z) (.ref g5.objs.size) >>= _) _ _ _
  refine wpAny_bind ?_
  unfold Builtin.SmallTypes.ownedTupleHandOut
  have hz6 : IsZip (g5.push { cls := .type "tuple", data := .seq #[x, y] }) z TI TO .ellipsis := Heap.get?_push_of_some _ hz5
  refine wpAny_bind (wpAny_setField_rec hz6 (by simp) fun g7 hz7 hs7 => ?_)
  replace hz7 : IsZip g7 z TI TO (rawInt g5.objs.size) := hz7
  refine wpAny_setField_rec hz7 (by simp) fun g8 hz8 hs8 => ?_
  replace hz8 : IsZip g8 z TI TO (rawInt g5.objs.size) := hz8
  have up : ∀ c o, c ≠ z → g5.get? c = some o → g8.get? c = some o := fun c o c1 e => hs8.extBut _ _ c1 (hs7.extBut _ _ c1 (Heap.get?_push_of_some _ e))
  have hT8 : IsPair g8 g5.objs.size x y := hs8.extBut _ _ (Nat.ne_of_gt zlt) (hs7.extBut _ _ (Nat.ne_of_gt zlt) (Heap.get?_push_size _ rfl))
  rw [hsz] at hz8 hT8
  refine wpAny_pure ⟨_, rfl, ?_⟩
  show Q (.ref g5.objs.size) _
  rw [hsz]
  exact hQ x y g8 tk2 px py hz8 ⟨x, y, up _ _ Z.a2 hTO5⟩ (D1.frame _ _ _ st15 fun c hc o e => up c o (fun q => Z.b1 (by rw [← q]; exact hc)) e) (D2.frame _ _ _ st25 fun c hc o e => up c o (fun q => Z.b4 (by rw [← q]; exact hc)) e) hT8
    (fun c o hc e => by
      simp only [List.mem_cons, List.not_mem_nil, or_false, not_or] at hc
      exact up c o hc.1 (k5 c o hc.1 hc.2.2.1 hc.2.2.2.1 hc.2.2.2.2 e)) (up _ _ Z.a1 (k5 _ _ Z.a1 Z.a5 Z.a6 Z.a7 hTI))
theorem zip_endD {z TI TO j1 j2 : Addr} {fp1 fp2 : List Addr} {n1 n2 k : Nat} {P1 P2 : Nat → Value → Prop} {S1 S2 : Nat → Heap → Prop} {a b : Value} {Q : Fin → Shared → Prop} (Z : ZApart z TI TO j1 j2 fp1 fp2)
    (D1 : Draws prog w A j1 fp1 n1 P1 S1) (D2 : Draws prog w A j2 fp2 n2 P2 S2) (hz : IsZip s.heap z TI TO .none) (hTI : IsPair s.heap TI (.ref j1) (.ref j2)) (hTO : IsPair s.heap TO a b) (h1 : S1 k s.heap) (h2 : S2 k s.heap) (l : k = min n1 n2)
    (hE : ∀ h' e tk, (∀ c o, c ∉ [z, TI, TO, j1, j2] → s.heap.get? c = some o → h'.get? c = some o) → (∃ o, h'.get? e = some o ∧ o.cls = .type "StopIteration") → E (.ref e) { s with heap := h', toks := tk }) :
    wpAny (model prog w) A (Builtin.«zip.__next__» ⟨[.ref z], []⟩) Q E s := by
  obtain ⟨hp, g, d, tk₀, os⟩ := s
  have kp : ∀ {h' : Heap}, (∀ c o, c ≠ z → c ≠ TO → c ≠ j1 → c ≠ j2 → hp.get? c = some o → h'.get? c = some o) → ∀ c o, c ∉ [z, TI, TO, j1, j2] → hp.get? c = some o → h'.get? c = some o := fun {h'} q c o hc e => by
    simp only [List.mem_cons, List.not_mem_nil, or_false, not_or] at hc
    exact q c o hc.1 hc.2.2.1 hc.2.2.2.1 hc.2.2.2.2 e
  show wpAny _ _ (field (.ref z) 2 >>= _) _ _ _
  refine wpAny_bind (wpAny_field hz rfl (x := .bool false) rfl ?_)
  show wpAny _ _ (field (.ref z) 3 >>= _) _ _ _
  refine wpAny_bind (wpAny_field hz rfl (x := .ref TI) rfl ?_)
  refine wpAny_bind (wpAny_seqItems hTI rfl ?_)
  show wpAny _ _ (Builtin.SmallTypes.ownedTupleIsFree (.ref z) >>= _) _ _ _
  refine wpAny_bind ?_
  unfold Builtin.SmallTypes.ownedTupleIsFree
  refine wpAny_bind (wpAny_field hz rfl (x := .none) rfl (wpAny_pure ?_))
  simp only [if_true]
  refine wpAny_bind (wpAny_rule ?_)
  refine wpAny_bind (wpAny_field hz rfl (x := .ref TO) rfl ?_)
  refine wpAny_bind (wpAny_setField_rec hz (by simp) fun g1 hz1 hs1 => ?_)
  replace hz1 : IsZip g1 z TI TO .ellipsis := hz1
  replace hs1 : Heap.SameBut z hp g1 := hs1
  refine wpAny_bind ?_
  simp only [List.zipIdx_cons, List.zipIdx_nil, List.forIn_cons, List.forIn_nil]
  refine wpAny_bind (wpAny_bind (wpAny_onRaise ?_))
  show wpAny _ _ (Builtin.SmallTypes.nextOf (.ref j1) >>= _) _ _ _
  by_cases hk : k = n1
  · subst hk
    refine wpAny_bind (D1.done ⟨g1, g, d, tk₀, os⟩ _ _ (D1.but h1 hs1 Z.b1) fun g2 e hs2 he => ?_)
    replace hs2 : Heap.ExtBut j1 g1 g2 := hs2
    obtain ⟨oe, hoe, hce⟩ := he
    have hz2 : IsZip g2 z TI TO .ellipsis := hs2 _ _ Z.a3.symm hz1
    have nez : e ≠ z := fun q => by
      subst q
      rw [hz2] at hoe
      cases hoe
      simp at hce
    refine wpAny_setField_rec hz2 (by simp) fun g3 _ hs3 => hE g3 e tk₀ (kp fun c o c1 _ c3 _ q => hs3.extBut _ _ c1 (hs2 _ _ c3 (hs1.extBut _ _ c1 q))) ⟨oe, hs3.extBut _ _ nez hoe, hce⟩
  · have hlt : k < n1 := by omega
    have hk2 : k = n2 := by omega
    refine wpAny_bind (D1.item k ⟨g1, g, d, tk₀, os⟩ _ _ hlt (D1.but h1 hs1 Z.b1) fun x g2 tk1 px st1 hs2 => wpAny_pure ?_)
    replace hs2 : Heap.SameBut j1 g1 g2 := hs2
    have hTO2 : IsPair g2 TO a b := hs2.extBut _ _ Z.a8 (hs1.extBut _ _ Z.a2 hTO)
    refine wpAny_bind (wpAny_seqItems hTO2 rfl ?_)
    refine wpAny_bind (wpAny_updateSeq_pair hTO2 fun g3 hTO3 hs3 => ?_)
    replace hs3 : Heap.SameBut TO g2 g3 := hs3
    refine wpAny_bind (wpAny_letGo (wpAny_pure ?_))
    refine wpAny_bind (wpAny_bind (wpAny_onRaise ?_))
    show wpAny _ _ (Builtin.SmallTypes.nextOf (.ref j2) >>= _) _ _ _
    subst hk2
    refine wpAny_bind (D2.done ⟨g3, g, d, tk1, os⟩ _ _ (D2.but (D2.but (D2.but h2 hs1 Z.b4) hs2 Z.b6) hs3 Z.b5) fun g4 e hs4 he => ?_)
    replace hs4 : Heap.ExtBut j2 g3 g4 := hs4
    obtain ⟨oe, hoe, hce⟩ := he
    have hz4 : IsZip g4 z TI TO .ellipsis := hs4 _ _ Z.a4.symm (hs3.extBut _ _ Z.a2.symm (hs2.extBut _ _ Z.a3.symm hz1))
    have nez : e ≠ z := fun q => by
      subst q
      rw [hz4] at hoe
      cases hoe
      simp at hce
    refine wpAny_setField_rec hz4 (by simp) fun g5 _ hs5 => hE g5 e tk1 (kp fun c o c1 c2 c3 c4 q => hs5.extBut _ _ c1 (hs4 _ _ c4 (hs3.extBut _ _ c2 (hs2.extBut _ _ c3 (hs1.extBut _ _ c1 q))))) ⟨oe, hs5.extBut _ _ nez hoe, hce⟩
end
noncomputable abbrev zh1 (S1 : Src) (h : Heap) (l1 : Addr) : Heap := h.push { cls := .type S1.icls, data := .fields #[.ref l1, .int 0 0] }
noncomputable abbrev zh2 (S1 S2 : Src) (h : Heap) (l1 l2 : Addr) : Heap := (zh1 S1 h l1).push { cls := .type S2.icls, data := .fields #[.ref l2, .int 0 0] }
noncomputable abbrev zh3 (S1 S2 : Src) (h : Heap) (l1 l2 : Addr) : Heap := (zh2 S1 S2 h l1 l2).push { cls := .type "tuple", data := .seq #[.ref h.objs.size, .ref (zh1 S1 h l1).objs.size] }
noncomputable abbrev zh4 (S1 S2 : Src) (h : Heap) (l1 l2 : Addr) : Heap := (zh3 S1 S2 h l1 l2).push { cls := .type "tuple", data := .seq #[.none, .none] }
noncomputable abbrev zh5 (S1 S2 : Src) (h : Heap) (l1 l2 : Addr) : Heap := (zh4 S1 S2 h l1 l2).push { cls := .type "zip", data := .fields #[.none, .bool false, .bool false, .ref (zh2 S1 S2 h l1 l2).objs.size, .ref (zh3 S1 S2 h l1 l2).objs.size] }
theorem new_zip (S1 S2 : Src) (l1 l2 : Addr) (xs ys : Array Value) :
    Meets (Builtin.«zip.__new__» ⟨[.type "zip", .ref l1, .ref l2], []⟩) (fun _ R s => S1.Is s.heap l1 xs ∧ S2.Is s.heap l2 ys ∧ R (.ok (.ret (.ref (zh4 S1 S2 s.heap l1 l2).objs.size))) { s with heap := zh5 S1 S2 s.heap l1 l2 }) :=
  .of_wp fun prog w A R s h => by
    obtain ⟨hp, g, d, tk, os⟩ := s
    obtain ⟨q1, q2, h⟩ := h
    have hsub := sub_zip
    have hL1 : S1.Is (Shared.heap ⟨hp, g, d, tk, os⟩) l1 xs := q1
    have hL2 : S2.Is (Shared.heap ⟨zh1 S1 hp l1, g, d, tk, os⟩) l2 ys := S2.isKeep q2 fun o e => Heap.get?_push_of_some _ e
    wp_walk using S1.iter hL1, S2.iter hL2
    exact ⟨_, rfl, h⟩
noncomputable def Itz (S1 S2 : Src) (K : PySem.W.Frag) (a b : Addr) : It :=
  ⟨fun i H => ∃ xs ys x y, S1.Sq K H a xs ∧ S2.Sq K H b ys ∧ xs[i]? = some x ∧ ys[i]? = some y,
   fun i H x H' => ∃ T u v, H T = none ∧ x = .ref T ∧ H' = upd H T (.tup [u, v]) ∧ ∀ xs ys, S1.Sq K H a xs → S2.Sq K H b ys → xs[i]? = some u ∧ ys[i]? = some v,
   fun i H => ∃ xs ys, S1.Sq K H a xs ∧ S2.Sq K H b ys ∧ min xs.length ys.length = i⟩
theorem zap {z TI TO j1 j2 a b : Addr} (nd : [z, TI, TO, j1, j2].Nodup) (h1 : ∀ c ∈ [z, TI, TO, j1, j2], c ≠ a) (h2 : ∀ c ∈ [z, TI, TO, j1, j2], c ≠ b) : ZApart z TI TO j1 j2 [j1, a] [j2, b] := by
  simp only [List.nodup_cons, List.mem_cons, List.not_mem_nil, or_false, not_or] at nd
  obtain ⟨⟨c1, c2, c3, c4⟩, ⟨c5, c6, c7⟩, ⟨c8, c9⟩, c10, _⟩ := nd
  have g1 := h1 z (by simp)
  have g2 := h1 TO (by simp)
  have g3 := h1 j2 (by simp)
  have g4 := h2 z (by simp)
  have g5 := h2 TO (by simp)
  have g6 := h2 j1 (by simp)
  exact ⟨Ne.symm c1, Ne.symm c2, Ne.symm c3, Ne.symm c4, c5, c6, c7, c8, c9, c10, by simp [c3, g1], by simp [c8, g2], by simp [Ne.symm c10, g3], by simp [c4, g4], by simp [c9, g5], by simp [c10, g6]⟩
theorem turn_zip {P : Program} {w : World} {K : PySem.W.Frag} {elts : List Expr} {k0 : Nat} {pos : Pos} (S1 S2 : Src) (a b z TI TO j1 j2 : Addr) (nd : [z, TI, TO, j1, j2].Nodup) :
    Turn P w K (.Tuple elts k0 pos) (Itz S1 S2 K a b) [z, TI, TO, j1, j2] z (fun i h => IsZip h z TI TO .none ∧ IsPair h TI (.ref j1) (.ref j2) ∧ (∃ u v, IsPair h TO u v) ∧ S1.It h j1 a i ∧ S2.It h j2 b i) where
  mem := by simp
  obj := fun i h st c hc => by
    obtain ⟨q1, q2, ⟨u, v, q3⟩, q4, q5⟩ := st
    simp only [List.mem_cons, List.not_mem_nil, or_false] at hc
    rcases hc with rfl | rfl | rfl | rfl | rfl
    · exact ⟨_, q1, fun v z => nomatch z⟩
    · exact ⟨_, q2, fun v z => nomatch z⟩
    · exact ⟨_, q3, fun v z => nomatch z⟩
    · obtain ⟨o, ho, _, hd⟩ := S1.isIt q4
      exact ⟨o, ho, fun v z => by rw [hd] at z; cases z⟩
    · obtain ⟨o, ho, _, hd⟩ := S2.isIt q5
      exact ⟨o, ho, fun v z => by rw [hd] at z; cases z⟩
  keep := fun i h h' st k => by
    obtain ⟨q1, q2, ⟨u, v, q3⟩, q4, q5⟩ := st
    exact ⟨k z (by simp) _ q1, k TI (by simp) _ q2, ⟨u, v, k TO (by simp) _ q3⟩, S1.itKeep q4 fun o q => k j1 (by simp) o q, S2.itKeep q5 fun o q => k j2 (by simp) o q⟩
  item := by
    intro X hP hw hK hc i pins s σ H E I hf st hg
    subst hP hw hK
    obtain ⟨xs, ys, x, y, hq1, hq2, hx, hy⟩ := hg
    obtain ⟨us, r1, p1, _⟩ := S1.get I hq1
    obtain ⟨vs, r2, p2, _⟩ := S2.get I hq2
    obtain ⟨q1, q2, ⟨u0, v0, q3⟩, q4, q5⟩ := st
    obtain ⟨u, hu, ru⟩ := r1.get hx
    obtain ⟨v, hv, rv⟩ := r2.get hy
    have Z := zap nd (fun c hc' => S1.off I hq1 (hf c hc')) (fun c hc' => S2.off I hq2 (hf c hc'))
    have hh : X.A.in1.handled = none := I.ok.hd hc
    have n1 : a ≠ j1 := Ne.symm (S1.off I hq1 (hf j1 (by simp)))
    have n2 : b ≠ j2 := Ne.symm (S2.off I hq2 (hf j2 (by simp)))
    have l1 : i < us.toArray.size := by have := (List.getElem?_eq_some_iff.mp hu).1; simpa using this
    have l2 : i < vs.toArray.size := by have := (List.getElem?_eq_some_iff.mp hv).1; simpa using this
    have hT : s.TypeIs (.ref z) "zip" := ⟨_, q1, rfl⟩
    unfold pyNext
    refine wpAny_bind (wpAny_attempt (wpAny_callSpecial?_slot (name := Str.ofString "__next__") hT F.slot_zip_next (wpAny_call_entry F.slot_zip_next hT F.entry_zip_next
      (zip_itemD (A := X.A.in1) Z (S1.draws hh j1 a n1 us.toArray) (S2.draws hh j2 b n2 vs.toArray) q1 q2 q3 ⟨q4, p1⟩ ⟨q5, p2⟩ l1 l2 fun x' y' h' tk px py z1 z2 z3 z4 z5 z6 z7 => wpAny_pure ?_) (F.args_zip_next_1 _))))
    have ex : x' = u := by
      have : us.toArray[i]? = some u := by simpa using hu
      rw [this] at px
      exact (Option.some.inj px).symm
    have ey : y' = v := by
      have : vs.toArray[i]? = some v := by simpa using hv
      rw [this] at py
      exact (Option.some.inj py).symm
    subst ex ey
    refine ⟨_, rfl, wpAny_letOwnedTupleGo_zip z1 fun h2 w1 hs2 => ?_⟩
    have nz : ∀ c, c ∈ [TI, TO, j1, j2] → c ≠ z := fun c hc' e => by
      subst e
      exact (List.nodup_cons.mp nd).1 hc'
    have zlt : z < s.heap.objs.size := Heap.lt_size q1
    have hT2 : h2.get? s.heap.objs.size = some { cls := .type "tuple", data := .seq #[x', y'] } := hs2.extBut _ _ (neLt (Nat.le_refl _) zlt) z5
    have kept : ∀ c ob, c ∉ [z, TI, TO, j1, j2] → s.heap.get? c = some ob → h2.get? c = some ob := fun c ob hc' q => hs2.extBut _ _ (fun e => hc' (by simp [e])) (z6 c ob hc' q)
    obtain ⟨u1, v1, z2⟩ := z2
    refine ⟨.ref s.heap.objs.size, upd H s.heap.objs.size (.tup [x, y]), ?_, rfl, ⟨_, x, y, I.fresh, rfl, rfl, fun xs' ys' h1 h2 => by rw [S1.inj I h1 hq1, S2.inj I h2 hq2]; exact ⟨hx, hy⟩⟩,
      ⟨w1, hs2.extBut _ _ (nz TI (by simp)) z7, ⟨u1, v1, hs2.extBut _ _ (nz TO (by simp)) z2⟩, S1.itKeep z3.1 fun o q => hs2.extBut _ _ (nz j1 (by simp)) q, S2.itKeep z4.1 fun o q => hs2.extBut _ _ (nz j2 (by simp)) q⟩, fun c hc' => ?_⟩
    · exact I.turns (t' := tk) hf kept (Nat.le_refl _) ⟨(by show 2 ≤ sizeLine; decide), [x', y'], .cons ru (.cons rv .nil), _, hT2, rfl, ⟨0, rfl⟩, rfl⟩
    · have lt : c < s.heap.objs.size := by
        have st' : IsZip s.heap z TI TO .none ∧ IsPair s.heap TI (.ref j1) (.ref j2) ∧ (∃ u v, IsPair s.heap TO u v) ∧ S1.It s.heap j1 a i ∧ S2.It s.heap j2 b i := ⟨q1, q2, ⟨u0, v0, q3⟩, q4, q5⟩
        simp only [List.mem_cons, List.not_mem_nil, or_false] at hc'
        rcases hc' with rfl | rfl | rfl | rfl | rfl
        · exact zlt
        · exact Heap.lt_size q2
        · exact Heap.lt_size q3
        · obtain ⟨o, ho, _⟩ := S1.isIt q4
          exact Heap.lt_size ho
        · obtain ⟨o, ho, _⟩ := S2.isIt q5
          exact Heap.lt_size ho
      rw [upd_ne (ltNe lt (Nat.le_refl _))]
      exact (hf c hc').1
  done := by
    intro X hP hw hK hc i pins s σ H E I hf st hg
    subst hP hw hK
    obtain ⟨xs, ys, hq1, hq2, hi⟩ := hg
    obtain ⟨us, r1, p1, _⟩ := S1.get I hq1
    obtain ⟨vs, r2, p2, _⟩ := S2.get I hq2
    obtain ⟨q1, q2, ⟨u0, v0, q3⟩, q4, q5⟩ := st
    have Z := zap nd (fun c hc' => S1.off I hq1 (hf c hc')) (fun c hc' => S2.off I hq2 (hf c hc'))
    have hh : X.A.in1.handled = none := I.ok.hd hc
    have n1 : a ≠ j1 := Ne.symm (S1.off I hq1 (hf j1 (by simp)))
    have n2 : b ≠ j2 := Ne.symm (S2.off I hq2 (hf j2 (by simp)))
    have hT : s.TypeIs (.ref z) "zip" := ⟨_, q1, rfl⟩
    have hl : i = min us.toArray.size vs.toArray.size := by
      have := r1.length
      have := r2.length
      simp only [List.size_toArray]
      omega
    unfold pyNext
    refine wpAny_bind (wpAny_attempt (wpAny_callSpecial?_slot (name := Str.ofString "__next__") hT F.slot_zip_next (wpAny_call_entry F.slot_zip_next hT F.entry_zip_next
      (zip_endD (A := X.A.in1) Z (S1.draws hh j1 a n1 us.toArray) (S2.draws hh j2 b n2 vs.toArray) q1 q2 q3 ⟨q4, p1⟩ ⟨q5, p2⟩ hl fun h' e tk kp he => ?_) (F.args_zip_next_1 _))))
    obtain ⟨o, ho, hcl⟩ := he
    refine wpAny_bind (wpAny_isInstance (T := "StopIteration") (b := true) ⟨o, ho, hcl⟩ isSubtype_stop ?_)
    exact wpAny_pure ⟨rfl, I.turnsN (t' := tk) hf kp⟩
  self := fun _ _ _ _ _ st h => wpAny_pyIter_zip st.1 h
section
variable {X : Cx} {elts : List Expr} {k0 : Nat} {tpos : Pos}
noncomputable def iZip (S1 S2 : Src) (K : PySem.W.Frag) (ta : TA) : TI := fun σ H R => ta σ H fun vs H1 => ∃ a b xs ys, vs = [.ref a, .ref b] ∧ S1.Sq K H1 a xs ∧ S2.Sq K H1 b ys ∧ R (Itz S1 S2 K a b) H1
theorem pi_zip (S1 S2 : Src) {a b : Expr} {ta : TA} {p pos : Pos} (hg : Gl X "zip") (hm : X.mg "zip" = none) (ha : PA X [a, b] ta) (hs : starEach [a, b] X.env = [(false, eval a X.env), (false, eval b X.env)] := by rfl) (hs2 : starEach [b] X.env = [(false, eval b X.env)] := by rfl) :
    PI X (.Tuple elts k0 tpos) (.Call (.Name "zip" p) [a, b] [] pos) (iZip S1 S2 X.K ta) := by
  intro pins s σ H R I h
  refine Call_ (ld_blt I hg hm boot_zip (PyProof.Rows.callWith_type1 (thn (ha pos pins s σ H _ I h) fun us s1 ⟨vs, H1, I1, r1, q1⟩ => ?_) (by rw [hs, hs2]) (by rw [hs2]; rfl)))
  obtain ⟨l1, l2, xs, ys, e, hq1, hq2, q⟩ := q1
  subst e
  obtain ⟨u, v, rfl, ru, rv⟩ := r1.two
  cases ru
  cases rv
  obtain ⟨us1, _, p1, _⟩ := S1.get I1 hq1
  obtain ⟨us2, _, p2, _⟩ := S2.get I1 hq2
  refine callType_new F.called_zip (by decide) (F.typeCall_zip_2 _ _) (F.newCall_zip_2 _ _) (fun obj => F.args_object_init_3 obj _ _) F.entry_zip_new (new_zip S1 S2 l1 l2 us1.toArray us2.toArray) ⟨p1, p2, ?_⟩
  generalize hn : s1.heap.objs.size = n
  have z1 : (zh1 S1 s1.heap l1).objs.size = n + 1 := by rw [Heap.size_push, hn]
  have z2 : (zh2 S1 S2 s1.heap l1 l2).objs.size = n + 2 := by rw [Heap.size_push, z1]
  have z3 : (zh3 S1 S2 s1.heap l1 l2).objs.size = n + 3 := by rw [Heap.size_push, z2]
  have z4 : (zh4 S1 S2 s1.heap l1 l2).objs.size = n + 4 := by rw [Heap.size_push, z3]
  have g5 : (zh5 S1 S2 s1.heap l1 l2).get? (zh4 S1 S2 s1.heap l1 l2).objs.size = some _ := Heap.get?_push_size _ rfl
  have g4 : (zh5 S1 S2 s1.heap l1 l2).get? (zh3 S1 S2 s1.heap l1 l2).objs.size = some _ := Heap.get?_push_of_some _ (Heap.get?_push_size _ rfl)
  have g3 : (zh5 S1 S2 s1.heap l1 l2).get? (zh2 S1 S2 s1.heap l1 l2).objs.size = some _ := Heap.get?_push_of_some _ (Heap.get?_push_of_some _ (Heap.get?_push_size _ rfl))
  have g2 : (zh5 S1 S2 s1.heap l1 l2).get? (zh1 S1 s1.heap l1).objs.size = some _ := Heap.get?_push_of_some _ (Heap.get?_push_of_some _ (Heap.get?_push_of_some _ (Heap.get?_push_size _ rfl)))
  have g1 : (zh5 S1 S2 s1.heap l1 l2).get? s1.heap.objs.size = some _ := Heap.get?_push_of_some _ (Heap.get?_push_of_some _ (Heap.get?_push_of_some _ (Heap.get?_push_of_some _ (Heap.get?_push_size _ rfl))))
  have kp : ∀ c o, s1.heap.get? c = some o → (zh5 S1 S2 s1.heap l1 l2).get? c = some o := fun c o e =>
    Heap.get?_push_of_some _ (Heap.get?_push_of_some _ (Heap.get?_push_of_some _ (Heap.get?_push_of_some _ (Heap.get?_push_of_some _ e))))
  show _ ∧ _
  rw [z2, z3, z4] at g5
  rw [z1, z2, hn] at g3
  rw [z3] at g4
  rw [z1] at g2
  rw [hn] at g1
  rw [z4]
  refine ⟨⟨_, g5, rfl⟩, wpAny_pyIter_zip g5 ?_⟩
  have I2 : Inv X pins σ H1 { s1 with heap := zh5 S1 S2 s1.heap l1 l2 } := I1.kept (t' := s1.toks) kp
  refine ⟨n + 4, [n + 4, n + 2, n + 3, n, n + 1], _, _, H1, rfl, I2, turn_zip S1 S2 l1 l2 _ _ _ _ _ (by simp), ⟨g5, g3, ⟨_, _, g4⟩, S1.mkI g1 rfl rfl, S2.mkI g2 rfl rfl⟩, fun c hc => ?_, q⟩
  have hc' : s1.heap.objs.size ≤ c := by
    rw [hn]
    simp only [List.mem_cons, List.not_mem_nil, or_false] at hc
    rcases hc with rfl | rfl | rfl | rfl | rfl
    · exact Nat.le_add_right _ _
    · exact Nat.le_add_right _ _
    · exact Nat.le_add_right _ _
    · exact Nat.le_refl _
    · exact Nat.le_add_right _ _
  exact I1.fpOk hc' (I1.hok.fresh hc')
end
end L2

end

section
-- KcMore
set_option Elab.async false
set_option linter.all false
set_option maxRecDepth 100000
set_option maxHeartbeats 4000000
namespace L2
open PySem PySem.Spec PyProof.Rows

section
variable {X : Cx}
/-! ### t + u, whatever is empty -/
noncomputable def rCatG (K : PySem.W.Frag) : R2 := fun x y H Q => ∃ a b xs ys, x = .ref a ∧ y = .ref b ∧ SqT K H a xs ∧ SqT K H b ys ∧ xs.length + ys.length ≤ sizeLine ∧
  (xs = [] → Q (.ref b) H) ∧ (xs ≠ [] → ys = [] → Q (.ref a) H) ∧ (xs ≠ [] → ys ≠ [] → ∀ p, H p = none → Q (.ref p) (upd H p (.tup (xs ++ ys))))
theorem op_catG : OpR X (binaryOp .Add) (rCatG X.K) := by
  intro pins s σ H x y v u Q I rx ry h
  obtain ⟨a, b, xs, ys, rfl, rfl, ha, hb, hz, q0, q1, q2⟩ := h
  by_cases hx : xs = []
  · cases rx
    cases ry
    obtain ⟨its, r1, p1, _⟩ := I.tuple ha
    obtain ⟨its2, r2, p2, _⟩ := I.tuple hb
    obtain ⟨⟨cls, dd, data, sl⟩, ho, hc, n, hd⟩ := id p1
    obtain ⟨⟨cls2, dd2, data2, sl2⟩, ho2, hc2, n2, hd2⟩ := id p2
    simp only at hc hd hc2 hd2
    subst hc hd hc2 hd2
    have e : its = [] := r1.nil_iff.mpr hx
    exact concat_meets ⟨_, ho, rfl⟩ ⟨_, ho2, rfl⟩ noFill_tuple_add seq_tuple_add PySem.F.slot_tuple_add PySem.F.entry_tuple_add (PySem.F.args_tuple_add_2 _ _)
      (tuple_addW0 a b its.toArray its2.toArray n n2 dd dd2 sl sl2 (by simp [e])) ⟨ho, ho2, ⟨.ref b, H, I, rfl, q0 hx⟩⟩
  · exact op_catT pins s σ H _ _ v u Q I rx ry ⟨a, b, xs, ys, rfl, rfl, ha, hb, hx, hz, q1 hx, q2 hx⟩

/-! ### t.count(x): flat items -/
noncomputable def tBT (r : V → List V → Hp → VK → Prop) (to : TE) (t : TA) : TE := fun σ H Q => to σ H fun x H1 => (∃ a xs, x = .ref a ∧ H1 a = some (.tup xs)) ∧ t σ H1 fun xs H2 => r x xs H2 Q
/-! ### max of a list of ints, xs.index(m) -/
end
end L2

end

section
-- KcRd
set_option Elab.async false
set_option linter.all false
set_option maxRecDepth 100000
set_option maxHeartbeats 4000000
namespace L2
open PySem
/-! ### the reading of a term, one step a row -/
section
variable {σ : St} {H : Hp} {Q : VK} {D : Ends} {K : PySem.W.Frag}
theorem r_seq {t u : TS} (h : t { nx := u D, rt := D.rt, bk := D.bk, ct := D.ct } σ H) : tSeq t u D σ H := h
theorem r_seq_n {t u : TS} (h : ∀ NX : St → Hp → Prop, (∀ σ H, u D σ H → NX σ H) → t { nx := NX, rt := D.rt, bk := D.bk, ct := D.ct } σ H) : tSeq t u D σ H := h _ fun _ _ h => h
theorem r_next (h : D.nx σ H) : tNext D σ H := h
theorem r_asg {te : TE} {g : TG} (h : te σ H fun x H1 => g x σ H1 D.nx) : tAsg te g D σ H := h
theorem r_ret {te : TE} (h : te σ H D.rt) : tRet te D σ H := h
theorem r_retN (h : D.rt .non H) : tRetN D σ H := h
theorem r_drop {te : TE} (h : te σ H fun _ H1 => D.nx σ H1) : tDrop te D σ H := h
theorem r_ifS {c : TT} {t u : TS} (h : c σ H fun b H1 => if b = true then t D σ H1 else u D σ H1) : tIfS c t u D σ H := h
theorem r_ifS_e {c : TT} {t u : TS} (h : ∀ E : St → Hp → Prop, (∀ σ H, u D σ H → E σ H) → c σ H fun b H1 => if b = true then t D σ H1 else E σ H1) : tIfS c t u D σ H := h _ fun _ _ h => h
theorem r_break (h : D.bk σ H) : tBreak D σ H := h
theorem r_cont (h : D.ct σ H) : tCont D σ H := h
theorem r_name {i : Nat} {v : V} {R : St → Hp → Prop} (h : R (σ.set i (some v)) H) : gName i v σ H R := h
theorem r_gsub {to ti : TE} {t : TSet} {v : V} {R : St → Hp → Prop} (h : to σ H fun o H1 => ti σ H1 fun i H2 => t o i v H2 fun H3 => R σ H3) : gSub to ti t v σ H R := h
theorem r_setL {p : Addr} {xs : List V} {k : Int} {v : V} {R : Hp → Prop} {j : Nat} (e : H p = some (.lst xs)) (hj : ixN xs.length k = some j) (h : R (upd H p (.lst (xs.set j v)))) : rSetL (.ref p) (.int k) v H R := ⟨p, xs, k, j, rfl, rfl, e, hj, h⟩
theorem r_var {i : Nat} {v : V} (e : σ[i]? = some (some v)) (h : Q v H) : tVar i σ H Q := ⟨v, e, h⟩
theorem r_c {v : V} (h : Q v H) : tC v σ H Q := h
theorem r_op {r : R2} {ta tb : TE} (h : ta σ H fun x H1 => tb σ H1 fun y H2 => r x y H2 Q) : tOp r ta tb σ H Q := h
theorem r_un {r : V → Hp → VK → Prop} {ta : TE} (h : ta σ H fun x H1 => r x H1 Q) : tUn r ta σ H Q := h
theorem r_I0 {g : Int → Int → V} {i j : Int} (h : Q (g i j) H) : rI0 g (.int i) (.int j) H Q := ⟨i, j, rfl, rfl, h⟩
theorem r_I {C : Int → Int → Prop} {g : Int → Int → V} {i j : Int} (c : C i j) (h : Q (g i j) H) : rI C g (.int i) (.int j) H Q := ⟨i, j, rfl, rfl, c, h⟩
theorem r_U {g : Int → V} {i : Int} (h : Q (g i) H) : rU g (.int i) H Q := ⟨i, rfl, h⟩
theorem r_eqI {i j : Int} (h : Q (.bl (decide (i = j))) H) : rEq (.int i) (.int j) H Q := ⟨rfl, by rw [show decide (V.int i = V.int j) = decide (i = j) from decide_eq_decide.mpr ⟨fun e => by injection e, fun e => by rw [e]⟩]; exact h⟩
theorem r_neI {i j : Int} (h : Q (.bl (!decide (i = j))) H) : rNe (.int i) (.int j) H Q := ⟨rfl, by rw [show decide (V.int i = V.int j) = decide (i = j) from decide_eq_decide.mpr ⟨fun e => by injection e, fun e => by rw [e]⟩]; exact h⟩
theorem r_eqB {i j : Bool} (h : Q (.bl (i == j)) H) : rEq (.bl i) (.bl j) H Q := ⟨rfl, by rw [show decide (V.bl i = V.bl j) = (i == j) by cases i <;> cases j <;> rfl]; exact h⟩
theorem r_neB {i j : Bool} (h : Q (.bl (!(i == j))) H) : rNe (.bl i) (.bl j) H Q := ⟨rfl, by rw [show decide (V.bl i = V.bl j) = (i == j) by cases i <;> cases j <;> rfl]; exact h⟩
theorem r_test {t : TE} {R : Bool → Hp → Prop} (h : t σ H fun x H' => ∃ k, x = .bl k ∧ R k H') : tTest t σ H R := h
theorem r_tb {t : TE} {R : Bool → Hp → Prop} (h : t σ H fun x H' => ∃ k, x = .bl k ∧ R k H') : tB t σ H R := h
theorem r_bl {b : Bool} {R : Bool → Prop} (h : R b) : ∃ k, V.bl b = .bl k ∧ R k := ⟨b, rfl, h⟩
theorem r_and {t u : TT} {R : Bool → Hp → Prop} (h : t σ H fun c H1 => if c = true then u σ H1 R else R false H1) : tAnd t u σ H R := h
theorem r_or {t u : TT} {R : Bool → Hp → Prop} (h : t σ H fun c H1 => if c = true then R true H1 else u σ H1 R) : tOr t u σ H R := h
theorem r_not {t : TT} {R : Bool → Hp → Prop} (h : t σ H fun c H1 => R (!c) H1) : tNot t σ H R := h
theorem r_andV {ta tb : TE} (h : ta σ H fun x H1 => ∃ c, x = .bl c ∧ if c = true then tb σ H1 Q else Q (.bl false) H1) : tAndV ta tb σ H Q := h
theorem r_orV {ta tb : TE} (h : ta σ H fun x H1 => ∃ c, x = .bl c ∧ if c = true then Q (.bl true) H1 else tb σ H1 Q) : tOrV ta tb σ H Q := h
theorem r_notV {ta : TE} (h : ta σ H fun x H1 => ∃ c, x = .bl c ∧ Q (.bl (!c)) H1) : tNotV ta σ H Q := h
theorem r_if {t : TT} {ta tb : TE} (h : t σ H fun c H1 => if c = true then ta σ H1 Q else tb σ H1 Q) : tIf t ta tb σ H Q := h
theorem r_chain {r r' : R2} {ta tb tc : TE} (h : ta σ H fun x H1 => tb σ H1 fun y H2 => r x y H2 fun z H3 => ∃ k, z = .bl k ∧ (if k = true then tc σ H3 fun w' H4 => r' y w' H4 Q else Q (.bl false) H3)) : tChain r r' ta tb tc σ H Q := h
theorem r_nil {R : List V → Hp → Prop} (h : R [] H) : tNil σ H R := h
theorem r_cons {ta : TE} {tr : TA} {R : List V → Hp → Prop} (h : ta σ H fun x H1 => tr σ H1 fun xs H2 => R (x :: xs) H2) : tCons ta tr σ H R := h
theorem r_call {sp : Sp} {E : XK} {t : TA} (h : t σ H fun vs H1 => sp vs H1 Q E) : tCall sp [] E t σ H Q := by
  show t σ H fun vs H1 => sp (vs ++ []) H1 Q E
  simpa only [List.append_nil] using h
theorem r_cb {r : List V → Hp → VK → Prop} {t : TA} (h : t σ H fun vs H1 => r vs H1 Q) : tCB r t σ H Q := h
theorem r_bm {T : String} {r : V → List V → Hp → VK → Prop} {to : TE} {t : TA} (h : to σ H fun x H1 => tyV K T x H1 ∧ t σ H1 fun xs H2 => r x xs H2 Q) : tBM K T r to t σ H Q := h
theorem r_bm0 {T : String} {r : V → List V → Hp → VK → Prop} {to : TE} (h : to σ H fun x H1 => tyV K T x H1 ∧ r x [] H1 Q) : tBM0 K T r to σ H Q := h
theorem r_bt {r : V → List V → Hp → VK → Prop} {to : TE} {t : TA} (h : to σ H fun x H1 => (∃ a xs, x = .ref a ∧ H1 a = some (.tup xs)) ∧ t σ H1 fun xs H2 => r x xs H2 Q) : tBT r to t σ H Q := h
theorem r_sl {r : V → Option Int → Option Int → Hp → VK → Prop} {te : TE} {tl th : TO} (h : te σ H fun x H1 => tl σ H1 fun l H2 => th σ H2 fun u H3 => r x l u H3 Q) : tSl r te tl th σ H Q := h
theorem r_nopart {R : Option Int → Hp → Prop} (h : R none H) : tNoPart σ H R := h
theorem r_part {t : TE} {R : Option Int → Hp → Prop} (h : t σ H fun x H1 => ∃ i, x = .int i ∧ R (some i) H1) : tPart t σ H R := h
theorem r_int {i : Int} {R : Int → Prop} (h : R i) : ∃ j, V.int i = .int j ∧ R j := ⟨i, rfl, h⟩
/-! loops: their sources -/
theorem r_for {wi : TI} {g : TG} {tb : TS} (h : wi σ H fun J H1 => ∃ W : Nat → Nat → St → Hp → Prop, (∃ m, W 0 m σ H1) ∧ ∀ i m σ H, W i m σ H →
    (J.stop i H ∧ D.nx σ H) ∨ (J.go i H ∧ ∃ N : St → Hp → Prop, (∀ σ' H', N σ' H' → ∃ m', m' < m ∧ W (i + 1) m' σ' H') ∧ ∀ x H', J.yld i H x H' → g x σ H' fun σ2 H2 => tb { D with nx := N, ct := N, bk := D.nx } σ2 H2)) : tFor wi g tb D σ H := h
theorem r_comp {wi : TI} {g : CF TG} {tt : CF TT} {te : CF TE} {ix : List (Option Nat)} (h : wi σ H fun J H1 => ∀ p, H1 p = none →
    ∃ W : Nat → Nat → List V → Hp → Prop, (∃ m, W 0 m [] (upd H1 p (.lst []))) ∧ ∀ C s' H' fp, CompBody J (g C s' H' fp) (tt C s' H' fp) (te C s' H' fp) (sub ix σ) p Q W) : tComp wi g tt te ix σ H Q := h
section
variable {R : It → Hp → Prop}
theorem r_iList {tl : TE} (h : tl σ H fun x H1 => ∃ a, x = .ref a ∧ (∃ xs, SqL K H1 a xs) ∧ R (Itl K a) H1) : iList K tl σ H R := h
theorem r_iTup {tl : TE} (h : tl σ H fun x H1 => ∃ a, x = .ref a ∧ (∃ xs, SqT K H1 a xs) ∧ R (Itt K a) H1) : iTup K tl σ H R := h
theorem r_iRng1 {ta : TA} (h : ta σ H fun vs H1 => ∃ j : Int, vs = [.int j] ∧ -(2 ^ 62) ≤ j ∧ j < 2 ^ 62 ∧ R (Itr 0 j.toNat) H1) : iRng1 ta σ H R := h
theorem r_iRng2 {ta : TA} (h : ta σ H fun vs H1 => ∃ i j : Int, vs = [.int i, .int j] ∧ (-(2 ^ 62) ≤ i ∧ i < 2 ^ 62 ∧ -(2 ^ 62) ≤ j ∧ j < 2 ^ 62) ∧ R (Itr i (j - i).toNat) H1) : iRng2 ta σ H R := h
theorem r_iEnum {S : Src} {ta : TA} (h : ta σ H fun vs H1 => ∃ a xs, vs = [.ref a] ∧ S.Sq K H1 a xs ∧ R (Ite S K a) H1) : iEnum S K ta σ H R := h
theorem r_iZip {S1 S2 : Src} {ta : TA} (h : ta σ H fun vs H1 => ∃ a b xs ys, vs = [.ref a, .ref b] ∧ S1.Sq K H1 a xs ∧ S2.Sq K H1 b ys ∧ R (Itz S1 S2 K a b) H1) : iZip S1 S2 K ta σ H R := h
end
/-! the heap -/
noncomputable def Off (l : Addr) (H H' : Hp) : Prop := ∀ b, b ≠ l → H' b = H b
theorem off_upd {l : Addr} {o : HO} : Off l H (upd H l o) := fun b hb => upd_ne hb
theorem Same.off {H0 H' : Hp} {l : Addr} (s : Same H0 H) (h : H0 l = none) (o : Off l H H') : Same H0 H' := fun b u q => by rw [o b (ne_of_none q h)]; exact s b u q
noncomputable def Keep (H H' : Hp) : Prop := ∀ b xs, H b = some (.tup xs) → H' b = some (.tup xs)
theorem Keep.refl (H : Hp) : Keep H H := fun _ _ h => h
theorem Same.keep {H' : Hp} (s : Same H H') : Keep H H' := fun b _ h => s b _ h
theorem Keep.trans {H1 H2 : Hp} (a : Keep H H1) (b : Keep H1 H2) : Keep H H2 := fun c o h => b c o (a c o h)
theorem Off.keep {H' : Hp} {l : Addr} {xs : List V} (o : Off l H H') (e : H l = some (.lst xs)) : Keep H H' := fun b ys q => by
  rw [o b (ne_of q e (by intro z; cases z))]
  exact q
theorem r_tup0 {t : TA} (h : t σ H fun xs H1 => xs.length ≤ sizeLine ∧ ∀ p, H1 p = none → Q (.ref p) (upd H1 p (.tup xs))) : tTup t σ H Q := h
theorem r_lst0 {t : TA} (h : t σ H fun xs H1 => xs.length ≤ sizeLine ∧ ∀ p, H1 p = none → Q (.ref p) (upd H1 p (.lst xs))) : tLst t σ H Q := h
theorem r_append {l : Addr} {xs : List V} {y : V} (e : H l = some (.lst xs)) (hz : xs.length < sizeLine) (h : ∀ H', Off l H H' → H' l = some (.lst (xs ++ [y])) → Q .non H') : rAppend (.ref l) [y] H Q := ⟨l, xs, y, rfl, rfl, e, hz, h _ off_upd upd_same⟩
theorem r_tyL {l : Addr} {xs : List V} (e : H l = some (.lst xs)) : tyV K "list" (.ref l) H := .inl ⟨rfl, xs, SqL.of e⟩
theorem r_ixL {l : Addr} {xs : List V} {i : Int} {v : V} (e : SqL K H l xs) (hv : atI xs i = some v) (h : Q v H) : rIxL K (.ref l) (.int i) H Q := ⟨l, xs, i, v, rfl, rfl, e, hv, h⟩
theorem r_ixT {l : Addr} {xs : List V} {i : Int} {v : V} (e : SqT K H l xs) (hv : atI xs i = some v) (h : Q v H) : rIxT K (.ref l) (.int i) H Q := ⟨l, xs, i, v, rfl, rfl, e, hv, h⟩
end
/-! ### tests -/
theorem ite_dec {p A B : Prop} [Decidable p] (h1 : p → A) (h2 : ¬ p → B) : if decide p = true then A else B := by
  by_cases h : p
  · rw [if_pos (decide_eq_true h)]; exact h1 h
  · rw [if_neg (by rw [decide_eq_false h]; exact Bool.false_ne_true)]; exact h2 h
theorem ite_ndec {p A B : Prop} [Decidable p] (h1 : ¬ p → A) (h2 : p → B) : if (!decide p) = true then A else B := by
  by_cases h : p
  · rw [if_neg (by rw [decide_eq_true h]; exact Bool.false_ne_true)]; exact h2 h
  · rw [if_pos (by rw [decide_eq_false h]; rfl)]; exact h1 h
theorem ite_yes {p A B : Prop} [Decidable p] (h : p) (h1 : A) : if decide p = true then A else B := ite_dec (fun _ => h1) (fun n => absurd h n)
theorem ite_no {p A B : Prop} [Decidable p] (h : ¬ p) (h1 : B) : if decide p = true then A else B := ite_dec (fun n => absurd n h) (fun _ => h1)
theorem ite_b {b : Bool} {A B : Prop} (h1 : b = true → A) (h2 : b = false → B) : if b = true then A else B := ite_of h1 h2
theorem ite_nb {b : Bool} {A B : Prop} (h1 : b = false → A) (h2 : b = true → B) : if (!b) = true then A else B := by cases b; exact iteT (h1 rfl); exact iteF (h2 rfl)
theorem iteNT {A B : Prop} (h : B) : if (!true) = true then A else B := by exact iteF h
theorem iteNF {A B : Prop} (h : A) : if (!false) = true then A else B := by exact iteT h
theorem r_always {σ : St} {H : Hp} {R : Bool → Hp → Prop} (h : R true H) : tAlways σ H R := h
theorem wh_go {B : (St → Hp → Prop) → Prop} {R : St → Hp → Prop} (h : B R) : ∃ N : St → Hp → Prop, (∀ σ' H', N σ' H' → R σ' H') ∧ B N := ⟨R, fun _ _ h => h, h⟩
theorem wh_in {c : TT} {tb : TS} {D : Ends} {σ : St} {H : Hp} (W : Nat → St → Hp → Prop) (m : Nat) (h0 : W m σ H) (h : ∀ m σ H, W m σ H → c σ H fun b H1 => if b = true then ∃ N : St → Hp → Prop, (∀ σ' H', N σ' H' → ∃ m', m' < m ∧ W m' σ' H') ∧ tb { D with nx := N, ct := N, bk := D.nx } σ H1 else D.nx σ H1) :
    tWhile c tb D σ H := ⟨W, ⟨m, h0⟩, h⟩
/-! ### the calls of built-ins, by their names -/
noncomputable def cLen (K : PySem.W.Frag) : List V → Hp → VK → Prop := fun xs H Q => ∃ p ys, xs = [.ref p] ∧ (SqL K H p ys ∨ SqT K H p ys) ∧ Q (.int ys.length) H
noncomputable def cSum (K : PySem.W.Frag) : List V → Hp → VK → Prop := fun xs H Q => ∃ (p : Addr) (ns : List Int), xs = [.ref p] ∧ SqL K H p (ns.map V.int) ∧ Q (.int ns.sum) H
noncomputable def cAll (K : PySem.W.Frag) : List V → Hp → VK → Prop := fun xs H Q => ∃ (p : Addr) (bs : List Bool), xs = [.ref p] ∧ SqL K H p (bs.map V.bl) ∧ Q (.bl (bs.all id)) H
noncomputable def cMin2 : List V → Hp → VK → Prop := fun xs H Q => ∃ i j, xs = [.int i, .int j] ∧ Q (.int (if j < i then j else i)) H
noncomputable def cMax2 : List V → Hp → VK → Prop := fun xs H Q => ∃ i j, xs = [.int i, .int j] ∧ Q (.int (if j > i then j else i)) H
noncomputable def cInt : List V → Hp → VK → Prop := fun xs H Q => (∃ i, xs = [.int i] ∧ Q (.int i) H) ∨ ∃ k, xs = [.bl k] ∧ Q (.int (if k then 1 else 0)) H
section
variable {K : PySem.W.Frag} {H : Hp} {Q : VK}
theorem r_len {l : Addr} {ys : List V} (e : SqL K H l ys) (h : Q (.int ys.length) H) : cLen K [.ref l] H Q := ⟨l, ys, rfl, .inl e, h⟩
theorem r_lenTu {l : Addr} {ys : List V} (e : SqT K H l ys) (h : Q (.int ys.length) H) : cLen K [.ref l] H Q := ⟨l, ys, rfl, .inr e, h⟩
theorem r_sum {l : Addr} {ns : List Int} (e : SqL K H l (ns.map V.int)) (h : Q (.int ns.sum) H) : cSum K [.ref l] H Q := ⟨l, ns, rfl, e, h⟩
theorem r_min2 {i j : Int} (h : Q (.int (if j < i then j else i)) H) : cMin2 [.int i, .int j] H Q := ⟨i, j, rfl, h⟩
theorem r_max2 {i j : Int} (h : Q (.int (if j > i then j else i)) H) : cMax2 [.int i, .int j] H Q := ⟨i, j, rfl, h⟩
theorem r_intI {i : Int} (h : Q (.int i) H) : cInt [.int i] H Q := .inl ⟨i, rfl, h⟩
theorem r_intB {k : Bool} (h : Q (.int (if k then 1 else 0)) H) : cInt [.bl k] H Q := .inr ⟨k, rfl, h⟩
end
/-! ### new things: any heap that has one more -/
noncomputable def New (H : Hp) (o : HO) (Q : Addr → Hp → Prop) : Prop := ∀ p H', H p = none → Same H H' → H' p = some o → Q p H'
theorem New.upd {H : Hp} {o : HO} {Q : Addr → Hp → Prop} (h : New H o Q) : ∀ p, H p = none → Q p (upd H p o) := fun p hp => h p _ hp (same_new hp _) upd_same
noncomputable def mTup (t : TA) : TE := fun σ H Q => t σ H fun xs H1 => xs.length ≤ sizeLine ∧ New H1 (.tup xs) fun p H2 => Q (.ref p) H2
noncomputable def mLst (t : TA) : TE := fun σ H Q => t σ H fun xs H1 => xs.length ≤ sizeLine ∧ New H1 (.lst xs) fun p H2 => Q (.ref p) H2
noncomputable def mCat : R2 := fun x y H Q => ∃ l b xs zs, x = .ref l ∧ y = .ref b ∧ H l = some (.lst xs) ∧ H b = some (.lst zs) ∧ xs.length + zs.length ≤ sizeLine ∧ New H (.lst (xs ++ zs)) fun p H2 => Q (.ref p) H2
noncomputable def mCList (K : PySem.W.Frag) : List V → Hp → VK → Prop := fun xs H Q => ∃ p ys, xs = [.ref p] ∧ (SqL K H p ys ∨ SqT K H p ys) ∧ New H (.lst ys) fun l H2 => Q (.ref l) H2
noncomputable def mCTuple (K : PySem.W.Frag) : List V → Hp → VK → Prop := fun xs H Q => ∃ p ys, xs = [.ref p] ∧ SqL K H p ys ∧ New H (.tup ys) fun l H2 => Q (.ref l) H2
noncomputable def mSlL (K : PySem.W.Frag) : V → Option Int → Option Int → Hp → VK → Prop := fun x lo hi H Q => ∃ a xs, x = .ref a ∧ SqL K H a xs ∧ New H (.lst (cutV xs lo hi)) fun p H2 => Q (.ref p) H2
noncomputable def mCatT (K : PySem.W.Frag) : R2 := fun x y H Q => ∃ a b xs ys, x = .ref a ∧ y = .ref b ∧ H a = some (.tup xs) ∧ H b = some (.tup ys) ∧ xs.length + ys.length ≤ sizeLine ∧ ∀ p H', Same H H' → H' p = some (.tup (xs ++ ys)) → Q (.ref p) H'
theorem mCatT_G {K : PySem.W.Frag} {x y : V} {H : Hp} {Q : VK} (h : mCatT K x y H Q) : rCatG K x y H Q := by
  obtain ⟨a, b, xs, ys, rfl, rfl, ha, hb, hz, q⟩ := h
  refine ⟨a, b, xs, ys, rfl, rfl, SqT.of ha, SqT.of hb, hz, fun e => ?_, fun _ e => ?_, fun _ _ p hp => q p _ (same_new hp _) upd_same⟩
  · exact q b H (Same.refl H) (by rw [hb, e]; rfl)
  · exact q a H (Same.refl H) (by rw [ha, e, List.append_nil])
section
variable {σ : St} {H : Hp} {Q : VK} {K : PySem.W.Frag}
theorem m_tup {t : TA} (h : t σ H fun xs H1 => xs.length ≤ sizeLine ∧ New H1 (.tup xs) fun p H2 => Q (.ref p) H2) : mTup t σ H Q := h
theorem m_lst {t : TA} (h : t σ H fun xs H1 => xs.length ≤ sizeLine ∧ New H1 (.lst xs) fun p H2 => Q (.ref p) H2) : mLst t σ H Q := h
theorem m_cat {l b : Addr} {xs zs : List V} (h1 : H l = some (.lst xs)) (h2 : H b = some (.lst zs)) (hz : xs.length + zs.length ≤ sizeLine) (h : ∀ p H', H p = none → Same H H' → H' p = some (.lst (xs ++ zs)) → Q (.ref p) H') : mCat (.ref l) (.ref b) H Q := ⟨l, b, xs, zs, rfl, rfl, h1, h2, hz, h⟩
theorem m_list {p : Addr} {ys : List V} (e : SqL K H p ys) (h : ∀ l H', H l = none → Same H H' → H' l = some (.lst ys) → Q (.ref l) H') : mCList K [.ref p] H Q := ⟨p, ys, rfl, .inl e, h⟩
theorem m_tuple {p : Addr} {ys : List V} (e : SqL K H p ys) (h : ∀ l H', H l = none → Same H H' → H' l = some (.tup ys) → Q (.ref l) H') : mCTuple K [.ref p] H Q := ⟨p, ys, rfl, e, h⟩
theorem m_slL {a : Addr} {xs : List V} {lo hi : Option Int} (e : SqL K H a xs) (h : ∀ p H', H p = none → Same H H' → H' p = some (.lst (cutV xs lo hi)) → Q (.ref p) H') : mSlL K (.ref a) lo hi H Q := ⟨a, xs, rfl, e, h⟩
theorem m_catT {a b : Addr} {xs ys : List V} (h1 : H a = some (.tup xs)) (h2 : H b = some (.tup ys)) (hz : xs.length + ys.length ≤ sizeLine) (h : ∀ p H', Same H H' → H' p = some (.tup (xs ++ ys)) → Q (.ref p) H') : mCatT K (.ref a) (.ref b) H Q := ⟨a, b, xs, ys, rfl, rfl, h1, h2, hz, h⟩
end
/-! ### loops, as the reading leaves them -/
section
variable {g : TG} {tb : TS} {NX : St → Hp → Prop} {RT : VK} {σ : St} {H : Hp} {K : PySem.W.Frag}
theorem lp_range {j : Int} (n : Nat) (hn : j.toNat = n) (hj : j ≤ 1000000000) (hj0 : -1000000000 ≤ j) (Pv : Nat → St → Hp → Prop) (h0 : Pv 0 σ H) (hs : ∀ i σ H, i < n → Pv i σ H → g (.int i) σ H fun σ2 H2 => tb { nx := Pv (i + 1), rt := RT, bk := NX, ct := Pv (i + 1) } σ2 H2) (hd : ∀ σ H, Pv n σ H → NX σ H) :
    ∃ j' : Int, [V.int j] = [.int j'] ∧ -(2 ^ 62) ≤ j' ∧ j' < 2 ^ 62 ∧ ∃ W : Nat → Nat → St → Hp → Prop, (∃ m, W 0 m σ H) ∧ ∀ i m σ H, W i m σ H →
      ((Itr 0 j'.toNat).stop i H ∧ NX σ H) ∨ ((Itr 0 j'.toNat).go i H ∧ ∃ N : St → Hp → Prop, (∀ σ' H', N σ' H' → ∃ m', m' < m ∧ W (i + 1) m' σ' H') ∧ ∀ x H', (Itr 0 j'.toNat).yld i H x H' → g x σ H' fun σ2 H2 => tb { nx := N, rt := RT, bk := NX, ct := N } σ2 H2) := by
  refine ⟨j, rfl, by omega, by omega, ?_⟩
  subst hn
  exact for_range (lo := 0) (D := { nx := NX, rt := RT }) Pv h0 (fun i σ H hi p => by rw [Int.zero_add]; exact hs i σ H hi p) hd
theorem lp_list {a : Addr} (xs : List V) (hx : SqL K H a xs) (Pv : Nat → St → Hp → Prop) (h0 : Pv 0 σ H) (hl : ∀ i σ H, i ≤ xs.length → Pv i σ H → SqL K H a xs) (hs : ∀ i x σ H, xs[i]? = some x → Pv i σ H → g x σ H fun σ2 H2 => tb { nx := Pv (i + 1), rt := RT, bk := NX, ct := Pv (i + 1) } σ2 H2) (hd : ∀ σ H, Pv xs.length σ H → NX σ H) :
    ∃ a', V.ref a = .ref a' ∧ (∃ xs, SqL K H a' xs) ∧ ∃ W : Nat → Nat → St → Hp → Prop, (∃ m, W 0 m σ H) ∧ ∀ i m σ H, W i m σ H →
      ((Itl K a').stop i H ∧ NX σ H) ∨ ((Itl K a').go i H ∧ ∃ N : St → Hp → Prop, (∀ σ' H', N σ' H' → ∃ m', m' < m ∧ W (i + 1) m' σ' H') ∧ ∀ x H', (Itl K a').yld i H x H' → g x σ H' fun σ2 H2 => tb { nx := N, rt := RT, bk := NX, ct := N } σ2 H2) :=
  ⟨a, rfl, ⟨xs, hx⟩, for_list (D := { nx := NX, rt := RT }) Pv h0 hl hs hd⟩
theorem lp_tup {a : Addr} (xs : List V) (hx : SqT K H a xs) (Pv : Nat → St → Hp → Prop) (h0 : Pv 0 σ H) (hl : ∀ i σ H, i ≤ xs.length → Pv i σ H → SqT K H a xs) (hs : ∀ i x σ H, xs[i]? = some x → Pv i σ H → g x σ H fun σ2 H2 => tb { nx := Pv (i + 1), rt := RT, bk := NX, ct := Pv (i + 1) } σ2 H2) (hd : ∀ σ H, Pv xs.length σ H → NX σ H) :
    ∃ a', V.ref a = .ref a' ∧ (∃ xs, SqT K H a' xs) ∧ ∃ W : Nat → Nat → St → Hp → Prop, (∃ m, W 0 m σ H) ∧ ∀ i m σ H, W i m σ H →
      ((Itt K a').stop i H ∧ NX σ H) ∨ ((Itt K a').go i H ∧ ∃ N : St → Hp → Prop, (∀ σ' H', N σ' H' → ∃ m', m' < m ∧ W (i + 1) m' σ' H') ∧ ∀ x H', (Itt K a').yld i H x H' → g x σ H' fun σ2 H2 => tb { nx := N, rt := RT, bk := NX, ct := N } σ2 H2) :=
  ⟨a, rfl, ⟨xs, hx⟩, for_tup (D := { nx := NX, rt := RT }) Pv h0 hl hs hd⟩
end
/-! two names at once -/
theorem g_pair {K : PySem.W.Frag} {i j : Nat} {a : Addr} {x y : V} {σ : St} {H : Hp} {R : St → Hp → Prop} (e : SqT K H a [x, y]) (h : R ((σ.set i (some x)).set j (some y)) H) : gTup K 2 (gCons (gName i) (gCons (gName j) gNil)) (.ref a) σ H R :=
  ⟨a, [x, y], rfl, e, rfl, x, [y], rfl, y, [], rfl, rfl, h⟩
/-! ### comprehensions, as the reading leaves them -/
noncomputable def CInv (H : Hp) (p : Addr) (R : Nat → List V → Hp → Prop) (i : Nat) (acc : List V) (H2 : Hp) : Prop := Same H H2 ∧ H2 p = some (.lst acc) ∧ acc.length ≤ i ∧ R i acc H2
theorem CInv.put {H H4 : Hp} {p : Addr} {R : Nat → List V → Hp → Prop} {i : Nat} {acc : List V} {y : V} (hp : H p = none) (st : ∀ i acc H H', R i acc H → Keep H H' → R i acc H') (s : Same H H4) (e : H4 p = some (.lst acc)) (l : acc.length ≤ i) (r : R (i + 1) (acc ++ [y]) H4) :
    H4 p = some (.lst acc) ∧ CInv H p R (i + 1) (acc ++ [y]) (upd H4 p (.lst (acc ++ [y]))) :=
  ⟨e, s.upd hp _, upd_same, by rw [List.length_append]; exact Nat.add_le_add_right l 1, st _ _ _ _ r (off_upd.keep e)⟩
theorem CInv.skip {H H4 : Hp} {p : Addr} {R : Nat → List V → Hp → Prop} {i : Nat} {acc : List V} (s : Same H H4) (e : H4 p = some (.lst acc)) (l : acc.length ≤ i) (r : R (i + 1) acc H4) : CInv H p R (i + 1) acc H4 := ⟨s, e, by omega, r⟩
section
variable {g : CF TG} {tt : CF TT} {te : CF TE} {σ₀ : St} {Q : VK} {H : Hp} {K : PySem.W.Frag}
theorem lc_range {j : Int} (n : Nat) (hn : j.toNat = n) (hj : j ≤ 1000000) (hj0 : -1000000 ≤ j) (R : Nat → List V → Hp → Prop) (h0 : ∀ H', Same H H' → R 0 [] H')
    (hs : ∀ p, H p = none → ∀ C s' H' fp, ∀ i acc H2, i < n → CInv H p R i acc H2 → g C s' H' fp (.int i) σ₀ H2 fun σ2 H3 => tt C s' H' fp σ2 H3 fun b H4 => if b = true then te C s' H' fp σ2 H4 fun y H5 => H5 p = some (.lst acc) ∧ CInv H p R (i + 1) (acc ++ [y]) (upd H5 p (.lst (acc ++ [y]))) else CInv H p R (i + 1) acc H4)
    (hd : ∀ p acc H2, H p = none → Same H H2 → H2 p = some (.lst acc) → R n acc H2 → Q (.ref p) H2) :
    ∃ j' : Int, [V.int j] = [.int j'] ∧ -(2 ^ 62) ≤ j' ∧ j' < 2 ^ 62 ∧ ∀ p, H p = none → ∃ W : Nat → Nat → List V → Hp → Prop, (∃ m, W 0 m [] (upd H p (.lst []))) ∧ ∀ C s' H' fp, CompBody (Itr 0 j'.toNat) (g C s' H' fp) (tt C s' H' fp) (te C s' H' fp) σ₀ p Q W := by
  refine ⟨j, rfl, by omega, by omega, fun p hp => ?_⟩
  subst hn
  exact comp_range (lo := 0) (CInv H p R) ⟨same_new hp _, upd_same, Nat.le_refl _, h0 _ (same_new hp _)⟩ (fun i acc H2 _ c => ⟨c.2.1, c.2.2.1⟩) (by rw [sizeLine_eq]; omega) (fun C s' H' fp i acc H2 hi c => by rw [Int.zero_add]; exact hs p hp C s' H' fp i acc H2 hi c) fun acc H2 c => hd p acc H2 hp c.1 c.2.1 c.2.2.2
theorem lc_list {a : Addr} (xs : List V) (hx : SqL K H a xs) (hz : xs.length ≤ 1000000) (R : Nat → List V → Hp → Prop) (h0 : ∀ H', Same H H' → R 0 [] H')
    (hs : ∀ p, H p = none → ∀ C s' H' fp, ∀ i x acc H2, xs[i]? = some x → CInv H p R i acc H2 → g C s' H' fp x σ₀ H2 fun σ2 H3 => tt C s' H' fp σ2 H3 fun b H4 => if b = true then te C s' H' fp σ2 H4 fun y H5 => H5 p = some (.lst acc) ∧ CInv H p R (i + 1) (acc ++ [y]) (upd H5 p (.lst (acc ++ [y]))) else CInv H p R (i + 1) acc H4)
    (hd : ∀ p acc H2, H p = none → Same H H2 → H2 p = some (.lst acc) → R xs.length acc H2 → Q (.ref p) H2) :
    ∃ a', V.ref a = .ref a' ∧ (∃ xs, SqL K H a' xs) ∧ ∀ p, H p = none → ∃ W : Nat → Nat → List V → Hp → Prop, (∃ m, W 0 m [] (upd H p (.lst []))) ∧ ∀ C s' H' fp, CompBody (Itl K a') (g C s' H' fp) (tt C s' H' fp) (te C s' H' fp) σ₀ p Q W :=
  ⟨a, rfl, ⟨xs, hx⟩, fun p hp => comp_list (CInv H p R) ⟨same_new hp _, upd_same, Nat.le_refl _, h0 _ (same_new hp _)⟩ (fun i acc H2 _ c => ⟨c.2.1, c.2.2.1⟩) (fun i acc H2 _ c => c.1.seq hx) (by rw [sizeLine_eq]; omega) (fun C s' H' fp i x acc H2 hi c => hs p hp C s' H' fp i x acc H2 hi c) fun acc H2 c => hd p acc H2 hp c.1 c.2.1 c.2.2.2⟩
theorem lc_tup {a : Addr} (xs : List V) (hx : SqT K H a xs) (hz : xs.length ≤ 1000000) (R : Nat → List V → Hp → Prop) (h0 : ∀ H', Same H H' → R 0 [] H')
    (hs : ∀ p, H p = none → ∀ C s' H' fp, ∀ i x acc H2, xs[i]? = some x → CInv H p R i acc H2 → g C s' H' fp x σ₀ H2 fun σ2 H3 => tt C s' H' fp σ2 H3 fun b H4 => if b = true then te C s' H' fp σ2 H4 fun y H5 => H5 p = some (.lst acc) ∧ CInv H p R (i + 1) (acc ++ [y]) (upd H5 p (.lst (acc ++ [y]))) else CInv H p R (i + 1) acc H4)
    (hd : ∀ p acc H2, H p = none → Same H H2 → H2 p = some (.lst acc) → R xs.length acc H2 → Q (.ref p) H2) :
    ∃ a', V.ref a = .ref a' ∧ (∃ xs, SqT K H a' xs) ∧ ∀ p, H p = none → ∃ W : Nat → Nat → List V → Hp → Prop, (∃ m, W 0 m [] (upd H p (.lst []))) ∧ ∀ C s' H' fp, CompBody (Itt K a') (g C s' H' fp) (tt C s' H' fp) (te C s' H' fp) σ₀ p Q W :=
  ⟨a, rfl, ⟨xs, hx⟩, fun p hp => comp_tup (CInv H p R) ⟨same_new hp _, upd_same, Nat.le_refl _, h0 _ (same_new hp _)⟩ (fun i acc H2 _ c => ⟨c.2.1, c.2.2.1⟩) (fun i acc H2 _ c => c.1.tup hx) (by rw [sizeLine_eq]; omega) (fun C s' H' fp i x acc H2 hi c => hs p hp C s' H' fp i x acc H2 hi c) fun acc H2 c => hd p acc H2 hp c.1 c.2.1 c.2.2.2⟩
end
/-! ### zip -/
section
variable {g : TG} {tb : TS} {NX : St → Hp → Prop} {RT : VK} {σ : St} {H : Hp} {K : PySem.W.Frag}
end
/-! ### lists of ints compared -/
section
variable {K : PySem.W.Frag} {H : Hp} {Q : VK} {a b : Addr} {ns ms : List Int}
theorem r_isi {x : V} {T : String} {t : Value} {c : Bool} (ty : TyOf K H x t) (e : PySem.W.kitOne K t (.type T) = some c) (h : Q (.bl c) H) : rIsi K [x, .ty T] H Q := ⟨x, T, t, c, rfl, ty, e, h⟩
end
/-! ### comprehensions over pairs; slices of tuples; texts -/
section
variable {g : CF TG} {tt : CF TT} {te : CF TE} {σ₀ : St} {Q : VK} {H : Hp} {K : PySem.W.Frag}
theorem lc_zip {S1 S2 : Src} {a b : Addr} (xs ys : List V) (hx : S1.Sq K H a xs) (hy : S2.Sq K H b ys) (kx : ∀ H', Same H H' → S1.Sq K H' a xs) (ky : ∀ H', Same H H' → S2.Sq K H' b ys) (hz : xs.length ≤ 1000000) (R : Nat → List V → Hp → Prop) (h0 : ∀ H', Same H H' → R 0 [] H')
    (hs : ∀ p, H p = none → ∀ C s' H' fp, ∀ i x y T acc H2 H3, xs[i]? = some x → ys[i]? = some y → CInv H p R i acc H2 → H2 T = none → Same H2 H3 → H3 T = some (.tup [x, y]) → H3 p = some (.lst acc) → g C s' H' fp (.ref T) σ₀ H3 fun σ2 H3 => tt C s' H' fp σ2 H3 fun b H4 => if b = true then te C s' H' fp σ2 H4 fun y H5 => H5 p = some (.lst acc) ∧ CInv H p R (i + 1) (acc ++ [y]) (upd H5 p (.lst (acc ++ [y]))) else CInv H p R (i + 1) acc H4)
    (hd : ∀ p acc H2, H p = none → Same H H2 → H2 p = some (.lst acc) → R (min xs.length ys.length) acc H2 → Q (.ref p) H2) :
    ∃ a' b' xs' ys', [V.ref a, V.ref b] = [.ref a', .ref b'] ∧ S1.Sq K H a' xs' ∧ S2.Sq K H b' ys' ∧ ∀ p, H p = none → ∃ W : Nat → Nat → List V → Hp → Prop, (∃ m, W 0 m [] (upd H p (.lst []))) ∧ ∀ C s' H' fp, CompBody (Itz S1 S2 K a' b') (g C s' H' fp) (tt C s' H' fp) (te C s' H' fp) σ₀ p Q W := by
  refine ⟨a, b, xs, ys, rfl, hx, hy, fun p hp => comp_of (n := min xs.length ys.length) (Y := fun i H x H1 => ∃ T u v, H T = none ∧ x = .ref T ∧ H1 = upd H T (.tup [u, v]) ∧ xs[i]? = some u ∧ ys[i]? = some v) (CInv H p R)
    ⟨same_new hp _, upd_same, Nat.le_refl _, h0 _ (same_new hp _)⟩ (fun i acc H2 _ c => ⟨c.2.1, c.2.2.1⟩) (by rw [sizeLine_eq]; omega) (fun i acc H2 hi c => ?_) (fun acc H2 c => ?_) (fun i acc H2 x H3 hi c y => ?_) (fun C s' H' fp i x acc H2 H3 hi c y => ?_) fun acc H2 c => hd p acc H2 hp c.1 c.2.1 c.2.2.2⟩
  · exact ⟨xs, ys, xs[i], ys[i], kx _ c.1, ky _ c.1, by simp [show i < xs.length by omega], by simp [show i < ys.length by omega]⟩
  · exact ⟨xs, ys, kx _ c.1, ky _ c.1, rfl⟩
  · obtain ⟨T, u, v, e1, e2, e3, e4⟩ := y
    obtain ⟨e5, e6⟩ := e4 xs ys (kx _ c.1) (ky _ c.1)
    exact ⟨T, u, v, e1, e2, e3, e5, e6⟩
  · obtain ⟨T, u, v, e1, rfl, rfl, e4, e5⟩ := y
    exact hs p hp C s' H' fp i u v T acc H2 _ e4 e5 c e1 (same_new e1 _) upd_same (by rw [upd_ne (ne_of_none c.2.1 e1)]; exact c.2.1)
noncomputable def mSlT (K : PySem.W.Frag) : V → Option Int → Option Int → Hp → VK → Prop := fun x lo hi H Q => ∃ a xs, x = .ref a ∧ SqT K H a xs ∧ ¬ (HT.sIx xs.length 0 lo = 0 ∧ HT.sIx xs.length xs.length hi = xs.length) ∧ New H (.tup (cutV xs lo hi)) fun p H2 => Q (.ref p) H2
theorem m_slT {a : Addr} {xs : List V} {lo hi : Option Int} (e : SqT K H a xs) (hn : ¬ (HT.sIx xs.length 0 lo = 0 ∧ HT.sIx xs.length xs.length hi = xs.length)) (h : ∀ p H', H p = none → Same H H' → H' p = some (.tup (cutV xs lo hi)) → Q (.ref p) H') : mSlT K (.ref a) lo hi H Q := ⟨a, xs, rfl, e, hn, h⟩
theorem cut_tail (x : V) (xs : List V) : cutV (x :: xs) (some 1) none = xs := by
  unfold cutV
  have e : HT.sIx (x :: xs).length 0 (some 1) = min 1 (x :: xs).length := rfl
  rw [e, show min 1 (x :: xs).length = 1 by simp]
  show ((x :: xs).drop 1).take ((x :: xs).length - 1) = xs
  rw [List.take_of_length_le (by simp)]
  rfl
theorem cut_tail_ne (x : V) (xs : List V) : ¬ (HT.sIx (x :: xs).length 0 (some 1) = 0 ∧ HT.sIx (x :: xs).length (x :: xs).length none = (x :: xs).length) := fun h => by
  have e : HT.sIx (x :: xs).length 0 (some 1) = min 1 (x :: xs).length := rfl
  rw [e, show min 1 (x :: xs).length = 1 by simp] at h
  exact absurd h.1 (by decide)
theorem r_eqS {x y : Str} (h : Q (.bl (decide (x = y))) H) : rEq (.str x) (.str y) H Q := ⟨rfl, by rw [show decide (V.str x = V.str y) = decide (x = y) from decide_eq_decide.mpr ⟨fun e => by injection e, fun e => by rw [e]⟩]; exact h⟩
theorem r_neS {x y : Str} (h : Q (.bl (!decide (x = y))) H) : rNe (.str x) (.str y) H Q := ⟨rfl, by rw [show decide (V.str x = V.str y) = decide (x = y) from decide_eq_decide.mpr ⟨fun e => by injection e, fun e => by rw [e]⟩]; exact h⟩
noncomputable def rDic (kvs : List (Str × V)) (a : Addr) : R2 := fun x y H Q => x = .ref a ∧ ∃ k v, y = .str k ∧ kvs.lookup k = some v ∧ Q v H
theorem r_dic {kvs : List (Str × V)} {a : Addr} {k : Str} {v : V} (e : kvs.lookup k = some v) (h : Q v H) : rDic kvs a (.ref a) (.str k) H Q := ⟨rfl, k, v, rfl, e, h⟩
noncomputable def rDicIn (kvs : List (Str × V)) (a : Addr) (neg : Bool) : R2 := fun x y H Q => y = .ref a ∧ ∃ k, x = .str k ∧ Q (.bl (if neg then !(kvs.lookup k).isSome else (kvs.lookup k).isSome)) H
end
noncomputable def KTup (K : PySem.W.Frag) (a : Addr) (xs : List V) : Prop := ∃ (o : Obj) (its : Array Value) (n : Nat), K.lookup a = some o ∧ o.cls = .type "tuple" ∧ o.data = .seq its n ∧ its.size ≤ sizeLine ∧ Vals xs its.toList
theorem KTup.sq {K : PySem.W.Frag} {a : Addr} {xs : List V} (h : KTup K a xs) (H : Hp) : SqT K H a xs := .inr h
/-! ### pop, extend; three names at once -/
section
variable {H : Hp} {Q : VK} {K : PySem.W.Frag}
theorem r_pop {l : Addr} {xs : List V} {y : V} (e : H l = some (.lst (xs ++ [y]))) (h : ∀ H', Off l H H' → H' l = some (.lst xs) → Q y H') : rPop (.ref l) [] H Q :=
  ⟨l, _, y, rfl, rfl, e, by simp, by rw [List.dropLast_concat]; exact h _ off_upd upd_same⟩
theorem r_extend {l b : Addr} {xs zs : List V} (e : H l = some (.lst xs)) (eb : H b = some (.lst zs)) (hz : xs.length + zs.length ≤ sizeLine) (h : ∀ H', Off l H H' → H' l = some (.lst (xs ++ zs)) → Q .non H') : rExtend (.ref l) [.ref b] H Q := ⟨l, b, xs, zs, rfl, rfl, e, eb, hz, h _ off_upd upd_same⟩
theorem r_inT {a : Addr} {x : V} {xs : List V} {c : Bool} (e : SqT K H a xs) (fx : flatV x = true) (fs : xs.all flatV = true) (hc : inV x xs = c) (h : Q (.bl c) H) : rIn K false x (.ref a) H Q := ⟨a, xs, rfl, .inr e, fx, fs, by rw [← hc] at h; exact h⟩
theorem r_ninT {a : Addr} {x : V} {xs : List V} {c : Bool} (e : SqT K H a xs) (fx : flatV x = true) (fs : xs.all flatV = true) (hc : inV x xs = c) (h : Q (.bl (!c)) H) : rIn K true x (.ref a) H Q := ⟨a, xs, rfl, .inr e, fx, fs, by rw [← hc] at h; exact h⟩
end
/-! ### is not, of truths; != of one thing and itself -/
noncomputable def rIsnB : R2 := fun x y H Q => ∃ a b, x = .bl a ∧ y = .bl b ∧ Q (.bl (!(a == b))) H
theorem r_isnB {a b : Bool} {H : Hp} {Q : VK} (h : Q (.bl (!(a == b))) H) : rIsnB (.bl a) (.bl b) H Q := ⟨a, b, rfl, rfl, h⟩
end L2

end
local macro_rules | `(tactic| walk_at "rb1") => `(tactic| first
  | ((with_reducible refine' L2.r_var (v := ?v) ?e ?h); (case e => exact rfl))
  | (with_reducible first | refine L2.r_next ?_ | refine L2.r_asg ?_ | refine L2.r_ret ?_ | refine L2.r_retN ?_ | refine L2.r_drop ?_ | refine L2.r_break ?_ | refine L2.r_cont ?_ | refine L2.r_name ?_ | refine L2.r_gsub ?_ | refine L2.r_c ?_ | refine L2.r_op ?_ | refine L2.r_un ?_ | refine L2.r_I0 ?_ | refine L2.r_U ?_ | refine L2.r_eqI ?_ | refine L2.r_neI ?_ | refine L2.r_eqS ?_ | refine L2.r_neS ?_ | refine L2.r_eqB ?_ | refine L2.r_neB ?_ | refine L2.r_isnB ?_ | refine L2.r_test ?_ | refine L2.r_tb ?_ | refine L2.r_bl ?_ | refine L2.r_int ?_ | refine L2.r_and ?_ | refine L2.r_or ?_ | refine L2.r_not ?_ | refine L2.r_andV ?_ | refine L2.r_orV ?_ | refine L2.r_notV ?_ | refine L2.r_if ?_ | refine L2.r_chain ?_ | refine L2.r_nil ?_ | refine L2.r_cons ?_ | refine L2.r_call ?_ | refine L2.r_cb ?_ | refine L2.r_bm ?_ | refine L2.r_bm0 ?_ | refine L2.r_bt ?_ | refine L2.r_sl ?_ | refine L2.r_nopart ?_ | refine L2.r_part ?_ | refine L2.r_for ?_ | refine L2.r_comp ?_ | refine L2.r_iList ?_ | refine L2.r_iTup ?_ | refine L2.r_iRng1 ?_ | refine L2.r_iRng2 ?_ | refine L2.r_iEnum ?_ | refine L2.r_iZip ?_ | refine L2.r_tup0 ?_ | refine L2.r_lst0 ?_ | refine L2.m_tup ?_ | refine L2.m_lst ?_ | refine L2.r_min2 ?_ | refine L2.r_max2 ?_ | refine L2.r_intI ?_ | refine L2.r_intB ?_ | refine L2.iteT ?_ | refine L2.iteF ?_ | refine L2.iteNT ?_ | refine L2.iteNF ?_ | refine L2.r_always ?_)
  | ((with_reducible refine L2.r_I ?_ ?_); (first | (show (0 : Int) < _; omega) | (show (0 : Int) < _; decide) | exact ⟨by decide, by decide, by decide⟩ | exact And.intro (by omega) (by omega) | exact (PySem.IntMulOk.of_right (PySem.intBits_le_64 (by omega) (by omega))) | exact (PySem.IntMulOk.of_left (PySem.intBits_le_64 (by omega) (by omega)))))
  | ((with_reducible refine' L2.r_len (ys := ?y) ?e ?h); (case e => first | assumption | exact L2.SqL.of (by assumption)))
  | ((with_reducible refine' L2.r_lenTu (ys := ?y) ?e ?h); (case e => first | assumption | exact L2.SqT.of (by assumption)))
  | dsimp only [List.set_cons_zero, List.set_cons_succ, L2.sub, List.map_cons, List.map_nil, List.getElem?_cons_zero, List.getElem?_cons_succ])
local macro_rules | `(tactic| walk_at "rd") => `(tactic| repeat (first | (with_reducible first | refine L2.r_seq ?_ | refine L2.r_ifS ?_) | walk_at "rb1"))
local macro_rules | `(tactic| walk_at "rs") => `(tactic| repeat (first | (with_reducible refine L2.r_ifS ?_) | walk_at "rb1"))
local macro_rules | `(tactic| walk_at "ra") => `(tactic| repeat (walk_at "rb1"))

section
-- KcMath
set_option linter.all false
namespace KM
noncomputable def fact : Nat → Nat
  | 0 => 1
  | n + 1 => fact n * (n + 1)
noncomputable def choose : Nat → Nat → Nat
  | _, 0 => 1
  | 0, _ + 1 => 0
  | n + 1, k + 1 => choose n k + choose n (k + 1)
theorem fact_pos : ∀ n, 0 < fact n
  | 0 => by decide
  | n + 1 => Nat.mul_pos (fact_pos n) (Nat.succ_pos n)
end KM

end

section
-- KcDeal
set_option linter.all false
namespace KM
/-! ### deals, built card by card -/
noncomputable def nexts (room : List Nat) (w : List Nat) : List Nat := (List.range room.length).filter fun j => decide (w.count j < room.getD j 0)
noncomputable def grow (room : List Nat) (ws : List (List Nat)) : List (List Nat) := ws.flatMap fun w => (nexts room w).map fun j => w ++ [j]
noncomputable def level (room : List Nat) : Nat → List (List Nat)
  | 0 => [[]]
  | i + 1 => grow room (level room i)
noncomputable def words : Nat → List Nat → Nat
  | 0, _ => 1
  | n + 1, r => (((List.range r.length).filter fun j => decide (0 < r.getD j 0)).map fun j => words n (r.set j (r.getD j 0 - 1))).sum
noncomputable def left (room w : List Nat) : List Nat := (List.range room.length).map fun j => room.getD j 0 - w.count j
/-! the words are counted by the factorials -/
noncomputable def prodF (r : List Nat) : Nat := (r.map fact).foldr (· * ·) 1
theorem prodF_cons (a : Nat) (r : List Nat) : prodF (a :: r) = fact a * prodF r := rfl
theorem prodF_set : ∀ (r : List Nat) (j : Nat), j < r.length → 0 < r.getD j 0 → prodF r = prodF (r.set j (r.getD j 0 - 1)) * r.getD j 0
  | [], j, h, _ => absurd h (by simp)
  | a :: r, 0, _, h => by
    have h' : 0 < a := h
    show prodF (a :: r) = prodF ((a - 1) :: r) * a
    rw [prodF_cons, prodF_cons]
    obtain ⟨b, rfl⟩ : ∃ b, a = b + 1 := ⟨a - 1, by omega⟩
    rw [show b + 1 - 1 = b by omega, fact]
    simp only [Nat.mul_assoc, Nat.mul_comm, Nat.mul_left_comm]
  | a :: r, j + 1, h, hp => by
    have ih := prodF_set r j (by simpa using h) hp
    show prodF (a :: r) = prodF (a :: r.set j (r.getD j 0 - 1)) * r.getD j 0
    rw [prodF_cons, prodF_cons, ih]
    simp only [Nat.mul_assoc, Nat.mul_comm, Nat.mul_left_comm]
theorem sum_set : ∀ (r : List Nat) (j : Nat), j < r.length → 0 < r.getD j 0 → (r.set j (r.getD j 0 - 1)).sum + 1 = r.sum
  | [], j, h, _ => absurd h (by simp)
  | a :: r, 0, _, h => by
    have h' : 0 < a := h
    show ((a - 1) :: r).sum + 1 = (a :: r).sum
    rw [List.sum_cons, List.sum_cons]
    omega
  | a :: r, j + 1, h, hp => by
    have ih := sum_set r j (by simpa using h) hp
    show (a :: r.set j (r.getD j 0 - 1)).sum + 1 = (a :: r).sum
    rw [List.sum_cons, List.sum_cons]
    omega
theorem sum_mul (c : Nat) (f : Nat → Nat) : ∀ l : List Nat, (l.map f).sum * c = (l.map fun j => f j * c).sum
  | [] => by simp
  | a :: r => by rw [List.map_cons, List.sum_cons, Nat.add_mul, sum_mul c f r, List.map_cons, List.sum_cons]
theorem sum_pos_only (r : List Nat) : (((List.range r.length).filter fun j => decide (0 < r.getD j 0)).map fun j => r.getD j 0).sum = r.sum := by
  have go : ∀ (l : List Nat) (g : Nat → Nat), ((l.filter fun j => decide (0 < g j)).map g).sum = (l.map g).sum := by
    intro l g
    induction l with
    | nil => rfl
    | cons a t ih =>
      rw [List.filter_cons]
      by_cases h : 0 < g a
      · rw [if_pos (by simpa using h), List.map_cons, List.sum_cons, ih, List.map_cons, List.sum_cons]
      · rw [if_neg (by simpa using h), ih, List.map_cons, List.sum_cons]
        omega
  rw [go]
  congr 1
  apply List.ext_getElem?
  intro k
  rw [List.getElem?_map]
  by_cases hk : k < r.length
  · rw [List.getElem?_range hk, List.getElem?_eq_getElem hk]
    show some (r.getD k 0) = some r[k]
    rw [List.getD_eq_getElem?_getD, List.getElem?_eq_getElem hk]
    rfl
  · rw [List.getElem?_eq_none (by simpa using hk), List.getElem?_eq_none (by simpa using hk)]
    rfl
theorem words_fact : ∀ (n : Nat) (r : List Nat), r.sum = n → words n r * prodF r = fact n
  | 0, r, h => by
    have : prodF r = 1 := by
      induction r with
      | nil => rfl
      | cons a t ih =>
        rw [List.sum_cons] at h
        have ha : a = 0 := by omega
        subst ha
        rw [prodF_cons, ih (by omega)]
        rfl
    rw [words, this]
    rfl
  | n + 1, r, h => by
    rw [words, sum_mul]
    have e : ((List.range r.length).filter fun j => decide (0 < r.getD j 0)).map (fun j => words n (r.set j (r.getD j 0 - 1)) * prodF r) = ((List.range r.length).filter fun j => decide (0 < r.getD j 0)).map (fun j => r.getD j 0 * fact n) := by
      apply List.map_congr_left
      intro j hj
      have hj' := List.mem_filter.mp hj
      rw [List.mem_range] at hj'
      have hp : 0 < r.getD j 0 := of_decide_eq_true hj'.2
      rw [prodF_set r j hj'.1 hp, ← Nat.mul_assoc, words_fact n _ (by have := sum_set r j hj'.1 hp; omega), Nat.mul_comm]
    rw [e, ← sum_mul, sum_pos_only, h, fact, Nat.mul_comm]
/-! ### what holds of each beginning -/
structure Begun (room : List Nat) (i : Nat) (w : List Nat) : Prop where
  len : w.length = i
  all : ∀ j ∈ w, j < room.length
  cnt : ∀ j, j < room.length → w.count j ≤ room.getD j 0
/-! ### their order -/
end KM

end

section
-- KcNum
set_option linter.all false
namespace KM
theorem words_pos (n : Nat) (r : List Nat) (h : r.sum = n) : 0 < words n r := by
  have e := words_fact n r h
  have f := fact_pos n
  rcases Nat.eq_zero_or_pos (words n r) with z | z
  · rw [z, Nat.zero_mul] at e
    omega
  · exact z
end KM

end

section
-- KcPack
set_option Elab.async false
set_option linter.all false
set_option maxRecDepth 100000
set_option maxHeartbeats 4000000
namespace L2
open PySem PyProof.Rows
/-! ### things of whatever kind -/
noncomputable def wholeV : V → Bool
  | .int _ => true
  | _ => false
noncomputable def withinV : V → Int → Int → Bool
  | .int i, lo, hi => decide (lo ≤ i) && decide (i ≤ hi)
  | _, _, _ => false
noncomputable def Plain (K : PySem.W.Frag) (H : Hp) (x : V) : Prop := ∃ t b1 b2, TyOf K H x t ∧ PySem.W.kitOne K t (.type "int") = some b1 ∧ PySem.W.kitOne K t (.type "bool") = some b2 ∧ (b1 && !b2) = wholeV x
theorem Plain.int {K : PySem.W.Frag} {H : Hp} (i : Int) : Plain K H (.int i) := ⟨_, _, _, .int i, kit_int_int K, kit_int_bool K, rfl⟩
theorem tyOf_same {K : PySem.W.Frag} {H H' : Hp} {x : V} {t : Value} (h : TyOf K H x t) (s : Same H H') : TyOf K H' x t := by
  cases h with
  | non => exact .non
  | bl b => exact .bl b
  | int i => exact .int i
  | str x => exact .str x
  | flt x => exact .flt x
  | lst e => exact .lst (s _ _ e)
  | frz e => exact .frz (s _ _ e)
  | tup e => exact .tup (s _ _ e)
  | dK e => exact .dK (s _ _ e)
  | dT e => exact .dT (s _ _ e)
  | ins e cl ha hn htk hm => exact .ins (s _ _ e) cl ha hn htk hm
theorem Plain.same {K : PySem.W.Frag} {H H' : Hp} {x : V} (h : Plain K H x) (s : Same H H') : Plain K H' x := by
  obtain ⟨t, b1, b2, ty, r⟩ := h
  exact ⟨t, b1, b2, tyOf_same ty s, r⟩
noncomputable def spWhole (K : PySem.W.Frag) : Sp := fun vs H Q _ => ∃ x, vs = [x] ∧ Plain K H x ∧ Q (.bl (wholeV x)) H
noncomputable abbrev sp_is_whole (K : PySem.W.Frag) : Sp := spWhole K
noncomputable def t_is_whole (K : PySem.W.Frag) : TS := (tRet (tAndV (tCB (rIsi K) (tCons (tVar 0) (tCons (tC (.ty "int")) tNil))) (tNotV (tCB (rIsi K) (tCons (tVar 0) (tCons (tC (.ty "bool")) tNil))))))
theorem len_is_whole {K : PySem.W.Frag} {vs : List V} {H : Hp} {Q : VK} {E : XK} (h : sp_is_whole K vs H Q E) : vs.length = 1 := by
  obtain ⟨x, rfl, _⟩ := h
  rfl
theorem rd_is_whole {K : PySem.W.Frag} {vs : List V} {H : Hp} {Q : VK} {E : XK} (h : sp_is_whole K vs H Q E) : t_is_whole K { nx := fun _ H' => Q .non H', rt := Q } (start ["thing"] vs) H := by
  obtain ⟨x, rfl, ⟨t, b1, b2, ty, k1, k2, e⟩, q⟩ := h
  refine ⟨_, rfl, _, _, _, _, rfl, ty, k1, _, rfl, ite_of (fun c => ?_) (fun c => ?_)⟩
  · subst c
    refine ⟨_, rfl, _, _, _, _, rfl, ty, k2, _, rfl, ?_⟩
    rw [← e, Bool.true_and] at q
    exact q
  · subst c
    rw [← e, Bool.false_and] at q
    exact q
noncomputable def spWithin (K : PySem.W.Frag) : Sp := fun vs H Q _ => ∃ x lo hi, vs = [x, .int lo, .int hi] ∧ Plain K H x ∧ Q (.bl (withinV x lo hi)) H
noncomputable abbrev sp_is_within (K : PySem.W.Frag) : Sp := spWithin K
noncomputable def t_is_within (K : PySem.W.Frag) : TS := (tRet (tAndV (tCall (sp_is_whole K) [] E0 (tCons (tVar 0) tNil)) (tChain (rI0 fun i j => .bl (decide (i ≤ j))) (rI0 fun i j => .bl (decide (i ≤ j))) (tVar 1) (tVar 0) (tVar 2))))
theorem len_is_within {K : PySem.W.Frag} {vs : List V} {H : Hp} {Q : VK} {E : XK} (h : sp_is_within K vs H Q E) : vs.length = 3 := by
  obtain ⟨x, lo, hi, rfl, _⟩ := h
  rfl
theorem rd_is_within {K : PySem.W.Frag} {vs : List V} {H : Hp} {Q : VK} {E : XK} (h : sp_is_within K vs H Q E) : t_is_within K { nx := fun _ H' => Q .non H', rt := Q } (start ["thing", "least", "most"] vs) H := by
  obtain ⟨x, lo, hi, rfl, pl, q⟩ := h
  refine ⟨_, rfl, x, rfl, pl, _, rfl, ite_of (fun c => ?_) (fun c => ?_)⟩
  · cases x with
    | int i =>
      refine ⟨_, rfl, _, rfl, _, _, rfl, rfl, _, rfl, ite_of (fun d => ?_) (fun d => ?_)⟩
      · refine ⟨_, rfl, _, _, rfl, rfl, ?_⟩
        have q' : Q (.bl (decide (lo ≤ i) && decide (i ≤ hi))) H := q
        rw [d, Bool.true_and] at q'
        exact q'
      · have q' : Q (.bl (decide (lo ≤ i) && decide (i ≤ hi))) H := q
        rw [d, Bool.false_and] at q'
        exact q'
    | _ => cases c
  · cases x with
    | int i => cases c
    | _ => exact q
/-! ### what is a pack -/
/-! ### how many -/
structure Pack (c : Nat) (ss : List Nat) : Prop where
  c12 : c ≤ 12
  l1 : 1 ≤ ss.length
  l5 : ss.length ≤ 5
  sum : ss.sum ≤ c
noncomputable def natV (ss : List Nat) : List V := ss.map fun (s : Nat) => V.int ((s : Nat) : Int)
theorem natV_len (ss : List Nat) : (natV ss).length = ss.length := List.length_map _
theorem sum_cast : ∀ ss : List Nat, (ss.map fun (s : Nat) => ((s : Nat) : Int)).sum = ((ss.sum : Nat) : Int)
  | [] => rfl
  | a :: r => by rw [List.map_cons, List.sum_cons, List.sum_cons, sum_cast r]; omega
theorem mem_le_sum : ∀ {ss : List Nat} {s : Nat}, s ∈ ss → s ≤ ss.sum
  | a :: r, s, h => by
    rw [List.sum_cons]
    rcases List.mem_cons.mp h with rfl | h
    · omega
    · have := mem_le_sum h
      omega
/-! ### deals, one more card -/
theorem paired_get {α β : Type} {F : α → β → Prop} : ∀ {l : List α} {m : List β} {i : Nat} {a : α}, Paired F l m → l[i]? = some a → ∃ b, m[i]? = some b ∧ F a b
  | _, _, _, _, .nil, h => by simp at h
  | _, _, 0, _, .cons r _, h => by simp at h; subst h; exact ⟨_, rfl, r⟩
  | _, _, i + 1, a, .cons _ t, h => by
    obtain ⟨b, h1, h2⟩ := paired_get (i := i) (a := a) t (by simpa using h)
    exact ⟨b, by simpa using h1, h2⟩
theorem paired_app {α β : Type} {F : α → β → Prop} : ∀ {l : List α} {m : List β} {l' : List α} {m' : List β}, Paired F l m → Paired F l' m' → Paired F (l ++ l') (m ++ m')
  | _, _, _, _, .nil, h => h
  | _, _, _, _, .cons r t, h => .cons r (paired_app t h)
/-! ### the deals -/
theorem natV_snoc (ss : List Nat) (c : Nat) : natV ss ++ [.int (c : Int)] = natV (ss ++ [c]) := by unfold natV; rw [List.map_append]; rfl
/-! ### the cards of a holder -/
theorem int_at {xs : List Int} {i : Nat} {x : V} (h : (xs.map V.int)[i]? = some x) : ∃ z, xs[i]? = some z ∧ x = .int z := by
  rw [List.getElem?_map] at h
  cases e : xs[i]? with
  | none => rw [e] at h; cases h
  | some z => rw [e] at h; exact ⟨z, rfl, (Option.some.inj h).symm⟩
end L2

end

section
-- KcSy
set_option Elab.async false
set_option linter.all false
set_option maxRecDepth 100000
set_option maxHeartbeats 4000000
namespace L2
open PySem PyProof.Rows

/-! ### sayings -/
inductive Sy where
  | holds (w c : Nat) | sees (h : Nat) | not (s : Sy) | and (s t : Sy) | or (s t : Sy) | knows (h : Nat) (s : Sy) | all (g : List Nat) (s : Sy) | common (g : List Nat) (s : Sy)
namespace Sy
noncomputable def words : Sy → Nat
  | .holds _ _ => 1 | .sees _ => 1 | .not s => s.words + 1 | .and s t => s.words + t.words + 1 | .or s t => s.words + t.words + 1 | .knows _ s => s.words + 1 | .all _ s => s.words + 1 | .common _ s => s.words + 1
noncomputable def subs : Sy → List Sy
  | .holds _ _ => [] | .sees _ => [] | .not s => [s] | .and s t => [s, t] | .or s t => [s, t] | .knows _ s => [s] | .all _ s => [s] | .common _ s => [s]
noncomputable def word : Sy → Str
  | .holds _ _ => "holds" | .sees _ => "sees" | .not _ => "not" | .and _ _ => "and" | .or _ _ => "or" | .knows _ _ => "knows" | .all _ _ => "all" | .common _ _ => "common"
noncomputable def form : Sy → List Str
  | .holds _ _ => ["holder", "card"] | .sees _ => ["hand"] | .not _ => ["saying"] | .and _ _ => ["saying", "saying"] | .or _ _ => ["saying", "saying"] | .knows _ _ => ["hand", "saying"] | .all _ _ => ["hands", "saying"] | .common _ _ => ["hands", "saying"]
noncomputable def plain : Sy → Bool
  | .holds _ _ => true | .not _ => true | .and _ _ => true | .or _ _ => true | _ => false
noncomputable def alone : Sy → Bool
  | .holds _ _ => true | .sees _ => false | .not s => s.alone | .and s t => s.alone && t.alone | .or s t => s.alone && t.alone | .knows _ _ => false | .all _ _ => false | .common _ _ => false
noncomputable def Ok (cards hands : Nat) : Sy → Prop
  | .holds w c => w ≤ hands ∧ c < cards | .sees h => h < hands | .not s => s.Ok cards hands | .and s t => s.Ok cards hands ∧ t.Ok cards hands | .or s t => s.Ok cards hands ∧ t.Ok cards hands
  | .knows h s => h < hands ∧ s.Ok cards hands | .all g s => (g.Pairwise (· < ·) ∧ ∀ k ∈ g, k < hands) ∧ s.Ok cards hands | .common g s => (g.Pairwise (· < ·) ∧ ∀ k ∈ g, k < hands) ∧ s.Ok cards hands
theorem words_pos (s : Sy) : 1 ≤ s.words := by cases s <;> simp [words]
theorem words_subs (s : Sy) : s.words = 1 + (s.subs.map words).sum := by cases s <;> simp [words, subs] <;> omega
theorem sub_words {s t : Sy} (h : t ∈ s.subs) : t.words + 1 ≤ s.words := by
  rw [words_subs s]
  have := mem_le_sum (List.mem_map_of_mem (f := words) h)
  omega
end Sy
noncomputable def IsSy (H : Hp) : V → Sy → Prop
  | v, .holds w c => ∃ a, v = .ref a ∧ H a = some (.tup [.str "holds", .int w, .int c])
  | v, .sees h => ∃ a, v = .ref a ∧ H a = some (.tup [.str "sees", .int h])
  | v, .not s => ∃ a x, v = .ref a ∧ H a = some (.tup [.str "not", x]) ∧ IsSy H x s
  | v, .and s t => ∃ a x y, v = .ref a ∧ H a = some (.tup [.str "and", x, y]) ∧ IsSy H x s ∧ IsSy H y t
  | v, .or s t => ∃ a x y, v = .ref a ∧ H a = some (.tup [.str "or", x, y]) ∧ IsSy H x s ∧ IsSy H y t
  | v, .knows h s => ∃ a x, v = .ref a ∧ H a = some (.tup [.str "knows", .int h, x]) ∧ IsSy H x s
  | v, .all g s => ∃ a b x, v = .ref a ∧ H a = some (.tup [.str "all", .ref b, x]) ∧ H b = some (.tup (natV g)) ∧ IsSy H x s
  | v, .common g s => ∃ a b x, v = .ref a ∧ H a = some (.tup [.str "common", .ref b, x]) ∧ H b = some (.tup (natV g)) ∧ IsSy H x s
theorem IsSy.keep {H H' : Hp} (k : Keep H H') : ∀ {s : Sy} {v : V}, IsSy H v s → IsSy H' v s
  | .holds _ _, _, ⟨a, e, h⟩ => ⟨a, e, k _ _ h⟩
  | .sees _, _, ⟨a, e, h⟩ => ⟨a, e, k _ _ h⟩
  | .not _, _, ⟨a, x, e, h, r⟩ => ⟨a, x, e, k _ _ h, IsSy.keep k r⟩
  | .and _ _, _, ⟨a, x, y, e, h, r, q⟩ => ⟨a, x, y, e, k _ _ h, IsSy.keep k r, IsSy.keep k q⟩
  | .or _ _, _, ⟨a, x, y, e, h, r, q⟩ => ⟨a, x, y, e, k _ _ h, IsSy.keep k r, IsSy.keep k q⟩
  | .knows _ _, _, ⟨a, x, e, h, r⟩ => ⟨a, x, e, k _ _ h, IsSy.keep k r⟩
  | .all _ _, _, ⟨a, b, x, e, h, i, r⟩ => ⟨a, b, x, e, k _ _ h, k _ _ i, IsSy.keep k r⟩
  | .common _ _, _, ⟨a, b, x, e, h, i, r⟩ => ⟨a, b, x, e, k _ _ h, k _ _ i, IsSy.keep k r⟩
noncomputable def pick (form : List Str) (items : List V) : List V := ((form.zip items).filter fun p => decide (p.1 = ("saying" : Str))).map (·.2)
noncomputable def SysAt (H : Hp) (xs : List V) (ss : List Sy) : Prop := Paired (IsSy H) xs ss
theorem SysAt.keep {H H' : Hp} (k : Keep H H') {xs : List V} {ss : List Sy} (h : SysAt H xs ss) : SysAt H' xs ss := Paired.mapP h fun _ _ r => r.keep k
/-! ### the module's tables -/
structure Glo where
  forms : Addr
  cw : Addr
  f1 : Addr
  f2 : Addr
  f3 : Addr
  f4 : Addr
  f5 : Addr
  f6 : Addr
  f7 : Addr
  f8 : Addr
noncomputable def Glo.kvs (G : Glo) : List (Str × V) := [("holds", .ref G.f1), ("not", .ref G.f2), ("and", .ref G.f3), ("or", .ref G.f4), ("knows", .ref G.f5), ("all", .ref G.f6), ("common", .ref G.f7), ("sees", .ref G.f8)]
structure GloOk (K : PySem.W.Frag) (G : Glo) : Prop where
  t1 : KTup K G.f1 [.str "holder", .str "card"]
  t2 : KTup K G.f2 [.str "saying"]
  t3 : KTup K G.f3 [.str "saying", .str "saying"]
  t4 : KTup K G.f4 [.str "saying", .str "saying"]
  t5 : KTup K G.f5 [.str "hand", .str "saying"]
  t6 : KTup K G.f6 [.str "hands", .str "saying"]
  t7 : KTup K G.f7 [.str "hands", .str "saying"]
  t8 : KTup K G.f8 [.str "hand"]
theorem lookS {x y : Str} {v : V} {r : List (Str × V)} : ((x, v) :: r).lookup y = if y = x then some v else r.lookup y := by
  rw [List.lookup_cons]
  by_cases h : y = x
  · rw [if_pos h, show (y == x) = true from beq_iff_eq.mpr h]
  · rw [if_neg h, show (y == x) = false from beq_eq_false_iff_ne.mpr h]
theorem GloOk.form {K : PySem.W.Frag} {G : Glo} (g : GloOk K G) (s : Sy) : ∃ f, G.kvs.lookup s.word = some (.ref f) ∧ KTup K f (s.form.map V.str) := by
  cases s with
  | holds w c => exact ⟨G.f1, rfl, g.t1⟩
  | sees w => exact ⟨G.f8, rfl, g.t8⟩
  | not s => exact ⟨G.f2, rfl, g.t2⟩
  | and s t => exact ⟨G.f3, rfl, g.t3⟩
  | or s t => exact ⟨G.f4, rfl, g.t4⟩
  | knows w s => exact ⟨G.f5, rfl, g.t5⟩
  | all g' s => exact ⟨G.f6, rfl, g.t6⟩
  | common g' s => exact ⟨G.f7, rfl, g.t7⟩
theorem at_zero (x : V) (xs : List V) : atI (x :: xs) 0 = some x := by
  have : atI (x :: xs) ((0 : Nat) : Int) = some x := atI_nat rfl
  exact this
theorem cast_words (ss : List Sy) : (ss.map fun t => ((t.words : Nat) : Int)) = (ss.map Sy.words).map fun (k : Nat) => ((k : Nat) : Int) := by rw [List.map_map]; rfl
theorem pick_take (form : List Str) (items : List V) (i : Nat) (f : Str) (x : V) (hf : form[i]? = some f) (hx : items[i]? = some x) : pick (form.take (i + 1)) (items.take (i + 1)) = pick (form.take i) (items.take i) ++ (if f = "saying" then [x] else []) := by
  unfold pick
  have e : (form.take (i + 1)).zip (items.take (i + 1)) = (form.take i).zip (items.take i) ++ [(f, x)] := by
    rw [List.take_add_one, List.take_add_one, hf, hx]
    rw [List.zip_append (by
      have h1 := (List.getElem?_eq_some_iff.mp hf).1
      have h2 := (List.getElem?_eq_some_iff.mp hx).1
      rw [List.length_take, List.length_take]
      omega)]
    rfl
  rw [e, List.filter_append, List.map_append]
  congr 1
  by_cases h : f = "saying"
  · rw [if_pos h, List.filter_cons_of_pos (by simpa using h)]
    rfl
  · rw [if_neg h, List.filter_cons_of_neg (by simpa using h)]
    rfl
theorem pick_len (form : List Str) (items : List V) : (pick form items).length ≤ form.length := by
  unfold pick
  rw [List.length_map]
  refine Nat.le_trans (List.length_filter_le _ _) ?_
  rw [List.length_zip]
  omega
theorem Sy.form_len (s : Sy) : s.form.length ≤ 2 := by cases s <;> simp [Sy.form]
theorem sysAt_get {H : Hp} {xs : List V} {ss : List Sy} {i : Nat} {x : V} (h : SysAt H xs ss) (e : xs[i]? = some x) : ∃ s, ss[i]? = some s ∧ IsSy H x s := paired_get h e
theorem sysAt_len {H : Hp} {xs : List V} {ss : List Sy} (h : SysAt H xs ss) : xs.length = ss.length := by
  induction h with
  | nil => rfl
  | cons _ _ ih => rw [List.length_cons, List.length_cons, ih]

end L2

end

section
-- KcTxM
set_option Elab.async false
set_option linter.all false
set_option maxRecDepth 100000
set_option maxHeartbeats 4000000
namespace L2
open PySem PyProof.Rows
/-! ### texts: readings -/
noncomputable def rAddS : R2 := fun x y H Q => ∃ i j, x = .str i ∧ y = .str j ∧ i.length + j.length ≤ sizeLine ∧ Q (.str (i ++ j)) H
theorem r_addS {i j : Str} {H : Hp} {Q : VK} (hz : i.length + j.length ≤ sizeLine) (h : Q (.str (i ++ j)) H) : rAddS (.str i) (.str j) H Q := ⟨i, j, rfl, rfl, hz, h⟩
noncomputable def num (i : Int) : Str := toString i
noncomputable def cStr : List V → Hp → VK → Prop := fun xs H Q => ∃ i : Int, xs = [.int i] ∧ i.natAbs.log2 < 1920 ∧ Q (.str (toString i)) H
theorem r_str {i : Int} {H : Hp} {Q : VK} (hz : i.natAbs.log2 < 1920) (h : Q (.str (num i)) H) : cStr [.int i] H Q := ⟨i, rfl, hz, h⟩
noncomputable def rJoin : V → List V → Hp → VK → Prop := fun x vs H Q => ∃ (sep : Str) (p : Addr) (zs : List Str), x = .str sep ∧ vs = [.ref p] ∧ H p = some (.lst (zs.map V.str)) ∧ zs.length ≤ 8 ∧ (∀ y ∈ zs, y.length ≤ 100000) ∧ sep.length ≤ 1 ∧ Q (.str (Str.join sep zs)) H
theorem r_join {sep : Str} {p : Addr} {zs : List Str} {H : Hp} {Q : VK} (e : H p = some (.lst (zs.map V.str))) (hl : zs.length ≤ 8) (hb : ∀ y ∈ zs, y.length ≤ 100000) (hs : sep.length ≤ 1) (h : Q (.str (Str.join sep zs)) H) : rJoin (.str sep) [.ref p] H Q := ⟨sep, p, zs, rfl, rfl, e, hl, hb, hs, h⟩
/-! ### texts: sums -/
theorem sExt {a b : Str} (h : a.cps = b.cps) : a = b := by cases a; cases b; cases h; rfl
theorem sAssoc (a b c : Str) : a ++ b ++ c = a ++ (b ++ c) := sExt (Array.append_assoc)
theorem sLen (a b : Str) : (a ++ b).length = a.length + b.length := Array.size_append (xs := a.cps) (ys := b.cps)
theorem join1 (sep a : Str) : Str.join sep [a] = a := rfl
theorem join2 (sep a b : Str) (r : List Str) : Str.join sep (a :: b :: r) = a ++ sep ++ Str.join sep (b :: r) := rfl
theorem join_le {sep : Str} (hs : sep.length ≤ 1) {B : Nat} : ∀ (zs : List Str), (∀ z ∈ zs, z.length ≤ B) → (Str.join sep zs).length ≤ zs.length * (B + 1)
  | [], _ => Nat.zero_le _
  | [a], h => by
    rw [join1]
    have := h a List.mem_cons_self
    simp
    omega
  | a :: b :: r, h => by
    rw [join2, sLen, sLen]
    have h1 := h a List.mem_cons_self
    have h2 := join_le hs (b :: r) (fun z hz => h z (List.mem_cons_of_mem _ hz))
    rw [List.length_cons (a := a), Nat.succ_mul]
    omega
/-! ### the text of a saying -/
noncomputable def grp (g : List Nat) : Str := if g = [] then "-" else Str.join "," (g.map fun (k : Nat) => num (k : Int))
noncomputable def who (h w : Nat) : Str := if w = h then "pile" else num (w : Int)
noncomputable def Sy.txt (h : Nat) : Sy → Str
  | .holds w c => Str.join " " ["holds", who h w, num (c : Int)]
  | .sees k => Str.join " " ["sees", num (k : Int)]
  | .not s => Str.join " " ["not", s.txt h]
  | .and s t => "(" ++ s.txt h ++ " " ++ "and" ++ " " ++ t.txt h ++ ")"
  | .or s t => "(" ++ s.txt h ++ " " ++ "or" ++ " " ++ t.txt h ++ ")"
  | .knows k s => Str.join " " ["knows", num (k : Int), s.txt h]
  | .all g s => Str.join " " ["all", grp g, s.txt h]
  | .common g s => Str.join " " ["common", grp g, s.txt h]
noncomputable def Sy.shown (h : Nat) : Sy → List Str
  | .holds w c => [who h w, num (c : Int)] | .sees k => [num (k : Int)] | .not s => [s.txt h] | .and s t => [s.txt h, t.txt h] | .or s t => [s.txt h, t.txt h]
  | .knows k s => [num (k : Int), s.txt h] | .all g s => [grp g, s.txt h] | .common g s => [grp g, s.txt h]
noncomputable def Sy.between : Sy → Bool
  | .and _ _ => true | .or _ _ => true | _ => false
theorem txt_join {h : Nat} {s : Sy} (b : s.between = false) : s.txt h = Str.join " " (s.word :: s.shown h) := by
  cases s with
  | and _ _ => cases b
  | or _ _ => cases b
  | holds _ _ => rfl
  | sees _ => rfl
  | not _ => rfl
  | knows _ _ => rfl
  | all _ _ => rfl
  | common _ _ => rfl
theorem txt_between {h : Nat} {s : Sy} (b : s.between = true) : ∃ x y, s.shown h = [x, y] ∧ s.txt h = "(" ++ x ++ " " ++ s.word ++ " " ++ y ++ ")" := by
  cases s with
  | and _ _ => exact ⟨_, _, rfl, rfl⟩
  | or _ _ => exact ⟨_, _, rfl, rfl⟩
  | holds _ _ => cases b
  | sees _ => cases b
  | not _ => cases b
  | knows _ _ => cases b
  | all _ _ => cases b
  | common _ _ => cases b
theorem num_len : ∀ k : Nat, k ≤ 12 → (num (k : Int)).length ≤ 2 := by
  intro k hk
  have : ∀ k : Fin 13, (num ((k : Nat) : Int)).length ≤ 2 := by decide +kernel
  exact this ⟨k, by omega⟩
theorem num_log {k : Nat} (hk : k ≤ 12) : ((k : Int)).natAbs.log2 < 1920 := by
  have h1 : ((k : Int)).natAbs = k := Int.natAbs_natCast k
  rw [h1]
  have := Nat.log2_le_self k
  omega
theorem who_len {h w : Nat} (hw : w ≤ 12) : (who h w).length ≤ 4 := by
  unfold who
  split
  · decide +kernel
  · have := num_len w hw
    omega
theorem grp_len {g : List Nat} (hl : g.length ≤ 5) (hb : ∀ k ∈ g, k ≤ 12) : (grp g).length ≤ 15 := by
  unfold grp
  split
  · decide +kernel
  · have h := join_le (sep := ",") (by decide +kernel) (B := 2) (g.map fun (k : Nat) => num (k : Int)) (fun z hz => by
      obtain ⟨k, hk, rfl⟩ := List.mem_map.mp hz
      exact num_len k (hb k hk))
    rw [List.length_map] at h
    omega
theorem pw_len : ∀ (n lo : Nat) (g : List Nat), g.Pairwise (· < ·) → (∀ k ∈ g, lo ≤ k ∧ k < lo + n) → g.length ≤ n
  | n, lo, [], _, _ => Nat.zero_le _
  | n, lo, a :: r, hp, hb => by
    obtain ⟨h1, h2⟩ := List.pairwise_cons.mp hp
    have ha := hb a List.mem_cons_self
    have := pw_len (n - 1 - (a - lo)) (a + 1) r h2 (fun k hk => by
      have := h1 k hk
      have := hb k (List.mem_cons_of_mem _ hk)
      omega)
    rw [List.length_cons]
    omega
theorem txt_len {h c : Nat} (h5 : h ≤ 5) (c13 : c ≤ 13) : ∀ (s : Sy), s.Ok c h → (s.txt h).length ≤ 40 * s.words
  | .holds w d, ok => by
    have h1 := who_len (h := h) (w := w) (by have := ok.1; omega)
    have h2 := num_len d (by have := ok.2; omega)
    simp only [Sy.txt, join2, join1, sLen, Sy.words]
    have e1 : ("holds" : Str).length = 5 := by decide +kernel
    have e2 : (" " : Str).length = 1 := by decide +kernel
    omega
  | .sees k, ok => by
    have h2 := num_len k (by have : k < h := ok; omega)
    simp only [Sy.txt, join2, join1, sLen, Sy.words]
    have e1 : ("sees" : Str).length = 4 := by decide +kernel
    have e2 : (" " : Str).length = 1 := by decide +kernel
    omega
  | .not s, ok => by
    have h1 := txt_len h5 c13 s ok
    simp only [Sy.txt, join2, join1, sLen, Sy.words]
    have e1 : ("not" : Str).length = 3 := by decide +kernel
    have e2 : (" " : Str).length = 1 := by decide +kernel
    omega
  | .and s t, ok => by
    have h1 := txt_len h5 c13 s ok.1
    have h2 := txt_len h5 c13 t ok.2
    simp only [Sy.txt, sLen, Sy.words]
    have e1 : ("and" : Str).length = 3 := by decide +kernel
    have e2 : (" " : Str).length = 1 := by decide +kernel
    have e3 : ("(" : Str).length = 1 := by decide +kernel
    have e4 : (")" : Str).length = 1 := by decide +kernel
    omega
  | .or s t, ok => by
    have h1 := txt_len h5 c13 s ok.1
    have h2 := txt_len h5 c13 t ok.2
    simp only [Sy.txt, sLen, Sy.words]
    have e1 : ("or" : Str).length = 2 := by decide +kernel
    have e2 : (" " : Str).length = 1 := by decide +kernel
    have e3 : ("(" : Str).length = 1 := by decide +kernel
    have e4 : (")" : Str).length = 1 := by decide +kernel
    omega
  | .knows k s, ok => by
    have h1 := txt_len h5 c13 s ok.2
    have h2 := num_len k (by have := ok.1; omega)
    simp only [Sy.txt, join2, join1, sLen, Sy.words]
    have e1 : ("knows" : Str).length = 5 := by decide +kernel
    have e2 : (" " : Str).length = 1 := by decide +kernel
    omega
  | .all g s, ok => by
    have h1 := txt_len h5 c13 s ok.2
    have hl := pw_len h 0 g ok.1.1 (fun k hk => ⟨Nat.zero_le _, by have := ok.1.2 k hk; omega⟩)
    have h2 := grp_len (g := g) (by omega) (fun k hk => by have := ok.1.2 k hk; omega)
    simp only [Sy.txt, join2, join1, sLen, Sy.words]
    have e1 : ("all" : Str).length = 3 := by decide +kernel
    have e2 : (" " : Str).length = 1 := by decide +kernel
    omega
  | .common g s, ok => by
    have h1 := txt_len h5 c13 s ok.2
    have hl := pw_len h 0 g ok.1.1 (fun k hk => ⟨Nat.zero_le _, by have := ok.1.2 k hk; omega⟩)
    have h2 := grp_len (g := g) (by omega) (fun k hk => by have := ok.1.2 k hk; omega)
    simp only [Sy.txt, join2, join1, sLen, Sy.words]
    have e1 : ("common" : Str).length = 6 := by decide +kernel
    have e2 : (" " : Str).length = 1 := by decide +kernel
    omega
/-! ### a part at its place -/
noncomputable def PartOk (H : Hp) (h c n : Nat) (place : Str) (v : V) (z : Str) : Prop :=
  (place = "saying" ∧ ∃ s, IsSy H v s ∧ s.Ok c h ∧ s.words ≤ n ∧ z = s.txt h) ∨ (place = "hands" ∧ ∃ a g, v = .ref a ∧ H a = some (.tup (natV g)) ∧ g.length ≤ 5 ∧ (∀ k ∈ g, k ≤ 12) ∧ z = grp g) ∨
  (place = "holder" ∧ ∃ w : Nat, v = .int w ∧ w ≤ 12 ∧ z = who h w) ∨ ((place = "hand" ∨ place = "card") ∧ ∃ w : Nat, v = .int w ∧ w ≤ 12 ∧ z = num (w : Int))
theorem PartOk.keep {H H' : Hp} (k : Keep H H') {h c n : Nat} {place : Str} {v : V} {z : Str} (p : PartOk H h c n place v z) : PartOk H' h c n place v z := by
  rcases p with ⟨e, s, i, r⟩ | ⟨e, a, g, e2, e3, r⟩ | p | p
  · exact .inl ⟨e, s, i.keep k, r⟩
  · exact .inr (.inl ⟨e, a, g, e2, k _ _ e3, r⟩)
  · exact .inr (.inr (.inl p))
  · exact .inr (.inr (.inr p))
theorem shown_len (h : Nat) (s : Sy) : (s.shown h).length = s.form.length := by cases s <;> rfl
theorem part_hands {H : Hp} {h c n : Nat} {g : List Nat} {b : Addr} (h5 : h ≤ 5) (ok : g.Pairwise (· < ·) ∧ ∀ k ∈ g, k < h) (e : H b = some (.tup (natV g))) : PartOk H h c n "hands" (.ref b) (grp g) :=
  .inr (.inl ⟨rfl, b, g, rfl, e, by have := pw_len h 0 g ok.1 (fun k hk => ⟨Nat.zero_le _, by have := ok.2 k hk; omega⟩); omega, fun k hk => by have := ok.2 k hk; omega, rfl⟩)
theorem parts_at {H : Hp} {v : V} {s : Sy} {h c : Nat} (h5 : h ≤ 5) (c13 : c ≤ 13) (is : IsSy H v s) (ok : s.Ok c h) : ∃ (a : Addr) (items : List V), v = .ref a ∧ H a = some (.tup (.str s.word :: items)) ∧ items.length = s.form.length ∧
    ∀ (i : Nat) (place : Str) (y : V), s.form[i]? = some place → items[i]? = some y → ∃ z, (s.shown h)[i]? = some z ∧ PartOk H h c (s.words - 1) place y z ∧ z.length ≤ 40 * s.words := by
  have tl := txt_len h5 c13
  cases s with
  | holds w d =>
    obtain ⟨a, e, e2⟩ := is
    refine ⟨a, _, e, e2, rfl, fun i place y hp hy => ?_⟩
    match i, hp, hy with
    | 0, hp, hy => cases hp; cases hy; exact ⟨_, rfl, .inr (.inr (.inl ⟨rfl, w, rfl, by have := ok.1; omega, rfl⟩)), by have := who_len (h := h) (w := w) (by have := ok.1; omega); show _ ≤ 40 * 1; omega⟩
    | 1, hp, hy => cases hp; cases hy; exact ⟨_, rfl, .inr (.inr (.inr ⟨.inr rfl, d, rfl, by have := ok.2; omega, rfl⟩)), by have := num_len d (by have := ok.2; omega); show _ ≤ 40 * 1; omega⟩
  | sees k =>
    obtain ⟨a, e, e2⟩ := is
    refine ⟨a, _, e, e2, rfl, fun i place y hp hy => ?_⟩
    match i, hp, hy with
    | 0, hp, hy => cases hp; cases hy; exact ⟨_, rfl, .inr (.inr (.inr ⟨.inl rfl, k, rfl, by have : k < h := ok; omega, rfl⟩)), by have := num_len k (by have : k < h := ok; omega); show _ ≤ 40 * 1; omega⟩
  | not s =>
    obtain ⟨a, x, e, e2, r⟩ := is
    refine ⟨a, _, e, e2, rfl, fun i place y hp hy => ?_⟩
    match i, hp, hy with
    | 0, hp, hy => cases hp; cases hy; exact ⟨_, rfl, .inl ⟨rfl, s, r, ok, Nat.le_refl _, rfl⟩, by have := tl s ok; simp only [Sy.words]; omega⟩
  | and s t =>
    obtain ⟨a, x, x', e, e2, r, r'⟩ := is
    refine ⟨a, _, e, e2, rfl, fun i place y hp hy => ?_⟩
    match i, hp, hy with
    | 0, hp, hy => cases hp; cases hy; exact ⟨_, rfl, .inl ⟨rfl, s, r, ok.1, by simp only [Sy.words]; omega, rfl⟩, by have := tl s ok.1; simp only [Sy.words]; omega⟩
    | 1, hp, hy => cases hp; cases hy; exact ⟨_, rfl, .inl ⟨rfl, t, r', ok.2, by simp only [Sy.words]; omega, rfl⟩, by have := tl t ok.2; simp only [Sy.words]; omega⟩
  | or s t =>
    obtain ⟨a, x, x', e, e2, r, r'⟩ := is
    refine ⟨a, _, e, e2, rfl, fun i place y hp hy => ?_⟩
    match i, hp, hy with
    | 0, hp, hy => cases hp; cases hy; exact ⟨_, rfl, .inl ⟨rfl, s, r, ok.1, by simp only [Sy.words]; omega, rfl⟩, by have := tl s ok.1; simp only [Sy.words]; omega⟩
    | 1, hp, hy => cases hp; cases hy; exact ⟨_, rfl, .inl ⟨rfl, t, r', ok.2, by simp only [Sy.words]; omega, rfl⟩, by have := tl t ok.2; simp only [Sy.words]; omega⟩
  | knows k s =>
    obtain ⟨a, x, e, e2, r⟩ := is
    refine ⟨a, _, e, e2, rfl, fun i place y hp hy => ?_⟩
    match i, hp, hy with
    | 0, hp, hy => cases hp; cases hy; exact ⟨_, rfl, .inr (.inr (.inr ⟨.inl rfl, k, rfl, by have := ok.1; omega, rfl⟩)), by have := num_len k (by have := ok.1; omega); simp only [Sy.words]; omega⟩
    | 1, hp, hy => cases hp; cases hy; exact ⟨_, rfl, .inl ⟨rfl, s, r, ok.2, Nat.le_refl _, rfl⟩, by have := tl s ok.2; simp only [Sy.words]; omega⟩
  | all g s =>
    obtain ⟨a, b, x, e, e2, e3, r⟩ := is
    refine ⟨a, _, e, e2, rfl, fun i place y hp hy => ?_⟩
    have hl := pw_len h 0 g ok.1.1 (fun k hk => ⟨Nat.zero_le _, by have := ok.1.2 k hk; omega⟩)
    match i, hp, hy with
    | 0, hp, hy => cases hp; cases hy; exact ⟨_, rfl, part_hands h5 ok.1 e3, by have := grp_len (g := g) (by omega) (fun k hk => by have := ok.1.2 k hk; omega); simp only [Sy.words]; omega⟩
    | 1, hp, hy => cases hp; cases hy; exact ⟨_, rfl, .inl ⟨rfl, s, r, ok.2, Nat.le_refl _, rfl⟩, by have := tl s ok.2; simp only [Sy.words]; omega⟩
  | common g s =>
    obtain ⟨a, b, x, e, e2, e3, r⟩ := is
    refine ⟨a, _, e, e2, rfl, fun i place y hp hy => ?_⟩
    have hl := pw_len h 0 g ok.1.1 (fun k hk => ⟨Nat.zero_le _, by have := ok.1.2 k hk; omega⟩)
    match i, hp, hy with
    | 0, hp, hy => cases hp; cases hy; exact ⟨_, rfl, part_hands h5 ok.1 e3, by have := grp_len (g := g) (by omega) (fun k hk => by have := ok.1.2 k hk; omega); simp only [Sy.words]; omega⟩
    | 1, hp, hy => cases hp; cases hy; exact ⟨_, rfl, .inl ⟨rfl, s, r, ok.2, Nat.le_refl _, rfl⟩, by have := tl s ok.2; simp only [Sy.words]; omega⟩
end L2

end

section
-- KcKit
set_option Elab.async false
set_option linter.all false
set_option maxRecDepth 100000
set_option maxHeartbeats 4000000
namespace L2
open PySem
noncomputable def isaB (t1 t2 : String) : Bool := t1 == t2 || (t1 == "bool" && t2 == "int")
noncomputable def tnames : List String := ["NoneType", "bool", "int", "str", "tuple", "list", "dict"]
noncomputable def tnames2 : List String := ["bool", "int", "str", "tuple", "list"]
theorem kit_by {K : PySem.W.Frag} {t1 t2 : String} {b : Bool} (h : (if (Value.type t1 == Value.type t2) = true then some true else if PySem.W.kitMeta t2 = true then (fastBuiltinMro t1).map (·.contains (.type t2)) else none) = some b) : PySem.W.kitOne K (.type t1) (.type t2) = some b := h
theorem kit_all (K : PySem.W.Frag) : ∀ t1 ∈ tnames, ∀ t2 ∈ tnames2, PySem.W.kitOne K (.type t1) (.type t2) = some (isaB t1 t2) := by
  have go : ∀ t1 ∈ tnames, ∀ t2 ∈ tnames2, (if (Value.type t1 == Value.type t2) = true then some true else if PySem.W.kitMeta t2 = true then (fastBuiltinMro t1).map (·.contains (.type t2)) else none) = some (isaB t1 t2) := by decide +kernel
  exact fun t1 h1 t2 h2 => kit_by (go t1 h1 t2 h2)
end L2

end

section
-- KcWord
set_option Elab.async false
set_option linter.all false
set_option maxRecDepth 100000
set_option maxHeartbeats 4000000
namespace L2
open PySem PyProof.Rows

/-! ### things of known kinds -/
inductive Known (H : Hp) : V → Prop where
  | non : Known H .non
  | bl (b : Bool) : Known H (.bl b)
  | int (i : Int) : Known H (.int i)
  | str (x : Str) : Known H (.str x)
  | tup {a : Addr} {vs : List V} (e : H a = some (.tup vs)) (h : ∀ v ∈ vs, Known H v) : Known H (.ref a)
  | lst {a : Addr} {vs : List V} (e : H a = some (.lst vs)) : Known H (.ref a)
  | dic {a : Addr} {kvs : List (Key × V)} (e : H a = some (.dK kvs)) : Known H (.ref a)
theorem Known.same {H H' : Hp} (s : Same H H') {v : V} (h : Known H v) : Known H' v := by
  induction h with
  | non => exact .non
  | bl b => exact .bl b
  | int i => exact .int i
  | str x => exact .str x
  | tup e h ih => exact .tup (s _ _ e) ih
  | lst e => exact .lst (s _ _ e)
  | dic e => exact .dic (s _ _ e)
noncomputable def tyN (H : Hp) : V → String
  | .non => "NoneType" | .bl _ => "bool" | .int _ => "int" | .str _ => "str"
  | .ref a => (match H a with | some (.tup _) => "tuple" | some (.lst _) => "list" | some (.dK _) => "dict" | _ => "object")
  | _ => "object"
theorem tyN_tup {H : Hp} {a : Addr} {vs : List V} (e : H a = some (.tup vs)) : tyN H (.ref a) = "tuple" := by simp only [tyN, e]
theorem tyN_lst {H : Hp} {a : Addr} {vs : List V} (e : H a = some (.lst vs)) : tyN H (.ref a) = "list" := by simp only [tyN, e]
theorem tyN_dic {H : Hp} {a : Addr} {vs : List (Key × V)} (e : H a = some (.dK vs)) : tyN H (.ref a) = "dict" := by simp only [tyN, e]
theorem Known.ty (K : PySem.W.Frag) {H : Hp} {v : V} (h : Known H v) : TyOf K H v (.type (tyN H v)) := by
  cases h with
  | non => exact .non
  | bl b => exact .bl b
  | int i => exact .int i
  | str x => exact .str x
  | tup e h => rw [tyN_tup e]; exact .tup e
  | lst e => rw [tyN_lst e]; exact .lst e
  | dic e => rw [tyN_dic e]; exact .dK e
theorem Known.tn {H : Hp} {v : V} (h : Known H v) : tyN H v ∈ tnames := by
  cases h with
  | non => show "NoneType" ∈ tnames; decide
  | bl b => show "bool" ∈ tnames; decide
  | int i => show "int" ∈ tnames; decide
  | str x => show "str" ∈ tnames; decide
  | tup e h => rw [tyN_tup e]; decide
  | lst e => rw [tyN_lst e]; decide
  | dic e => rw [tyN_dic e]; decide
theorem r_isiK {K : PySem.W.Frag} {H : Hp} {Q : VK} {v : V} {T : String} (k : Known H v) (hT : T ∈ tnames2) (h : Q (.bl (isaB (tyN H v) T)) H) : rIsi K [v, .ty T] H Q := r_isi (k.ty K) (kit_all K _ k.tn T hT) h
theorem Known.plain {K : PySem.W.Frag} {H : Hp} {v : V} (h : Known H v) : Plain K H v := by
  refine ⟨.type (tyN H v), isaB (tyN H v) "int", isaB (tyN H v) "bool", h.ty K, kit_all K _ h.tn _ (by decide), kit_all K _ h.tn _ (by decide), ?_⟩
  cases h with
  | non => rfl
  | bl b => rfl
  | int i => rfl
  | str x => rfl
  | tup e h => rw [tyN_tup e]; rfl
  | lst e => rw [tyN_lst e]; rfl
  | dic e => rw [tyN_dic e]; rfl
/-! ### what fits where -/
noncomputable def risingB (h : Int) : Int → List V → Bool
  | _, [] => true
  | lo, .int i :: r => withinV (.int i) lo (h - 1) && risingB h (i + 1) r
  | _, _ :: _ => false
noncomputable def handsB (H : Hp) (h : Int) : V → Bool
  | .ref a => (match H a with | some (.tup vs) => risingB h 0 vs | _ => false)
  | _ => false
noncomputable def fitB (c h : Int) (H : Hp) (place : Str) (v : V) : Bool :=
  if place = "holder" then withinV v 0 h else if place = "card" then withinV v 0 (c - 1) else if place = "hand" then withinV v 0 (h - 1) else if place = "hands" then handsB H h v else true
noncomputable def formsTab : List (Str × List Str) := [("holds", ["holder", "card"]), ("not", ["saying"]), ("and", ["saying", "saying"]), ("or", ["saying", "saying"]), ("knows", ["hand", "saying"]), ("all", ["hands", "saying"]), ("common", ["hands", "saying"]), ("sees", ["hand"])]
noncomputable def formOf (w : Str) : Option (List Str) := formsTab.lookup w
noncomputable def wordT (c h : Int) (H : Hp) : List V → Bool
  | .str w :: items => (match formOf w with | some form => decide (items.length = form.length) && (form.zip items).all (fun p => fitB c h H p.1 p.2) | none => false)
  | _ => false
noncomputable def wordB (c h : Int) (H : Hp) : V → Bool
  | .ref a => (match H a with | some (.tup vs) => wordT c h H vs | _ => false)
  | _ => false
theorem wordB_tup {c h : Int} {H : Hp} {a : Addr} {vs : List V} (e : H a = some (.tup vs)) : wordB c h H (.ref a) = wordT c h H vs := by simp only [wordB, e]
theorem handsB_tup {h : Int} {H : Hp} {a : Addr} {vs : List V} (e : H a = some (.tup vs)) : handsB H h (.ref a) = risingB h 0 vs := by simp only [handsB, e]
noncomputable def partsT : List V → List V
  | .str w :: items => (match formOf w with | some form => pick form items | none => [])
  | _ => []
noncomputable def partsB (H : Hp) : V → List V
  | .ref a => (match H a with | some (.tup vs) => partsT vs | _ => [])
  | _ => []
theorem partsB_tup {H : Hp} {a : Addr} {vs : List V} (e : H a = some (.tup vs)) : partsB H (.ref a) = partsT vs := by simp only [partsB, e]
theorem handsB_same {H H' : Hp} (s : Same H H') {v : V} (k : Known H v) (h : Int) : handsB H' h v = handsB H h v := by
  cases k with
  | tup e _ => rw [handsB_tup e, handsB_tup (s _ _ e)]
  | lst e => simp only [handsB, e, s _ _ e]
  | dic e => simp only [handsB, e, s _ _ e]
  | _ => rfl
theorem fitB_same {H H' : Hp} (s : Same H H') {v : V} (k : Known H v) (c h : Int) (p : Str) : fitB c h H' p v = fitB c h H p v := by unfold fitB; rw [handsB_same s k]
theorem zip_mem {α β : Type} : ∀ {l : List α} {m : List β} {p : α × β}, p ∈ l.zip m → p.2 ∈ m
  | [], _, _, h => by simp at h
  | _ :: _, [], _, h => by simp at h
  | a :: l, b :: m, p, h => by
    rw [List.zip_cons_cons] at h
    rcases List.mem_cons.mp h with rfl | h
    · exact List.mem_cons_self
    · exact List.mem_cons_of_mem _ (zip_mem h)
theorem all_congr' {α : Type} {l : List α} {f g : α → Bool} (h : ∀ x ∈ l, f x = g x) : l.all f = l.all g := by
  induction l with
  | nil => rfl
  | cons a r ih => rw [List.all_cons, List.all_cons, h a List.mem_cons_self, ih fun x hx => h x (List.mem_cons_of_mem _ hx)]
theorem wordT_same {H H' : Hp} (s : Same H H') {vs : List V} (k : ∀ v ∈ vs, Known H v) (c h : Int) : wordT c h H' vs = wordT c h H vs := by
  cases vs with
  | nil => rfl
  | cons x items =>
    cases x with
    | str w =>
      show (match formOf w with | some form => decide (items.length = form.length) && (form.zip items).all (fun p => fitB c h H' p.1 p.2) | none => false) = (match formOf w with | some form => decide (items.length = form.length) && (form.zip items).all (fun p => fitB c h H p.1 p.2) | none => false)
      cases formOf w with
      | none => rfl
      | some form =>
        show (decide (items.length = form.length) && (form.zip items).all (fun p => fitB c h H' p.1 p.2)) = (decide (items.length = form.length) && (form.zip items).all (fun p => fitB c h H p.1 p.2))
        rw [all_congr' fun p hp => fitB_same s (k p.2 (List.mem_cons_of_mem _ (zip_mem hp))) c h p.1]
    | _ => rfl
theorem wordB_same {H H' : Hp} (s : Same H H') {v : V} (k : Known H v) (c h : Int) : wordB c h H' v = wordB c h H v := by
  cases k with
  | tup e k => rw [wordB_tup e, wordB_tup (s _ _ e), wordT_same s k]
  | lst e => simp only [wordB, e, s _ _ e]
  | dic e => simp only [wordB, e, s _ _ e]
  | _ => rfl
theorem partsB_same {H H' : Hp} (s : Same H H') {v : V} (k : Known H v) : partsB H' v = partsB H v := by
  cases k with
  | tup e k => rw [partsB_tup e, partsB_tup (s _ _ e)]
  | lst e => simp only [partsB, e, s _ _ e]
  | dic e => simp only [partsB, e, s _ _ e]
  | _ => rfl
theorem wordB_is {c h : Int} {H : Hp} {v : V} (w : wordB c h H v = true) : ∃ a x items form, v = .ref a ∧ H a = some (.tup (.str x :: items)) ∧ formOf x = some form ∧ items.length = form.length := by
  cases v with
  | ref a =>
    cases e : H a with
    | none => simp [wordB, e] at w
    | some o =>
      cases o with
      | tup vs =>
        rw [wordB_tup e] at w
        cases vs with
        | nil => cases w
        | cons x items =>
          cases x with
          | str x =>
            cases ef : formOf x with
            | none => simp [wordT, ef] at w
            | some form =>
              simp only [wordT, ef, Bool.and_eq_true] at w
              exact ⟨a, x, items, form, rfl, e, ef, of_decide_eq_true w.1⟩
          | _ => cases w
      | _ => simp [wordB, e] at w
  | _ => cases w
theorem look_forms (G : Glo) (x : Str) : G.kvs.lookup x = none ∧ formOf x = none ∨ ∃ f form, G.kvs.lookup x = some (.ref f) ∧ formOf x = some form ∧ ∀ K : PySem.W.Frag, GloOk K G → KTup K f (form.map V.str) := by
  unfold formOf formsTab Glo.kvs
  simp only [lookS]
  have lookF : ∀ {y z : Str} {v : List Str} {r : List (Str × List Str)}, ((y, v) :: r).lookup z = if z = y then some v else r.lookup z := by
    intro y z v r
    rw [List.lookup_cons]
    by_cases h : z = y
    · rw [if_pos h, show (z == y) = true from beq_iff_eq.mpr h]
    · rw [if_neg h, show (z == y) = false from beq_eq_false_iff_ne.mpr h]
  simp only [lookF]
  by_cases h1 : x = "holds"
  · rw [if_pos h1, if_pos h1]; exact .inr ⟨_, _, rfl, rfl, fun K g => g.t1⟩
  rw [if_neg h1, if_neg h1]
  by_cases h2 : x = "not"
  · rw [if_pos h2, if_pos h2]; exact .inr ⟨_, _, rfl, rfl, fun K g => g.t2⟩
  rw [if_neg h2, if_neg h2]
  by_cases h3 : x = "and"
  · rw [if_pos h3, if_pos h3]; exact .inr ⟨_, _, rfl, rfl, fun K g => g.t3⟩
  rw [if_neg h3, if_neg h3]
  by_cases h4 : x = "or"
  · rw [if_pos h4, if_pos h4]; exact .inr ⟨_, _, rfl, rfl, fun K g => g.t4⟩
  rw [if_neg h4, if_neg h4]
  by_cases h5 : x = "knows"
  · rw [if_pos h5, if_pos h5]; exact .inr ⟨_, _, rfl, rfl, fun K g => g.t5⟩
  rw [if_neg h5, if_neg h5]
  by_cases h6 : x = "all"
  · rw [if_pos h6, if_pos h6]; exact .inr ⟨_, _, rfl, rfl, fun K g => g.t6⟩
  rw [if_neg h6, if_neg h6]
  by_cases h7 : x = "common"
  · rw [if_pos h7, if_pos h7]; exact .inr ⟨_, _, rfl, rfl, fun K g => g.t7⟩
  rw [if_neg h7, if_neg h7]
  by_cases h8 : x = "sees"
  · rw [if_pos h8, if_pos h8]; exact .inr ⟨_, _, rfl, rfl, fun K g => g.t8⟩
  rw [if_neg h8, if_neg h8]
  exact .inl ⟨rfl, rfl⟩

theorem look_forms_len {w : Str} {form : List Str} (h : formOf w = some form) : form.length ≤ 2 := by
  have key : ∀ (l : List (Str × List Str)), (∀ p ∈ l, p.2.length ≤ 2) → l.lookup w = some form → form.length ≤ 2 := by
    intro l
    induction l with
    | nil => intro _ h; cases h
    | cons a r ih =>
      intro ha h
      obtain ⟨x, v⟩ := a
      rw [List.lookup_cons] at h
      cases e : (w == x) with
      | true => rw [e] at h; cases h; exact ha _ List.mem_cons_self
      | false => rw [e] at h; exact ih (fun p hp => ha p (List.mem_cons_of_mem _ hp)) h
  exact key formsTab (by decide +kernel) h
theorem r_nin_no {H : Hp} {Q : VK} {kvs : List (Str × V)} {a : Addr} {k : Str} (e : kvs.lookup k = none) (h : Q (.bl true) H) : rDicIn kvs a true (.str k) (.ref a) H Q := ⟨rfl, k, rfl, by rw [e]; exact h⟩
theorem r_nin_yes {H : Hp} {Q : VK} {kvs : List (Str × V)} {a : Addr} {k : Str} {v : V} (e : kvs.lookup k = some v) (h : Q (.bl false) H) : rDicIn kvs a true (.str k) (.ref a) H Q := ⟨rfl, k, rfl, by rw [e]; exact h⟩
/-! ### the program's own questions -/
noncomputable def sp_is_below (_ : PySem.W.Frag) : Sp := fun vs H Q _ => ∃ (x : V) (b : Int), vs = [x, .int b] ∧ Known H x ∧ Q (.bl (withinV x 0 (b - 1))) H
noncomputable def t_is_below (K : PySem.W.Frag) : TS := (tRet (tCall (sp_is_within K) [] E0 (tCons (tVar 0) (tCons (tC (.int 0)) (tCons (tOp (rI0 fun i j => .int (i - j)) (tVar 1) (tC (.int 1))) tNil)))))
theorem len_is_below {K : PySem.W.Frag} {vs : List V} {H : Hp} {Q : VK} {E : XK} (h : sp_is_below K vs H Q E) : vs.length = 2 := by
  obtain ⟨x, b, rfl, k, q⟩ := h
  rfl
theorem rd_is_below {K : PySem.W.Frag} {vs : List V} {H : Hp} {Q : VK} {E : XK} (h : sp_is_below K vs H Q E) : t_is_below K { nx := fun _ H' => Q .non H', rt := Q } (start ["thing", "bound"] vs) H := by
  obtain ⟨x, b, rfl, k, q⟩ := h
  show t_is_below K _ [some _, some _] _
  unfold t_is_below
  walk_at "rd"
  exact ⟨x, 0, b - 1, rfl, k.plain, q⟩
noncomputable def sp_are_hands (_ : PySem.W.Frag) : Sp := fun vs H Q _ => ∃ (x : V) (h : Int), vs = [x, .int h] ∧ Known H x ∧ Q (.bl (handsB H h x)) H
noncomputable def t_are_hands (K : PySem.W.Frag) : TS := (tSeq (tIfS (tNot (tB (tCB (rIsi K) (tCons (tVar 0) (tCons (tC (.ty "tuple")) tNil))))) (tRet (tC (.bl false))) tNext)
  (tSeq (tAsg (tC (.int 0)) (gName 2))
  (tSeq (tFor (iTup K (tVar 0)) (gName 3) (tSeq (tIfS (tNot (tB (tCall (sp_is_within K) [] E0 (tCons (tVar 3) (tCons (tVar 2) (tCons (tOp (rI0 fun i j => .int (i - j)) (tVar 1) (tC (.int 1))) tNil)))))) (tRet (tC (.bl false))) tNext)
  (tAsg (tOp (rI0 fun i j => .int (i + j)) (tVar 3) (tC (.int 1))) (gName 2))))
  (tRet (tC (.bl true))))))
theorem hands_no {H : Hp} {x : V} {h : Int} (k : Known H x) (n : isaB (tyN H x) "tuple" = false) : handsB H h x = false := by
  cases k with
  | tup e _ => rw [tyN_tup e] at n; cases n
  | lst e => simp only [handsB, e]
  | dic e => simp only [handsB, e]
  | _ => rfl
theorem isa_tup {H : Hp} {x : V} (k : Known H x) (n : isaB (tyN H x) "tuple" = true) : ∃ a vs, x = .ref a ∧ H a = some (.tup vs) ∧ ∀ v ∈ vs, Known H v := by
  cases k with
  | tup e h => exact ⟨_, _, rfl, e, h⟩
  | lst e => rw [tyN_lst e] at n; cases n
  | dic e => rw [tyN_dic e] at n; cases n
  | _ => cases n
theorem len_are_hands {K : PySem.W.Frag} {vs : List V} {H : Hp} {Q : VK} {E : XK} (h : sp_are_hands K vs H Q E) : vs.length = 2 := by
  obtain ⟨x, h, rfl, k, q⟩ := h
  rfl
theorem rd_are_hands {K : PySem.W.Frag} {vs : List V} {H : Hp} {Q : VK} {E : XK} (h : sp_are_hands K vs H Q E) : t_are_hands K { nx := fun _ H' => Q .non H', rt := Q } (start ["thing", "hands", "least", "hand"] vs) H := by
  obtain ⟨x, h, rfl, k, q⟩ := h
  show t_are_hands K _ [some _, some _, none, none] _
  unfold t_are_hands
  walk_at "rd"
  refine r_isiK k (by decide) ?_
  walk_at "rd"
  refine ite_nb (fun n => ?_) (fun n => ?_)
  · walk_at "rd"
    rw [hands_no k n] at q
    exact q
  · obtain ⟨a, vs, rfl, e, kv⟩ := isa_tup k n
    rw [handsB_tup e] at q
    walk_at "rd"
    refine lp_tup vs (SqT.of e) (fun i σ H2 => ∃ (lo : Int) (st : Option V), σ = [some (.ref a), some (.int h), some (.int lo), st] ∧ H2 = H ∧ risingB h lo (vs.drop i) = risingB h 0 vs) ⟨0, none, rfl, rfl, rfl⟩ (fun i σ H2 _ ⟨_, _, _, eH, _⟩ => by subst eH; exact SqT.of e) ?_ ?_
    · rintro i y σ H2 hy ⟨lo, st, rfl, rfl, hr⟩
      have hd : vs.drop i = y :: vs.drop (i + 1) := by
        obtain ⟨h1, h2⟩ := List.getElem?_eq_some_iff.mp hy
        rw [List.drop_eq_getElem_cons h1, h2]
      rw [hd] at hr
      have ky := kv y (List.mem_of_getElem? hy)
      walk_at "rd"
      refine ⟨y, lo, h - 1, rfl, ky.plain, ?_⟩
      walk_at "rd"
      refine ite_nb (fun n => ?_) (fun n => ?_)
      · walk_at "rd"
        have z : risingB h lo (y :: vs.drop (i + 1)) = false := by
          cases y with
          | int j => rw [risingB, n, Bool.false_and]
          | _ => rfl
        rw [← hr, z] at q
        exact q
      · cases y with
        | int j =>
          rw [risingB, n, Bool.true_and] at hr
          walk_at "rd"
          exact ⟨_, _, rfl, rfl, hr⟩
        | _ => cases n
    · rintro σ H2 ⟨lo, st, rfl, rfl, hr⟩
      rw [List.drop_length] at hr
      walk_at "rd"
      rw [← hr] at q
      exact q
noncomputable def sp_fits (_ : PySem.W.Frag) : Sp := fun vs H Q _ => ∃ (c h : Int) (p : Str) (x : V), vs = [.int c, .int h, .str p, x] ∧ Known H x ∧ Q (.bl (fitB c h H p x)) H
noncomputable def t_fits (K : PySem.W.Frag) : TS := (tSeq (tIfS (tTest (tOp rEq (tVar 2) (tC (.str "holder")))) (tRet (tCall (sp_is_below K) [] E0 (tCons (tVar 3) (tCons (tOp (rI0 fun i j => .int (i + j)) (tVar 1) (tC (.int 1))) tNil)))) tNext)
  (tSeq (tIfS (tTest (tOp rEq (tVar 2) (tC (.str "card")))) (tRet (tCall (sp_is_below K) [] E0 (tCons (tVar 3) (tCons (tVar 0) tNil)))) tNext)
  (tSeq (tIfS (tTest (tOp rEq (tVar 2) (tC (.str "hand")))) (tRet (tCall (sp_is_below K) [] E0 (tCons (tVar 3) (tCons (tVar 1) tNil)))) tNext)
  (tSeq (tIfS (tTest (tOp rEq (tVar 2) (tC (.str "hands")))) (tRet (tCall (sp_are_hands K) [] E0 (tCons (tVar 3) (tCons (tVar 1) tNil)))) tNext)
  (tRet (tC (.bl true)))))))
theorem len_fits {K : PySem.W.Frag} {vs : List V} {H : Hp} {Q : VK} {E : XK} (h : sp_fits K vs H Q E) : vs.length = 4 := by
  obtain ⟨c, h, p, x, rfl, k, q⟩ := h
  rfl
theorem rd_fits {K : PySem.W.Frag} {vs : List V} {H : Hp} {Q : VK} {E : XK} (h : sp_fits K vs H Q E) : t_fits K { nx := fun _ H' => Q .non H', rt := Q } (start ["cards", "hands", "place", "part"] vs) H := by
  obtain ⟨c, h, p, x, rfl, k, q⟩ := h
  show t_fits K _ [some _, some _, some _, some _] _
  unfold t_fits
  unfold fitB at q
  walk_at "rd"
  refine ite_dec (fun n => ?_) (fun n => ?_)
  · rw [if_pos n] at q
    walk_at "rd"
    exact ⟨x, h + 1, rfl, k, by rw [show h + 1 - 1 = h by omega]; exact q⟩
  rw [if_neg n] at q
  walk_at "rd"
  refine ite_dec (fun n => ?_) (fun n => ?_)
  · rw [if_pos n] at q
    walk_at "rd"
    exact ⟨x, c, rfl, k, q⟩
  rw [if_neg n] at q
  walk_at "rd"
  refine ite_dec (fun n => ?_) (fun n => ?_)
  · rw [if_pos n] at q
    walk_at "rd"
    exact ⟨x, h, rfl, k, q⟩
  rw [if_neg n] at q
  walk_at "rd"
  refine ite_dec (fun n => ?_) (fun n => ?_)
  · rw [if_pos n] at q
    walk_at "rd"
    exact ⟨x, h, rfl, k, q⟩
  rw [if_neg n] at q
  walk_at "rd"
  exact q
noncomputable def sp_is_word (_ : PySem.W.Frag) : Sp := fun vs H Q _ => ∃ (c h : Int) (x : V), vs = [.int c, .int h, x] ∧ Known H x ∧ ∀ H', Same H H' → Q (.bl (wordB c h H x)) H'
noncomputable def t_is_word (K : PySem.W.Frag) (G : Glo) : TS := (tSeq (tIfS (tOr (tNot (tB (tCB (rIsi K) (tCons (tVar 2) (tCons (tC (.ty "tuple")) tNil))))) (tTest (tOp rEq (tCB (cLen K) (tCons (tVar 2) tNil)) (tC (.int 0))))) (tRet (tC (.bl false))) tNext)
  (tSeq (tIfS (tOr (tNot (tB (tCB (rIsi K) (tCons (tOp (rIxT K) (tVar 2) (tC (.int 0))) (tCons (tC (.ty "str")) tNil))))) (tTest (tOp (rDicIn G.kvs G.forms true) (tOp (rIxT K) (tVar 2) (tC (.int 0))) (tC (.ref G.forms))))) (tRet (tC (.bl false))) tNext)
  (tSeq (tAsg (tOp (rDic G.kvs G.forms) (tC (.ref G.forms)) (tOp (rIxT K) (tVar 2) (tC (.int 0)))) (gName 3))
  (tSeq (tIfS (tTest (tOp rNe (tCB (cLen K) (tCons (tVar 2) tNil)) (tOp (rI0 fun i j => .int (i + j)) (tC (.int 1)) (tCB (cLen K) (tCons (tVar 3) tNil))))) (tRet (tC (.bl false))) tNext)
  (tRet (tCB (cAll K) (tCons (tComp (iZip srcT srcT K (tCons (tVar 3) (tCons (tSl (mSlT K) (tVar 2) (tPart (tC (.int 1))) tNoPart) tNil))) (fun _ _ _ _ => (gTup K 2 (gCons (gName 0) (gCons (gName 1) gNil)))) (fun _ _ _ _ => tAlways) (fun _ _ _ _ => (tCall (sp_fits K) [] E0 (tCons (tVar 2) (tCons (tVar 3) (tCons (tVar 0) (tCons (tVar 1) tNil)))))) [none, none, some 0, some 1]) tNil)))))))
theorem len_is_word {K : PySem.W.Frag} {vs : List V} {H : Hp} {Q : VK} {E : XK} (h : sp_is_word K vs H Q E) : vs.length = 3 := by
  obtain ⟨c, h, x, rfl, _⟩ := h
  rfl
theorem word_no {H : Hp} {x : V} {c h : Int} (k : Known H x) (n : isaB (tyN H x) "tuple" = false) : wordB c h H x = false := by
  cases k with
  | tup e _ => rw [tyN_tup e] at n; cases n
  | lst e => simp only [wordB, e]
  | dic e => simp only [wordB, e]
  | _ => rfl
theorem isa_str {H : Hp} {x : V} (k : Known H x) (n : isaB (tyN H x) "str" = true) : ∃ w, x = .str w := by
  cases k with
  | tup e h => rw [tyN_tup e] at n; cases n
  | lst e => rw [tyN_lst e] at n; cases n
  | dic e => rw [tyN_dic e] at n; cases n
  | str w => exact ⟨w, rfl⟩
  | _ => cases n
theorem wordT_no {c h : Int} {H : Hp} {x : V} {items : List V} (k : Known H x) (n : isaB (tyN H x) "str" = false) : wordT c h H (x :: items) = false := by
  cases k with
  | str w => cases n
  | _ => rfl
theorem rd_is_word {K : PySem.W.Frag} {G : Glo} (g : GloOk K G) {vs : List V} {H : Hp} {Q : VK} {E : XK} (h : sp_is_word K vs H Q E) : t_is_word K G { nx := fun _ H' => Q .non H', rt := Q } (start ["cards", "hands", "thing", "form"] vs) H := by
  obtain ⟨c, h, x, rfl, k, q⟩ := h
  show t_is_word K G _ [some _, some _, some _, none] _
  unfold t_is_word
  walk_at "rd"
  refine r_isiK k (by decide) ?_
  walk_at "rd"
  refine ite_nb (fun n => ?_) (fun n => ?_)
  · walk_at "rd"
    have := q H (Same.refl H)
    rw [word_no k n] at this
    exact this
  obtain ⟨a, vs, rfl, e, kv⟩ := isa_tup k n
  rw [wordB_tup e] at q
  walk_at "rd"
  cases vs with
  | nil =>
    refine ite_yes rfl ?_
    walk_at "rd"
    exact q H (Same.refl H)
  | cons y items =>
    refine ite_no (by show ¬ (((items.length + 1 : Nat) : Int) = 0); omega) ?_
    walk_at "rd"
    refine r_ixT (SqT.of e) (at_zero _ _) ?_
    walk_at "rd"
    have ky := kv y List.mem_cons_self
    refine r_isiK ky (by decide) ?_
    walk_at "rd"
    refine ite_nb (fun n => ?_) (fun n => ?_)
    · walk_at "rd"
      have := q H (Same.refl H)
      rw [wordT_no ky n] at this
      exact this
    obtain ⟨w, rfl⟩ := isa_str ky n
    walk_at "rd"
    refine r_ixT (SqT.of e) (at_zero _ _) ?_
    walk_at "rd"
    rcases look_forms G w with ⟨l1, l2⟩ | ⟨f, form, l1, l2, tf⟩
    · refine r_nin_no l1 ?_
      walk_at "rd"
      have := q H (Same.refl H)
      rw [show wordT c h H (.str w :: items) = false by simp only [wordT, l2]] at this
      exact this
    have et : wordT c h H (.str w :: items) = (decide (items.length = form.length) && (form.zip items).all (fun p => fitB c h H p.1 p.2)) := by simp only [wordT, l2]
    rw [et] at q
    have tf' := tf K g
    refine r_nin_yes l1 ?_
    walk_at "rd"
    refine r_ixT (SqT.of e) (at_zero _ _) ?_
    refine r_dic l1 ?_
    walk_at "rd"
    refine r_lenTu (tf'.sq _) ?_
    walk_at "rd"
    rw [List.length_map]
    refine ite_ndec (fun n => ?_) (fun n => ?_)
    · walk_at "rd"
      have n' : ¬ items.length = form.length := fun z => n (by show ((items.length + 1 : Nat) : Int) = 1 + ((form.length : Nat) : Int); omega)
      have := q H (Same.refl H)
      rw [decide_eq_false n', Bool.false_and] at this
      exact this
    have n' : items.length = form.length := by
      have : ((items.length + 1 : Nat) : Int) = 1 + ((form.length : Nat) : Int) := n
      omega
    rw [decide_eq_true n', Bool.true_and] at q
    walk_at "rd"
    refine m_slT (SqT.of e) (cut_tail_ne _ _) fun b H1 hb s1 e1 => ?_
    rw [cut_tail] at e1
    walk_at "rd"
    have hfl : form.length ≤ 1000 := by
      have := look_forms_len l2
      omega
    refine lc_zip (S1 := srcT) (S2 := srcT) (form.map V.str) items (tf'.sq _) (SqT.of e1) (fun H' _ => tf'.sq _) (fun H' s' => SqT.of (s' _ _ e1)) (by rw [List.length_map]; omega) (fun i acc _ => acc = (((form.zip items).take i).map fun p => fitB c h H p.1 p.2).map V.bl) (fun _ _ => rfl) ?_ ?_
    · rintro p hp C s' H' fp i x y T acc H2 H3 hx hy ⟨s2, e2, l2', r2⟩ hT s3 e3 e4
      obtain ⟨z, hz, rfl⟩ : ∃ z, form[i]? = some z ∧ x = .str z := by
        rw [List.getElem?_map] at hx
        cases e : form[i]? with
        | none => rw [e] at hx; cases hx
        | some z => rw [e] at hx; exact ⟨z, rfl, (Option.some.inj hx).symm⟩
      subst r2
      refine g_pair (SqT.of e3) ?_
      walk_at "rd"
      have ki := (kv y (List.mem_cons_of_mem _ (List.mem_of_getElem? hy)))
      have s13 := (s1.trans s2).trans s3
      refine ⟨c, h, z, y, rfl, ki.same s13, ?_⟩
      rw [fitB_same s13 ki]
      refine CInv.put hp (fun _ _ _ _ r _ => r) (s2.trans s3) e4 l2' ?_
      have ez : (form.zip items)[i]? = some (z, y) := by rw [List.getElem?_zip_eq_some]; exact ⟨hz, hy⟩
      rw [List.take_add_one, ez, List.map_append, List.map_append]
      rfl
    · intro p acc H2 hp s2 e2 r2
      have el : (form.zip items).take (min (form.map V.str).length items.length) = form.zip items := by
        rw [List.take_of_length_le]
        rw [List.length_zip, List.length_map]
        exact Nat.le_refl _
      rw [el] at r2
      subst r2
      walk_at "rd"
      refine ⟨p, _, rfl, SqL.of e2, ?_⟩
      rw [List.all_map]
      exact q _ (s1.trans s2)
/-! ### parts, and the whole question -/
noncomputable def sp_parts_of (_ : PySem.W.Frag) : Sp := fun vs H Q _ => ∃ (c h : Int) (v : V), vs = [v] ∧ Known H v ∧ wordB c h H v = true ∧ ∀ (p : Addr) (H' : Hp), Same H H' → H p = none → H' p = some (.lst (partsB H v)) → Q (.ref p) H'
noncomputable def t_parts_of (K : PySem.W.Frag) (G : Glo) : TS := (tSeq (tAsg (tOp (rDic G.kvs G.forms) (tC (.ref G.forms)) (tOp (rIxT K) (tVar 0) (tC (.int 0)))) (gName 1))
  (tRet (tComp (iZip srcT srcT K (tCons (tVar 1) (tCons (tSl (mSlT K) (tVar 0) (tPart (tC (.int 1))) tNoPart) tNil))) (fun _ _ _ _ => (gTup K 2 (gCons (gName 0) (gCons (gName 1) gNil)))) (fun _ _ _ _ => (tTest (tOp rEq (tVar 0) (tC (.str "saying"))))) (fun _ _ _ _ => (tVar 1)) [none, none])))
theorem len_parts_of {K : PySem.W.Frag} {vs : List V} {H : Hp} {Q : VK} {E : XK} (h : sp_parts_of K vs H Q E) : vs.length = 1 := by
  obtain ⟨c, h, v, rfl, _⟩ := h
  rfl
theorem rd_parts_of {K : PySem.W.Frag} {G : Glo} (g : GloOk K G) {vs : List V} {H : Hp} {Q : VK} {E : XK} (h : sp_parts_of K vs H Q E) : t_parts_of K G { nx := fun _ H' => Q .non H', rt := Q } (start ["saying", "form"] vs) H := by
  obtain ⟨c, h, v, rfl, k, hw, q⟩ := h
  obtain ⟨a, w, items, form, rfl, e, ef, hl⟩ := wordB_is hw
  rcases look_forms G w with ⟨l1, l2⟩ | ⟨f, form', l1, l2, tf⟩
  · rw [ef] at l2
    cases l2
  rw [ef] at l2
  cases l2
  have tf' := tf K g
  have hfl := look_forms_len ef
  have ep : partsB H (.ref a) = pick form items := by rw [partsB_tup e]; simp only [partsT, ef]
  rw [ep] at q
  show t_parts_of K G _ [some _, none] _
  unfold t_parts_of
  walk_at "rd"
  refine r_ixT (SqT.of e) (at_zero _ _) ?_
  refine r_dic l1 ?_
  walk_at "rd"
  refine m_slT (SqT.of e) (cut_tail_ne _ _) fun b H1 hb s1 e1 => ?_
  rw [cut_tail] at e1
  walk_at "rd"
  have hml : min (form.map V.str).length items.length = form.length := by rw [List.length_map, hl]; omega
  refine lc_zip (S1 := srcT) (S2 := srcT) (form.map V.str) items (tf'.sq _) (SqT.of e1) (fun H' _ => tf'.sq _) (fun H' s' => SqT.of (s' _ _ e1)) (by rw [List.length_map]; omega) (fun i acc _ => acc = pick (form.take i) (items.take i)) (fun _ _ => rfl) ?_ ?_
  · intro p hp' C s' H' fp i x y T acc H2 H3 hx hy ⟨s2, e2, l2, r2⟩ hT s3 e3 e4
    obtain ⟨z, hz, rfl⟩ : ∃ z, form[i]? = some z ∧ x = .str z := by
      rw [List.getElem?_map] at hx
      cases e : form[i]? with
      | none => rw [e] at hx; cases hx
      | some z => rw [e] at hx; exact ⟨z, rfl, (Option.some.inj hx).symm⟩
    have pt := pick_take form items i z y hz hy
    subst r2
    refine g_pair (SqT.of e3) ?_
    walk_at "rd"
    refine ite_dec (fun c => ?_) (fun c => ?_)
    · walk_at "rd"
      rw [if_pos c] at pt
      exact CInv.put hp' (fun _ _ _ _ r _ => r) (s2.trans s3) e4 l2 pt.symm
    · rw [if_neg c, List.append_nil] at pt
      exact CInv.skip (s2.trans s3) e4 l2 pt.symm
  · intro p acc H2 hp' s2 e2 r2
    rw [hml, ← hl, List.take_length, hl, List.take_length] at r2
    subst r2
    exact q p H2 (s1.trans s2) (s1.free hp') e2
theorem partsB_known {H : Hp} {v : V} (k : Known H v) : ∀ p ∈ partsB H v, Known H p := by
  intro p hp
  cases k with
  | tup e kv =>
    rw [partsB_tup e] at hp
    rename_i vs
    cases vs with
    | nil => cases hp
    | cons x items =>
      cases x with
      | str w =>
        cases ef : formOf w with
        | none => simp [partsT, ef] at hp
        | some form =>
          simp only [partsT, ef] at hp
          obtain ⟨z, hz, rfl⟩ := List.mem_map.mp hp
          exact kv _ (List.mem_cons_of_mem _ (zip_mem (List.mem_filter.mp hz).1))
      | _ => cases hp
  | lst e => simp [partsB, e] at hp
  | dic e => simp [partsB, e] at hp
  | _ => cases hp
theorem partsB_len {c h : Int} {H : Hp} {v : V} (w : wordB c h H v = true) : (partsB H v).length ≤ 2 := by
  obtain ⟨a, w, items, form, rfl, e, ef, hl⟩ := wordB_is w
  rw [partsB_tup e]
  simp only [partsT, ef]
  exact Nat.le_trans (pick_len _ _) (look_forms_len ef)
noncomputable def sp_parts_of_all (_ : PySem.W.Frag) : Sp := fun vs H Q _ => ∃ (c h : Int) (l : Addr) (xs : List V), vs = [.ref l] ∧ H l = some (.lst xs) ∧ xs.length ≤ 100 ∧ (∀ x ∈ xs, Known H x ∧ wordB c h H x = true) ∧ ∀ (p : Addr) (H' : Hp), Same H H' → H p = none → H' p = some (.lst (xs.flatMap (partsB H))) → Q (.ref p) H'
noncomputable def t_parts_of_all (K : PySem.W.Frag) : TS := (tSeq (tAsg (mLst tNil) (gName 1))
  (tSeq (tFor (iList K (tVar 0)) (gName 2) (tDrop (tBM K "list" rExtend (tVar 1) (tCons (tCall (sp_parts_of K) [] E0 (tCons (tVar 2) tNil)) tNil))))
  (tRet (tVar 1))))
theorem flat_len {H : Hp} {c h : Int} : ∀ {xs : List V}, (∀ x ∈ xs, Known H x ∧ wordB c h H x = true) → (xs.flatMap (partsB H)).length ≤ 2 * xs.length
  | [], _ => Nat.le_refl _
  | x :: r, hx => by
    rw [List.flatMap_cons, List.length_append, List.length_cons]
    have := flat_len (xs := r) fun y hy => hx y (List.mem_cons_of_mem _ hy)
    have := partsB_len (hx x List.mem_cons_self).2
    omega
theorem len_parts_of_all {K : PySem.W.Frag} {vs : List V} {H : Hp} {Q : VK} {E : XK} (h : sp_parts_of_all K vs H Q E) : vs.length = 1 := by
  obtain ⟨c, h, l, xs, rfl, hl, h100, hx, q⟩ := h
  rfl
theorem rd_parts_of_all {K : PySem.W.Frag} {vs : List V} {H : Hp} {Q : VK} {E : XK} (h : sp_parts_of_all K vs H Q E) : t_parts_of_all K { nx := fun _ H' => Q .non H', rt := Q } (start ["sayings", "parts", "saying"] vs) H := by
  obtain ⟨c, h, l, xs, rfl, hl, h100, hx, q⟩ := h
  show t_parts_of_all K _ [some _, none, none] _
  unfold t_parts_of_all
  walk_at "rd"
  refine ⟨by simp [sizeLine_eq], fun p H1 hp s1 e1 => ?_⟩
  walk_at "rd"
  refine lp_list xs (SqL.of (s1 _ _ hl)) (fun i σ H2 => ∃ st, σ = [some (.ref l), some (.ref p), st] ∧ Same H H2 ∧ H2 p = some (.lst ((xs.take i).flatMap (partsB H)))) ⟨none, rfl, s1, e1⟩ (fun i σ H2 _ ⟨_, _, s2, _⟩ => SqL.of (s2 _ _ hl)) ?_ ?_
  · rintro i x σ H2 hxi ⟨st, rfl, s2, e2⟩
    obtain ⟨kx, wx⟩ := hx x (List.mem_of_getElem? hxi)
    walk_at "rd"
    refine ⟨r_tyL e2, ?_⟩
    walk_at "rd"
    refine ⟨c, h, x, rfl, kx.same s2, by rw [wordB_same s2 kx]; exact wx, fun r H3 s3 hr e3 => ?_⟩
    rw [partsB_same s2 kx] at e3
    walk_at "rd"
    have hle : ((xs.take i).flatMap (partsB H)).length ≤ 200 := by
      have := flat_len (xs := xs.take i) fun y hy => hx y (List.mem_of_mem_take hy)
      rw [List.length_take] at this
      omega
    have hl2 := partsB_len wx
    refine r_extend (s3 _ _ e2) e3 (by rw [sizeLine_eq]; omega) fun H4 o4 e4 => ?_
    refine ⟨_, rfl, (s2.trans s3).off hp o4, ?_⟩
    rw [e4, List.take_add_one, hxi, List.flatMap_append]
    simp
  · rintro σ H2 ⟨st, rfl, s2, e2⟩
    rw [List.take_length] at e2
    walk_at "rd"
    exact q p H2 s2 hp e2
inductive Sayw (c h : Int) (H : Hp) : V → Nat → Prop where
  | mk {v : V} {ns : List Nat} (w : wordB c h H v = true) (p : Paired (Sayw c h H) (partsB H v) ns) : Sayw c h H v (1 + ns.sum)
inductive Bad (c h : Int) (H : Hp) : V → Prop where
  | top {v : V} (w : wordB c h H v = false) : Bad c h H v
  | part {v p : V} (w : wordB c h H v = true) (m : p ∈ partsB H v) (b : Bad c h H p) : Bad c h H v
theorem Bad.same {c h : Int} {H H' : Hp} (s : Same H H') {v : V} (b : Bad c h H v) (k : Known H v) : Bad c h H' v := by
  induction b with
  | top w => exact .top (by rw [wordB_same s k]; exact w)
  | part w m b ih => exact .part (by rw [wordB_same s k]; exact w) (by rw [partsB_same s k]; exact m) (ih (partsB_known k _ m))
theorem Sayw.word {c h : Int} {H : Hp} {v : V} {n : Nat} (s : Sayw c h H v n) : wordB c h H v = true := by cases s with | mk w p => exact w
theorem Sayw.pos {c h : Int} {H : Hp} {v : V} {n : Nat} (s : Sayw c h H v n) : 1 ≤ n := by cases s with | mk w p => omega
theorem sayws_len {c h : Int} {H : Hp} : ∀ {xs : List V} {ns : List Nat}, Paired (Sayw c h H) xs ns → xs.length ≤ ns.sum
  | _, _, .nil => Nat.le_refl _
  | _, _, .cons r t => by
    have := r.pos
    have := sayws_len t
    rw [List.length_cons, List.sum_cons]
    omega
theorem sayws_parts {c h : Int} {H : Hp} : ∀ {xs : List V} {ns : List Nat}, Paired (Sayw c h H) xs ns → ∃ ms, Paired (Sayw c h H) (xs.flatMap (partsB H)) ms ∧ xs.length + ms.sum = ns.sum
  | _, _, .nil => ⟨[], .nil, rfl⟩
  | _, _, .cons (a := x) r t => by
    obtain ⟨ms, p, e⟩ := sayws_parts t
    cases r with
    | mk w q =>
      rename_i ks
      refine ⟨ks ++ ms, paired_app q p, ?_⟩
      rw [List.length_cons, List.sum_append, List.sum_cons]
      omega
noncomputable def sp_is_saying (_ : PySem.W.Frag) : Sp := fun vs H Q _ => ∃ (c h : Int) (v : V) (b : Bool), vs = [.int c, .int h, v] ∧ Known H v ∧ ((b = true ∧ ∃ n, n ≤ 30 ∧ Sayw c h H v n) ∨ (b = false ∧ (Bad c h H v ∨ ∃ n, 30 < n ∧ Sayw c h H v n))) ∧ ∀ H', Same H H' → Q (.bl b) H'
noncomputable def t_is_saying (K : PySem.W.Frag) : TS := (tSeq (tIfS (tOr (tNot (tB (tCall (sp_is_whole K) [] E0 (tCons (tVar 0) tNil)))) (tNot (tB (tCall (sp_is_whole K) [] E0 (tCons (tVar 1) tNil))))) (tRet (tC (.bl false))) tNext)
  (tSeq (tAsg (tC (.int 0)) (gName 3))
  (tSeq (tAsg (mLst (tCons (tVar 2) tNil)) (gName 4))
  (tSeq (tWhile (tTest (tOp (rI0 fun i j => .bl (decide (j < i))) (tCB (cLen K) (tCons (tVar 4) tNil)) (tC (.int 0)))) (tSeq (tAsg (tOp (rI0 fun i j => .int (i + j)) (tVar 3) (tCB (cLen K) (tCons (tVar 4) tNil))) (gName 3))
  (tSeq (tIfS (tOr (tTest (tOp (rI0 fun i j => .bl (decide (j < i))) (tVar 3) (tC (.int 30)))) (tNot (tB (tCB (cAll K) (tCons (tComp (iList K (tVar 4)) (fun _ _ _ _ => (gName 0)) (fun _ _ _ _ => tAlways) (fun _ _ _ _ => (tCall (sp_is_word K) [] E0 (tCons (tVar 1) (tCons (tVar 2) (tCons (tVar 0) tNil))))) [none, some 0, some 1]) tNil))))) (tRet (tC (.bl false))) tNext)
  (tAsg (tCall (sp_parts_of_all K) [] E0 (tCons (tVar 4) tNil)) (gName 4)))))
  (tRet (tC (.bl true)))))))
theorem len_is_saying {K : PySem.W.Frag} {vs : List V} {H : Hp} {Q : VK} {E : XK} (h : sp_is_saying K vs H Q E) : vs.length = 3 := by
  obtain ⟨c, h, v, b, rfl, k, hb, q⟩ := h
  rfl
theorem rd_is_saying {K : PySem.W.Frag} {vs : List V} {H : Hp} {Q : VK} {E : XK} (h : sp_is_saying K vs H Q E) : t_is_saying K { nx := fun _ H' => Q .non H', rt := Q } (start ["cards", "hands", "thing", "words", "level"] vs) H := by
  obtain ⟨c, h, v, b, rfl, k, hb, q⟩ := h
  show t_is_saying K _ [some _, some _, some _, none, none] _
  unfold t_is_saying
  walk_at "rd"
  refine ⟨_, rfl, Plain.int _, ?_⟩
  walk_at "rd"
  refine iteNT ?_
  walk_at "rd"
  refine ⟨_, rfl, Plain.int _, ?_⟩
  walk_at "rd"
  refine iteNT ?_
  walk_at "rd"
  refine ⟨by simp [sizeLine_eq], fun p H1 hp s1 e1 => ?_⟩
  refine r_name ?_
  dsimp only [List.set_cons_zero, List.set_cons_succ]
  refine r_seq ?_
  refine wh_in (fun m σ H2 => ∃ (W : Nat) (l : Addr) (xs : List V), σ = [some (.int c), some (.int h), some v, some (.int W), some (.ref l)] ∧ Same H H2 ∧ H2 l = some (.lst xs) ∧ (∀ x ∈ xs, Known H x) ∧ xs.length ≤ 100 ∧ W ≤ 30 ∧ m = 31 - W ∧
      ((b = true ∧ ∃ ns : List Nat, Paired (Sayw c h H) xs ns ∧ W + ns.sum ≤ 30) ∨ (b = false ∧ ∃ x ∈ xs, Bad c h H x) ∨ (b = false ∧ ∃ ns : List Nat, Paired (Sayw c h H) xs ns ∧ 30 < W + ns.sum))) 31
    ⟨0, p, [v], rfl, s1, e1, fun x hx => by rw [List.mem_singleton] at hx; subst hx; exact k, by simp, by decide, rfl, ?_⟩ ?_
  · rcases hb with ⟨h1, n, h2, h3⟩ | ⟨h1, h2 | ⟨n, h2, h3⟩⟩
    · exact .inl ⟨h1, [n], .cons h3 .nil, by simp; omega⟩
    · exact .inr (.inl ⟨h1, v, List.mem_singleton.mpr rfl, h2⟩)
    · exact .inr (.inr ⟨h1, [n], .cons h3 .nil, by simp; omega⟩)
  rintro m σ H2 ⟨W, l, xs, rfl, s2, e2, kx, h100, hW, hm, hc⟩
  walk_at "rd"
  refine ite_dec (fun c0 => ?_) (fun c0 => ?_)
  · refine wh_go ?_
    have no : b = false → ∀ H3, Same H2 H3 → Q (.bl false) H3 := fun hbf H3 s3 => by rw [← hbf]; exact q _ (s2.trans s3)
    have big : 30 < (W : Int) + (xs.length : Int) → b = false := by
      intro z
      rcases hc with ⟨h1, ns, h2, h3⟩ | ⟨h1, _⟩ | ⟨h1, _⟩
      · have := sayws_len h2
        omega
      · exact h1
      · exact h1
    walk_at "rd"
    refine ite_dec (fun c1 => ?_) (fun c1 => ?_)
    · walk_at "rd"
      exact no (big c1) _ (Same.refl _)
    · walk_at "rd"
      refine lc_list xs (SqL.of e2) (by omega) (fun i acc _ => acc = ((xs.take i).map (wordB c h H)).map V.bl) (fun _ _ => rfl) ?_ ?_
      · intro p' hp' C s' H' fp i x acc H3 hxi ⟨s3, e3, l3, r3⟩
        subst r3
        have kx' := kx x (List.mem_of_getElem? hxi)
        walk_at "rd"
        refine ⟨c, h, x, rfl, kx'.same (s2.trans s3), fun H4 s4 => ?_⟩
        rw [wordB_same (s2.trans s3) kx']
        refine CInv.put hp' (fun _ _ _ _ r _ => r) (s3.trans s4) (s4 _ _ e3) l3 ?_
        rw [List.take_add_one, hxi, List.map_append, List.map_append]
        rfl
      · intro p' acc H3 hp' s3 e3 r3
        rw [List.take_length] at r3
        subst r3
        walk_at "rd"
        refine ⟨p', _, rfl, SqL.of e3, ?_⟩
        rw [List.all_map]
        refine r_bl ?_
        refine ite_nb (fun n => ?_) (fun n => ?_)
        · walk_at "rd"
          refine no ?_ _ s3
          rcases hc with ⟨h1, ns, h2, h3⟩ | ⟨h1, _⟩ | ⟨h1, _⟩
          · have : xs.all (id ∘ wordB c h H) = true := by
              rw [List.all_eq_true]
              intro x hx
              obtain ⟨i, hi⟩ := List.getElem?_of_mem hx
              obtain ⟨n', _, hs⟩ := paired_get h2 hi
              exact hs.word
            rw [this] at n
            cases n
          · exact h1
          · exact h1
        · have all : ∀ x ∈ xs, wordB c h H x = true := fun x hx => (List.all_eq_true.mp n) x hx
          walk_at "rd"
          have s23 := s2.trans s3
          refine ⟨c, h, l, xs, rfl, s3 _ _ e2, h100, fun x hx => ⟨(kx x hx).same s23, by rw [wordB_same s23 (kx x hx)]; exact all x hx⟩, fun r H4 s4 hr e4 => ?_⟩
          have ep : xs.flatMap (partsB H3) = xs.flatMap (partsB H) := by
            have : ∀ ys : List V, (∀ y ∈ ys, Known H y) → ys.flatMap (partsB H3) = ys.flatMap (partsB H) := by
              intro ys
              induction ys with
              | nil => intro _; rfl
              | cons y r ih => intro hy; rw [List.flatMap_cons, List.flatMap_cons, partsB_same s23 (hy y List.mem_cons_self), ih fun z hz => hy z (List.mem_cons_of_mem _ hz)]
            exact this xs kx
          rw [ep] at e4
          have hfl := flat_len (H := H) (c := c) (h := h) (xs := xs) fun x hx => ⟨kx x hx, all x hx⟩
          walk_at "rd"
          have a1 : 31 - (W + xs.length) < m := by clear hc hb; omega
          have a2 : (xs.flatMap (partsB H)).length ≤ 100 := by clear hc hb; omega
          have a3 : W + xs.length ≤ 30 := by clear hc hb; omega
          refine ⟨31 - (W + xs.length), a1, W + xs.length, r, _, by rw [Int.natCast_add], s23.trans s4, e4, ?_, a2, a3, rfl, ?_⟩
          · intro x hx
            obtain ⟨y, hy, hxy⟩ := List.mem_flatMap.mp hx
            exact partsB_known (kx y hy) x hxy
          · rcases hc with ⟨h1, ns, h2, h3⟩ | ⟨h1, x, hx, hbad⟩ | ⟨h1, ns, h2, h3⟩
            · obtain ⟨ms, p2, e5⟩ := sayws_parts h2
              exact .inl ⟨h1, ms, p2, by omega⟩
            · refine .inr (.inl ⟨h1, ?_⟩)
              cases hbad with
              | top w => rw [all x hx] at w; cases w
              | part w m b => exact ⟨_, List.mem_flatMap.mpr ⟨x, hx, m⟩, b⟩
            · obtain ⟨ms, p2, e5⟩ := sayws_parts h2
              exact .inr (.inr ⟨h1, ms, p2, by omega⟩)
  · have hx0 : xs = [] := List.length_eq_zero_iff.mp (by omega)
    walk_at "rd"
    rcases hc with ⟨h1, _⟩ | ⟨_, x, hx, _⟩ | ⟨_, ns, h2, h3⟩
    · rw [← h1]
      exact q _ s2
    · rw [hx0] at hx
      cases hx
    · subst hx0
      cases h2
      simp at h3
      omega

end L2

end

section
-- KcBuild
set_option Elab.async false
set_option linter.all false
set_option maxRecDepth 100000
set_option maxHeartbeats 4000000
namespace L2
open PySem PyProof.Rows

/-! ### the numbers -/
noncomputable def sp__law_cell_at (K : PySem.W.Frag) : Sp := fun vs H Q _ => ∃ (a : Addr) (ns : List Int) (k : Int), vs = [.ref a, .int k] ∧ ScriptOk K H a ns ∧ 0 ≤ k ∧ ∀ z : Int, Q (.int z) H
noncomputable def t__law_cell_at (K : PySem.W.Frag) : TS := (tSeq (tIfS (tTest (tOp (rI0 fun i j => .bl (decide (i < j))) (tVar 1) (tCB (cLen K) (tCons (tVar 0) tNil)))) (tRet (tOp (rIxL K) (tVar 0) (tVar 1))) tNext)
  (tRet (tC (.int 0))))
theorem len__law_cell_at {K : PySem.W.Frag} {vs : List V} {H : Hp} {Q : VK} {E : XK} (h : sp__law_cell_at K vs H Q E) : vs.length = 2 := by
  obtain ⟨a, ns, k, rfl, ⟨hS, h63, hbits⟩, h0, q⟩ := h
  rfl
theorem rd__law_cell_at {K : PySem.W.Frag} {vs : List V} {H : Hp} {Q : VK} {E : XK} (h : sp__law_cell_at K vs H Q E) : t__law_cell_at K { nx := fun _ H' => Q .non H', rt := Q } (start ["_law_script", "_law_k"] vs) H := by
  obtain ⟨a, ns, k, rfl, ⟨hS, h63, hbits⟩, h0, q⟩ := h
  show t__law_cell_at K _ [some _, some _] _
  unfold t__law_cell_at
  have hl : (ns.map V.int).length = ns.length := List.length_map _
  walk_at "rd"
  rw [hl]
  refine ite_dec (fun c => ?_) (fun c => ?_)
  · walk_at "rd"
    exact r_ixL hS (atI_ints h0 c) (q _)
  · walk_at "rd"
    exact q _
noncomputable def sp__law_stream (_ : PySem.W.Frag) : Sp := fun vs H Q _ => ∃ (c : Int) (m : Nat), vs = [.int c, .int m] ∧ m ≤ 100 ∧ ∀ (p : Addr) (ms : List Int) (H' : Hp), Same H H' → H p = none → H' p = some (.lst (ms.map V.int)) → ms.length = m → Q (.ref p) H'
noncomputable def sp__law_numbers (K : PySem.W.Frag) : Sp := fun vs H Q _ => ∃ (a : Addr) (ns : List Int), vs = [.ref a] ∧ ScriptOk K H a ns ∧ ∀ (p : Addr) (ms : List Int) (H' : Hp), Same H H' → H p = none → H' p = some (.lst (ms.map V.int)) → ms.length ≤ 63 → Q (.ref p) H'
noncomputable def t__law_numbers (K : PySem.W.Frag) : TS := (tSeq (tIfS (tTest (tOp rEq (tOp (rI (fun _ j => 0 < j) fun i j => .int (i % j)) (tCall (sp__law_cell_at K) [] E0 (tCons (tVar 0) (tCons (tC (.int 0)) tNil))) (tC (.int 3))) (tC (.int 1)))) (tRet (tCall (sp__law_stream K) [] E0 (tCons (tCall (sp__law_cell_at K) [] E0 (tCons (tVar 0) (tCons (tC (.int 1)) tNil))) (tCons (tC (.int 60)) tNil)))) tNext)
  (tRet (tCB (mCList K) (tCons (tSl (mSlL K) (tVar 0) (tPart (tC (.int 2))) (tPart (tC (.int 63)))) tNil))))
theorem cut_ints (ns : List Int) (lo hi : Option Int) : ∃ ms : List Int, cutV (ns.map V.int) lo hi = ms.map V.int ∧ ms.length ≤ ns.length := by
  unfold cutV
  refine ⟨(ns.drop (HT.sIx (ns.map V.int).length 0 lo)).take (HT.sIx (ns.map V.int).length (ns.map V.int).length hi - HT.sIx (ns.map V.int).length 0 lo), by rw [List.map_take, List.map_drop], ?_⟩
  rw [List.length_take, List.length_drop]
  omega
theorem len__law_numbers {K : PySem.W.Frag} {vs : List V} {H : Hp} {Q : VK} {E : XK} (h : sp__law_numbers K vs H Q E) : vs.length = 1 := by
  obtain ⟨a, ns, rfl, hSc, q⟩ := h
  rfl
theorem rd__law_numbers {K : PySem.W.Frag} {vs : List V} {H : Hp} {Q : VK} {E : XK} (h : sp__law_numbers K vs H Q E) : t__law_numbers K { nx := fun _ H' => Q .non H', rt := Q } (start ["_law_script"] vs) H := by
  obtain ⟨a, ns, rfl, hSc, q⟩ := h
  show t__law_numbers K _ [some _] _
  unfold t__law_numbers
  walk_at "rd"
  refine ⟨a, ns, 0, rfl, hSc, by decide, fun z => ?_⟩
  walk_at "rd"
  refine ite_dec (fun c => ?_) (fun c => ?_)
  · walk_at "rd"
    refine ⟨a, ns, 1, rfl, hSc, by decide, fun z => ?_⟩
    walk_at "rd"
    exact ⟨z, 60, rfl, by decide, fun p ms H' s hp e hl => q p ms H' s hp e (by omega)⟩
  · walk_at "rd"
    refine m_slL hSc.1 fun b H1 hb s1 e1 => ?_
    obtain ⟨ms, hms, hl⟩ := cut_ints ns (some 2) (some 63)
    rw [hms] at e1
    walk_at "rd"
    exact m_list (SqL.of e1) fun p H2 hp s2 e2 => q p ms H2 (s1.trans s2) (s1.free hp) e2 (by have := hSc.2.1; omega)
/-! ### hands, leaves, words over a saying -/
noncomputable def sp__law_group (_ : PySem.W.Frag) : Sp := fun vs H Q _ => ∃ (z : Int) (h : Nat), vs = [.int z, .int h] ∧ h ≤ 5 ∧ ∀ (p : Addr) (g : List Nat) (H' : Hp), Same H H' → H' p = some (.tup (natV g)) → g.Pairwise (· < ·) → (∀ k ∈ g, k < h) → Q (.ref p) H'
noncomputable def t__law_group (K : PySem.W.Frag) : TS := (tRet (tCB (mCTuple K) (tCons (tComp (iRng1 (tCons (tVar 1) tNil)) (fun _ _ _ _ => (gName 0)) (fun _ _ _ _ => (tTest (tOp rEq (tOp (rI (fun _ j => 0 < j) fun i j => .int (i % j)) (tOp (rI CDiv fun i j => .int (i / j)) (tVar 1) (tOp (rIxL K) (mLst (tCons (tC (.int 1)) (tCons (tC (.int 2)) (tCons (tC (.int 4)) (tCons (tC (.int 8)) (tCons (tC (.int 16)) tNil)))))) (tVar 0))) (tC (.int 2))) (tC (.int 1))))) (fun _ _ _ _ => (tVar 0)) [none, some 0]) tNil)))
theorem at5 {i : Nat} (h : i < 5) : ∃ v : Int, atI [V.int 1, V.int 2, V.int 4, V.int 8, V.int 16] (i : Int) = some (.int v) ∧ 0 < v ∧ v ≤ 16 := by
  match i, h with
  | 0, _ => exact ⟨1, rfl, by decide, by decide⟩
  | 1, _ => exact ⟨2, rfl, by decide, by decide⟩
  | 2, _ => exact ⟨4, rfl, by decide, by decide⟩
  | 3, _ => exact ⟨8, rfl, by decide, by decide⟩
  | 4, _ => exact ⟨16, rfl, by decide, by decide⟩
theorem len__law_group {K : PySem.W.Frag} {vs : List V} {H : Hp} {Q : VK} {E : XK} (h : sp__law_group K vs H Q E) : vs.length = 2 := by
  obtain ⟨z, h, rfl, h5, q⟩ := h
  rfl
theorem rd__law_group {K : PySem.W.Frag} {vs : List V} {H : Hp} {Q : VK} {E : XK} (h : sp__law_group K vs H Q E) : t__law_group K { nx := fun _ H' => Q .non H', rt := Q } (start ["_law_number", "_law_hands"] vs) H := by
  obtain ⟨z, h, rfl, h5, q⟩ := h
  show t__law_group K _ [some _, some _] _
  unfold t__law_group
  walk_at "rd"
  refine lc_range h (by omega) (by omega) (by omega) (fun i acc _ => ∃ g : List Nat, acc = natV g ∧ g.Pairwise (· < ·) ∧ ∀ k ∈ g, k < i) (fun _ _ => ⟨[], rfl, .nil, fun _ h => (nomatch h)⟩) ?_ ?_
  · rintro p hp C s' H' fp i acc H2 hi ⟨s2, e2, l2, g, rfl, pw, hb⟩
    walk_at "rd"
    refine ⟨by simp [sizeLine_eq], fun b H3 hb3 s3 e3 => ?_⟩
    walk_at "rd"
    obtain ⟨v, hv, v0, v16⟩ := at5 (i := i) (by omega)
    refine r_ixL (SqL.of e3) hv ?_
    walk_at "rd"
    have e23 := s3 _ _ e2
    refine ite_dec (fun c => ?_) (fun c => ?_)
    · walk_at "rd"
      refine CInv.put hp (fun _ _ _ _ r _ => r) (s2.trans s3) e23 l2 ⟨g ++ [i], by rw [← natV_snoc], ?_, fun k hk => ?_⟩
      · rw [List.pairwise_append]
        exact ⟨pw, List.pairwise_singleton _ _, fun x hx y hy => by rw [List.mem_singleton] at hy; have := hb x hx; omega⟩
      · rcases List.mem_append.mp hk with hk | hk
        · have := hb k hk; omega
        · rw [List.mem_singleton] at hk; omega
    · exact CInv.skip (s2.trans s3) e23 l2 ⟨g, rfl, pw, fun k hk => by have := hb k hk; omega⟩
  · intro p acc H2 hp s2 e2 ⟨g, hg, pw, hb⟩
    subst hg
    walk_at "rd"
    exact m_tuple (SqL.of e2) fun t H3 ht s3 e3 => q t g H3 (s2.trans s3) e3 pw hb
noncomputable def sp__law_leaf (_ : PySem.W.Frag) : Sp := fun vs H Q _ => ∃ (z : Int) (c h : Nat), vs = [.int z, .int c, .int h] ∧ 1 ≤ h ∧ ∀ (v : V) (s : Sy) (H' : Hp), Same H H' → IsSy H' v s → s.words = 1 → s.Ok c h → Q v H'
noncomputable def t__law_leaf (K : PySem.W.Frag) : TS := (tSeq (tIfS (tOr (tTest (tOp rEq (tVar 1) (tC (.int 0)))) (tTest (tOp rEq (tOp (rI (fun _ j => 0 < j) fun i j => .int (i % j)) (tVar 0) (tC (.int 5))) (tC (.int 4))))) (tRet (mTup (tCons (tC (.str "sees")) (tCons (tOp (rI (fun _ j => 0 < j) fun i j => .int (i % j)) (tOp (rI CDiv fun i j => .int (i / j)) (tVar 0) (tC (.int 5))) (tVar 2)) tNil)))) tNext)
  (tRet (mTup (tCons (tC (.str "holds")) (tCons (tOp (rI (fun _ j => 0 < j) fun i j => .int (i % j)) (tOp (rI CDiv fun i j => .int (i / j)) (tVar 0) (tC (.int 5))) (tOp (rI0 fun i j => .int (i + j)) (tVar 2) (tC (.int 1)))) (tCons (tOp (rI (fun _ j => 0 < j) fun i j => .int (i % j)) (tOp (rI CDiv fun i j => .int (i / j)) (tVar 0) (tC (.int 30))) (tVar 1)) tNil))))))
theorem emodN (z : Int) {m : Int} (h : 0 < m) : ∃ k : Nat, z % m = (k : Int) ∧ (k : Int) < m := by
  have m1 := Int.emod_nonneg z (b := m) (by omega)
  have m2 := Int.emod_lt_of_pos z h
  exact ⟨(z % m).toNat, by omega, by omega⟩
theorem len__law_leaf {K : PySem.W.Frag} {vs : List V} {H : Hp} {Q : VK} {E : XK} (h : sp__law_leaf K vs H Q E) : vs.length = 3 := by
  obtain ⟨z, c, h, rfl, h1, q⟩ := h
  rfl
theorem rd__law_leaf {K : PySem.W.Frag} {vs : List V} {H : Hp} {Q : VK} {E : XK} (h : sp__law_leaf K vs H Q E) : t__law_leaf K { nx := fun _ H' => Q .non H', rt := Q } (start ["_law_number", "_law_cards", "_law_hands"] vs) H := by
  obtain ⟨z, c, h, rfl, h1, q⟩ := h
  show t__law_leaf K _ [some _, some _, some _] _
  unfold t__law_leaf
  refine r_seq_n fun NX hNX => ?_
  have key : NX [some (.int z), some (.int c), some (.int h)] H ∨ c = 0 := by
    by_cases hc : c = 0
    · exact .inr hc
    refine .inl (hNX _ _ ?_)
    walk_at "rd"
    obtain ⟨k, hk, hk2⟩ := emodN (z / 5) (m := (h : Int) + 1) (by omega)
    obtain ⟨j, hj, hj2⟩ := emodN (z / 30) (m := (c : Int)) (by omega)
    rw [hk, hj]
    exact ⟨by simp [sizeLine_eq], fun p H1 hp s1 e1 => q _ (.holds k j) H1 s1 ⟨p, rfl, e1⟩ rfl ⟨by omega, by omega⟩⟩
  have sees : [V.str "sees", V.int (z / 5 % (h : Int))].length ≤ sizeLine ∧ New H (.tup [V.str "sees", V.int (z / 5 % (h : Int))]) fun p H2 => Q (V.ref p) H2 := by
    obtain ⟨k, hk, hk2⟩ := emodN (z / 5) (m := (h : Int)) (by omega)
    rw [hk]
    exact ⟨by simp [sizeLine_eq], fun p H1 hp s1 e1 => q _ (.sees k) H1 s1 ⟨p, rfl, e1⟩ rfl (show k < h by omega)⟩
  walk_at "rs"
  refine ite_dec (fun c0 => ?_) (fun c0 => ?_)
  · walk_at "rs"
    exact sees
  · walk_at "rs"
    refine ite_dec (fun c1 => ?_) (fun c1 => ?_)
    · walk_at "rs"
      exact sees
    · walk_at "rs"
      exact key.elim id fun h => absurd h (by omega)
noncomputable def sp__law_over (_ : PySem.W.Frag) : Sp := fun vs H Q _ => ∃ (z : Int) (v : V) (c h : Nat) (s : Sy), vs = [.int z, v, .int h] ∧ 1 ≤ h ∧ h ≤ 5 ∧ IsSy H v s ∧ s.Ok c h ∧ ∀ (v' : V) (s' : Sy) (H' : Hp), Same H H' → IsSy H' v' s' → s'.words = s.words + 1 → s'.Ok c h → Q v' H'
noncomputable def t__law_over (K : PySem.W.Frag) : TS := (tSeq (tAsg (tOp (rI (fun _ j => 0 < j) fun i j => .int (i % j)) (tVar 0) (tC (.int 6))) (gName 3))
  (tSeq (tIfS (tTest (tOp (rI0 fun i j => .bl (decide (i < j))) (tVar 3) (tC (.int 2)))) (tRet (mTup (tCons (tC (.str "not")) (tCons (tVar 1) tNil)))) tNext)
  (tSeq (tIfS (tTest (tOp (rI0 fun i j => .bl (decide (i < j))) (tVar 3) (tC (.int 4)))) (tRet (mTup (tCons (tC (.str "knows")) (tCons (tOp (rI (fun _ j => 0 < j) fun i j => .int (i % j)) (tOp (rI CDiv fun i j => .int (i / j)) (tVar 0) (tC (.int 6))) (tVar 2)) (tCons (tVar 1) tNil))))) tNext)
  (tRet (mTup (tCons (tOp (rIxL K) (mLst (tCons (tC (.str "all")) (tCons (tC (.str "common")) tNil))) (tOp (rI0 fun i j => .int (i - j)) (tVar 3) (tC (.int 4)))) (tCons (tCall (sp__law_group K) [] E0 (tCons (tOp (rI CDiv fun i j => .int (i / j)) (tVar 0) (tC (.int 6))) (tCons (tVar 2) tNil))) (tCons (tVar 1) tNil))))))))
theorem len__law_over {K : PySem.W.Frag} {vs : List V} {H : Hp} {Q : VK} {E : XK} (h : sp__law_over K vs H Q E) : vs.length = 3 := by
  obtain ⟨z, v, c, h, s, rfl, h1, h5, hs, ho, q⟩ := h
  rfl
theorem rd__law_over {K : PySem.W.Frag} {vs : List V} {H : Hp} {Q : VK} {E : XK} (h : sp__law_over K vs H Q E) : t__law_over K { nx := fun _ H' => Q .non H', rt := Q } (start ["_law_number", "_law_told", "_law_hands", "_law_way"] vs) H := by
  obtain ⟨z, v, c, h, s, rfl, h1, h5, hs, ho, q⟩ := h
  show t__law_over K _ [some _, some _, some _, none] _
  unfold t__law_over
  refine r_seq ?_
  walk_at "rs"
  have neg : [V.str "not", v].length ≤ sizeLine ∧ New H (.tup [V.str "not", v]) fun p H2 => Q (V.ref p) H2 :=
    ⟨by simp [sizeLine_eq], fun p H1 hp s1 e1 => q _ (.not s) H1 s1 ⟨p, v, rfl, e1, hs.keep s1.keep⟩ rfl ho⟩
  refine r_seq_n fun NX hNX => ?_
  have key : ¬ z % 6 < 2 → NX [some (.int z), some v, some (.int h), some (.int (z % 6))] H := by
    intro c2
    refine hNX _ _ ?_
    walk_at "rd"
    refine ite_dec (fun c4 => ?_) (fun c4 => ?_)
    · walk_at "rd"
      obtain ⟨k, hk, hk2⟩ := emodN (z / 6) (m := (h : Int)) (by omega)
      rw [hk]
      exact ⟨by simp [sizeLine_eq], fun p H1 hp s1 e1 => q _ (.knows k s) H1 s1 ⟨p, v, rfl, e1, hs.keep s1.keep⟩ rfl ⟨by omega, ho⟩⟩
    · walk_at "rd"
      refine ⟨by simp [sizeLine_eq], fun l H1 hl s1 e1 => ?_⟩
      walk_at "rd"
      have h6 : z % 6 = 4 ∨ z % 6 = 5 := by omega
      rcases h6 with h6 | h6
      · rw [h6]
        refine r_ixL (SqL.of e1) (v := .str "all") rfl ?_
        walk_at "rd"
        refine ⟨z / 6, h, rfl, h5, fun g gs H2 s2 e2 pw hb => ?_⟩
        walk_at "rd"
        exact ⟨by simp [sizeLine_eq], fun p H3 hp s3 e3 => q _ (.all gs s) H3 ((s1.trans s2).trans s3) ⟨p, g, v, rfl, e3, s3 _ _ e2, hs.keep ((s1.trans s2).trans s3).keep⟩ rfl ⟨⟨pw, hb⟩, ho⟩⟩
      · rw [h6]
        refine r_ixL (SqL.of e1) (v := .str "common") rfl ?_
        walk_at "rd"
        refine ⟨z / 6, h, rfl, h5, fun g gs H2 s2 e2 pw hb => ?_⟩
        walk_at "rd"
        exact ⟨by simp [sizeLine_eq], fun p H3 hp s3 e3 => q _ (.common gs s) H3 ((s1.trans s2).trans s3) ⟨p, g, v, rfl, e3, s3 _ _ e2, hs.keep ((s1.trans s2).trans s3).keep⟩ rfl ⟨⟨pw, hb⟩, ho⟩⟩
  walk_at "rs"
  refine ite_dec (fun c2 => ?_) (fun c2 => ?_)
  · walk_at "rs"
    exact neg
  · walk_at "rs"
    exact key c2
/-! ### a saying is built -/
theorem paired_last {α β : Type} {F : α → β → Prop} : ∀ {l : List α} {m : List β}, Paired F l m → l ≠ [] → ∃ l0 x m0 y, l = l0 ++ [x] ∧ m = m0 ++ [y] ∧ Paired F l0 m0 ∧ F x y
  | _, _, .nil, h => absurd rfl h
  | _, _, .cons (a := a) (b := b) r .nil, _ => ⟨[], a, [], b, rfl, rfl, .nil, r⟩
  | _, _, .cons (a := a) (b := b) r (.cons q t), _ => by
    obtain ⟨l0, x, m0, y, e1, e2, p, f⟩ := paired_last (.cons q t) (by simp)
    exact ⟨a :: l0, x, b :: m0, y, by rw [e1]; rfl, by rw [e2]; rfl, .cons r p, f⟩
noncomputable def wsum (ss : List Sy) : Nat := (ss.map Sy.words).sum
theorem wsum_app (a b : List Sy) : wsum (a ++ b) = wsum a + wsum b := by unfold wsum; rw [List.map_append, List.sum_append]
theorem wsum_one (s : Sy) : wsum [s] = s.words := by unfold wsum; simp
noncomputable def sp__law_built (_ : PySem.W.Frag) : Sp := fun vs H Q _ => ∃ (l : Addr) (ms : List Int) (c h room : Nat), vs = [.ref l, .int c, .int h, .int room] ∧ H l = some (.lst (ms.map V.int)) ∧ ms.length ≤ 63 ∧ 1 ≤ h ∧ h ≤ 5 ∧ 1 ≤ room ∧ room ≤ 100 ∧
  ∀ (v : V) (s : Sy) (H' : Hp), Same H H' → IsSy H' v s → s.words ≤ room → s.Ok c h → Q v H'
noncomputable def t__law_built (K : PySem.W.Frag) : TS := (tSeq (tAsg (mLst tNil) (gName 4))
  (tSeq (tAsg (tC (.int 0)) (gName 5))
  (tSeq (tFor (iList K (tVar 0)) (gName 6) (tSeq (tAsg (tOp (rI (fun _ j => 0 < j) fun i j => .int (i % j)) (tVar 6) (tC (.int 4))) (gName 7))
  (tIfS (tAnd (tTest (tOp (rI0 fun i j => .bl (decide (j < i))) (tVar 7) (tC (.int 1)))) (tTest (tOp (rI0 fun i j => .bl (decide (j < i))) (tCB (cLen K) (tCons (tVar 4) tNil)) (tC (.int 1))))) (tSeq (tAsg (tBM0 K "list" rPop (tVar 4)) (gName 8))
  (tSeq (tDrop (tBM K "list" rAppend (tVar 4) (tCons (mTup (tCons (tOp (rIxL K) (mLst (tCons (tC (.str "and")) (tCons (tC (.str "or")) tNil))) (tOp (rI0 fun i j => .int (i - j)) (tVar 7) (tC (.int 2)))) (tCons (tBM0 K "list" rPop (tVar 4)) (tCons (tVar 8) tNil)))) tNil)))
  (tAsg (tOp (rI0 fun i j => .int (i + j)) (tVar 5) (tC (.int 1))) (gName 5)))) (tIfS (tAnd (tTest (tOp rEq (tVar 7) (tC (.int 1)))) (tAnd (tTest (tOp (rI0 fun i j => .bl (decide (j < i))) (tCB (cLen K) (tCons (tVar 4) tNil)) (tC (.int 0)))) (tTest (tOp (rI0 fun i j => .bl (decide (i ≤ j))) (tOp (rI0 fun i j => .int (i + j)) (tVar 5) (tCB (cLen K) (tCons (tVar 4) tNil))) (tVar 3))))) (tSeq (tDrop (tBM K "list" rAppend (tVar 4) (tCons (tCall (sp__law_over K) [] E0 (tCons (tOp (rI CDiv fun i j => .int (i / j)) (tVar 6) (tC (.int 4))) (tCons (tBM0 K "list" rPop (tVar 4)) (tCons (tVar 2) tNil)))) tNil)))
  (tAsg (tOp (rI0 fun i j => .int (i + j)) (tVar 5) (tC (.int 1))) (gName 5))) (tIfS (tOr (tTest (tOp rEq (tCB (cLen K) (tCons (tVar 4) tNil)) (tC (.int 0)))) (tTest (tOp (rI0 fun i j => .bl (decide (i < j))) (tOp (rI0 fun i j => .int (i + j)) (tVar 5) (tCB (cLen K) (tCons (tVar 4) tNil))) (tVar 3)))) (tSeq (tDrop (tBM K "list" rAppend (tVar 4) (tCons (tCall (sp__law_leaf K) [] E0 (tCons (tOp (rI CDiv fun i j => .int (i / j)) (tVar 6) (tC (.int 4))) (tCons (tVar 1) (tCons (tVar 2) tNil)))) tNil)))
  (tAsg (tOp (rI0 fun i j => .int (i + j)) (tVar 5) (tC (.int 1))) (gName 5))) tNext)))))
  (tSeq (tIfS (tTest (tOp rEq (tCB (cLen K) (tCons (tVar 4) tNil)) (tC (.int 0)))) (tDrop (tBM K "list" rAppend (tVar 4) (tCons (tCall (sp__law_leaf K) [] E0 (tCons (tVar 3) (tCons (tVar 1) (tCons (tVar 2) tNil)))) tNil))) tNext)
  (tSeq (tWhile (tTest (tOp (rI0 fun i j => .bl (decide (j < i))) (tCB (cLen K) (tCons (tVar 4) tNil)) (tC (.int 1)))) (tSeq (tAsg (tBM0 K "list" rPop (tVar 4)) (gName 8))
  (tDrop (tBM K "list" rAppend (tVar 4) (tCons (mTup (tCons (tC (.str "or")) (tCons (tBM0 K "list" rPop (tVar 4)) (tCons (tVar 8) tNil)))) tNil)))))
  (tRet (tOp (rIxL K) (tVar 4) (tC (.int 0)))))))))
structure RowAt (H H2 : Hp) (r : Addr) (c h room : Nat) (ss : List Sy) (spent : Nat) : Prop where
  same : Same H H2
  new : H r = none
  at_ : ∃ xs, H2 r = some (.lst xs) ∧ SysAt H2 xs ss
  sum : wsum ss = spent
  room : spent + ss.length ≤ room + 1
  emp : ss = [] → spent = 0
  ok : ∀ s ∈ ss, s.Ok c h
theorem at_and {w : Int} (h : 1 < w) (h2 : w < 4) : ∃ b : Bool, atI [V.str "and", V.str "or"] (w - 2) = some (.str (if b then "and" else "or")) := by
  have : w = 2 ∨ w = 3 := by omega
  rcases this with rfl | rfl
  · exact ⟨true, rfl⟩
  · exact ⟨false, rfl⟩
noncomputable def Sy.two (b : Bool) (s t : Sy) : Sy := if b then .and s t else .or s t
theorem isSy_two {H : Hp} {p : Addr} {x y : V} {s t : Sy} {b : Bool} (e : H p = some (.tup [.str (if b then "and" else "or"), x, y])) (hx : IsSy H x s) (hy : IsSy H y t) : IsSy H (.ref p) (.two b s t) := by
  cases b with
  | true => exact ⟨p, x, y, rfl, e, hx, hy⟩
  | false => exact ⟨p, x, y, rfl, e, hx, hy⟩
theorem two_words (b : Bool) (s t : Sy) : (Sy.two b s t).words = s.words + t.words + 1 := by cases b <;> rfl
theorem two_ok {b : Bool} {s t : Sy} {c h : Nat} (h1 : s.Ok c h) (h2 : t.Ok c h) : (Sy.two b s t).Ok c h := by cases b <;> exact ⟨h1, h2⟩
theorem RowAt.push {H H' : Hp} {r : Addr} {c h room spent : Nat} {ss0 : List Sy} {s' : Sy} {xs0 : List V} {v : V} (same : Same H H') (new : H r = none) (e : H' r = some (.lst (xs0 ++ [v]))) (hs : SysAt H' xs0 ss0) (hv : IsSy H' v s') (sum : wsum ss0 + s'.words = spent) (hr : spent + ss0.length ≤ room) (ok : ∀ s ∈ ss0, s.Ok c h) (ok' : s'.Ok c h) :
    RowAt H H' r c h room (ss0 ++ [s']) spent where
  same := same
  new := new
  at_ := ⟨_, e, paired_app hs (.cons hv .nil)⟩
  sum := by rw [wsum_app, wsum_one]; exact sum
  room := by rw [List.length_append]; show spent + (ss0.length + 1) ≤ room + 1; omega
  emp := fun e => by simp at e
  ok := fun s hs => by
    rcases List.mem_append.mp hs with hs | hs
    · exact ok s hs
    · rw [List.mem_singleton] at hs; subst hs; exact ok'
theorem RowAt.last {H H2 : Hp} {r : Addr} {c h room spent : Nat} {ss : List Sy} (R : RowAt H H2 r c h room ss spent) (hl : 1 ≤ ss.length) : ∃ xs0 x ss0 s, H2 r = some (.lst (xs0 ++ [x])) ∧ ss = ss0 ++ [s] ∧ SysAt H2 xs0 ss0 ∧ IsSy H2 x s := by
  obtain ⟨xs, e, p⟩ := R.at_
  have hxl := sysAt_len p
  obtain ⟨xs0, x, ss0, s, rfl, rfl, p0, f⟩ := paired_last p (by intro z; subst z; simp at hxl; omega)
  exact ⟨xs0, x, ss0, s, e, rfl, p0, f⟩
theorem RowAt.last2 {H H2 : Hp} {r : Addr} {c h room spent : Nat} {ss : List Sy} (R : RowAt H H2 r c h room ss spent) (hl : 2 ≤ ss.length) : ∃ xs0 x y ss0 s t, H2 r = some (.lst ((xs0 ++ [x]) ++ [y])) ∧ ss = (ss0 ++ [s]) ++ [t] ∧ SysAt H2 xs0 ss0 ∧ IsSy H2 x s ∧ IsSy H2 y t := by
  obtain ⟨xs1, y, ss1, t, e, rfl, p1, ft⟩ := R.last (by omega)
  have hxl := sysAt_len p1
  rw [List.length_append] at hl
  obtain ⟨xs0, x, ss0, s, rfl, rfl, p0, f⟩ := paired_last p1 (by intro z; subst z; simp at hxl; simp at hl; omega)
  exact ⟨xs0, x, y, ss0, s, t, e, rfl, p0, f, ft⟩
theorem RowAt.len {H H2 : Hp} {r : Addr} {c h room spent : Nat} {ss : List Sy} (R : RowAt H H2 r c h room ss spent) : ∃ xs, H2 r = some (.lst xs) ∧ xs.length = ss.length := by
  obtain ⟨xs, e, p⟩ := R.at_
  exact ⟨xs, e, sysAt_len p⟩
theorem RowAt.to {H H2 H3 : Hp} {r : Addr} {c h room spent : Nat} {ss : List Sy} (R : RowAt H H2 r c h room ss spent) (s : Same H2 H3) : RowAt H H3 r c h room ss spent where
  same := R.same.trans s
  new := R.new
  at_ := by obtain ⟨xs, e, p⟩ := R.at_; exact ⟨xs, s _ _ e, p.keep s.keep⟩
  sum := R.sum
  room := R.room
  emp := R.emp
  ok := R.ok
theorem len__law_built {K : PySem.W.Frag} {vs : List V} {H : Hp} {Q : VK} {E : XK} (h : sp__law_built K vs H Q E) : vs.length = 4 := by
  obtain ⟨l, ms, c, h, room, rfl, hl, h63, h1, h5, hr1, hr100, q⟩ := h
  rfl
theorem rd__law_built {K : PySem.W.Frag} {vs : List V} {H : Hp} {Q : VK} {E : XK} (h : sp__law_built K vs H Q E) : t__law_built K { nx := fun _ H' => Q .non H', rt := Q } (start ["_law_numbers_here", "_law_cards", "_law_hands", "_law_room", "_law_row", "_law_spent", "_law_number", "_law_way", "_law_other"] vs) H := by
  obtain ⟨l, ms, c, h, room, rfl, hl, h63, h1, h5, hr1, hr100, q⟩ := h
  show t__law_built K _ [some _, some _, some _, some _, none, none, none, none, none] _
  unfold t__law_built
  walk_at "rd"
  refine ⟨by simp [sizeLine_eq], fun r H1 hr s1 e1 => ?_⟩
  walk_at "rd"
  refine lp_list (ms.map V.int) (SqL.of (s1 _ _ hl)) (fun i σ H2 => ∃ (ss : List Sy) (spent : Nat) (v8 v9 v10 : Option V), σ = [some (.ref l), some (.int c), some (.int h), some (.int room), some (.ref r), some (.int spent), v8, v9, v10] ∧ RowAt H H2 r c h room ss spent)
    ⟨[], 0, none, none, none, rfl, s1, hr, ⟨[], e1, .nil⟩, rfl, by show 0 + 0 ≤ room + 1; omega, fun _ => rfl, fun _ h => (nomatch h)⟩ (fun i σ H2 _ ⟨_, _, _, _, _, _, R⟩ => SqL.of (R.same _ _ hl)) ?_ ?_
  · rintro i x σ H2 hx ⟨ss, spent, v8, v9, v10, rfl, R⟩
    obtain ⟨z, hz, rfl⟩ := int_at hx
    obtain ⟨xs, e2, hxl⟩ := R.len
    have hroom := R.room
    have s2 := R.same
    refine r_name ?_
    dsimp only [List.set_cons_zero, List.set_cons_succ]
    refine r_seq ?_
    walk_at "ra"
    refine r_ifS_e fun E1 hE1 => ?_
    have k1 : E1 [some (.ref l), some (.int c), some (.int h), some (.int room), some (.ref r), some (.int spent), some (.int z), some (.int (z % 4)), v10] H2 := by
      refine hE1 _ _ ?_
      refine r_ifS_e fun E2 hE2 => ?_
      have k2 : E2 [some (.ref l), some (.int c), some (.int h), some (.int room), some (.ref r), some (.int spent), some (.int z), some (.int (z % 4)), v10] H2 := by
        refine hE2 _ _ ?_
        have leaf : (ss = [] ∨ spent + ss.length < room) → ∀ (v : V) (s : Sy) (H3 H4 : Hp), Same H2 H3 → IsSy H3 v s → s.words = 1 → s.Ok c h → Off r H3 H4 → H4 r = some (.lst (xs ++ [v])) → RowAt H H4 r c h room (ss ++ [s]) (spent + 1) := by
          intro hc v s H3 H4 s3 is3 ws3 ok3 o4 e4
          have kp : Keep H2 H4 := s3.keep.trans (o4.keep (s3 _ _ e2))
          obtain ⟨xs', ex', px⟩ := R.at_
          rw [e2] at ex'
          cases ex'
          refine .push ((s2.trans s3).off R.new o4) R.new e4 (px.keep kp) (is3.keep (o4.keep (s3 _ _ e2))) (by rw [R.sum, ws3]) ?_ R.ok ok3
          rcases hc with hc | hc
          · have := R.emp hc
            subst hc
            show spent + 1 + 0 ≤ room
            omega
          · omega
        walk_at "rd"
        rw [hxl]
        refine ite_dec (fun c0 => ?_) (fun c0 => ?_)
        · walk_at "rd"
          refine ⟨r_tyL e2, ?_⟩
          walk_at "rd"
          refine ⟨z / 4, c, h, rfl, h1, fun v s H3 s3 is3 ws3 ok3 => ?_⟩
          walk_at "rd"
          refine r_append (s3 _ _ e2) (by rw [sizeLine_eq]; omega) fun H4 o4 e4 => ?_
          walk_at "rd"
          exact ⟨ss ++ [s], spent + 1, _, _, _, by rw [Int.natCast_add]; rfl, leaf (.inl (List.length_eq_zero_iff.mp (by omega))) v s H3 H4 s3 is3 ws3 ok3 o4 e4⟩
        · walk_at "rd"
          rw [hxl]
          refine ite_dec (fun c1 => ?_) (fun c1 => ?_)
          · walk_at "rd"
            refine ⟨r_tyL e2, ?_⟩
            walk_at "rd"
            refine ⟨z / 4, c, h, rfl, h1, fun v s H3 s3 is3 ws3 ok3 => ?_⟩
            walk_at "rd"
            refine r_append (s3 _ _ e2) (by rw [sizeLine_eq]; omega) fun H4 o4 e4 => ?_
            walk_at "rd"
            exact ⟨ss ++ [s], spent + 1, _, _, _, by rw [Int.natCast_add]; rfl, leaf (.inr (by omega)) v s H3 H4 s3 is3 ws3 ok3 o4 e4⟩
          · walk_at "rd"
            exact ⟨ss, spent, _, _, _, rfl, R⟩
      walk_at "rd"
      refine ite_dec (fun c0 => ?_) (fun c0 => ?_)
      · walk_at "rd"
        rw [hxl]
        refine ite_dec (fun c1 => ?_) (fun c1 => ?_)
        · walk_at "rd"
          rw [hxl]
          refine ite_dec (fun c2 => ?_) (fun c2 => ?_)
          · -- a word over the last
            obtain ⟨xs0, x, ss0, s, ex, rfl, p0, is⟩ := R.last (by omega)
            have hws := R.sum
            rw [wsum_app, wsum_one] at hws
            rw [List.length_append] at c2 hroom hxl
            have c2' : (spent : Int) + ((ss0.length + 1 : Nat) : Int) ≤ room := c2
            have oks : s.Ok c h := R.ok s (List.mem_append_right _ List.mem_cons_self)
            walk_at "rd"
            refine ⟨r_tyL ex, ?_⟩
            walk_at "rd"
            refine ⟨r_tyL ex, ?_⟩
            refine r_pop ex fun H3 o3 e3 => ?_
            have k3 := o3.keep ex
            walk_at "rd"
            refine ⟨z / 4, x, c, h, s, rfl, h1, h5, is.keep k3, oks, fun v' s' H4 s4 is4 ws4 ok4 => ?_⟩
            walk_at "rd"
            refine r_append (s4 _ _ e3) (by rw [sizeLine_eq]; have := sysAt_len p0; omega) fun H5 o5 e5 => ?_
            walk_at "rd"
            have k5 := o5.keep (s4 _ _ e3)
            exact ⟨ss0 ++ [s'], spent + 1, _, _, _, by rw [Int.natCast_add]; rfl, .push (((s2.off R.new o3).trans s4).off R.new o5) R.new e5 (p0.keep ((k3.trans s4.keep).trans k5)) (is4.keep k5) (by omega) (by omega) (fun s hs => R.ok s (List.mem_append_left _ hs)) ok4⟩
          · walk_at "rd"
            exact k2
        · walk_at "rd"
          exact k2
      · walk_at "rd"
        exact k2
    walk_at "rd"
    refine ite_dec (fun c0 => ?_) (fun c0 => ?_)
    · walk_at "rd"
      rw [hxl]
      refine ite_dec (fun c1 => ?_) (fun c1 => ?_)
      · -- the last two together
        obtain ⟨xs0, x, y, ss0, s, t', ex, rfl, p0, is, it⟩ := R.last2 (by omega)
        have hws := R.sum
        rw [wsum_app, wsum_one, wsum_app, wsum_one] at hws
        rw [List.length_append, List.length_append] at hroom
        have hroom' : spent + (ss0.length + 1 + 1) ≤ room + 1 := hroom
        have oks : s.Ok c h := R.ok s (List.mem_append_left _ (List.mem_append_right _ List.mem_cons_self))
        have okt : t'.Ok c h := R.ok t' (List.mem_append_right _ List.mem_cons_self)
        walk_at "rd"
        refine ⟨r_tyL ex, ?_⟩
        refine r_pop ex fun H3 o3 e3 => ?_
        have k3 := o3.keep ex
        walk_at "rd"
        refine ⟨r_tyL e3, ?_⟩
        walk_at "rd"
        refine ⟨by simp [sizeLine_eq], fun p4 H4 hp4 s4 e4 => ?_⟩
        walk_at "rd"
        obtain ⟨bb, hbb⟩ := at_and (w := z % 4) (by omega) (by omega)
        refine r_ixL (SqL.of e4) hbb ?_
        walk_at "rd"
        have e34 := s4 _ _ e3
        refine ⟨r_tyL e34, ?_⟩
        refine r_pop e34 fun H5 o5 e5 => ?_
        have k5 := o5.keep e34
        walk_at "rd"
        refine ⟨by simp [sizeLine_eq], fun p6 H6 hp6 s6 e6 => ?_⟩
        have e56 := s6 _ _ e5
        walk_at "rd"
        refine r_append e56 (by rw [sizeLine_eq]; have := sysAt_len p0; omega) fun H7 o7 e7 => ?_
        have k7 := o7.keep e56
        have kk : Keep H2 H6 := ((k3.trans s4.keep).trans k5).trans s6.keep
        walk_at "rd"
        exact ⟨ss0 ++ [.two bb s t'], spent + 1, _, _, _, by rw [Int.natCast_add]; rfl, .push (((((s2.off R.new o3).trans s4).off R.new o5).trans s6).off R.new o7) R.new e7 (p0.keep (kk.trans k7)) ((isSy_two e6 (is.keep kk) (it.keep kk)).keep k7) (by rw [two_words]; omega) (by omega) (fun s hs => R.ok s (List.mem_append_left _ (List.mem_append_left _ hs))) (two_ok oks okt)⟩
      · walk_at "rd"
        exact k1
    · walk_at "rd"
      exact k1
  · rintro σ H2 ⟨ss, spent, v8, v9, v10, rfl, R⟩
    refine r_seq_n fun NX hNX => ?_
    -- the row's end: one saying at least
    have fin : ∀ (SP : V) (ss : List Sy) (spent : Nat) (H3 : Hp), RowAt H H3 r c h room ss spent → ss ≠ [] → NX [some (.ref l), some (.int c), some (.int h), some (.int room), some (.ref r), some SP, v8, v9, v10] H3 := by
      intro SP ss spent H3 R hne
      refine hNX _ _ ?_
      refine r_seq ?_
      refine wh_in (fun m σ H4 => ∃ (ss : List Sy) (spent : Nat) (v10 : Option V), σ = [some (.ref l), some (.int c), some (.int h), some (.int room), some (.ref r), some SP, v8, v9, v10] ∧ RowAt H H4 r c h room ss spent ∧ ss ≠ [] ∧ m = ss.length) ss.length ⟨ss, spent, v10, rfl, R, hne, rfl⟩ ?_
      clear R hne
      rintro m σ H4 ⟨ss, spent, v10, rfl, R, hne, hm⟩
      obtain ⟨xs, e4, hxl⟩ := R.len
      have hroom := R.room
      walk_at "rd"
      rw [hxl]
      refine ite_dec (fun c1 => ?_) (fun c1 => ?_)
      · obtain ⟨xs0, x, y, ss0, s, t', ex, rfl, p0, is, it⟩ := R.last2 (by omega)
        have hws := R.sum
        rw [wsum_app, wsum_one, wsum_app, wsum_one] at hws
        rw [List.length_append, List.length_append] at hroom hm
        have hroom' : spent + (ss0.length + 1 + 1) ≤ room + 1 := hroom
        have hm' : m = ss0.length + 1 + 1 := hm
        have oks : s.Ok c h := R.ok s (List.mem_append_left _ (List.mem_append_right _ List.mem_cons_self))
        have okt : t'.Ok c h := R.ok t' (List.mem_append_right _ List.mem_cons_self)
        refine wh_go ?_
        walk_at "rd"
        refine ⟨r_tyL ex, ?_⟩
        refine r_pop ex fun H5 o5 e5 => ?_
        have k5 := o5.keep ex
        walk_at "rd"
        refine ⟨r_tyL e5, ?_⟩
        walk_at "rd"
        refine ⟨r_tyL e5, ?_⟩
        refine r_pop e5 fun H6 o6 e6 => ?_
        have k6 := o6.keep e5
        walk_at "rd"
        refine ⟨by simp [sizeLine_eq], fun p7 H7 hp7 s7 e7 => ?_⟩
        have e67 := s7 _ _ e6
        walk_at "rd"
        refine r_append e67 (by rw [sizeLine_eq]; have := sysAt_len p0; omega) fun H8 o8 e8 => ?_
        have k8 := o8.keep e67
        have kk : Keep H4 H7 := (k5.trans k6).trans s7.keep
        refine ⟨ss0.length + 1, by omega, ss0 ++ [.or s t'], spent + 1, _, rfl, .push ((((R.same.off R.new o5).off R.new o6).trans s7).off R.new o8) R.new e8 (p0.keep (kk.trans k8)) (IsSy.keep k8 (s := .or s t') ⟨p7, x, y, rfl, e7, is.keep kk, it.keep kk⟩) (by show wsum ss0 + (s.words + t'.words + 1) = spent + 1; omega) (by omega) (fun s hs => R.ok s (List.mem_append_left _ (List.mem_append_left _ hs))) (show (Sy.or s t').Ok c h from ⟨oks, okt⟩), by simp, by rw [List.length_append]; rfl⟩
      · -- one saying is left
        obtain ⟨xs0, x, ss0, s, ex, rfl, p0, is⟩ := R.last (by cases ss with | nil => exact absurd rfl hne | cons a r => simp)
        rw [List.length_append] at c1
        have hl0 : ss0.length = 0 := by simp at c1; omega
        have hs0 : ss0 = [] := List.length_eq_zero_iff.mp hl0
        subst hs0
        have hx0 : xs0 = [] := List.length_eq_zero_iff.mp (sysAt_len p0)
        subst hx0
        have hws := R.sum
        rw [wsum_app, wsum_one] at hws
        have hws' : 0 + s.words = spent := hws
        have hroom' : spent + 1 ≤ room + 1 := hroom
        walk_at "rd"
        refine r_ixL (SqL.of ex) (at_zero _ _) ?_
        exact q x s H4 R.same is (by omega) (R.ok s (by simp))
    obtain ⟨xs, e2, hxl⟩ := R.len
    walk_at "rd"
    rw [hxl]
    refine ite_dec (fun c0 => ?_) (fun c0 => ?_)
    · have hs0 : ss = [] := List.length_eq_zero_iff.mp (by omega)
      have hsp := R.emp hs0
      subst hs0 hsp
      have hx0 : xs = [] := List.length_eq_zero_iff.mp hxl
      subst hx0
      walk_at "rd"
      refine ⟨r_tyL e2, ?_⟩
      walk_at "rd"
      refine ⟨room, c, h, rfl, h1, fun v s H3 s3 is3 ws3 ok3 => ?_⟩
      walk_at "rd"
      refine r_append (s3 _ _ e2) (by rw [sizeLine_eq]; simp) fun H4 o4 e4 => ?_
      have k4 := o4.keep (s3 _ _ e2)
      walk_at "rd"
      exact fin _ _ 1 H4 (.push (ss0 := []) (xs0 := []) ((R.same.trans s3).off R.new o4) R.new e4 .nil (is3.keep k4) (show 0 + s.words = 1 by omega) (by show 1 + 0 ≤ room; omega) (fun _ h => (nomatch h)) ok3) (by simp)
    · walk_at "rd"
      exact fin _ ss spent H2 R (by intro z; subst z; simp at c0)

end L2

end

section
-- KcListR
set_option Elab.async false
set_option linter.all false
set_option maxRecDepth 100000
set_option maxHeartbeats 4000000
namespace L2
open PySem PyProof.Rows
/-! ### list(range(n)), list(zip(a, b)), list(reversed(a)) -/
section
variable {σ : St} {H : Hp} {Q : VK} {K : PySem.W.Frag}
end
end L2

end

section
-- KcTx
set_option Elab.async false
set_option linter.all false
set_option maxRecDepth 100000
set_option maxHeartbeats 4000000
namespace L2
open PySem PyProof.Rows

theorem natV_atT {g : List Nat} {i : Nat} {x : V} (h : (natV g)[i]? = some x) : ∃ k, g[i]? = some k ∧ x = .int (k : Int) := by
  unfold natV at h
  rw [List.getElem?_map] at h
  cases e : g[i]? with
  | none => rw [e] at h; cases h
  | some k => rw [e] at h; exact ⟨k, rfl, (Option.some.inj h).symm⟩
theorem numV_take {g : List Nat} {i k : Nat} (h : g[i]? = some k) : ((g.take (i + 1)).map fun (k : Nat) => num (k : Int)).map V.str = ((g.take i).map fun (k : Nat) => num (k : Int)).map V.str ++ [.str (num (k : Int))] := by
  rw [List.take_add_one, h, List.map_append, List.map_append]
  rfl
theorem word_len (s : Sy) : s.word.length ≤ 6 := by cases s <;> (simp only [Sy.word]; decide +kernel)
theorem lp1 : ("(" : Str).length = 1 := by decide +kernel
theorem lp2 : (")" : Str).length = 1 := by decide +kernel
theorem lp3 : (" " : Str).length = 1 := by decide +kernel
theorem in_btw (s : Sy) : inV (.str s.word) [.str "and", .str "or"] = s.between := by cases s <;> rfl
theorem ax_one (x y : V) (xs : List V) : atI (x :: y :: xs) 1 = some y := by
  have : atI (x :: y :: xs) ((1 : Nat) : Int) = some y := atI_nat rfl
  exact this
theorem ax_two (x y z : V) (xs : List V) : atI (x :: y :: z :: xs) 2 = some z := by
  have : atI (x :: y :: z :: xs) ((2 : Nat) : Int) = some z := atI_nat rfl
  exact this
/-! ### hands -/
noncomputable def sp_with_commas (_ : PySem.W.Frag) : Sp := fun vs H Q _ => ∃ (a : Addr) (g : List Nat), vs = [.ref a] ∧ H a = some (.tup (natV g)) ∧ g.length ≤ 5 ∧ (∀ k ∈ g, k ≤ 12) ∧ ∀ H', Same H H' → Q (.str (grp g)) H'
noncomputable def t_with_commas (K : PySem.W.Frag) : TS := (tSeq (tIfS (tTest (tOp rEq (tCB (cLen K) (tCons (tVar 0) tNil)) (tC (.int 0)))) (tRet (tC (.str "-"))) tNext)
  (tRet (tBM K "str" rJoin (tC (.str ",")) (tCons (tComp (iTup K (tVar 0)) (fun _ _ _ _ => (gName 0)) (fun _ _ _ _ => tAlways) (fun _ _ _ _ => (tCB cStr (tCons (tVar 0) tNil))) [none]) tNil))))
theorem len_with_commas {K : PySem.W.Frag} {vs : List V} {H : Hp} {Q : VK} {E : XK} (h : sp_with_commas K vs H Q E) : vs.length = 1 := by
  obtain ⟨a, g, rfl, e, hl, hb, q⟩ := h
  rfl
theorem rd_with_commas {K : PySem.W.Frag} {vs : List V} {H : Hp} {Q : VK} {E : XK} (h : sp_with_commas K vs H Q E) : t_with_commas K { nx := fun _ H' => Q .non H', rt := Q } (start ["numbers"] vs) H := by
  obtain ⟨a, g, rfl, e, hl, hb, q⟩ := h
  show t_with_commas K _ [some _] _
  unfold t_with_commas
  walk_at "rd"
  rw [natV_len]
  refine ite_dec (fun c => ?_) (fun c => ?_)
  · have hg : g = [] := List.length_eq_zero_iff.mp (by omega)
    have := q H (Same.refl H)
    subst hg
    walk_at "rd"
    exact this
  · have hg : g ≠ [] := fun z => c (by rw [z]; rfl)
    walk_at "rd"
    refine ⟨rfl, ?_⟩
    walk_at "rd"
    refine lc_tup (natV g) (SqT.of e) (by rw [natV_len]; omega) (fun i acc _ => acc = ((g.take i).map fun (k : Nat) => num (k : Int)).map V.str) (fun _ _ => rfl) ?_ ?_
    · intro p hp C s' H' fp i x acc H2 hx ⟨s2, e2, l2, r2⟩
      obtain ⟨k, hk, rfl⟩ := natV_atT hx
      subst r2
      walk_at "rd"
      refine r_str (num_log (hb k (List.mem_of_getElem? hk))) ?_
      exact CInv.put hp (fun _ _ _ _ r _ => r) s2 e2 l2 (numV_take hk).symm
    · intro p acc H2 hp s2 e2 r2
      rw [natV_len, List.take_length] at r2
      subst r2
      walk_at "rd"
      refine r_join e2 (by rw [List.length_map]; omega) (fun y hy => ?_) (by decide +kernel) ?_
      · obtain ⟨k, hk, rfl⟩ := List.mem_map.mp hy
        have := num_len k (hb k hk)
        omega
      · have := q H2 s2
        unfold grp at this
        rw [if_neg hg] at this
        exact this
/-! ### a saying, a part -/
noncomputable def sp_show_saying (_ : PySem.W.Frag) (n : Nat) : Sp := fun vs H Q _ => ∃ (h c : Nat) (v : V) (s : Sy), vs = [.int h, v] ∧ h ≤ 5 ∧ c ≤ 13 ∧ IsSy H v s ∧ s.Ok c h ∧ s.words ≤ n ∧ s.words ≤ 30 ∧ ∀ H', Same H H' → Q (.str (s.txt h)) H'
noncomputable def sp_show_part (_ : PySem.W.Frag) (n : Nat) : Sp := fun vs H Q _ => ∃ (h c m : Nat) (place : Str) (v : V) (z : Str), vs = [.int h, .str place, v] ∧ h ≤ 5 ∧ c ≤ 13 ∧ PartOk H h c m place v z ∧ m ≤ n ∧ m ≤ 30 ∧ ∀ H', Same H H' → Q (.str z) H'
noncomputable def t_show_saying (K : PySem.W.Frag) (G : Glo) (n : Nat) : TS := (tSeq (tAsg (tOp (rIxT K) (tVar 1) (tC (.int 0))) (gName 2))
  (tSeq (tAsg (tComp (iZip srcT srcT K (tCons (tOp (rDic G.kvs G.forms) (tC (.ref G.forms)) (tVar 2)) (tCons (tSl (mSlT K) (tVar 1) (tPart (tC (.int 1))) tNoPart) tNil))) (fun _ _ _ _ => (gTup K 2 (gCons (gName 0) (gCons (gName 1) gNil)))) (fun _ _ _ _ => tAlways) (fun _ _ _ _ => (tCall (sp_show_part K n) [] E0 (tCons (tVar 2) (tCons (tVar 0) (tCons (tVar 1) tNil))))) [none, none, some 0]) (gName 3))
  (tSeq (tIfS (tTest (tOp (rIn K false) (tVar 2) (tC (.ref G.cw)))) (tRet (tOp rAddS (tOp rAddS (tOp rAddS (tOp rAddS (tOp rAddS (tOp rAddS (tC (.str "(")) (tOp (rIxL K) (tVar 3) (tC (.int 0)))) (tC (.str " "))) (tVar 2)) (tC (.str " "))) (tOp (rIxL K) (tVar 3) (tC (.int 1)))) (tC (.str ")")))) tNext)
  (tRet (tBM K "str" rJoin (tC (.str " ")) (tCons (tOp mCat (mLst (tCons (tVar 2) tNil)) (tVar 3)) tNil))))))
noncomputable abbrev N_show_saying : List Str := ["hands", "S", "word", "shown"]
noncomputable def t_show_part (K : PySem.W.Frag) (n : Nat) : TS := (tSeq (tIfS (tTest (tOp rEq (tVar 1) (tC (.str "saying")))) (tRet (tCall (sp_show_saying K n) [] E0 (tCons (tVar 0) (tCons (tVar 2) tNil)))) tNext)
  (tSeq (tIfS (tTest (tOp rEq (tVar 1) (tC (.str "hands")))) (tRet (tCall (sp_with_commas K) [] E0 (tCons (tVar 2) tNil))) tNext)
  (tSeq (tIfS (tAnd (tTest (tOp rEq (tVar 1) (tC (.str "holder")))) (tTest (tOp rEq (tVar 2) (tVar 0)))) (tRet (tC (.str "pile"))) tNext)
  (tRet (tCB cStr (tCons (tVar 2) tNil))))))
noncomputable abbrev N_show_part : List Str := ["hands", "place", "part"]
theorem no_show_saying {K : PySem.W.Frag} {vs : List V} {H : Hp} {Q : VK} {E : XK} (h : sp_show_saying K 0 vs H Q E) : False := by
  obtain ⟨h, c, v, s, _, _, _, _, _, hw, _⟩ := h
  have := s.words_pos
  omega
theorem len_show_saying {K : PySem.W.Frag} {n : Nat} {vs : List V} {H : Hp} {Q : VK} {E : XK} (h : sp_show_saying K n vs H Q E) : vs.length = 2 := by
  obtain ⟨h, c, v, s, rfl, _⟩ := h
  rfl
theorem len_show_part {K : PySem.W.Frag} {n : Nat} {vs : List V} {H : Hp} {Q : VK} {E : XK} (h : sp_show_part K n vs H Q E) : vs.length = 3 := by
  obtain ⟨h, c, m, place, v, z, rfl, _⟩ := h
  rfl
theorem rd_show_part {K : PySem.W.Frag} {n : Nat} {vs : List V} {H : Hp} {Q : VK} {E : XK} (h : sp_show_part K n vs H Q E) : t_show_part K n { nx := fun _ H' => Q .non H', rt := Q } (start N_show_part vs) H := by
  obtain ⟨h, c, m, place, v, z, rfl, h5, c13, po, hm, hm30, q⟩ := h
  show t_show_part K n _ [some _, some _, some _] _
  unfold t_show_part
  walk_at "rd"
  rcases po with ⟨rfl, s, is, ok, hw, rfl⟩ | ⟨rfl, a, g, rfl, e, gl, gb, rfl⟩ | ⟨rfl, w, rfl, hw, rfl⟩ | ⟨hp, w, rfl, hw, rfl⟩
  · refine ite_dec (fun _ => ?_) (fun c => absurd rfl c)
    walk_at "rd"
    exact ⟨h, c, v, s, rfl, h5, c13, is, ok, by omega, by omega, q⟩
  · refine ite_dec (fun c => absurd c (by decide +kernel)) (fun _ => ?_)
    walk_at "rd"
    refine ite_dec (fun _ => ?_) (fun c => absurd rfl c)
    walk_at "rd"
    exact ⟨a, g, rfl, e, gl, gb, q⟩
  · refine ite_dec (fun c => absurd c (by decide +kernel)) (fun _ => ?_)
    walk_at "rd"
    refine ite_dec (fun c => absurd c (by decide +kernel)) (fun _ => ?_)
    walk_at "rd"
    refine ite_dec (fun _ => ?_) (fun c => absurd rfl c)
    walk_at "rd"
    have := q H (Same.refl H)
    unfold who at this
    refine ite_dec (fun c => ?_) (fun c => ?_)
    · rw [if_pos (by omega)] at this
      walk_at "rd"
      exact this
    · rw [if_neg (by omega)] at this
      walk_at "rd"
      exact r_str (num_log hw) this
  · have n1 : place ≠ "saying" := by rcases hp with rfl | rfl <;> decide +kernel
    have n2 : place ≠ "hands" := by rcases hp with rfl | rfl <;> decide +kernel
    have n3 : place ≠ "holder" := by rcases hp with rfl | rfl <;> decide +kernel
    refine ite_dec (fun c => absurd c n1) (fun _ => ?_)
    walk_at "rd"
    refine ite_dec (fun c => absurd c n2) (fun _ => ?_)
    walk_at "rd"
    refine ite_dec (fun c => absurd c n3) (fun _ => ?_)
    walk_at "rd"
    exact r_str (num_log hw) (q H (Same.refl H))
theorem rd_show_saying {K : PySem.W.Frag} {G : Glo} (g : GloOk K G) (bw : KTup K G.cw [.str "and", .str "or"]) {n : Nat} {vs : List V} {H : Hp} {Q : VK} {E : XK} (h : sp_show_saying K (n + 1) vs H Q E) : t_show_saying K G n { nx := fun _ H' => Q .non H', rt := Q } (start N_show_saying vs) H := by
  obtain ⟨h, c, v, s, rfl, h5, c13, is, ok, hw, hw30, q⟩ := h
  obtain ⟨a, items, rfl, ha, hl, hparts⟩ := parts_at h5 c13 is ok
  obtain ⟨f, hf, tf⟩ := g.form s
  have hsl := shown_len h s
  have hwl := word_len s
  have hwp := s.words_pos
  have hshown : ∀ z ∈ s.shown h, z.length ≤ 1200 := fun z hz => by
    obtain ⟨i, hi, rfl⟩ := List.mem_iff_getElem.mp hz
    obtain ⟨z', hz', _, hb⟩ := hparts i _ _ (List.getElem?_eq_getElem (by omega : i < s.form.length)) (List.getElem?_eq_getElem (by omega : i < items.length))
    rw [List.getElem?_eq_getElem hi] at hz'
    cases hz'
    omega
  show t_show_saying K G n _ [some _, some _, none, none] _
  unfold t_show_saying
  walk_at "rd"
  refine r_ixT (SqT.of ha) (at_zero _ _) ?_
  walk_at "rd"
  refine r_dic hf ?_
  walk_at "rd"
  refine m_slT (SqT.of ha) (cut_tail_ne _ _) fun b H1 hb s1 e1 => ?_
  rw [cut_tail] at e1
  walk_at "rd"
  have hml : min (s.form.map V.str).length items.length = s.form.length := by rw [List.length_map, hl]; omega
  refine lc_zip (S1 := srcT) (S2 := srcT) (s.form.map V.str) items (tf.sq _) (SqT.of e1) (fun H' _ => tf.sq _) (fun H' s' => SqT.of (s' _ _ e1)) (by rw [List.length_map]; have := s.form_len; omega) (fun i acc _ => acc = ((s.shown h).take i).map V.str) (fun _ _ => rfl) ?_ ?_
  · intro p hp' C s' H' fp i x y T acc H2 H3 hx hy ⟨s2, e2, l2, r2⟩ hT s3 e3 e4
    obtain ⟨z, hz, rfl⟩ : ∃ z, s.form[i]? = some z ∧ x = .str z := by
      rw [List.getElem?_map] at hx
      cases e : s.form[i]? with
      | none => rw [e] at hx; cases hx
      | some z => rw [e] at hx; exact ⟨z, rfl, (Option.some.inj hx).symm⟩
    obtain ⟨tz, htz, po, _⟩ := hparts i z y hz hy
    subst r2
    refine g_pair (SqT.of e3) ?_
    walk_at "rd"
    have s13 := s1.trans (s2.trans s3)
    refine ⟨h, c, s.words - 1, z, y, tz, rfl, h5, c13, po.keep s13.keep, by omega, by omega, fun H5 s5 => ?_⟩
    refine CInv.put hp' (fun _ _ _ _ r _ => r) ((s2.trans s3).trans s5) (s5 _ _ e4) l2 ?_
    rw [List.take_add_one, htz, List.map_append]
    rfl
  · intro p acc H2 hp' s2 e2 r2
    rw [hml, ← hsl, List.take_length] at r2
    subst r2
    have s12 := s1.trans s2
    walk_at "rd"
    refine r_inT (bw.sq _) rfl rfl (in_btw s) ?_
    walk_at "rd"
    refine ite_b (fun c0 => ?_) (fun c0 => ?_)
    · obtain ⟨x, y, hxy, ht⟩ := txt_between (h := h) c0
      have bx := hshown x (by rw [hxy]; exact List.mem_cons_self)
      have by' := hshown y (by rw [hxy]; exact List.mem_cons_of_mem _ List.mem_cons_self)
      rw [hxy] at e2
      have l1 := lp1
      have l2 := lp2
      have l3 := lp3
      walk_at "rd"
      refine r_ixL (SqL.of e2) (at_zero _ _) ?_
      refine r_addS (by simp only [sLen, sizeLine_eq]; omega) ?_
      walk_at "rd"
      refine r_addS (by simp only [sLen, sizeLine_eq]; omega) ?_
      walk_at "rd"
      refine r_addS (by simp only [sLen, sizeLine_eq]; omega) ?_
      walk_at "rd"
      refine r_addS (by simp only [sLen, sizeLine_eq]; omega) ?_
      walk_at "rd"
      refine r_ixL (SqL.of e2) (ax_one _ _ _) ?_
      refine r_addS (by simp only [sLen, sizeLine_eq]; omega) ?_
      walk_at "rd"
      refine r_addS (by simp only [sLen, sizeLine_eq]; omega) ?_
      have := q H2 s12
      rw [ht] at this
      exact this
    · walk_at "rd"
      refine ⟨rfl, ?_⟩
      walk_at "rd"
      refine ⟨by simp [sizeLine_eq], fun u H3 hu s3 e3 => ?_⟩
      walk_at "rd"
      refine m_cat e3 (s3 _ _ e2) (by rw [List.length_map, hsl, sizeLine_eq]; have := s.form_len; show 1 + _ ≤ _; omega) fun w H4 hw4 s4 e4 => ?_
      walk_at "rd"
      refine r_join (zs := s.word :: s.shown h) e4 (by rw [List.length_cons, hsl]; have := s.form_len; omega) (fun y hy => ?_) (by decide +kernel) ?_
      · rcases List.mem_cons.mp hy with rfl | hy
        · omega
        · have := hshown y hy
          omega
      · have := q H4 ((s12.trans s3).trans s4)
        rw [txt_join c0] at this
        exact this
/-! ### the law's own way -/
end L2

end

section
-- KcTxL
set_option Elab.async false
set_option linter.all false
set_option maxRecDepth 100000
set_option maxHeartbeats 4000000
namespace L2
open PySem PyProof.Rows

inductive Itm where
  | s (z : Str) | y (t : Sy)
namespace Itm
noncomputable def tx (h : Nat) : Itm → Str
  | .s z => z | .y t => t.txt h
end Itm
noncomputable def ItAt (H : Hp) (c h : Nat) : V → Itm → Prop
  | v, .s z => v = .str z
  | v, .y t => IsSy H v t ∧ t.Ok c h
theorem ItAt.keep {H H' : Hp} (k : Keep H H') {c h : Nat} {v : V} {i : Itm} (a : ItAt H c h v i) : ItAt H' c h v i := by
  cases i with
  | s z => exact a
  | y t => exact ⟨a.1.keep k, a.2⟩
theorem paired_len {α β : Type} {F : α → β → Prop} {l : List α} {m : List β} (h : Paired F l m) : l.length = m.length := by
  induction h with
  | nil => rfl
  | cons _ _ ih => rw [List.length_cons, List.length_cons, ih]
noncomputable def leafB : Sy → Bool
  | .holds _ _ => true | .sees _ => true | _ => false
theorem in_leafB (s : Sy) : inV (.str s.word) [.str "holds", .str "sees"] = leafB s := by cases s <;> rfl
end L2

end

section
-- KcTxP
set_option Elab.async false
set_option linter.all false
set_option maxRecDepth 100000
set_option maxHeartbeats 4000000
/-! a saying's text, word by word -/
namespace L2
open PySem PySem.Builtin PySem.Builtin.Str
noncomputable def fm (c : Nat) (z : List Nat) (l : List Nat) : List Nat := l.flatMap fun k => if k = c then z else [k]
theorem fm_app (c : Nat) (z a b : List Nat) : fm c z (a ++ b) = fm c z a ++ fm c z b := List.flatMap_append ..
theorem fm_free {c : Nat} (z : List Nat) : ∀ {l : List Nat}, c ∉ l → fm c z l = l
  | [], _ => rfl
  | k :: l, h => by
    show (if k = c then z else [k]) ++ fm c z l = _
    rw [if_neg (fun e => h (by simp [e])), fm_free z (fun e => h (by simp [e]))]; rfl
theorem cpsA (a b : Str) : (a ++ b).cps.toList = a.cps.toList ++ b.cps.toList := by rw [Str.cps_append, Array.toList_append]
theorem fm_join (c : Nat) (z : Str) : ∀ ps : List Str, (∀ p ∈ ps, c ∉ p.cps.toList) → fm c z.cps.toList (Str.join ⟨#[c]⟩ ps).cps.toList = (Str.join z ps).cps.toList
  | [], _ => rfl
  | [p], h => fm_free _ (h p (by simp))
  | p :: q :: r, h => by
    have ih := fm_join c z (q :: r) fun a ha => h a (List.mem_cons_of_mem _ ha)
    have fc : fm c z.cps.toList ({ cps := #[c] } : Str).cps.toList = z.cps.toList := by
      show (if c = c then z.cps.toList else [c]) ++ [] = _
      rw [if_pos rfl, List.append_nil]
    rw [join2, join2, cpsA, cpsA, cpsA, cpsA, fm_app, fm_app, ih, fm_free _ (h p (by simp)), fc]
theorem rep_fm (x z : Str) (c : Nat) : (Txt.replace x ⟨#[c]⟩ z).cps.toList = fm c z.cps.toList x.cps.toList := by
  rw [StrLaws.replace_one, ← fm_join c z _ (StrLaws.split_free x c), StrLaws.join_split]
theorem str_ext {a b : Str} (h : a.cps.toList = b.cps.toList) : a = b := by
  cases a with
  | mk a => cases b with
    | mk b => congr 1; exact Array.toList_inj.mp h
theorem join_inj (c : Nat) : ∀ {ps qs : List Str}, ps ≠ [] → qs ≠ [] → (∀ p ∈ ps, c ∉ p.cps.toList) → (∀ p ∈ qs, c ∉ p.cps.toList) → Str.join ⟨#[c]⟩ ps = Str.join ⟨#[c]⟩ qs → ps = qs := by
  have cut : ∀ (a b r t : List Nat), c ∉ a → c ∉ b → a ++ c :: r = b ++ c :: t → a = b ∧ r = t := by
    intro a
    induction a with
    | nil =>
      intro b r t _ hb e
      cases b with
      | nil => injection e with _ e; exact ⟨rfl, e⟩
      | cons y b => injection e with e _; exact absurd (by simp [e]) hb
    | cons x a ih =>
      intro b r t ha hb e
      cases b with
      | nil => injection e with e _; exact absurd (by simp [e]) ha
      | cons y b =>
        injection e with e1 e2
        obtain ⟨h1, h2⟩ := ih b r t (fun z => ha (by simp [z])) (fun z => hb (by simp [z])) e2
        exact ⟨by rw [e1, h1], h2⟩
  have shape : ∀ (p q : Str) (r : List Str), (Str.join ⟨#[c]⟩ (p :: q :: r)).cps.toList = p.cps.toList ++ c :: (Str.join ⟨#[c]⟩ (q :: r)).cps.toList := fun p q r => by
    rw [join2, cpsA, cpsA]; show p.cps.toList ++ [c] ++ _ = _; rw [List.append_assoc]; rfl
  intro ps
  induction ps with
  | nil => exact fun h => absurd rfl h
  | cons p ps ih =>
    intro qs _ hq hp hqs e
    cases qs with
    | nil => exact absurd rfl hq
    | cons q qs =>
      have e' := congrArg (fun s : Str => s.cps.toList) e
      cases ps with
      | nil =>
        cases qs with
        | nil => rw [join1, join1] at e; rw [e]
        | cons q2 qs =>
          have e2 : p.cps.toList = (Str.join ⟨#[c]⟩ (q :: q2 :: qs)).cps.toList := e'
          rw [shape] at e2
          exact absurd (by rw [e2]; simp) (hp p (by simp))
      | cons p2 ps =>
        cases qs with
        | nil =>
          have e2 : (Str.join ⟨#[c]⟩ (p :: p2 :: ps)).cps.toList = q.cps.toList := e'
          rw [shape] at e2
          exact absurd (by rw [← e2]; simp) (hqs q (by simp))
        | cons q2 qs =>
          have e2 : (Str.join ⟨#[c]⟩ (p :: p2 :: ps)).cps.toList = (Str.join ⟨#[c]⟩ (q :: q2 :: qs)).cps.toList := e'
          rw [shape, shape] at e2
          obtain ⟨h1, h2⟩ := cut _ _ _ _ (hp p (by simp)) (hqs q (by simp)) e2
          rw [str_ext h1, ih (by simp) (by simp) (fun a ha => hp a (List.mem_cons_of_mem _ ha)) (fun a ha => hqs a (List.mem_cons_of_mem _ ha)) (str_ext h2)]
theorem split_ne (x y : Str) : Txt.split x y ≠ [] := by
  unfold Txt.split
  split
  · simp
  · split
    · simp
    · unfold partsBetween
      intro e
      have := congrArg List.length e
      rw [List.length_map, List.length_zip] at this
      simp at this
theorem split_join {c : Nat} {ps : List Str} (hne : ps ≠ []) (hf : ∀ p ∈ ps, c ∉ p.cps.toList) : Txt.split (Str.join ⟨#[c]⟩ ps) ⟨#[c]⟩ = ps :=
  join_inj c (split_ne _ _) hne (StrLaws.split_free _ c) hf (StrLaws.join_split _ _)
/-! the words of a saying's text -/
noncomputable def Sy.toks (h : Nat) : Sy → List Str
  | .holds w c => ["holds", who h w, num (c : Int)]
  | .sees k => ["sees", num (k : Int)]
  | .not s => "not" :: s.toks h
  | .and s t => ("(" : Str) :: (s.toks h ++ ("and" : Str) :: (t.toks h ++ [(")" : Str)]))
  | .or s t => ("(" : Str) :: (s.toks h ++ ("or" : Str) :: (t.toks h ++ [(")" : Str)]))
  | .knows k s => "knows" :: num (k : Int) :: s.toks h
  | .all g s => "all" :: grp g :: s.toks h
  | .common g s => "common" :: grp g :: s.toks h
theorem Sy.toks_ne (h : Nat) (s : Sy) : s.toks h ≠ [] := by cases s <;> simp [Sy.toks]
noncomputable def Sy.Few : Sy → Prop
  | .holds w c => w ≤ 12 ∧ c ≤ 12 | .sees k => k ≤ 12 | .not s => s.Few | .and s t => s.Few ∧ t.Few | .or s t => s.Few ∧ t.Few
  | .knows k s => k ≤ 12 ∧ s.Few | .all g s => (∀ k ∈ g, k ≤ 12) ∧ s.Few | .common g s => (∀ k ∈ g, k ≤ 12) ∧ s.Few
noncomputable def PlainW (x : Str) : Prop := 32 ∉ x.cps.toList ∧ 40 ∉ x.cps.toList ∧ 41 ∉ x.cps.toList
theorem plain_of {x : Str} (h : (!x.cps.toList.contains 32 && !x.cps.toList.contains 40 && !x.cps.toList.contains 41) = true) : PlainW x := by
  simp only [Bool.and_eq_true, Bool.not_eq_true', List.contains_eq_mem, decide_eq_false_iff_not] at h
  exact ⟨h.1.1, h.1.2, h.2⟩
theorem plain_num {k : Nat} (hk : k ≤ 12) : PlainW (num (k : Int)) := by
  have : ∀ k : Fin 13, (!(num ((k : Nat) : Int)).cps.toList.contains 32 && !(num ((k : Nat) : Int)).cps.toList.contains 40 && !(num ((k : Nat) : Int)).cps.toList.contains 41) = true := by decide +kernel
  exact plain_of (this ⟨k, by omega⟩)
theorem plain_who {h w : Nat} (hw : w ≤ 12) : PlainW (who h w) := by
  unfold who
  split
  · exact plain_of (by decide +kernel)
  · exact plain_num hw
theorem plain_app {a b : Str} (ha : PlainW a) (hb : PlainW b) : PlainW (a ++ b) := by
  unfold PlainW
  rw [cpsA, List.mem_append, List.mem_append, List.mem_append]
  exact ⟨fun z => z.elim ha.1 hb.1, fun z => z.elim ha.2.1 hb.2.1, fun z => z.elim ha.2.2 hb.2.2⟩
theorem plain_join {sep : Str} (hs : PlainW sep) : ∀ zs : List Str, (∀ z ∈ zs, PlainW z) → PlainW (Str.join sep zs)
  | [], _ => show PlainW Str.empty from plain_of (by decide +kernel)
  | [a], h => h a (by simp)
  | a :: b :: r, h => by
    rw [join2]
    exact plain_app (plain_app (h a (by simp)) hs) (plain_join hs (b :: r) fun z hz => h z (List.mem_cons_of_mem _ hz))
theorem plain_grp {g : List Nat} (hg : ∀ k ∈ g, k ≤ 12) : PlainW (grp g) := by
  unfold grp
  split
  · exact plain_of (by decide +kernel)
  · refine plain_join (plain_of (by decide +kernel)) _ fun z hz => ?_
    obtain ⟨k, hk, rfl⟩ := List.mem_map.mp hz
    exact plain_num (hg k hk)
noncomputable def gm (l : List Nat) : List Nat := fm 41 [32, 41] (fm 40 [40, 32] l)
theorem gm_app (a b : List Nat) : gm (a ++ b) = gm a ++ gm b := by unfold gm; rw [fm_app, fm_app]
theorem gm_plain {x : Str} (h : PlainW x) : gm x.cps.toList = x.cps.toList := by unfold gm; rw [fm_free _ h.2.1, fm_free _ h.2.2]
theorem join_cons (sep a : Str) {r : List Str} (h : r ≠ []) : Str.join sep (a :: r) = a ++ sep ++ Str.join sep r := by
  cases r with
  | nil => exact absurd rfl h
  | cons b r => rfl
theorem join_app (sep : Str) : ∀ {a b : List Str}, a ≠ [] → b ≠ [] → Str.join sep (a ++ b) = Str.join sep a ++ sep ++ Str.join sep b
  | [], _, h, _ => absurd rfl h
  | [x], b, _, hb => by rw [join1]; exact join_cons sep x hb
  | x :: y :: r, b, _, hb => by
    have ih := join_app sep (a := y :: r) (b := b) (by simp) hb
    show Str.join sep (x :: (y :: r ++ b)) = _
    rw [join_cons sep x (by simp), ih, join2, sAssoc, sAssoc, sAssoc, sAssoc, sAssoc]
theorem blank_cps : (" " : Str).cps.toList = [32] := by decide +kernel
theorem open_cps : ("(" : Str).cps.toList = [40] := by decide +kernel
theorem close_cps : (")" : Str).cps.toList = [41] := by decide +kernel
theorem toks_text (h : Nat) : ∀ s : Sy, s.Few → gm (s.txt h).cps.toList = (Str.join " " (s.toks h)).cps.toList := by
  have b32 : gm [32] = [32] := rfl
  have one : ∀ (w x : Str) (l : List Str), PlainW w → l ≠ [] → gm x.cps.toList = (Str.join " " l).cps.toList → gm (w ++ " " ++ x).cps.toList = (Str.join " " (w :: l)).cps.toList := fun w x l hw hl e => by
    rw [join_cons _ _ hl, cpsA, cpsA, cpsA, cpsA, gm_app, gm_app, gm_plain hw, e, blank_cps, b32]
  have lone : ∀ w : Str, PlainW w → gm w.cps.toList = (Str.join " " [w]).cps.toList := fun w hw => by rw [join1, gm_plain hw]
  have br : ∀ (x y w : Str) (l m : List Str), PlainW w → l ≠ [] → m ≠ [] → gm x.cps.toList = (Str.join " " l).cps.toList → gm y.cps.toList = (Str.join " " m).cps.toList → gm (("(" : Str) ++ x ++ (" " : Str) ++ w ++ (" " : Str) ++ y ++ (")" : Str)).cps.toList = (Str.join " " (("(" : Str) :: (l ++ w :: (m ++ [(")" : Str)])))).cps.toList := fun x y w l m hw hl hm e1 e2 => by
    rw [join_cons _ _ (by simp), join_app _ hl (by simp), join_cons _ _ (by simp), join_app _ hm (by simp), join1]
    simp only [cpsA, gm_app, e1, e2, gm_plain hw, blank_cps, open_cps, close_cps, b32]
    show [40, 32] ++ _ ++ _ ++ _ ++ _ ++ _ ++ [32, 41] = _
    simp
  have W : ∀ w : Str, (!w.cps.toList.contains 32 && !w.cps.toList.contains 40 && !w.cps.toList.contains 41) = true → PlainW w := fun w => plain_of
  intro s
  induction s with
  | holds w c => exact fun f => one _ _ _ (W _ (by decide +kernel)) (by simp) (one _ _ _ (plain_who f.1) (by simp) (lone _ (plain_num f.2)))
  | sees k => exact fun f => one _ _ _ (W _ (by decide +kernel)) (by simp) (lone _ (plain_num f))
  | not s ih => exact fun f => one _ _ _ (W _ (by decide +kernel)) (s.toks_ne h) (ih f)
  | and s t ih1 ih2 => exact fun f => br _ _ _ _ _ (W _ (by decide +kernel)) (s.toks_ne h) (t.toks_ne h) (ih1 f.1) (ih2 f.2)
  | or s t ih1 ih2 => exact fun f => br _ _ _ _ _ (W _ (by decide +kernel)) (s.toks_ne h) (t.toks_ne h) (ih1 f.1) (ih2 f.2)
  | knows k s ih => exact fun f => one _ _ _ (W _ (by decide +kernel)) (by simp) (one _ _ _ (plain_num f.1) (s.toks_ne h) (ih f.2))
  | all g s ih => exact fun f => one _ _ _ (W _ (by decide +kernel)) (by simp) (one _ _ _ (plain_grp f.1) (s.toks_ne h) (ih f.2))
  | common g s ih => exact fun f => one _ _ _ (W _ (by decide +kernel)) (by simp) (one _ _ _ (plain_grp f.1) (s.toks_ne h) (ih f.2))
theorem toks_free (h : Nat) : ∀ s : Sy, s.Few → ∀ x ∈ s.toks h, 32 ∉ x.cps.toList := by
  have W : ∀ w : Str, (!w.cps.toList.contains 32) = true → 32 ∉ w.cps.toList := fun w h => by
    simpa only [Bool.not_eq_true', List.contains_eq_mem, decide_eq_false_iff_not] using h
  intro s
  induction s with
  | holds w c =>
    intro f x hx
    simp only [Sy.toks, List.mem_cons, List.not_mem_nil, or_false] at hx
    rcases hx with rfl | rfl | rfl
    · exact W _ (by decide +kernel)
    · exact (plain_who f.1).1
    · exact (plain_num f.2).1
  | sees k =>
    intro f x hx
    simp only [Sy.toks, List.mem_cons, List.not_mem_nil, or_false] at hx
    rcases hx with rfl | rfl
    · exact W _ (by decide +kernel)
    · exact (plain_num f).1
  | not s ih =>
    intro f x hx
    rcases List.mem_cons.mp hx with rfl | hx
    · exact W _ (by decide +kernel)
    · exact ih f x hx
  | and s t ih1 ih2 =>
    intro f x hx
    simp only [Sy.toks, List.mem_cons, List.mem_append, List.not_mem_nil, or_false] at hx
    rcases hx with rfl | hx | rfl | hx | rfl
    · exact W _ (by decide +kernel)
    · exact ih1 f.1 x hx
    · exact W _ (by decide +kernel)
    · exact ih2 f.2 x hx
    · exact W _ (by decide +kernel)
  | or s t ih1 ih2 =>
    intro f x hx
    simp only [Sy.toks, List.mem_cons, List.mem_append, List.not_mem_nil, or_false] at hx
    rcases hx with rfl | hx | rfl | hx | rfl
    · exact W _ (by decide +kernel)
    · exact ih1 f.1 x hx
    · exact W _ (by decide +kernel)
    · exact ih2 f.2 x hx
    · exact W _ (by decide +kernel)
  | knows k s ih =>
    intro f x hx
    simp only [Sy.toks, List.mem_cons] at hx
    rcases hx with rfl | rfl | hx
    · exact W _ (by decide +kernel)
    · exact (plain_num f.1).1
    · exact ih f.2 x hx
  | all g s ih =>
    intro f x hx
    simp only [Sy.toks, List.mem_cons] at hx
    rcases hx with rfl | rfl | hx
    · exact W _ (by decide +kernel)
    · exact (plain_grp f.1).1
    · exact ih f.2 x hx
  | common g s ih =>
    intro f x hx
    simp only [Sy.toks, List.mem_cons] at hx
    rcases hx with rfl | rfl | hx
    · exact W _ (by decide +kernel)
    · exact (plain_grp f.1).1
    · exact ih f.2 x hx
theorem words_txt {h : Nat} {s : Sy} (f : s.Few) : Txt.split (Txt.replace (Txt.replace (s.txt h) "(" "( ") ")" " )") " " = s.toks h := by
  have e : Txt.replace (Txt.replace (s.txt h) "(" "( ") ")" " )" = Str.join " " (s.toks h) := by
    refine str_ext ?_
    rw [← toks_text h s f]
    have r1 := rep_fm (s.txt h) "( " 40
    have r2 := rep_fm (Txt.replace (s.txt h) "(" "( ") " )" 41
    have o : (⟨#[40]⟩ : Str) = "(" := by decide +kernel
    have c : (⟨#[41]⟩ : Str) = ")" := by decide +kernel
    have z1 : ("( " : Str).cps.toList = [40, 32] := by decide +kernel
    have z2 : (" )" : Str).cps.toList = [32, 41] := by decide +kernel
    rw [o, z1] at r1
    rw [c, z2, r1] at r2
    exact r2
  have b : (⟨#[32]⟩ : Str) = " " := by decide +kernel
  rw [e, ← b]
  exact split_join (s.toks_ne h) (toks_free h s f)
end L2

end

section
-- KcRun
set_option Elab.async false
set_option linter.all false
set_option maxRecDepth 100000
set_option maxHeartbeats 4000000
/-! words read from the end on: what a row of things becomes -/
namespace L2
open PySem PySem.Builtin PySem.Builtin.Str
inductive Tg where
  | t (z : Str) | y (s : Sy)
noncomputable def Sy.re (h h2 : Nat) : Sy → Sy
  | .holds w c => .holds (if w = h then h2 else w) c
  | .sees k => .sees k | .not s => .not (s.re h h2) | .and s t => .and (s.re h h2) (t.re h h2) | .or s t => .or (s.re h h2) (t.re h h2)
  | .knows k s => .knows k (s.re h h2) | .all g s => .all g (s.re h h2) | .common g s => .common g (s.re h h2)
theorem Sy.re_self (h : Nat) : ∀ s : Sy, s.re h h = s
  | .holds w c => by
    show Sy.holds (if w = h then h else w) c = _
    split
    · rename_i e; rw [e]
    · rfl
  | .sees _ => rfl
  | .not s => by show Sy.not _ = _; rw [re_self h s]
  | .and s t => by show Sy.and _ _ = _; rw [re_self h s, re_self h t]
  | .or s t => by show Sy.or _ _ = _; rw [re_self h s, re_self h t]
  | .knows _ s => by show Sy.knows _ _ = _; rw [re_self h s]
  | .all _ s => by show Sy.all _ _ = _; rw [re_self h s]
  | .common _ s => by show Sy.common _ _ = _; rw [re_self h s]
noncomputable def eight : List Str := ["holds", "not", "and", "or", "knows", "all", "common", "sees"]
noncomputable def Put (w : Str) : Prop := w ≠ "(" ∧ (w = "and" ∨ w = "or" ∨ w ∉ eight)
noncomputable def Sgn (x : Str) : Prop := ∀ c ∈ x.cps.toList, c < 58 ∧ c ≠ 40
theorem put_sgn {x : Str} (h : Sgn x) : Put x := by
  have no : ∀ y : Str, (y.cps.toList.any fun c => decide (58 ≤ c ∨ c = 40)) = true → x ≠ y := fun y hy e => by
    subst e
    obtain ⟨c, hc, z⟩ := List.any_eq_true.mp hy
    have := h c hc
    have z := of_decide_eq_true z
    omega
  refine ⟨no _ (by decide +kernel), .inr (.inr fun hm => ?_)⟩
  simp only [eight, List.mem_cons, List.not_mem_nil, or_false] at hm
  rcases hm with e | e | e | e | e | e | e | e
  all_goals exact no _ (by decide +kernel) e
theorem sgn_of {x : Str} (h : (x.cps.toList.all fun c => decide (c < 58 ∧ c ≠ 40)) = true) : Sgn x := fun c hc => of_decide_eq_true (List.all_eq_true.mp h c hc)
theorem sgn_num {k : Nat} (hk : k ≤ 12) : Sgn (num (k : Int)) := by
  have : ∀ k : Fin 13, ((num ((k : Nat) : Int)).cps.toList.all fun c => decide (c < 58 ∧ c ≠ 40)) = true := by decide +kernel
  exact sgn_of (this ⟨k, by omega⟩)
theorem sgn_app {a b : Str} (ha : Sgn a) (hb : Sgn b) : Sgn (a ++ b) := by
  intro c hc
  rw [cpsA] at hc
  exact (List.mem_append.mp hc).elim (ha c) (hb c)
theorem sgn_join {sep : Str} (hs : Sgn sep) : ∀ zs : List Str, (∀ z ∈ zs, Sgn z) → Sgn (Str.join sep zs)
  | [], _ => show Sgn Str.empty from sgn_of (by decide +kernel)
  | [a], h => h a (by simp)
  | a :: b :: r, h => by
    rw [join2]
    exact sgn_app (sgn_app (h a (by simp)) hs) (sgn_join hs (b :: r) fun z hz => h z (List.mem_cons_of_mem _ hz))
theorem sgn_grp {g : List Nat} (hg : ∀ k ∈ g, k ≤ 12) : Sgn (grp g) := by
  unfold grp
  split
  · exact sgn_of (by decide +kernel)
  · refine sgn_join (sgn_of (by decide +kernel)) _ fun z hz => ?_
    obtain ⟨k, hk, rfl⟩ := List.mem_map.mp hz
    exact sgn_num (hg k hk)
theorem put_who {h w : Nat} (hw : w ≤ 12) : Put (who h w) := by
  unfold who
  split
  · exact ⟨by decide +kernel, .inr (.inr (by decide +kernel))⟩
  · exact put_sgn (sgn_num hw)
theorem put_close : Put ")" := ⟨by decide +kernel, .inr (.inr (by decide +kernel))⟩
theorem put_and : Put "and" := ⟨by decide +kernel, .inl rfl⟩
theorem put_or : Put "or" := ⟨by decide +kernel, .inr (.inl rfl)⟩
noncomputable def Args (h2 : Nat) : Sy → List Tg → Prop
  | .holds v c, l => ∃ h w, l = [.t (who h w), .t (num (c : Int))] ∧ w ≤ 12 ∧ c ≤ 12 ∧ v = if w = h then h2 else w
  | .sees k, l => l = [.t (num (k : Int))] ∧ k ≤ 12
  | .not s, l => l = [.y s]
  | .knows k s, l => l = [.t (num (k : Int)), .y s] ∧ k ≤ 12
  | .all g s, l => l = [.t (grp g), .y s] ∧ (∀ k ∈ g, k ≤ 12) ∧ g.length ≤ 5
  | .common g s, l => l = [.t (grp g), .y s] ∧ (∀ k ∈ g, k ≤ 12) ∧ g.length ≤ 5
  | .and _ _, _ => False
  | .or _ _, _ => False
inductive Stp (h2 : Nat) : Str → List Tg → List Tg → Prop
  | put {w l} : Put w → Stp h2 w l (.t w :: l)
  | and {s t l} : Stp h2 "(" (.y s :: .t "and" :: .y t :: .t ")" :: l) (.y (.and s t) :: l)
  | or {s t l} : Stp h2 "(" (.y s :: .t "or" :: .y t :: .t ")" :: l) (.y (.or s t) :: l)
  | form {s : Sy} {as l} : Args h2 s as → Stp h2 s.word (as ++ l) (.y s :: l)
theorem Stp.len {h2 : Nat} {w : Str} {l l' : List Tg} (h : Stp h2 w l l') : l'.length ≤ l.length + 1 := by
  cases h with
  | put _ => simp
  | and => simp
  | or => simp
  | form _ => simp
inductive Run (h2 : Nat) : List Str → List Tg → Prop
  | nil : Run h2 [] []
  | cons {w ws l l'} : Run h2 ws l → Stp h2 w l l' → Run h2 (w :: ws) l'
theorem run_sy {h c : Nat} (h2 : Nat) (h5 : h ≤ 5) (c13 : c ≤ 13) : ∀ s : Sy, s.Ok c h → ∀ (ws : List Str) (l : List Tg), Run h2 ws l → Run h2 (s.toks h ++ ws) (.y (s.re h h2) :: l) := by
  have gl : ∀ g : List Nat, (g.Pairwise (· < ·) ∧ ∀ k ∈ g, k < h) → (∀ k ∈ g, k ≤ 12) ∧ g.length ≤ 5 := fun g hg => ⟨fun k hk => by have := hg.2 k hk; omega, by have := pw_len h 0 g hg.1 (fun k hk => ⟨Nat.zero_le _, by have := hg.2 k hk; omega⟩); omega⟩
  intro s
  induction s with
  | holds w d =>
    intro ok ws l r
    have h1 : w ≤ h := ok.1
    have h2' : d < c := ok.2
    exact .cons (.cons (.cons r (.put (put_sgn (sgn_num (by omega))))) (.put (put_who (by omega)))) (.form (s := .holds _ d) (as := [_, _]) ⟨h, w, rfl, by omega, by omega, rfl⟩)
  | sees k =>
    intro ok ws l r
    have h1 : k < h := ok
    exact .cons (.cons r (.put (put_sgn (sgn_num (by omega))))) (.form (s := .sees k) (as := [_]) ⟨rfl, by omega⟩)
  | not s ih => exact fun ok ws l r => .cons (ih ok ws l r) (.form (s := .not _) (as := [_]) rfl)
  | and s t ih1 ih2 =>
    intro ok ws l r
    have r1 := ih1 ok.1 _ _ (.cons (ih2 ok.2 _ _ (.cons r (.put put_close))) (.put put_and))
    have e : (Sy.and s t).toks h ++ ws = ("(" : Str) :: (s.toks h ++ ("and" : Str) :: (t.toks h ++ (")" : Str) :: ws)) := by simp [Sy.toks]
    rw [e]
    exact .cons r1 .and
  | or s t ih1 ih2 =>
    intro ok ws l r
    have r1 := ih1 ok.1 _ _ (.cons (ih2 ok.2 _ _ (.cons r (.put put_close))) (.put put_or))
    have e : (Sy.or s t).toks h ++ ws = ("(" : Str) :: (s.toks h ++ ("or" : Str) :: (t.toks h ++ (")" : Str) :: ws)) := by simp [Sy.toks]
    rw [e]
    exact .cons r1 .or
  | knows k s ih =>
    intro ok ws l r
    have h1 : k < h := ok.1
    exact .cons (.cons (ih ok.2 ws l r) (.put (put_sgn (sgn_num (by omega))))) (.form (s := .knows k _) (as := [_, _]) ⟨rfl, by omega⟩)
  | all g s ih =>
    intro ok ws l r
    obtain ⟨g1, g2⟩ := gl g ok.1
    exact .cons (.cons (ih ok.2 ws l r) (.put (put_sgn (sgn_grp g1)))) (.form (s := .all g _) (as := [_, _]) ⟨rfl, g1, g2⟩)
  | common g s ih =>
    intro ok ws l r
    obtain ⟨g1, g2⟩ := gl g ok.1
    exact .cons (.cons (ih ok.2 ws l r) (.put (put_sgn (sgn_grp g1)))) (.form (s := .common g _) (as := [_, _]) ⟨rfl, g1, g2⟩)
theorem run_trace {h2 : Nat} {ws : List Str} {l : List Tg} (r : Run h2 ws l) : ∃ g : Nat → List Tg, g 0 = [] ∧ g ws.length = l ∧ (∀ i, (g i).length ≤ i) ∧ ∀ i w, i < ws.length → ws[ws.length - 1 - i]? = some w → Stp h2 w (g i) (g (i + 1)) := by
  induction r with
  | nil => exact ⟨fun _ => [], rfl, rfl, fun _ => Nat.zero_le _, fun i w hi => absurd hi (Nat.not_lt_zero _)⟩
  | @cons w ws l l' r st ih =>
    obtain ⟨g, g0, gn, gl, gs⟩ := ih
    refine ⟨fun i => if i ≤ ws.length then g i else l', by simp [g0], by rw [List.length_cons]; exact if_neg (by omega), fun i => ?_, fun i v hi hv => ?_⟩
    · show (if i ≤ ws.length then g i else l').length ≤ i
      split
      · exact gl i
      · have := st.len
        have := gl ws.length
        rw [gn] at this
        omega
    · rw [List.length_cons] at hi hv
      by_cases hlt : i < ws.length
      · show Stp h2 v (if i ≤ ws.length then g i else l') (if i + 1 ≤ ws.length then g (i + 1) else l')
        rw [if_pos (by omega), if_pos (by omega)]
        refine gs i v hlt ?_
        rw [show ws.length + 1 - 1 - i = (ws.length - 1 - i) + 1 by omega, List.getElem?_cons_succ] at hv
        exact hv
      · have e : i = ws.length := by omega
        subst e
        show Stp h2 v (if ws.length ≤ ws.length then g ws.length else l') (if ws.length + 1 ≤ ws.length then g (ws.length + 1) else l')
        rw [if_pos (Nat.le_refl _), if_neg (by omega), gn]
        rw [show ws.length + 1 - 1 - ws.length = 0 by omega, List.getElem?_cons_zero] at hv
        cases hv
        exact st
theorem toks_len (h : Nat) : ∀ s : Sy, (s.toks h).length ≤ 3 * s.words
  | .holds _ _ => Nat.le_refl _
  | .sees _ => by simp [Sy.toks, Sy.words]
  | .not s => by have := toks_len h s; simp only [Sy.toks, Sy.words, List.length_cons]; omega
  | .and s t => by have := toks_len h s; have := toks_len h t; simp only [Sy.toks, Sy.words, List.length_cons, List.length_append, List.length_nil]; omega
  | .or s t => by have := toks_len h s; have := toks_len h t; simp only [Sy.toks, Sy.words, List.length_cons, List.length_append, List.length_nil]; omega
  | .knows _ s => by have := toks_len h s; simp only [Sy.toks, Sy.words, List.length_cons]; omega
  | .all _ s => by have := toks_len h s; simp only [Sy.toks, Sy.words, List.length_cons]; omega
  | .common _ s => by have := toks_len h s; simp only [Sy.toks, Sy.words, List.length_cons]; omega
/-! parts of a saying -/
inductive Prt where
  | n (k : Nat) | g (g : List Nat) | y (s : Sy)
noncomputable def Sy.prts : Sy → List Prt
  | .holds w c => [.n w, .n c] | .sees k => [.n k] | .not s => [.y s] | .and s t => [.y s, .y t] | .or s t => [.y s, .y t] | .knows k s => [.n k, .y s] | .all g s => [.g g, .y s] | .common g s => [.g g, .y s]
noncomputable def PrtAt (H : Hp) : V → Prt → Prop
  | v, .n k => v = .int k
  | v, .g g => ∃ b, v = .ref b ∧ H b = some (.tup (natV g))
  | v, .y s => IsSy H v s
theorem PrtAt.keep {H H' : Hp} (k : Keep H H') {v : V} {p : Prt} (h : PrtAt H v p) : PrtAt H' v p := by
  cases p with
  | n _ => exact h
  | g _ => obtain ⟨b, e, h⟩ := h; exact ⟨b, e, k _ _ h⟩
  | y s => exact IsSy.keep k h
theorem isSy_prts {H : Hp} {a : Addr} {s : Sy} {its : List V} (e : H a = some (.tup (.str s.word :: its))) (p : Paired (PrtAt H) its s.prts) : IsSy H (.ref a) s := by
  cases s with
  | holds w c =>
    match its, p with
    | _, .cons (a := x) h1 (.cons (a := y) h2 .nil) => cases (show x = .int w from h1); cases (show y = .int c from h2); exact ⟨a, rfl, e⟩
  | sees k =>
    match its, p with
    | _, .cons (a := x) h1 .nil => cases (show x = .int k from h1); exact ⟨a, rfl, e⟩
  | not s =>
    match its, p with
    | _, .cons (a := x) h1 .nil => exact ⟨a, x, rfl, e, h1⟩
  | and s t =>
    match its, p with
    | _, .cons (a := x) h1 (.cons (a := y) h2 .nil) => exact ⟨a, x, y, rfl, e, h1, h2⟩
  | or s t =>
    match its, p with
    | _, .cons (a := x) h1 (.cons (a := y) h2 .nil) => exact ⟨a, x, y, rfl, e, h1, h2⟩
  | knows k s =>
    match its, p with
    | _, .cons (a := x) h1 (.cons (a := y) h2 .nil) => cases (show x = .int k from h1); exact ⟨a, y, rfl, e, h2⟩
  | all g s =>
    match its, p with
    | _, .cons (a := x) ⟨b, e1, e2⟩ (.cons (a := y) h2 .nil) => cases e1; exact ⟨a, b, y, rfl, e, e2, h2⟩
  | common g s =>
    match its, p with
    | _, .cons (a := x) ⟨b, e1, e2⟩ (.cons (a := y) h2 .nil) => cases e1; exact ⟨a, b, y, rfl, e, e2, h2⟩
noncomputable def ThAt (H : Hp) : V → Tg → Prop
  | v, .t z => v = .str z
  | v, .y s => IsSy H v s
theorem ThAt.keep {H H' : Hp} (k : Keep H H') {v : V} {p : Tg} (h : ThAt H v p) : ThAt H' v p := by
  cases p with
  | t _ => exact h
  | y s => exact IsSy.keep k h
noncomputable def RdP (H : Hp) (h2 : Nat) (place : Str) (x : V) : Prt → Prop
  | .y s => place = "saying" ∧ IsSy H x s
  | .g g => place = "hands" ∧ x = .str (grp g) ∧ (∀ k ∈ g, k ≤ 12) ∧ g.length ≤ 5
  | .n v => (place = "holder" ∧ ∃ h w, x = .str (who h w) ∧ w ≤ 12 ∧ v = if w = h then h2 else w) ∨ ((place = "card" ∨ place = "hand") ∧ x = .str (num (v : Int)) ∧ v ≤ 12)
theorem args_rd {H : Hp} {h2 : Nat} {s : Sy} {as l : List Tg} {xs : List V} (A : Args h2 s as) (p : Paired (ThAt H) xs (as ++ l)) :
    as.length = s.form.length ∧ s.prts.length = s.form.length ∧ ∀ (i : Nat) (place : Str) (x : V), s.form[i]? = some place → xs[i]? = some x → ∃ q, s.prts[i]? = some q ∧ RdP H h2 place x q := by
  cases s with
  | holds v c =>
    obtain ⟨h, w, rfl, hw, hc, rfl⟩ := A
    match xs, p with
    | _, .cons (a := x) h1 (.cons (a := y) h2 _) =>
      refine ⟨rfl, rfl, fun i place z hp hz => ?_⟩
      match i, hp, hz with
      | 0, hp, hz => cases hp; cases hz; exact ⟨_, rfl, .inl ⟨rfl, h, w, h1, hw, rfl⟩⟩
      | 1, hp, hz => cases hp; cases hz; exact ⟨_, rfl, .inr ⟨.inl rfl, h2, hc⟩⟩
  | sees k =>
    obtain ⟨rfl, hk⟩ := A
    match xs, p with
    | _, .cons (a := x) h1 _ =>
      refine ⟨rfl, rfl, fun i place z hp hz => ?_⟩
      match i, hp, hz with
      | 0, hp, hz => cases hp; cases hz; exact ⟨_, rfl, .inr ⟨.inr rfl, h1, hk⟩⟩
  | not s =>
    cases (show as = _ from A)
    match xs, p with
    | _, .cons (a := x) h1 _ =>
      refine ⟨rfl, rfl, fun i place z hp hz => ?_⟩
      match i, hp, hz with
      | 0, hp, hz => cases hp; cases hz; exact ⟨_, rfl, rfl, h1⟩
  | and _ _ => exact A.elim
  | or _ _ => exact A.elim
  | knows k s =>
    obtain ⟨rfl, hk⟩ := A
    match xs, p with
    | _, .cons (a := x) h1 (.cons (a := y) h2 _) =>
      refine ⟨rfl, rfl, fun i place z hp hz => ?_⟩
      match i, hp, hz with
      | 0, hp, hz => cases hp; cases hz; exact ⟨_, rfl, .inr ⟨.inr rfl, h1, hk⟩⟩
      | 1, hp, hz => cases hp; cases hz; exact ⟨_, rfl, rfl, h2⟩
  | all g s =>
    obtain ⟨rfl, hk, hl⟩ := A
    match xs, p with
    | _, .cons (a := x) h1 (.cons (a := y) h2 _) =>
      refine ⟨rfl, rfl, fun i place z hp hz => ?_⟩
      match i, hp, hz with
      | 0, hp, hz => cases hp; cases hz; exact ⟨_, rfl, rfl, h1, hk, hl⟩
      | 1, hp, hz => cases hp; cases hz; exact ⟨_, rfl, rfl, h2⟩
  | common g s =>
    obtain ⟨rfl, hk, hl⟩ := A
    match xs, p with
    | _, .cons (a := x) h1 (.cons (a := y) h2 _) =>
      refine ⟨rfl, rfl, fun i place z hp hz => ?_⟩
      match i, hp, hz with
      | 0, hp, hz => cases hp; cases hz; exact ⟨_, rfl, rfl, h1, hk, hl⟩
      | 1, hp, hz => cases hp; cases hz; exact ⟨_, rfl, rfl, h2⟩
end L2

end

section
-- KcRevR
set_option Elab.async false
set_option linter.all false
set_option maxRecDepth 100000
set_option maxHeartbeats 4000000
/-! readings: for x in reversed(list) -/
namespace L2
open PySem
noncomputable def Itv (K : PySem.W.Frag) (a : Addr) (n : Nat) : It :=
  ⟨fun i H => i < n ∧ ∃ xs, SqL K H a xs ∧ xs.length = n, fun i H x H' => H' = H ∧ ∀ xs, SqL K H a xs → xs[n - 1 - i]? = some x, fun i _ => i = n⟩
noncomputable def iRev (K : PySem.W.Frag) (ta : TA) : TI := fun σ H R => ta σ H fun vs H1 => ∃ a xs, vs = [.ref a] ∧ SqL K H1 a xs ∧ R (Itv K a xs.length) H1
theorem r_iRev {K : PySem.W.Frag} {ta : TA} {σ : St} {H : Hp} {R : It → Hp → Prop} (h : ta σ H fun vs H1 => ∃ a xs, vs = [.ref a] ∧ SqL K H1 a xs ∧ R (Itv K a xs.length) H1) : iRev K ta σ H R := h
theorem lp_rev {K : PySem.W.Frag} {g : TG} {tb : TS} {NX : St → Hp → Prop} {RT : VK} {σ : St} {H : Hp} {a : Addr} (xs : List V) (hx : SqL K H a xs) (Pv : Nat → St → Hp → Prop) (h0 : Pv 0 σ H) (hl : ∀ i σ H, i ≤ xs.length → Pv i σ H → SqL K H a xs)
    (hs : ∀ i x σ H, i < xs.length → xs[xs.length - 1 - i]? = some x → Pv i σ H → g x σ H fun σ2 H2 => tb { nx := Pv (i + 1), rt := RT, bk := NX, ct := Pv (i + 1) } σ2 H2) (hd : ∀ σ H, Pv xs.length σ H → NX σ H) :
    ∃ a' xs', [V.ref a] = [.ref a'] ∧ SqL K H a' xs' ∧ ∃ W : Nat → Nat → St → Hp → Prop, (∃ m, W 0 m σ H) ∧ ∀ i m σ H, W i m σ H →
      ((Itv K a' xs'.length).stop i H ∧ NX σ H) ∨ ((Itv K a' xs'.length).go i H ∧ ∃ N : St → Hp → Prop, (∀ σ' H', N σ' H' → ∃ m', m' < m ∧ W (i + 1) m' σ' H') ∧ ∀ x H', (Itv K a' xs'.length).yld i H x H' → g x σ H' fun σ2 H2 => tb { nx := N, rt := RT, bk := NX, ct := N } σ2 H2) := by
  refine ⟨a, xs, rfl, hx, fun i m σ H => m = xs.length - i ∧ i ≤ xs.length ∧ Pv i σ H, ⟨xs.length, by simp, Nat.zero_le _, h0⟩, ?_⟩
  rintro i m σ H ⟨rfl, hi, p⟩
  have q := hl i σ H hi p
  by_cases hlt : i < xs.length
  · refine .inr ⟨⟨hlt, xs, q, rfl⟩, Pv (i + 1), fun σ' H' p' => ⟨xs.length - (i + 1), by omega, rfl, hlt, p'⟩, fun x H' y => ?_⟩
    obtain ⟨e, y⟩ := y
    subst e
    exact hs i x σ _ hlt (y xs q) p
  · have e : i = xs.length := by omega
    subst e
    exact .inl ⟨rfl, hd σ H p⟩
end L2

end

section
-- KcSplR
set_option Elab.async false
set_option linter.all false
set_option maxRecDepth 100000
set_option maxHeartbeats 4000000
/-! readings: text.replace(c, d), text.split(c), int(text) -/
namespace L2
open PySem
noncomputable def tRep (c d : Str) (to : TE) : TE := fun σ H Q => to σ H fun x H1 => ∃ t : Str, x = .str t ∧ t.length ≤ 100000 ∧ Q (.str (Txt.replace t c d)) H1
noncomputable def rSplit : V → List V → Hp → VK → Prop := fun x vs H Q => ∃ t c : Str, x = .str t ∧ vs = [.str c] ∧ (c.length == 0) = false ∧ t.length ≤ 100000 ∧ New H (.lst ((Txt.split t c).map V.str)) fun p H2 => Q (.ref p) H2
noncomputable def tSplT (c : Str) (to : TE) : TE := fun σ H Q => to σ H fun x H1 => (∃ t : Str, x = .str t) ∧ rSplit x [.str c] H1 Q
theorem r_rep {c d : Str} {to : TE} {σ : St} {H : Hp} {Q : VK} (h : to σ H fun x H1 => ∃ t : Str, x = .str t ∧ t.length ≤ 100000 ∧ Q (.str (Txt.replace t c d)) H1) : tRep c d to σ H Q := h
theorem r_splT {c : Str} {to : TE} {σ : St} {H : Hp} {Q : VK} (h : to σ H fun x H1 => (∃ t : Str, x = .str t) ∧ rSplit x [.str c] H1 Q) : tSplT c to σ H Q := h
noncomputable def cIntT : List V → Hp → VK → Prop := fun xs H Q => ∃ n : Int, xs = [.str (Str.ofString (toString n))] ∧ 0 ≤ n ∧ n < 1000 ∧ Q (.int n) H
end L2

end

section
-- KcK07a
set_option Elab.async false
set_option linter.all false
set_option maxRecDepth 100000
set_option maxHeartbeats 4000000
namespace L2
open PySem PyProof.Rows

/-! ### what a word's items must be -/
section
variable {c h : Int} {H : Hp} {x y : V}
theorem fit_holder : fitB c h H "holder" x = withinV x 0 h := by unfold fitB; rw [if_pos rfl]
theorem fit_card : fitB c h H "card" x = withinV x 0 (c - 1) := by unfold fitB; rw [if_neg (by decide +kernel), if_pos rfl]
theorem fit_hand : fitB c h H "hand" x = withinV x 0 (h - 1) := by unfold fitB; rw [if_neg (by decide +kernel), if_neg (by decide +kernel), if_pos rfl]
theorem fit_hands : fitB c h H "hands" x = handsB H h x := by unfold fitB; rw [if_neg (by decide +kernel), if_neg (by decide +kernel), if_neg (by decide +kernel), if_pos rfl]
theorem fit_saying : fitB c h H "saying" x = true := by unfold fitB; rw [if_neg (by decide +kernel), if_neg (by decide +kernel), if_neg (by decide +kernel), if_neg (by decide +kernel)]
theorem wordT_of {w : Str} {form : List Str} {items : List V} (e : formOf w = some form) : wordT c h H (.str w :: items) = (decide (items.length = form.length) && (form.zip items).all (fun p => fitB c h H p.1 p.2)) := by simp only [wordT, e]
theorem f_holds : formOf "holds" = some (["holder", "card"] : List Str) := rfl
theorem f_not : formOf "not" = some (["saying"] : List Str) := rfl
theorem f_and : formOf "and" = some (["saying", "saying"] : List Str) := rfl
theorem f_or : formOf "or" = some (["saying", "saying"] : List Str) := rfl
theorem f_knows : formOf "knows" = some (["hand", "saying"] : List Str) := rfl
theorem f_all : formOf "all" = some (["hands", "saying"] : List Str) := rfl
theorem f_common : formOf "common" = some (["hands", "saying"] : List Str) := rfl
theorem f_sees : formOf "sees" = some (["hand"] : List Str) := rfl
theorem wt_holds : wordT c h H [.str "holds", x, y] = (withinV x 0 h && withinV y 0 (c - 1)) := by
  rw [wordT_of f_holds]
  simp only [List.zip_cons_cons, List.zip_nil_left, List.all_cons, List.all_nil, fit_holder, fit_card, Bool.and_true, List.length_cons, List.length_nil, decide_true, Bool.true_and]
theorem wt_sees : wordT c h H [.str "sees", x] = withinV x 0 (h - 1) := by
  rw [wordT_of f_sees]
  simp only [List.zip_cons_cons, List.zip_nil_left, List.all_cons, List.all_nil, fit_hand, Bool.and_true, List.length_cons, List.length_nil, decide_true, Bool.true_and]
theorem wt_not : wordT c h H [.str "not", x] = true := by
  rw [wordT_of f_not]
  simp only [List.zip_cons_cons, List.zip_nil_left, List.all_cons, List.all_nil, fit_saying, Bool.and_true, List.length_cons, List.length_nil, decide_true, Bool.true_and]
theorem wt_and : wordT c h H [.str "and", x, y] = true := by
  rw [wordT_of f_and]
  simp only [List.zip_cons_cons, List.zip_nil_left, List.all_cons, List.all_nil, fit_saying, Bool.and_true, List.length_cons, List.length_nil, decide_true, Bool.true_and]
theorem wt_or : wordT c h H [.str "or", x, y] = true := by
  rw [wordT_of f_or]
  simp only [List.zip_cons_cons, List.zip_nil_left, List.all_cons, List.all_nil, fit_saying, Bool.and_true, List.length_cons, List.length_nil, decide_true, Bool.true_and]
theorem wt_knows : wordT c h H [.str "knows", x, y] = withinV x 0 (h - 1) := by
  rw [wordT_of f_knows]
  simp only [List.zip_cons_cons, List.zip_nil_left, List.all_cons, List.all_nil, fit_saying, fit_hand, Bool.and_true, List.length_cons, List.length_nil, decide_true, Bool.true_and]
theorem wt_all : wordT c h H [.str "all", x, y] = handsB H h x := by
  rw [wordT_of f_all]
  simp only [List.zip_cons_cons, List.zip_nil_left, List.all_cons, List.all_nil, fit_saying, fit_hands, Bool.and_true, List.length_cons, List.length_nil, decide_true, Bool.true_and]
theorem wt_common : wordT c h H [.str "common", x, y] = handsB H h x := by
  rw [wordT_of f_common]
  simp only [List.zip_cons_cons, List.zip_nil_left, List.all_cons, List.all_nil, fit_saying, fit_hands, Bool.and_true, List.length_cons, List.length_nil, decide_true, Bool.true_and]
theorem within_yes {i lo hi : Int} (h1 : lo ≤ i) (h2 : i ≤ hi) : withinV (.int i) lo hi = true := by show (decide (lo ≤ i) && decide (i ≤ hi)) = true; rw [decide_eq_true h1, decide_eq_true h2]; rfl
theorem pt_not' : partsT [.str "not", x] = [x] := rfl
theorem pt_and' : partsT [.str "and", x, y] = [x, y] := rfl
theorem pt_or' : partsT [.str "or", x, y] = [x, y] := rfl
theorem pt_knows' : partsT [.str "knows", x, y] = [y] := rfl
theorem pt_all' : partsT [.str "all", x, y] = [y] := rfl
theorem pt_common' : partsT [.str "common", x, y] = [y] := rfl
theorem pt_holds' : partsT [.str "holds", x, y] = [] := rfl
theorem pt_sees' : partsT [.str "sees", x] = [] := rfl
end
theorem rising_ok {h : Nat} : ∀ (g : List Nat) (lo : Int), (∀ k ∈ g, lo ≤ (k : Int)) → g.Pairwise (· < ·) → (∀ k ∈ g, k < h) → risingB (h : Int) lo (natV g) = true
  | [], _, _, _, _ => rfl
  | k :: r, lo, h1, h2, h3 => by
    show (withinV (.int (k : Int)) lo ((h : Int) - 1) && risingB (h : Int) ((k : Int) + 1) (natV r)) = true
    rw [List.pairwise_cons] at h2
    have hk := h3 k List.mem_cons_self
    rw [within_yes (h1 k List.mem_cons_self) (by omega), rising_ok r _ (fun j hj => by have := h2.1 j hj; omega) h2.2 fun j hj => h3 j (List.mem_cons_of_mem _ hj)]
    rfl
theorem kl_nil {H : Hp} : ∀ v ∈ ([] : List V), Known H v := fun _ h => (nomatch h)
theorem kl_cons {H : Hp} {x : V} {xs : List V} (h : Known H x) (t : ∀ v ∈ xs, Known H v) : ∀ v ∈ x :: xs, Known H v := fun v hv => by
  rcases List.mem_cons.mp hv with rfl | hv
  · exact h
  · exact t v hv
theorem kl_nat {H : Hp} (g : List Nat) : ∀ v ∈ natV g, Known H v := fun v hv => by
  obtain ⟨k, _, rfl⟩ := List.mem_map.mp hv
  exact .int _
theorem IsSy.known {H : Hp} : ∀ {s : Sy} {v : V}, IsSy H v s → Known H v
  | .holds _ _, _, ⟨a, e, h⟩ => by subst e; exact .tup h (kl_cons (.str _) (kl_cons (.int _) (kl_cons (.int _) kl_nil)))
  | .sees _, _, ⟨a, e, h⟩ => by subst e; exact .tup h (kl_cons (.str _) (kl_cons (.int _) kl_nil))
  | .not _, _, ⟨a, x, e, h, r⟩ => by subst e; exact .tup h (kl_cons (.str _) (kl_cons r.known kl_nil))
  | .and _ _, _, ⟨a, x, y, e, h, r, q⟩ => by subst e; exact .tup h (kl_cons (.str _) (kl_cons r.known (kl_cons q.known kl_nil)))
  | .or _ _, _, ⟨a, x, y, e, h, r, q⟩ => by subst e; exact .tup h (kl_cons (.str _) (kl_cons r.known (kl_cons q.known kl_nil)))
  | .knows _ _, _, ⟨a, x, e, h, r⟩ => by subst e; exact .tup h (kl_cons (.str _) (kl_cons (.int _) (kl_cons r.known kl_nil)))
  | .all g _, _, ⟨a, b, x, e, h, i, r⟩ => by subst e; exact .tup h (kl_cons (.str _) (kl_cons (.tup i (kl_nat g)) (kl_cons r.known kl_nil)))
  | .common g _, _, ⟨a, b, x, e, h, i, r⟩ => by subst e; exact .tup h (kl_cons (.str _) (kl_cons (.tup i (kl_nat g)) (kl_cons r.known kl_nil)))
theorem sayw_of {c h : Int} {H : Hp} {v : V} {ns : List Nat} {n : Nat} (w : wordB c h H v = true) (p : Paired (Sayw c h H) (partsB H v) ns) (e : n = 1 + ns.sum) : Sayw c h H v n := by subst e; exact .mk w p
theorem IsSy.sayw {H : Hp} {c h : Nat} : ∀ {s : Sy} {v : V}, IsSy H v s → s.Ok c h → Sayw (c : Int) (h : Int) H v s.words
  | .holds w k, _, ⟨a, e, i⟩, ok => by
    subst e
    have ok' : w ≤ h ∧ k < c := ok
    refine sayw_of (ns := []) ?_ ?_ rfl
    · rw [wordB_tup i, wt_holds, within_yes (by omega) (by omega), within_yes (by omega) (by omega)]; rfl
    · rw [partsB_tup i, pt_holds']; exact .nil
  | .sees k, _, ⟨a, e, i⟩, ok => by
    subst e
    have ok' : k < h := ok
    refine sayw_of (ns := []) ?_ ?_ rfl
    · rw [wordB_tup i, wt_sees, within_yes (by omega) (by omega)]
    · rw [partsB_tup i, pt_sees']; exact .nil
  | .not s, _, ⟨a, x, e, i, r⟩, ok => by
    subst e
    refine sayw_of (ns := [s.words]) ?_ ?_ (by simp [Sy.words]; omega)
    · rw [wordB_tup i, wt_not]
    · rw [partsB_tup i, pt_not']; exact .cons (r.sayw ok) .nil
  | .and s t, _, ⟨a, x, y, e, i, r, q⟩, ok => by
    subst e
    refine sayw_of (ns := [s.words, t.words]) ?_ ?_ (by simp [Sy.words]; omega)
    · rw [wordB_tup i, wt_and]
    · rw [partsB_tup i, pt_and']; exact .cons (r.sayw ok.1) (.cons (q.sayw ok.2) .nil)
  | .or s t, _, ⟨a, x, y, e, i, r, q⟩, ok => by
    subst e
    refine sayw_of (ns := [s.words, t.words]) ?_ ?_ (by simp [Sy.words]; omega)
    · rw [wordB_tup i, wt_or]
    · rw [partsB_tup i, pt_or']; exact .cons (r.sayw ok.1) (.cons (q.sayw ok.2) .nil)
  | .knows k s, _, ⟨a, x, e, i, r⟩, ok => by
    subst e
    have ok' : k < h := ok.1
    refine sayw_of (ns := [s.words]) ?_ ?_ (by simp [Sy.words]; omega)
    · rw [wordB_tup i, wt_knows, within_yes (by omega) (by omega)]
    · rw [partsB_tup i, pt_knows']; exact .cons (r.sayw ok.2) .nil
  | .all g s, _, ⟨a, b, x, e, i, j, r⟩, ok => by
    subst e
    refine sayw_of (ns := [s.words]) ?_ ?_ (by simp [Sy.words]; omega)
    · rw [wordB_tup i, wt_all, handsB_tup j, rising_ok g 0 (fun k _ => by omega) ok.1.1 ok.1.2]
    · rw [partsB_tup i, pt_all']; exact .cons (r.sayw ok.2) .nil
  | .common g s, _, ⟨a, b, x, e, i, j, r⟩, ok => by
    subst e
    refine sayw_of (ns := [s.words]) ?_ ?_ (by simp [Sy.words]; omega)
    · rw [wordB_tup i, wt_common, handsB_tup j, rising_ok g 0 (fun k _ => by omega) ok.1.1 ok.1.2]
    · rw [partsB_tup i, pt_common']; exact .cons (r.sayw ok.2) .nil

end L2

end

section
-- KcTxR
set_option Elab.async false
set_option linter.all false
set_option maxRecDepth 100000
set_option maxHeartbeats 4000000
namespace L2
open PySem PyProof.Rows

theorem cutTo (xs : List V) (k : Nat) (h : k ≤ xs.length) : cutV xs none (some (k : Int)) = xs.take k := by
  unfold cutV
  have e1 : HT.sIx xs.length 0 none = 0 := rfl
  have e2 : HT.sIx xs.length xs.length (some (k : Int)) = min k xs.length := by show (if (k : Int) < 0 then ((k : Int) + (xs.length : Int)).toNat else min (k : Int).toNat xs.length) = _; rw [if_neg (by omega), Int.toNat_natCast]
  rw [e1, e2, List.drop_zero, Nat.sub_zero, Nat.min_eq_left h]
theorem cutFrom (xs : List V) (k : Nat) (h : k ≤ xs.length) : cutV xs (some (k : Int)) none = xs.drop k := by
  unfold cutV
  have e2 : HT.sIx xs.length 0 (some (k : Int)) = min k xs.length := by show (if (k : Int) < 0 then ((k : Int) + (xs.length : Int)).toNat else min (k : Int).toNat xs.length) = _; rw [if_neg (by omega), Int.toNat_natCast]
  rw [e2, Nat.min_eq_left h]
  show (xs.drop k).take (xs.length - k) = xs.drop k
  rw [List.take_of_length_le (by rw [List.length_drop]; exact Nat.le_refl _)]
theorem fm_len (c : Nat) {z : List Nat} (hz : z.length = 2) : ∀ l : List Nat, (fm c z l).length ≤ 2 * l.length
  | [] => Nat.le_refl _
  | k :: l => by
    have ih := fm_len c hz l
    have e : fm c z (k :: l) = (if k = c then z else [k]) ++ fm c z l := rfl
    rw [e, List.length_append, List.length_cons]
    split
    · omega
    · rw [List.length_singleton]; omega
theorem rep_len (x z : Str) (c : Nat) (hz : z.cps.toList.length = 2) : (Txt.replace x ⟨#[c]⟩ z).length ≤ 2 * x.length := by
  have h := fm_len c hz x.cps.toList
  rw [← rep_fm] at h
  simpa [Str.length] using h
/-! ### words -/
noncomputable def sp_words_of (_ : PySem.W.Frag) : Sp := fun vs H Q _ => ∃ t : Str, vs = [.str t] ∧ t.length ≤ 20000 ∧ ∀ (p : Addr) (H' : Hp), Same H H' → H p = none → H' p = some (.lst ((Txt.split (Txt.replace (Txt.replace t "(" "( ") ")" " )") " ").map V.str)) → Q (.ref p) H'
noncomputable def t_words_of (K : PySem.W.Frag) : TS := (tRet (tSplT " " (tRep ")" " )" (tRep "(" "( " (tVar 0)))))
theorem len_words_of {K : PySem.W.Frag} {vs : List V} {H : Hp} {Q : VK} {E : XK} (h : sp_words_of K vs H Q E) : vs.length = 1 := by
  obtain ⟨t, rfl, hl, q⟩ := h
  rfl
theorem rd_words_of {K : PySem.W.Frag} {vs : List V} {H : Hp} {Q : VK} {E : XK} (h : sp_words_of K vs H Q E) : t_words_of K { nx := fun _ H' => Q .non H', rt := Q } (start ["text"] vs) H := by
  obtain ⟨t, rfl, hl, q⟩ := h
  show t_words_of K _ [some _] _
  unfold t_words_of
  have h1 : (Txt.replace t "(" "( ").length ≤ 2 * t.length := rep_len t "( " 40 (by decide +kernel)
  have h2 : (Txt.replace (Txt.replace t "(" "( ") ")" " )").length ≤ 2 * (Txt.replace t "(" "( ").length := rep_len _ " )" 41 (by decide +kernel)
  walk_at "rd"
  refine r_splT (r_rep (r_rep ?_))
  walk_at "rd"
  exact ⟨t, rfl, by omega, _, rfl, by omega, ⟨_, rfl⟩, _, _, rfl, rfl, by decide +kernel, by omega, fun p H' hp s e => q p H' s hp e⟩
/-! ### numbers, hands -/
noncomputable def sp_read_number (_ : PySem.W.Frag) : Sp := fun vs H Q _ => ∃ k : Nat, vs = [.str (num (k : Int))] ∧ k ≤ 12 ∧ Q (.int k) H
noncomputable def t_read_number (K : PySem.W.Frag) : TS := (tRet (tCB cIntT (tCons (tVar 0) tNil)))
theorem len_read_number {K : PySem.W.Frag} {vs : List V} {H : Hp} {Q : VK} {E : XK} (h : sp_read_number K vs H Q E) : vs.length = 1 := by
  obtain ⟨k, rfl, hk, q⟩ := h
  rfl
theorem rd_read_number {K : PySem.W.Frag} {vs : List V} {H : Hp} {Q : VK} {E : XK} (h : sp_read_number K vs H Q E) : t_read_number K { nx := fun _ H' => Q .non H', rt := Q } (start ["word"] vs) H := by
  obtain ⟨k, rfl, hk, q⟩ := h
  show t_read_number K _ [some _] _
  unfold t_read_number
  walk_at "rd"
  exact ⟨k, rfl, by omega, by omega, q⟩
theorem no45 {g : List Nat} (hg : ∀ k ∈ g, k ≤ 12) (hn : g ≠ []) : grp g ≠ "-" := by
  have n1 : ∀ k : Fin 13, ((num ((k : Nat) : Int)).cps.toList.all fun c => decide (c ≠ 45)) = true := by decide +kernel
  have nn : ∀ k ∈ g, ∀ c ∈ (num (k : Int)).cps.toList, c ≠ 45 := fun k hk c hc => of_decide_eq_true (List.all_eq_true.mp (n1 ⟨k, by have := hg k hk; omega⟩) c hc)
  have J : ∀ zs : List Str, (∀ z ∈ zs, ∀ c ∈ z.cps.toList, c ≠ 45) → ∀ c ∈ (Str.join "," zs).cps.toList, c ≠ 45 := by
    intro zs
    induction zs with
    | nil => intro _ c hc; exact absurd (show c ∈ ([] : List Nat) from hc) (by simp)
    | cons a r ih =>
      intro h
      cases r with
      | nil => rw [join1]; exact h a (by simp)
      | cons b r =>
        intro c hc
        rw [join2, cpsA, cpsA, List.mem_append, List.mem_append] at hc
        rcases hc with (hc | hc) | hc
        · exact h a (by simp) c hc
        · have : ("," : Str).cps.toList = [44] := by decide +kernel
          rw [this] at hc
          simp only [List.mem_singleton] at hc
          omega
        · exact ih (fun z hz => h z (List.mem_cons_of_mem _ hz)) c hc
  intro e
  unfold grp at e
  rw [if_neg hn] at e
  have := J _ (fun z hz => by obtain ⟨k, hk, rfl⟩ := List.mem_map.mp hz; exact nn k hk) 45 (by rw [e]; decide +kernel)
  exact this rfl
theorem split_grp {g : List Nat} (hg : ∀ k ∈ g, k ≤ 12) (hn : g ≠ []) : Txt.split (grp g) "," = g.map fun (k : Nat) => num (k : Int) := by
  have n1 : ∀ k : Fin 13, ((num ((k : Nat) : Int)).cps.toList.all fun c => decide (c ≠ 44)) = true := by decide +kernel
  unfold grp
  rw [if_neg hn]
  have e : ("," : Str) = ⟨#[44]⟩ := by decide +kernel
  rw [e]
  refine split_join (by simpa using hn) fun p hp hc => ?_
  obtain ⟨k, hk, rfl⟩ := List.mem_map.mp hp
  exact of_decide_eq_true (List.all_eq_true.mp (n1 ⟨k, by have := hg k hk; omega⟩) _ hc) rfl
noncomputable def sp_read_hands (_ : PySem.W.Frag) : Sp := fun vs H Q _ => ∃ g : List Nat, vs = [.str (grp g)] ∧ (∀ k ∈ g, k ≤ 12) ∧ g.length ≤ 5 ∧ ∀ (b : Addr) (H' : Hp), Same H H' → H' b = some (.tup (natV g)) → Q (.ref b) H'
noncomputable def t_read_hands (K : PySem.W.Frag) : TS := (tSeq (tIfS (tTest (tOp rEq (tVar 0) (tC (.str "-")))) (tRet (mTup tNil)) tNext)
  (tRet (tCB (mCTuple K) (tCons (tComp (iList K (tBM K "str" rSplit (tVar 0) (tCons (tC (.str ",")) tNil))) (fun _ _ _ _ => (gName 0)) (fun _ _ _ _ => tAlways) (fun _ _ _ _ => (tCall (sp_read_number K) [] E0 (tCons (tVar 0) tNil))) [none]) tNil))))
theorem len_read_hands {K : PySem.W.Frag} {vs : List V} {H : Hp} {Q : VK} {E : XK} (h : sp_read_hands K vs H Q E) : vs.length = 1 := by
  obtain ⟨g, rfl, hg, hl, q⟩ := h
  rfl
theorem rd_read_hands {K : PySem.W.Frag} {vs : List V} {H : Hp} {Q : VK} {E : XK} (h : sp_read_hands K vs H Q E) : t_read_hands K { nx := fun _ H' => Q .non H', rt := Q } (start ["word"] vs) H := by
  obtain ⟨g, rfl, hg, hl, q⟩ := h
  show t_read_hands K _ [some _] _
  unfold t_read_hands
  walk_at "rd"
  by_cases hn : g = []
  · subst hn
    refine ite_dec (fun _ => ?_) (fun c => absurd rfl c)
    walk_at "rd"
    exact ⟨by simp [sizeLine_eq], fun u H1 hu s1 e1 => q u H1 s1 e1⟩
  · refine ite_dec (fun c => absurd c (no45 hg hn)) (fun _ => ?_)
    walk_at "rd"
    refine ⟨rfl, ?_⟩
    walk_at "rd"
    have gl := grp_len (g := g) (by omega) hg
    refine ⟨_, _, rfl, rfl, by decide +kernel, by omega, fun l H1 hl1 s1 e1 => ?_⟩
    rw [split_grp hg hn] at e1
    refine lc_list _ (SqL.of e1) (by rw [List.length_map, List.length_map]; omega) (fun i acc _ => acc = natV (g.take i)) (fun _ _ => rfl) ?_ ?_
    · intro p hp C s' H' fp i x acc H2 hx ⟨s2, e2, l2, r2⟩
      subst r2
      rw [List.map_map, List.getElem?_map] at hx
      cases e : g[i]? with
      | none => rw [e] at hx; cases hx
      | some k =>
        rw [e] at hx
        cases hx
        walk_at "rd"
        refine ⟨k, rfl, hg k (List.mem_of_getElem? e), ?_⟩
        refine CInv.put hp (fun _ _ _ _ r _ => r) s2 e2 l2 ?_
        rw [List.take_add_one, e]
        unfold natV
        rw [List.map_append]
        rfl
    · intro p acc H2 hp s2 e2 r2
      rw [List.length_map, List.length_map, List.take_length] at r2
      subst r2
      walk_at "rd"
      refine m_tuple (SqL.of e2) fun u H3 hu s3 e3 => ?_
      exact q u H3 ((s1.trans s2).trans s3) e3
/-! ### a part -/
noncomputable def sp_read_part (_ : PySem.W.Frag) : Sp := fun vs H Q _ => ∃ (h2 : Nat) (place : Str) (x : V) (q0 : Prt), vs = [.int h2, .str place, x] ∧ RdP H h2 place x q0 ∧ ∀ (y : V) (H' : Hp), Same H H' → PrtAt H' y q0 → Q y H'
theorem num_pile {k : Nat} (hk : k ≤ 12) : num (k : Int) ≠ "pile" := by
  have : ∀ k : Fin 13, num ((k : Nat) : Int) ≠ "pile" := by decide +kernel
  exact this ⟨k, by omega⟩
noncomputable def t_read_part (K : PySem.W.Frag) : TS := (tSeq (tIfS (tTest (tOp rEq (tVar 1) (tC (.str "saying")))) (tRet (tVar 2)) tNext)
  (tSeq (tIfS (tNot (tB (tCB (rIsi K) (tCons (tVar 2) (tCons (tC (.ty "str")) tNil))))) (tRet (tC .non)) tNext)
  (tSeq (tIfS (tTest (tOp rEq (tVar 1) (tC (.str "hands")))) (tRet (tCall (sp_read_hands K) [] E0 (tCons (tVar 2) tNil))) tNext)
  (tSeq (tIfS (tAnd (tTest (tOp rEq (tVar 1) (tC (.str "holder")))) (tTest (tOp rEq (tVar 2) (tC (.str "pile"))))) (tRet (tVar 0)) tNext)
  (tRet (tCall (sp_read_number K) [] E0 (tCons (tVar 2) tNil)))))))
theorem len_read_part {K : PySem.W.Frag} {vs : List V} {H : Hp} {Q : VK} {E : XK} (h : sp_read_part K vs H Q E) : vs.length = 3 := by
  obtain ⟨h2, place, x, q0, rfl, rp, q⟩ := h
  rfl
theorem rd_read_part {K : PySem.W.Frag} {vs : List V} {H : Hp} {Q : VK} {E : XK} (h : sp_read_part K vs H Q E) : t_read_part K { nx := fun _ H' => Q .non H', rt := Q } (start ["hands", "place", "thing"] vs) H := by
  obtain ⟨h2, place, x, q0, rfl, rp, q⟩ := h
  show t_read_part K _ [some _, some _, some _] _
  unfold t_read_part
  walk_at "rd"
  cases q0 with
  | y s =>
    obtain ⟨rfl, is⟩ := rp
    refine ite_dec (fun _ => ?_) (fun c => absurd rfl c)
    walk_at "rd"
    exact q _ H (Same.refl H) is
  | g g =>
    obtain ⟨rfl, rfl, hg, hl⟩ := rp
    refine ite_dec (fun c => absurd c (by decide +kernel)) (fun _ => ?_)
    walk_at "rd"
    refine r_isi (.str _) (kit_all K "str" (by decide) "str" (by decide)) ?_
    walk_at "rd"
    refine iteNT ?_
    walk_at "rd"
    refine ite_dec (fun _ => ?_) (fun c => absurd rfl c)
    walk_at "rd"
    exact ⟨g, rfl, hg, hl, fun b H' s e => q _ H' s ⟨b, rfl, e⟩⟩
  | n v =>
    rcases rp with ⟨rfl, h, w, rfl, hw, rfl⟩ | ⟨hp, rfl, hv⟩
    · refine ite_dec (fun c => absurd c (by decide +kernel)) (fun _ => ?_)
      walk_at "rd"
      refine r_isi (.str _) (kit_all K "str" (by decide) "str" (by decide)) ?_
      walk_at "rd"
      refine iteNT ?_
      walk_at "rd"
      refine ite_dec (fun c => absurd c (by decide +kernel)) (fun _ => ?_)
      walk_at "rd"
      refine ite_dec (fun _ => ?_) (fun c => absurd rfl c)
      walk_at "rd"
      unfold who
      by_cases e : w = h
      · have := q (.int h2) H (Same.refl H) (by show V.int _ = V.int _; rw [if_pos e])
        rw [if_pos e]
        refine ite_dec (fun _ => ?_) (fun c => absurd rfl c)
        walk_at "rd"
        exact this
      · have := q (.int w) H (Same.refl H) (by show V.int _ = V.int _; rw [if_neg e])
        rw [if_neg e]
        refine ite_dec (fun c => absurd c (num_pile hw)) (fun _ => ?_)
        walk_at "rd"
        exact ⟨w, rfl, hw, this⟩
    · have n1 : place ≠ "saying" := by rcases hp with rfl | rfl <;> decide +kernel
      have n2 : place ≠ "hands" := by rcases hp with rfl | rfl <;> decide +kernel
      have n3 : place ≠ "holder" := by rcases hp with rfl | rfl <;> decide +kernel
      refine ite_dec (fun c => absurd c n1) (fun _ => ?_)
      walk_at "rd"
      refine r_isi (.str _) (kit_all K "str" (by decide) "str" (by decide)) ?_
      walk_at "rd"
      refine iteNT ?_
      walk_at "rd"
      refine ite_dec (fun c => absurd c n2) (fun _ => ?_)
      walk_at "rd"
      refine ite_dec (fun c => absurd c n3) (fun _ => ?_)
      walk_at "rd"
      exact ⟨v, rfl, hv, q _ H (Same.refl H) rfl⟩
/-! ### brackets -/
noncomputable def sp_out_of_brackets (_ : PySem.W.Frag) : Sp := fun vs H Q _ => ∃ (a : Addr) (x y : V) (op : Str), vs = [.ref a] ∧ H a = some (.lst [x, .str op, y, .str ")"]) ∧ ∀ (T : Addr) (H' : Hp), Same H H' → H' T = some (.tup [.str op, x, y]) → Q (.ref T) H'
theorem ax_three (w x y z : V) (xs : List V) : atI (w :: x :: y :: z :: xs) 3 = some z := by
  have : atI (w :: x :: y :: z :: xs) ((3 : Nat) : Int) = some z := atI_nat rfl
  exact this
noncomputable def t_out_of_brackets (K : PySem.W.Frag) : TS := (tSeq (tIfS (tOr (tTest (tOp (rI0 fun i j => .bl (decide (i < j))) (tCB (cLen K) (tCons (tVar 0) tNil)) (tC (.int 4)))) (tTest (tOp rNe (tOp (rIxL K) (tVar 0) (tC (.int 3))) (tC (.str ")"))))) (tRet (tC .non)) tNext)
  (tRet (mTup (tCons (tOp (rIxL K) (tVar 0) (tC (.int 1))) (tCons (tOp (rIxL K) (tVar 0) (tC (.int 0))) (tCons (tOp (rIxL K) (tVar 0) (tC (.int 2))) tNil))))))
theorem len_out_of_brackets {K : PySem.W.Frag} {vs : List V} {H : Hp} {Q : VK} {E : XK} (h : sp_out_of_brackets K vs H Q E) : vs.length = 1 := by
  obtain ⟨a, x, y, op, rfl, e, q⟩ := h
  rfl
theorem rd_out_of_brackets {K : PySem.W.Frag} {vs : List V} {H : Hp} {Q : VK} {E : XK} (h : sp_out_of_brackets K vs H Q E) : t_out_of_brackets K { nx := fun _ H' => Q .non H', rt := Q } (start ["things"] vs) H := by
  obtain ⟨a, x, y, op, rfl, e, q⟩ := h
  show t_out_of_brackets K _ [some _] _
  unfold t_out_of_brackets
  walk_at "rd"
  refine ite_dec (fun c => absurd c (by show ¬ ((4 : Nat) : Int) < 4; omega)) (fun _ => ?_)
  walk_at "rd"
  refine r_ixL (SqL.of e) (ax_three _ _ _ _ _) ?_
  walk_at "rd"
  rw [decide_eq_true rfl]
  refine iteNT ?_
  walk_at "rd"
  refine r_ixL (SqL.of e) (ax_one _ _ _) ?_
  walk_at "rd"
  refine r_ixL (SqL.of e) (at_zero _ _) ?_
  walk_at "rd"
  refine r_ixL (SqL.of e) (ax_two _ _ _ _) ?_
  walk_at "rd"
  exact ⟨by simp [sizeLine_eq], fun u H1 hu s1 e1 => q u H1 s1 e1⟩
/-! ### one word more -/
theorem r_din_no {H : Hp} {Q : VK} {kvs : List (Str × V)} {a : Addr} {k : Str} (e : kvs.lookup k = none) (h : Q (.bl false) H) : rDicIn kvs a false (.str k) (.ref a) H Q := ⟨rfl, k, rfl, by rw [e]; exact h⟩
theorem r_din_yes {H : Hp} {Q : VK} {kvs : List (Str × V)} {a : Addr} {k : Str} {v : V} (e : kvs.lookup k = some v) (h : Q (.bl true) H) : rDicIn kvs a false (.str k) (.ref a) H Q := ⟨rfl, k, rfl, by rw [e]; exact h⟩
theorem kvs_none {G : Glo} {w : Str} (h : w ∉ eight) : G.kvs.lookup w = none := by
  simp only [eight, List.mem_cons, List.not_mem_nil, or_false, not_or] at h
  obtain ⟨h1, h2, h3, h4, h5, h6, h7, h8⟩ := h
  unfold Glo.kvs
  simp only [lookS, if_neg h1, if_neg h2, if_neg h3, if_neg h4, if_neg h5, if_neg h6, if_neg h7, if_neg h8]
  rfl
theorem args_btw {h2 : Nat} {s : Sy} {as : List Tg} (A : Args h2 s as) : s.between = false := by cases s <;> first | rfl | exact A.elim
theorem word_br (s : Sy) : s.word ≠ "(" := by cases s <;> (simp only [Sy.word]; decide +kernel)
theorem pr_len {α β : Type} {F : α → β → Prop} {l : List α} {m : List β} (h : Paired F l m) : l.length = m.length := paired_len h
theorem paired_drop {α β : Type} {F : α → β → Prop} : ∀ {as : List β} {l : List α} {m : List β}, Paired F l (as ++ m) → Paired F (l.drop as.length) m
  | [], _, _, h => h
  | _ :: as, _, _, .cons _ t => paired_drop (as := as) t
theorem RdP.keep {H H' : Hp} (k : Keep H H') {h2 : Nat} {place : Str} {x : V} {q : Prt} (h : RdP H h2 place x q) : RdP H' h2 place x q := by
  cases q with
  | n _ => exact h
  | g _ => exact h
  | y s => exact ⟨h.1, IsSy.keep k h.2⟩
noncomputable def sp_with_word (_ : PySem.W.Frag) : Sp := fun vs H Q _ => ∃ (h2 : Nat) (w : Str) (a : Addr) (xs : List V) (l l' : List Tg), vs = [.int h2, .str w, .ref a] ∧ H a = some (.lst xs) ∧ Paired (ThAt H) xs l ∧ Stp h2 w l l' ∧ l.length ≤ 1000 ∧
  ∀ (p : Addr) (ys : List V) (H' : Hp), Same H H' → H' p = some (.lst ys) → Paired (ThAt H') ys l' → Q (.ref p) H'
noncomputable def t_with_word (K : PySem.W.Frag) (G : Glo) : TS := (tSeq (tIfS (tTest (tOp rEq (tVar 1) (tC (.str "(")))) (tRet (tOp mCat (mLst (tCons (tCall (sp_out_of_brackets K) [] E0 (tCons (tSl (mSlL K) (tVar 2) tNoPart (tPart (tC (.int 4)))) tNil)) tNil)) (tSl (mSlL K) (tVar 2) (tPart (tC (.int 4))) tNoPart))) tNext)
  (tSeq (tIfS (tAnd (tTest (tOp (rDicIn G.kvs G.forms false) (tVar 1) (tC (.ref G.forms)))) (tTest (tOp (rIn K true) (tVar 1) (tC (.ref G.cw))))) (tSeq (tAsg (tOp (rDic G.kvs G.forms) (tC (.ref G.forms)) (tVar 1)) (gName 3))
  (tSeq (tAsg (tComp (iZip srcT srcL K (tCons (tVar 3) (tCons (tVar 2) tNil))) (fun _ _ _ _ => (gTup K 2 (gCons (gName 0) (gCons (gName 1) gNil)))) (fun _ _ _ _ => tAlways) (fun _ _ _ _ => (tCall (sp_read_part K) [] E0 (tCons (tVar 2) (tCons (tVar 0) (tCons (tVar 1) tNil))))) [none, none, some 0]) (gName 4))
  (tRet (tOp mCat (mLst (tCons (tCB (mCTuple K) (tCons (tOp mCat (mLst (tCons (tVar 1) tNil)) (tVar 4)) tNil)) tNil)) (tSl (mSlL K) (tVar 2) (tPart (tCB (cLen K) (tCons (tVar 3) tNil))) tNoPart))))) tNext)
  (tRet (tOp mCat (mLst (tCons (tVar 1) tNil)) (tVar 2)))))
noncomputable abbrev N_with_word : List Str := ["hands", "word", "things", "form", "parts"]
theorem len_with_word {K : PySem.W.Frag} {vs : List V} {H : Hp} {Q : VK} {E : XK} (h : sp_with_word K vs H Q E) : vs.length = 3 := by
  obtain ⟨h2, w, a, xs, l, l', rfl, _⟩ := h
  rfl
theorem br_word {K : PySem.W.Frag} {G : Glo} {h2 : Nat} {H : Hp} {Q : VK} {a : Addr} {x y : V} {xs : List V} {op : Str} {l : List Tg} {s' : Sy} (e : H a = some (.lst (x :: .str op :: y :: .str ")" :: xs))) (p : Paired (ThAt H) xs l) (hl : xs.length ≤ 1000) (hs : ∀ (T : Addr) (H' : Hp), Same H H' → H' T = some (.tup [.str op, x, y]) → IsSy H' (.ref T) s')
    (q : ∀ (p : Addr) (ys : List V) (H' : Hp), Same H H' → H' p = some (.lst ys) → Paired (ThAt H') ys (.y s' :: l) → Q (.ref p) H') : t_with_word K G { nx := fun _ H' => Q .non H', rt := Q } [some (.int h2), some (.str "("), some (.ref a), none, none] H := by
  unfold t_with_word
  walk_at "rd"
  refine ite_dec (fun _ => ?_) (fun c => absurd rfl c)
  walk_at "rd"
  refine m_slL (SqL.of e) fun b H1 hb s1 e1 => ?_
  rw [show (some (4 : Int)) = some ((4 : Nat) : Int) from rfl, cutTo _ 4 (by simp)] at e1
  walk_at "rd"
  refine ⟨b, x, y, op, rfl, e1, fun T H2 s2 e2 => ?_⟩
  walk_at "rd"
  refine ⟨by simp [sizeLine_eq], fun u H3 hu s3 e3 => ?_⟩
  walk_at "rd"
  have s13 := (s1.trans s2).trans s3
  refine m_slL (SqL.of (s13 _ _ e)) fun b4 H4 hb4 s4 e4 => ?_
  rw [show (some (4 : Int)) = some ((4 : Nat) : Int) from rfl, cutFrom _ 4 (by simp)] at e4
  refine m_cat (s4 _ _ e3) e4 (by rw [sizeLine_eq]; show 1 + xs.length ≤ _; omega) fun p5 H5 hp5 s5 e5 => ?_
  have s15 := (s13.trans s4).trans s5
  refine q p5 _ H5 s15 e5 (.cons ?_ (Paired.mapP p fun _ _ r => r.keep s15.keep))
  exact IsSy.keep ((s3.trans s4).trans s5).keep (hs T H2 (s1.trans s2) e2)
theorem rd_with_word {K : PySem.W.Frag} {G : Glo} (g : GloOk K G) (bw : KTup K G.cw [.str "and", .str "or"]) {vs : List V} {H : Hp} {Q : VK} {E : XK} (h : sp_with_word K vs H Q E) : t_with_word K G { nx := fun _ H' => Q .non H', rt := Q } (start N_with_word vs) H := by
  obtain ⟨h2, w, a, xs, l, l', rfl, ea, pr, st, hl, q⟩ := h
  show t_with_word K G _ [some _, some _, some _, none, none] _
  have hxl := pr_len pr
  cases st with
  | put hw =>
    obtain ⟨n1, hw⟩ := hw
    unfold t_with_word
    walk_at "rd"
    refine ite_dec (fun c => absurd c n1) (fun _ => ?_)
    walk_at "rd"
    have done : ∀ u H1, H u = none → Same H H1 → H1 u = some (.lst [.str w]) → mCat (.ref u) (.ref a) H1 Q := fun u H1 hu s1 e1 =>
      m_cat e1 (s1 _ _ ea) (by rw [sizeLine_eq]; show 1 + xs.length ≤ _; omega) fun p2 H2 hp2 s2 e2 => q p2 _ H2 (s1.trans s2) e2 (.cons rfl (Paired.mapP pr fun _ _ r => r.keep (s1.trans s2).keep))
    rcases hw with rfl | rfl | hw
    · refine r_din_yes (v := .ref G.f3) rfl ?_
      walk_at "rd"
      refine r_ninT (c := true) (bw.sq _) rfl rfl rfl ?_
      walk_at "rd"
      refine ⟨by simp [sizeLine_eq], fun u H1 hu s1 e1 => ?_⟩
      walk_at "rd"
      exact done u H1 hu s1 e1
    · refine r_din_yes (v := .ref G.f4) rfl ?_
      walk_at "rd"
      refine r_ninT (c := true) (bw.sq _) rfl rfl rfl ?_
      walk_at "rd"
      refine ⟨by simp [sizeLine_eq], fun u H1 hu s1 e1 => ?_⟩
      walk_at "rd"
      exact done u H1 hu s1 e1
    · refine r_din_no (kvs_none hw) ?_
      walk_at "rd"
      refine ⟨by simp [sizeLine_eq], fun u H1 hu s1 e1 => ?_⟩
      walk_at "rd"
      exact done u H1 hu s1 e1
  | @and s t l =>
    match xs, pr with
    | _, .cons (a := x) h1 (.cons (a := o) ho (.cons (a := y) h3 (.cons (a := z) hz pr))) =>
      cases (show o = .str "and" from ho)
      cases (show z = .str ")" from hz)
      simp only [List.length_cons] at hl hxl
      exact br_word (s' := .and s t) ea pr (by omega) (fun T H' s e => ⟨T, x, y, rfl, e, IsSy.keep s.keep h1, IsSy.keep s.keep h3⟩) q
  | @or s t l =>
    match xs, pr with
    | _, .cons (a := x) h1 (.cons (a := o) ho (.cons (a := y) h3 (.cons (a := z) hz pr))) =>
      cases (show o = .str "or" from ho)
      cases (show z = .str ")" from hz)
      simp only [List.length_cons] at hl hxl
      exact br_word (s' := .or s t) ea pr (by omega) (fun T H' s e => ⟨T, x, y, rfl, e, IsSy.keep s.keep h1, IsSy.keep s.keep h3⟩) q
  | @form s as l A =>
    obtain ⟨la, lp, hrd⟩ := args_rd A pr
    obtain ⟨f, hf, tf⟩ := g.form s
    rw [List.length_append] at hxl hl
    unfold t_with_word
    walk_at "rd"
    refine ite_dec (fun c => absurd c (word_br s)) (fun _ => ?_)
    walk_at "rd"
    refine r_din_yes hf ?_
    walk_at "rd"
    refine r_ninT (c := false) (bw.sq _) rfl rfl ((in_btw s).trans (args_btw A)) ?_
    walk_at "rd"
    refine r_dic hf ?_
    walk_at "rd"
    have hfl := s.form_len
    have hml : min (s.form.map V.str).length xs.length = s.form.length := by rw [List.length_map]; omega
    refine lc_zip (S1 := srcT) (S2 := srcL) (s.form.map V.str) xs (tf.sq _) (SqL.of ea) (fun H' _ => tf.sq _) (fun H' s' => SqL.of (s' _ _ ea)) (by rw [List.length_map]; omega) (fun i acc H2 => Paired (PrtAt H2) acc (s.prts.take i)) (fun _ _ => .nil) ?_ ?_
    · intro p hp' C s' H' fp i x y T acc H2 H3 hx hy ⟨s2, e2, l2, r2⟩ hT s3 e3 e4
      obtain ⟨z, hz, rfl⟩ : ∃ z, s.form[i]? = some z ∧ x = .str z := by
        rw [List.getElem?_map] at hx
        cases e : s.form[i]? with
        | none => rw [e] at hx; cases hx
        | some z => rw [e] at hx; exact ⟨z, rfl, (Option.some.inj hx).symm⟩
      obtain ⟨q0, hq0, rp⟩ := hrd i z y hz hy
      refine g_pair (SqT.of e3) ?_
      walk_at "rd"
      refine ⟨h2, z, y, q0, rfl, rp.keep (s2.trans s3).keep, fun v H5 s5 pv => ?_⟩
      refine CInv.put hp' (fun _ _ _ _ r k => Paired.mapP r fun _ _ r => r.keep k) ((s2.trans s3).trans s5) (s5 _ _ e4) l2 ?_
      rw [List.take_add_one, hq0]
      exact paired_app (Paired.mapP r2 fun _ _ r => r.keep (s3.trans s5).keep) (.cons pv .nil)
    · intro p acc H2 hp' s2 e2 r2
      rw [hml, ← lp, List.take_length] at r2
      have hal := pr_len r2
      walk_at "rd"
      refine ⟨by simp [sizeLine_eq], fun u H3 hu s3 e3 => ?_⟩
      walk_at "rd"
      refine m_cat e3 (s3 _ _ e2) (by rw [sizeLine_eq]; show 1 + acc.length ≤ _; omega) fun u4 H4 hu4 s4 e4 => ?_
      walk_at "rd"
      refine m_tuple (SqL.of e4) fun T H5 hT s5 e5 => ?_
      walk_at "rd"
      refine ⟨by simp [sizeLine_eq], fun u6 H6 hu6 s6 e6 => ?_⟩
      walk_at "rd"
      refine ⟨_, _, rfl, .inr (tf.sq _), ?_⟩
      walk_at "rd"
      have s26 := (((s2.trans s3).trans s4).trans s5).trans s6
      refine m_slL (SqL.of (s26 _ _ ea)) fun u7 H7 hu7 s7 e7 => ?_
      rw [cutFrom _ _ (by rw [List.length_map]; omega), List.length_map, ← la] at e7
      refine m_cat (s7 _ _ e6) e7 (by rw [sizeLine_eq, List.length_drop]; show 1 + _ ≤ _; omega) fun u8 H8 hu8 s8 e8 => ?_
      have s78 := s7.trans s8
      have s58 := s6.trans s78
      have hT8 := s58 _ _ e5
      refine q u8 _ H8 (s26.trans s78) e8 (.cons ?_ (Paired.mapP (paired_drop pr) fun _ _ r => r.keep (s26.trans s78).keep))
      exact isSy_prts hT8 (Paired.mapP r2 fun _ _ r => r.keep (((s3.trans s4).trans s5).trans s58).keep)
/-! ### all words, from the end on -/
noncomputable def sp_built_of (_ : PySem.W.Frag) : Sp := fun vs H Q _ => ∃ (h2 : Nat) (a : Addr) (ws : List Str) (l : List Tg), vs = [.int h2, .ref a] ∧ H a = some (.lst (ws.map V.str)) ∧ Run h2 ws l ∧ ws.length ≤ 1000 ∧
  ∀ (p : Addr) (ys : List V) (H' : Hp), Same H H' → H' p = some (.lst ys) → Paired (ThAt H') ys l → Q (.ref p) H'
noncomputable def t_built_of (K : PySem.W.Frag) : TS := (tSeq (tAsg (mLst tNil) (gName 2))
  (tSeq (tFor (iRev K (tCons (tVar 1) tNil)) (gName 3) (tAsg (tCall (sp_with_word K) [] E0 (tCons (tVar 0) (tCons (tVar 3) (tCons (tVar 2) tNil)))) (gName 2)))
  (tRet (tVar 2))))
theorem len_built_of {K : PySem.W.Frag} {vs : List V} {H : Hp} {Q : VK} {E : XK} (h : sp_built_of K vs H Q E) : vs.length = 2 := by
  obtain ⟨h2, a, ws, l, rfl, ea, run, hl, q⟩ := h
  rfl
theorem rd_built_of {K : PySem.W.Frag} {vs : List V} {H : Hp} {Q : VK} {E : XK} (h : sp_built_of K vs H Q E) : t_built_of K { nx := fun _ H' => Q .non H', rt := Q } (start ["hands", "words", "things", "word"] vs) H := by
  obtain ⟨h2, a, ws, l, rfl, ea, run, hl, q⟩ := h
  show t_built_of K _ [some _, some _, none, none] _
  unfold t_built_of
  obtain ⟨gs, g0, gn, gl, gst⟩ := run_trace run
  walk_at "rd"
  refine ⟨by simp [sizeLine_eq], fun u H1 hu s1 e1 => ?_⟩
  walk_at "rd"
  refine r_iRev ?_
  walk_at "rd"
  refine lp_rev (ws.map V.str) (SqL.of (s1 _ _ ea)) (fun i σ H2 => ∃ (p : Addr) (ys : List V) (v4 : Option V), σ = [some (.int h2), some (.ref a), some (.ref p), v4] ∧ Same H H2 ∧ H2 p = some (.lst ys) ∧ Paired (ThAt H2) ys (gs i)) ⟨u, [], none, rfl, s1, e1, by rw [g0]; exact .nil⟩ ?_ ?_ ?_
  · rintro i σ H2 _ ⟨p, ys, v4, rfl, s2, e2, pr⟩
    exact SqL.of (s2 _ _ ea)
  · rintro i x σ H2 hi hx ⟨p, ys, v4, rfl, s2, e2, pr⟩
    rw [List.length_map] at hi hx
    rw [List.getElem?_map] at hx
    cases ew : ws[ws.length - 1 - i]? with
    | none => rw [ew] at hx; cases hx
    | some w =>
      rw [ew] at hx
      cases hx
      walk_at "rd"
      have := gl i
      refine ⟨h2, w, p, ys, gs i, gs (i + 1), rfl, e2, pr, gst i w hi ew, by omega, fun p3 ys3 H3 s3 e3 pr3 => ?_⟩
      walk_at "rd"
      exact ⟨p3, ys3, _, rfl, s2.trans s3, e3, pr3⟩
  · rintro σ H2 ⟨p, ys, v4, rfl, s2, e2, pr⟩
    rw [List.length_map, gn] at pr
    walk_at "rd"
    exact q p ys H2 s2 e2 pr
/-! ### a saying's own text -/
noncomputable def sp_read_saying (_ : PySem.W.Frag) : Sp := fun vs H Q _ => ∃ (c h : Nat) (s : Sy), vs = [.int c, .int h, .str (s.txt h)] ∧ h ≤ 5 ∧ c ≤ 13 ∧ s.Ok c h ∧ s.words ≤ 30 ∧ ∀ (v : V) (H' : Hp), Same H H' → IsSy H' v s → Q v H'
noncomputable def t_read_saying (K : PySem.W.Frag) : TS := (tSeq (tIfS (tNot (tB (tCB (rIsi K) (tCons (tVar 2) (tCons (tC (.ty "str")) tNil))))) tNever tNext)
  (tSeq (tAsg (tCall (sp_built_of K) [] E0 (tCons (tVar 1) (tCons (tCall (sp_words_of K) [] E0 (tCons (tVar 2) tNil)) tNil))) (gName 3))
  (tSeq (tIfS (tOr (tTest (tOp rNe (tCB (cLen K) (tCons (tVar 3) tNil)) (tC (.int 1)))) (tNot (tB (tCall (sp_is_saying K) [] E0 (tCons (tVar 0) (tCons (tVar 1) (tCons (tOp (rIxL K) (tVar 3) (tC (.int 0))) tNil))))))) tNever tNext)
  (tSeq (tIfS (tTest (tOp rNe (tCall (sp_show_saying K 31) [] E0 (tCons (tVar 1) (tCons (tOp (rIxL K) (tVar 3) (tC (.int 0))) tNil))) (tVar 2))) tNever tNext)
  (tRet (tOp (rIxL K) (tVar 3) (tC (.int 0))))))))
theorem ok_few {c h : Nat} (h5 : h ≤ 5) (c13 : c ≤ 13) : ∀ s : Sy, s.Ok c h → s.Few
  | .holds w d, ok => ⟨by have := ok.1; omega, by have := ok.2; omega⟩
  | .sees k, ok => by have : k < h := ok; show k ≤ 12; omega
  | .not s, ok => ok_few h5 c13 s ok
  | .and s t, ok => ⟨ok_few h5 c13 s ok.1, ok_few h5 c13 t ok.2⟩
  | .or s t, ok => ⟨ok_few h5 c13 s ok.1, ok_few h5 c13 t ok.2⟩
  | .knows k s, ok => ⟨by have := ok.1; omega, ok_few h5 c13 s ok.2⟩
  | .all g s, ok => ⟨fun k hk => by have := ok.1.2 k hk; omega, ok_few h5 c13 s ok.2⟩
  | .common g s, ok => ⟨fun k hk => by have := ok.1.2 k hk; omega, ok_few h5 c13 s ok.2⟩
theorem len_read_saying {K : PySem.W.Frag} {vs : List V} {H : Hp} {Q : VK} {E : XK} (h : sp_read_saying K vs H Q E) : vs.length = 3 := by
  obtain ⟨c, h, s, rfl, h5, c13, ok, hw, q⟩ := h
  rfl
theorem rd_read_saying {K : PySem.W.Frag} {vs : List V} {H : Hp} {Q : VK} {E : XK} (h : sp_read_saying K vs H Q E) : t_read_saying K { nx := fun _ H' => Q .non H', rt := Q } (start ["cards", "hands", "text", "things"] vs) H := by
  obtain ⟨c, h, s, rfl, h5, c13, ok, hw, q⟩ := h
  show t_read_saying K _ [some _, some _, some _, none] _
  unfold t_read_saying
  have tl := txt_len h5 c13 s ok
  walk_at "rd"
  refine r_isi (.str _) (kit_all K "str" (by decide) "str" (by decide)) ?_
  walk_at "rd"
  refine iteNT ?_
  walk_at "rd"
  refine ⟨_, rfl, by omega, fun p H1 s1 hp e1 => ?_⟩
  rw [words_txt (ok_few h5 c13 s ok)] at e1
  walk_at "rd"
  have kl := toks_len h s
  have rn := run_sy h h5 c13 s ok [] [] .nil
  rw [List.append_nil, s.re_self h] at rn
  refine ⟨h, p, _, _, rfl, e1, rn, by omega, fun p2 ys H2 s2 e2 pr => ?_⟩
  match ys, pr with
  | _, .cons (a := v) iv .nil =>
    have iv : IsSy H2 v s := iv
    walk_at "rd"
    rw [show ((([v] : List V).length : Nat) : Int) = 1 from rfl, decide_eq_true rfl]
    refine iteNT ?_
    walk_at "rd"
    refine r_ixL (SqL.of e2) (at_zero _ _) ?_
    walk_at "rd"
    refine ⟨c, h, v, true, rfl, iv.known, .inl ⟨rfl, s.words, hw, iv.sayw ok⟩, fun H3 s3 => ?_⟩
    walk_at "rd"
    refine r_ixL (SqL.of (s3 _ _ e2)) (at_zero _ _) ?_
    walk_at "rd"
    refine ⟨h, c, v, s, rfl, h5, c13, iv.keep s3.keep, ok, by omega, hw, fun H4 s4 => ?_⟩
    walk_at "rd"
    rw [decide_eq_true rfl]
    refine iteNT ?_
    walk_at "rd"
    refine r_ixL (SqL.of ((s3.trans s4) _ _ e2)) (at_zero _ _) ?_
    exact q v H4 (((s1.trans s2).trans s3).trans s4) (iv.keep (s3.trans s4).keep)

end L2

end

section
-- KcGX
namespace L2
structure GX extends Glo where
  NoSaying : PySem.Addr
end L2

end

section
-- KcNew
set_option Elab.async false
set_option linter.all false
set_option maxRecDepth 100000
set_option maxHeartbeats 4000000
namespace L2
open PySem PySem.Spec PyProof.Rows
theorem Room.units64 {k : Nat} {A : Around} (r : Room k A) : A.units + 64 < cLine := by have := r.un; omega
section
variable {X : Cx}
theorem OpR.weak {f : Value → Value → Sem Value} {r r' : R2} (h : OpR X f r) (w : ∀ x y H Q, r' x y H Q → r x y H Q) : OpR X f r' := fun pins s σ H x y v u Q I rx ry q => h pins s σ H x y v u Q I rx ry (w x y H Q q)
theorem CallR.weak {f : Value} {r r' : List V → Hp → VK → Prop} (h : CallR X f r) (w : ∀ xs H Q, r' xs H Q → r xs H Q) : CallR X f r' := fun pins s σ H xs us Q I rx q => h pins s σ H xs us Q I rx (w xs H Q q)
theorem om_cat : OpR X (binaryOp .Add) mCat := op_cat.weak fun _ _ _ _ ⟨l, b, xs, zs, e1, e2, h1, h2, hz, q⟩ => ⟨l, b, xs, zs, e1, e2, h1, h2, hz, q.upd⟩
theorem om_catT : OpR X (binaryOp .Add) (mCatT X.K) := op_catG.weak fun _ _ _ _ h => mCatT_G h
theorem cm_list : CallR X (.type "list") (mCList X.K) := call_list_of.weak fun _ _ _ ⟨p, ys, e, h, q⟩ => ⟨p, ys, e, h, q.upd⟩
theorem cm_tuple : CallR X (.type "tuple") (mCTuple X.K) := call_tuple_of.weak fun _ _ _ ⟨p, ys, e, h, q⟩ => ⟨p, ys, e, .inl ⟨h, q.upd⟩⟩
theorem sm_list : SlR X (mSlL X.K) := fun pins s σ H x v vl vu lo hi sl Q I rx hs pl pu ⟨a, xs, e, h, q⟩ => sl_list pins s σ H x v vl vu lo hi sl Q I rx hs pl pu ⟨a, xs, e, h, q.upd⟩
end
section
variable {X : Cx} {es : List Expr} {t : TA} {pos : Pos}
theorem pm_tup {x1} (h : PA X es t) : PE X (.Tuple es x1 pos) (mTup t) := by
  intro pins s σ H Q I hq
  refine wpAny_Tuple_spliced (thn (h pos pins s σ H _ I hq) fun us s1 ⟨xs, H1, I1, r, z, q⟩ => ⟨by rw [← r.length]; exact z, ?_⟩)
  have hf : H1 s1.heap.objs.size = none := I1.hok.fresh (Nat.le_refl _)
  refine ⟨.ref s1.heap.objs.size, upd H1 s1.heap.objs.size (.tup xs), I1.laid (t' := s1.toks) (fun b u e => Heap.get?_push_of_some _ e) (Nat.le_refl _) ?_, rfl, q.upd _ hf⟩
  exact ⟨z, us, r, IsTupD.new _ _⟩
theorem pm_lst (h : PA X es t) : PE X (.List es pos) (mLst t) := by
  intro pins s σ H Q I hq
  refine wpAny_List_spliced (thn (h pos pins s σ H _ I hq) fun us s1 ⟨xs, H1, I1, r, z, q⟩ => ⟨by rw [← r.length]; exact z, ?_⟩)
  have hf : H1 s1.heap.objs.size = none := I1.hok.fresh (Nat.le_refl _)
  refine ⟨.ref s1.heap.objs.size, upd H1 s1.heap.objs.size (.lst xs), I1.laid (t' := s1.toks) (fun b u e => Heap.get?_push_of_some _ e) (Nat.le_refl _) ?_, rfl, q.upd _ hf⟩
  exact ⟨z, us, 0, r, Heap.get?_push_size _ rfl⟩
end
/-! ### arguments, names: what is read off the text once -/
section
variable {X : Cx} {es : List Expr} {te : TE} {t : TA}
theorem pac_Constant {v : Const} {j : Nat} {p : Pos} (ha : PE X (.Constant v j p) te) (hr : PA X es t) : PA X (.Constant v j p :: es) (tCons te t) := pa_cons ha hr rfl
theorem pac_Name {x : Str} {p : Pos} (ha : PE X (.Name x p) te) (hr : PA X es t) : PA X (.Name x p :: es) (tCons te t) := pa_cons ha hr rfl
theorem pac_BinOp {a b : Expr} {o : Operator} {p : Pos} (ha : PE X (.BinOp a o b p) te) (hr : PA X es t) : PA X (.BinOp a o b p :: es) (tCons te t) := pa_cons ha hr rfl
theorem pac_Call {f : Expr} {as : List Expr} {ks : List Keyword} {p : Pos} (ha : PE X (.Call f as ks p) te) (hr : PA X es t) : PA X (.Call f as ks p :: es) (tCons te t) := pa_cons ha hr rfl
theorem pac_Tuple {as : List Expr} {k : Nat} {p : Pos} (ha : PE X (.Tuple as k p) te) (hr : PA X es t) : PA X (.Tuple as k p :: es) (tCons te t) := pa_cons ha hr rfl
theorem pac_Subscript {a b : Expr} {p : Pos} (ha : PE X (.Subscript a b p) te) (hr : PA X es t) : PA X (.Subscript a b p :: es) (tCons te t) := pa_cons ha hr rfl
theorem pac_Compare {a : Expr} {os : List CmpOp} {bs : List Expr} {p : Pos} (ha : PE X (.Compare a os bs p) te) (hr : PA X es t) : PA X (.Compare a os bs p :: es) (tCons te t) := pa_cons ha hr rfl
theorem pac_ListComp {e : Expr} (ha : PE X e te) (hr : PA X es t) (hs : starEach (e :: es) X.env = (false, eval e X.env) :: starEach es X.env := by rfl) : PA X (e :: es) (tCons te t) := pa_cons ha hr hs
structure VarAt (N : List Str) (sc : Scope) (i : Nat) (x : Str) : Prop where
  n : N[i]? = some x
  v : Vis sc x
  d : (x == ("__debug__" : Str)) = false
  c : (x == ("__classdict__" : Str)) = false
theorem pvQ {N : List Str} {sc : Scope} {i : Nat} {x : Str} {pos : Pos} (h : VarAt N sc i x) (hN : X.N = N) (hS : X.env.scope = sc) : PE X (.Name x pos) (tVar i) := by
  subst hN hS
  exact pe_var h.n h.v h.d h.c
end
end L2

end

section
-- KcDict
set_option Elab.async false
set_option linter.all false
set_option maxRecDepth 100000
set_option maxHeartbeats 4000000
namespace L2
open PySem PySem.Spec PyProof.Rows

/-! ### lists of pairs as tables -/
section
variable {κ : Type} [DecidableEq κ]
noncomputable def valV (kvs : List (κ × V)) (k : κ) : Option V := (kvs.find? fun kv => decide (kv.1 = k)).map (·.2)
noncomputable def putK (kvs : List (κ × V)) (k : κ) (v : V) : List (κ × V) :=
  if (kvs.any fun kv => decide (kv.1 = k)) = true then kvs.map (fun kv => if kv.1 = k then (kv.1, v) else kv) else kvs ++ [(k, v)]
noncomputable def dropK (kvs : List (κ × V)) (k : κ) : List (κ × V) := kvs.filter fun kv => decide (kv.1 ≠ k)

theorem valV_pos {p : κ × V} {r : List (κ × V)} {k : κ} (e : p.1 = k) : valV (p :: r) k = some p.2 := by simp [valV, List.find?_cons, e]
theorem valV_neg {p : κ × V} {r : List (κ × V)} {k : κ} (e : ¬ p.1 = k) : valV (p :: r) k = valV r k := by simp [valV, List.find?_cons, e]
theorem valV_any (k : κ) : ∀ kvs : List (κ × V), (kvs.any fun kv => decide (kv.1 = k)) = (valV kvs k).isSome
  | [] => rfl
  | p :: r => by
    rw [List.any_cons]
    by_cases e : p.1 = k
    · simp only [valV_pos e, decide_eq_true e, Bool.true_or, Option.isSome_some]
    · rw [valV_neg e, decide_eq_false e, Bool.false_or]; exact valV_any k r
theorem RelO.isSome_eq {o : Option V} {u : Option Value} (r : RelO o u) : o.isSome = u.isSome := by
  cases o with
  | none => cases u with
    | none => rfl
    | some _ => exact (show False from r).elim
  | some _ => cases u with
    | none => exact (show False from r).elim
    | some _ => rfl
theorem RelO.getD {o : Option V} {u : Option Value} {d : V} {d' : Value} (r : RelO o u) (rd : RelV d d') : RelV (o.getD d) (u.getD d') := by
  cases o with
  | none => cases u with
    | none => exact rd
    | some _ => exact (show False from r).elim
  | some _ => cases u with
    | none => exact (show False from r).elim
    | some _ => exact r

theorem KV.val {kvs : List (κ × V)} {vs : List (κ × Value)} (r : KV kvs vs) (k : κ) : RelO (valV kvs k) (valueAt vs k) := by
  unfold KV at r
  induction r with
  | nil => exact True.intro
  | @cons p q ps qs h t ih =>
    obtain ⟨h1, h2⟩ := h
    by_cases e : p.1 = k
    · have e' : q.1 = k := h1.symm.trans e
      have b : valueAt (q :: qs) k = some q.2 := by simp [valueAt, List.find?_cons, e']
      rw [valV_pos e, b]; exact h2
    · have e' : ¬ q.1 = k := fun z => e (h1.trans z)
      have b : valueAt (q :: qs) k = valueAt qs k := by simp [valueAt, List.find?_cons, e']
      rw [valV_neg e, b]; exact ih
theorem KV.any {kvs : List (κ × V)} {vs : List (κ × Value)} (r : KV kvs vs) (k : κ) : (kvs.any fun kv => decide (kv.1 = k)) = vs.any fun kv => decide (kv.1 = k) := by
  unfold KV at r
  induction r with
  | nil => rfl
  | cons h t ih => rw [List.any_cons, List.any_cons, ih, h.1]
theorem KV.repl {kvs : List (κ × V)} {vs : List (κ × Value)} (r : KV kvs vs) (k : κ) {y : V} {u : Value} (ry : RelV y u) :
    KV (kvs.map fun kv => if kv.1 = k then (kv.1, y) else kv) (vs.map fun kv => if kv.1 = k then (kv.1, u) else kv) := by
  unfold KV at r ⊢
  induction r with
  | nil => exact .nil
  | @cons p q ps qs h t ih =>
    rw [List.map_cons, List.map_cons]
    refine .cons ?_ ih
    obtain ⟨h1, h2⟩ := h
    by_cases e : p.1 = k
    · rw [if_pos e, if_pos (h1.symm.trans e)]; exact ⟨h1, ry⟩
    · rw [if_neg e, if_neg (fun z => e (h1.trans z))]; exact ⟨h1, h2⟩
theorem KV.put {kvs : List (κ × V)} {vs : List (κ × Value)} (r : KV kvs vs) (k : κ) {y : V} {u : Value} (ry : RelV y u) : KV (putK kvs k y) (stored vs k u) := by
  unfold putK stored
  rw [r.any k]
  by_cases e : (vs.any fun kv => decide (kv.1 = k)) = true
  · rw [if_pos e, if_pos e]; exact r.repl k ry
  · rw [if_neg e, if_neg e]; exact Paired.snoc r ⟨rfl, ry⟩
theorem KV.drop {kvs : List (κ × V)} {vs : List (κ × Value)} (r : KV kvs vs) (k : κ) : KV (dropK kvs k) (without vs k) := by
  unfold KV at r ⊢
  unfold dropK without
  induction r with
  | nil => exact .nil
  | @cons p q ps qs h t ih =>
    obtain ⟨h1, h2⟩ := h
    rw [List.filter_cons, List.filter_cons]
    by_cases e : p.1 = k
    · have a : ¬ decide (p.1 ≠ k) = true := by simp [e]
      have b : ¬ decide (q.1 ≠ k) = true := by simp [h1.symm.trans e]
      rw [if_neg a, if_neg b]; exact ih
    · have e' : ¬ q.1 = k := fun z => e (h1.trans z)
      have a : decide (p.1 ≠ k) = true := by simp [e]
      have b : decide (q.1 ≠ k) = true := by simp [e']
      rw [if_pos a, if_pos b]; exact .cons ⟨h1, h2⟩ ih
theorem KV.keys {kvs : List (κ × V)} {vs : List (κ × Value)} (r : KV kvs vs) : kvs.map (·.1) = vs.map (·.1) := by
  unfold KV at r
  induction r with
  | nil => rfl
  | cons h t ih => rw [List.map_cons, List.map_cons, ih, h.1]
theorem KV.length {kvs : List (κ × V)} {vs : List (κ × Value)} (r : KV kvs vs) : kvs.length = vs.length := Paired.length r
end


/-! ### a tracked dict, its keys ints and texts or tuples of these -/
theorem kV_is {P : Program} {w : World} {k : Key} {u : Value} (r : RelV (kV k) u) : (mixKind P w).is k u = true := by
  cases k with
  | inl i => obtain ⟨t, e⟩ := (show ∃ t, u = Value.int i t from r); subst e; exact mixKind_int P w i t
  | inr x => obtain ⟨t, e⟩ := (show ∃ t, u = Value.str x t from r); subst e; exact mixKind_str P w x t
noncomputable abbrev KT (H : Hp) : List (List Key × V) → List (List Key × Addr × Value) → Prop := Paired fun p q => p.1 = q.1 ∧ H q.2.1 = some (.tup (p.1.map kV)) ∧ RelV p.2 q.2.2
theorem KT.val {H : Hp} {kvs : List (List Key × V)} {xs : List (List Key × Addr × Value)} (r : KT H kvs xs) (k : List Key) : RelO (valV kvs k) ((atKey xs k).map (·.2)) := by
  induction r with
  | nil => exact True.intro
  | @cons p q ps qs h t ih =>
    obtain ⟨h1, _, h2⟩ := h
    by_cases e : p.1 = k
    · have e' : q.1 = k := h1.symm.trans e
      have b : atKey (q :: qs) k = some q.2 := by simp [atKey, List.find?_cons, e']
      rw [valV_pos e, b]; exact h2
    · have e' : ¬ q.1 = k := fun z => e (h1.trans z)
      have b : atKey (q :: qs) k = atKey qs k := by simp [atKey, List.find?_cons, e']
      rw [valV_neg e, b]; exact ih
theorem KT.repl {H : Hp} {kvs : List (List Key × V)} {xs : List (List Key × Addr × Value)} (r : KT H kvs xs) (k : List Key) {y : V} {u : Value} (ry : RelV y u) :
    KT H (kvs.map fun kv => if kv.1 = k then (kv.1, y) else kv) (xs.map (putAt k u)) := by
  induction r with
  | nil => exact .nil
  | @cons p q ps qs h t ih =>
    rw [List.map_cons, List.map_cons]
    refine .cons ?_ ih
    obtain ⟨h1, h2, h3⟩ := h
    unfold putAt
    by_cases e : p.1 = k
    · rw [if_pos e, if_pos (h1.symm.trans e)]; exact ⟨h1, h2, ry⟩
    · rw [if_neg e, if_neg (fun z => e (h1.trans z))]; exact ⟨h1, h2, h3⟩
theorem KT.put {H : Hp} {kvs : List (List Key × V)} {xs : List (List Key × Addr × Value)} (r : KT H kvs xs) (k : List Key) {b : Addr} {y : V} {u : Value} (hb : H b = some (.tup (k.map kV))) (ry : RelV y u) :
    KT H (putK kvs k y) (storedH xs k b u) := by
  have e : (kvs.any fun kv => decide (kv.1 = k)) = (atKey xs k).isSome := by
    rw [valV_any, (r.val k).isSome_eq, Option.isSome_map]
  unfold putK storedH
  rw [e]
  by_cases q : (atKey xs k).isSome = true
  · rw [if_pos q, if_pos q]; exact r.repl k ry
  · rw [if_neg q, if_neg q]; exact Paired.snoc r ⟨rfl, hb, ry⟩
theorem KT.keeps {H H' : Hp} {kvs : List (List Key × V)} {xs : List (List Key × Addr × Value)} (r : KT H kvs xs) (ht : ∀ b ys, H b = some (.tup ys) → H' b = some (.tup ys)) : KT H' kvs xs :=
  Paired.mapP r fun _ _ z => ⟨z.1, ht _ _ z.2.1, z.2.2⟩

section
variable {P : Program} {w : World} {H : Hp} {h : Heap} {a : Addr}
end

noncomputable def DGet (H : Hp) (a : Addr) (y : V) (r : Option V) : Prop :=
  (∃ kvs k, Rd H a (.dK kvs) ∧ y = kV k ∧ r = valV kvs k) ∨ ∃ kvs k b, Rd H a (.dT kvs) ∧ y = .ref b ∧ H b = some (.tup (k.map kV)) ∧ r = valV kvs k
noncomputable def DPut (H : Hp) (a : Addr) (y v : V) (H' : Hp) : Prop :=
  (∃ kvs k, H a = some (.dK kvs) ∧ y = kV k ∧ kvs.length < sizeLine ∧ H' = upd H a (.dK (putK kvs k v))) ∨
  ∃ kvs k b, H a = some (.dT kvs) ∧ y = .ref b ∧ H b = some (.tup (k.map kV)) ∧ kvs.length < sizeLine ∧ H' = upd H a (.dT (putK kvs k v))
theorem DGet.k {H : Hp} {a : Addr} {kvs : List (Key × V)} {k : Key} (e : H a = some (.dK kvs)) : DGet H a (kV k) (valV kvs k) := .inl ⟨kvs, k, .inl e, rfl, rfl⟩
theorem DGet.t {H : Hp} {a b : Addr} {kvs : List (List Key × V)} {k : List Key} (e : H a = some (.dT kvs)) (eb : H b = some (.tup (k.map kV))) : DGet H a (.ref b) (valV kvs k) := .inr ⟨kvs, k, b, .inl e, rfl, eb, rfl⟩
theorem DPut.k {H : Hp} {a : Addr} {kvs : List (Key × V)} {k : Key} {v : V} (e : H a = some (.dK kvs)) (hl : kvs.length < sizeLine) : DPut H a (kV k) v (upd H a (.dK (putK kvs k v))) := .inl ⟨kvs, k, e, rfl, hl, rfl⟩
theorem DPut.t {H : Hp} {a b : Addr} {kvs : List (List Key × V)} {k : List Key} {v : V} (e : H a = some (.dT kvs)) (eb : H b = some (.tup (k.map kV))) (hl : kvs.length < sizeLine) :
    DPut H a (.ref b) v (upd H a (.dT (putK kvs k v))) := .inr ⟨kvs, k, b, e, rfl, eb, hl, rfl⟩


section
variable {X : Cx} {pins : List (Addr × Obj)} {σ : St} {H : Hp} {s : Shared} {a : Addr} {y v : V} {u r : Value} {o : Option V} {A : Around} {E : Value → Shared → Prop}

theorem Inv.big (I : Inv X pins σ H s) : sysModules < s.heap.objs.size := by
  have h : mainGlobals < s.heap.objs.size := (I.mod.glob.keeps I.bk).lt
  exact Nat.lt_trans (by decide) h

end

section
variable {X : Cx} {pins : List (Addr × Obj)} {σ : St} {H : Hp} {s : Shared} {a : Addr} {kvs : List (Key × V)} {k : Key} {u : Value} {A : Around} {E : Value → Shared → Prop}
end


/-! ### readings and rules -/
noncomputable def NoSl (i : Expr) : Prop := ∀ ov iv, subscripted i false ov iv = operate [ov, iv] (getItem ov iv)
theorem subD_of {prog : Program} {w : World} {A : Around} {E : Value → Shared → Prop} {s : Shared} {env : Env} {value slice : Expr} {pos : Pos} {T id : String} {Q : Value → Shared → Prop}
    (hl : typeLookup (.type T) "__getitem__" = pure (some (.builtin id))) (hs : NoSl slice)
    (h : wpAny (model prog w) A (eval value env) (fun o s₁ => wpAny (model prog w) A (eval slice env) (fun i s₂ => s₂.TypeIs o T ∧ wpAny (model prog w) A (getItem o i) Q E s₂) E s₁) E s) :
    wpAny (model prog w) A (eval (.Subscript value slice pos) env) Q E s := by
  refine Subscript_ (wpAny_mono h (fun o s₁ h₁ => wpAny_mono h₁ (fun i s₂ h₂ => ?_) fun _ _ x => x) fun _ _ x => x)
  obtain ⟨hT, h₂⟩ := h₂
  unfold subscriptTail
  refine wpAny_bind ?_
  rw [getitemInPython_of_ne hT.not_modules]
  refine wpAny_bind (wpAny_specialOf hT hl ?_)
  have fin : wpAny (model prog w) A (subscripted slice false o i) (fun r s₃ => wpAny (model prog w) A (letTemporaryGo value o r >>= fun _ => pure r) Q E s₃) E s₂ := by
    rw [hs o i]
    exact wpAny_operating (wpAny_mono h₂ (fun r s₃ h₃ => wpAny_bind (wpAny_letTemporaryGo (wpAny_pure h₃))) fun _ _ x => x)
  first
    | exact wpAny_pure (wpAny_bind fin)
    | exact wpAny_bind (wpAny_pure (wpAny_bind fin))
    | exact wpAny_bind fin

section
variable {X : Cx} {o i e value : Expr} {pos pos' tpos : Pos} {td ty tv : TE}
end


/-! ### displays -/
section
variable {X : Cx} {pos : Pos}
end

/-! ### methods -/
structure M1 (X : Cx) (o : Expr) (m : Str) (apos : Pos) (e : Expr) (cpos : Pos) : Prop where
  base : attributeBase o m X.env (eval o X.env) = eval o X.env
  few : ((backTo cpos (starEach [e] X.env)).all (fun x => !x.1) && (backToKw cpos (keywordEach [] X.env)).all (fun x => x.1.isSome)
    && decide (([e] : List Expr).length + ([] : List Keyword).length + (if ([] : List Keyword).isEmpty then 0 else 1) < 30)) = true
  line : (apos.endLine == cpos.line) = true
  trees : backTo cpos (starEach [e] X.env) = [(false, eval e X.env)]
structure M2 (X : Cx) (o : Expr) (m : Str) (apos : Pos) (e f : Expr) (cpos : Pos) : Prop where
  base : attributeBase o m X.env (eval o X.env) = eval o X.env
  few : ((backTo cpos (starEach [e, f] X.env)).all (fun x => !x.1) && (backToKw cpos (keywordEach [] X.env)).all (fun x => x.1.isSome)
    && decide (([e, f] : List Expr).length + ([] : List Keyword).length + (if ([] : List Keyword).isEmpty then 0 else 1) < 30)) = true
  line : (apos.endLine == cpos.line) = true
  trees : backTo cpos (starEach [e, f] X.env) = [(false, eval e X.env), (false, eval f X.env)]

section
variable {X : Cx} {pins : List (Addr × Obj)} {σ : St} {H : Hp} {s : Shared} {a : Addr} {y d : V} {u r : Value} {o : Option V} {A : Around} {E : Value → Shared → Prop}
end

section
variable {X : Cx} {o e f : Expr} {apos cpos : Pos} {td ty tx : TE}
end

/-! ### dict(d): a copy -/
section
variable {X : Cx} {pins : List (Addr × Obj)} {σ : St} {H : Hp} {s : Shared} {a : Addr} {kvs : List (Key × V)} {A : Around} {E : Value → Shared → Prop}
end


section
variable {X : Cx} {pins : List (Addr × Obj)} {σ : St} {H : Hp} {s : Shared} {a : Addr} {y : V} {u : Value} {A : Around} {E : Value → Shared → Prop}
end
end L2

end

section
-- KcForms
set_option Elab.async false
set_option linter.all false
set_option maxRecDepth 100000
set_option maxHeartbeats 4000000
namespace L2
open PySem PySem.Spec PyProof.Rows
theorem sm_tup {X : Cx} : SlR X (mSlT X.K) := fun pins s σ H x v vl vu lo hi sl Q I rx hs pl pu ⟨a, xs, e, h, n, q⟩ => sl_tup pins s σ H x v vl vu lo hi sl Q I rx hs pl pu ⟨a, xs, e, h, n, q.upd⟩
/-! ### a dict of the module's own -/
noncomputable def KDict (P : Program) (w : World) (K : PySem.W.Frag) (a : Addr) (kvs : List (Str × V)) : Prop :=
  (a == sysModules) = false ∧ ∃ (o : Obj) (es : Array DictEntry) (ep : Nat) (vs : List (Key × Value)), K.lookup a = some o ∧ o.ExactDict ∧ o.data = .dict es ep ∧ KeysOf (mixKind P w) es ∧ Pairs (mixKind P w) es.toList vs ∧ (vs.map (·.1)).Nodup ∧
    Paired (fun (p : Str × V) (q : Key × Value) => q.1 = .inr p.1 ∧ RelV p.2 q.2) kvs vs
theorem lookup_paired {k : Str} {v : V} : ∀ {kvs : List (Str × V)} {vs : List (Key × Value)}, Paired (fun (p : Str × V) (q : Key × Value) => q.1 = .inr p.1 ∧ RelV p.2 q.2) kvs vs → kvs.lookup k = some v → ∃ u, valueAt vs (.inr k) = some u ∧ RelV v u
  | _, _, .nil, h => by cases h
  | _, _, .cons (a := p) (b := q) r t, h => by
    obtain ⟨x, y⟩ := p
    obtain ⟨kq, u⟩ := q
    obtain ⟨r1, r2⟩ := r
    simp only at r1 r2
    subst r1
    rw [List.lookup_cons] at h
    unfold valueAt
    rw [List.find?_cons]
    by_cases e : k = x
    · subst e
      rw [beq_self_eq_true] at h
      cases h
      rw [show decide ((Sum.inr k : Key) = Sum.inr k) = true from decide_eq_true rfl]
      exact ⟨u, rfl, r2⟩
    · rw [show (k == x) = false from beq_eq_false_iff_ne.mpr e] at h
      rw [show decide ((Sum.inr x : Key) = Sum.inr k) = false from decide_eq_false fun z => e (Sum.inr.inj z).symm]
      exact lookup_paired t h
section
variable {X : Cx} {o i : Expr} {pos : Pos} {td ty : TE} {a : Addr} {kvs : List (Str × V)}
theorem KDict.of {pins : List (Addr × Obj)} {σ : St} {H : Hp} {s : Shared} (D : KDict X.prog X.w X.K a kvs) (I : Inv X pins σ H s) : ∃ vs, s.heap.DictOf (mixKind X.prog X.w) a vs ∧ Paired (fun (p : Str × V) (q : Key × Value) => q.1 = .inr p.1 ∧ RelV p.2 q.2) kvs vs := by
  obtain ⟨_, o, es, ep, vs, lk, ex, hd, hk, hp, nd, rel⟩ := D
  exact ⟨vs, ⟨o, es, ep, I.kIn a o lk, ex, hd, hk, hp, nd⟩, rel⟩
theorem pe_dic (D : KDict X.prog X.w X.K a kvs) (ho : PE X o td) (hi : PE X i ty) (hs : NoSl i) : PE X (.Subscript o i pos) (tOp (rDic kvs a) td ty) := by
  intro pins s σ H Q I h
  refine subD_of PySem.F.slot_dict_getitem.lookup hs (thn (ho pins s σ H _ I h) fun u s1 ⟨x, H1, I1, rx, q1⟩ => thn (hi pins s1 σ H1 _ I1 q1) fun iv s2 ⟨y, H2, I2, ry, ex, k, v, ey, el, q2⟩ => ?_)
  subst ex ey
  obtain rfl : u = Value.ref a := rx
  obtain ⟨vs, dd, rel⟩ := D.of I2
  obtain ⟨w', hw, rw'⟩ := lookup_paired rel el
  exact ⟨dd.typeIs, wpAny_getItem_of (kV_is (k := .inr k) ry) dd.mapOf hw ⟨v, H2, I2.tok _, rw', q2⟩⟩
theorem lookup_none {k : Str} : ∀ {kvs : List (Str × V)} {vs : List (Key × Value)}, Paired (fun (p : Str × V) (q : Key × Value) => q.1 = .inr p.1 ∧ RelV p.2 q.2) kvs vs → kvs.lookup k = none → valueAt vs (.inr k) = none
  | _, _, .nil, _ => rfl
  | _, _, .cons (a := p) (b := q) r t, h => by
    obtain ⟨x, y⟩ := p
    obtain ⟨kq, u⟩ := q
    obtain ⟨r1, r2⟩ := r
    simp only at r1 r2
    subst r1
    rw [List.lookup_cons] at h
    unfold valueAt
    rw [List.find?_cons]
    by_cases e : k = x
    · subst e
      rw [beq_self_eq_true] at h
      cases h
    · rw [show (k == x) = false from beq_eq_false_iff_ne.mpr e] at h
      rw [show decide ((Sum.inr x : Key) = Sum.inr k) = false from decide_eq_false fun z => e (Sum.inr.inj z).symm]
      exact lookup_none t h
theorem op_notIn_dic (D : KDict X.prog X.w X.K a kvs) : OpR X (compareOp .NotIn) (rDicIn kvs a true) := by
  intro pins s σ H x y v u Q I rx ry h
  obtain ⟨rfl, k, rfl, q⟩ := h
  obtain rfl : u = Value.ref a := ry
  obtain ⟨vs, dd, rel⟩ := D.of I
  refine wpAny_notIn_of (kV_is (k := .inr k) rx) D.1 dd.mapOf ?_
  refine ⟨.bl (!(kvs.lookup k).isSome), H, I.tok _, ?_, q⟩
  cases e : kvs.lookup k with
  | none => rw [lookup_none rel e]; rfl
  | some v' =>
    obtain ⟨w', hw, _⟩ := lookup_paired rel e
    rw [hw]
    rfl
theorem op_in_dic (D : KDict X.prog X.w X.K a kvs) : OpR X (compareOp .In) (rDicIn kvs a false) := by
  intro pins s σ H x y v u Q I rx ry h
  obtain ⟨rfl, k, rfl, q⟩ := h
  obtain rfl : u = Value.ref a := ry
  obtain ⟨vs, dd, rel⟩ := D.of I
  refine wpAny_in_of (kV_is (k := .inr k) rx) D.1 dd.mapOf ?_
  refine ⟨.bl (kvs.lookup k).isSome, H, I.tok _, ?_, q⟩
  cases e : kvs.lookup k with
  | none => rw [lookup_none rel e]; rfl
  | some v' =>
    obtain ⟨w', hw, _⟩ := lookup_paired rel e
    rw [hw]
    rfl
end
end L2

end

section
-- KcRaise
set_option Elab.async false
set_option linter.all false
set_option maxRecDepth 100000
set_option maxHeartbeats 4000000
namespace L2
open PySem PySem.Spec PyProof.Rows
/-! ### an exception of a class of the text, on its way out -/
noncomputable def CX1 (P : Program) (w : World) : CXT := fun outer H s E e s' =>
  ∃ (a C : Addr) (a0 : Value) (H' : Hp) (B : Heap), e = .ref a ∧ s'.os = s.os ∧ AllBare s'.gens ∧ Un (frs outer) [] H H' s.heap s'.heap ∧ HOk P w H' s'.heap ∧
    Heap.FlyingW B outer a (.ref C) a0 s'.heap ∧ (∀ b o, s.heap.get? b = some o → H b = none → b ∉ frs outer → B.get? b = some o) ∧
    (∀ b o, s.heap.get? b = some o → b ∉ frs outer → ∃ o', B.get? b = some o') ∧ (∀ b u o, H' b = some u → s'.heap.get? b = some o → B.get? b = some o) ∧ H' a = none ∧ E (.ref C) (some a) H'
theorem ObjOk.there {P : Program} {w : World} {H : Hp} {h : Heap} {a : Addr} {o : HO} (x : ObjOk P w H h a o) : ∃ ob, h.get? a = some ob := by
  cases o with
  | lst xs => obtain ⟨_, _, _, _, e⟩ := x; exact ⟨_, e⟩
  | tup xs => obtain ⟨_, _, _, _, e, _⟩ := x; exact ⟨_, e⟩
  | dK kvs => obtain ⟨_, _, _, _, o, _, _, e, _⟩ := x; exact ⟨_, e⟩
  | dT kvs => obtain ⟨_, _, _, _, o, _, _, e, _⟩ := x; exact ⟨_, e⟩
  | set S n => obtain ⟨o, _, _, _, e, _⟩ := x; exact ⟨_, e⟩
  | ins C dx fs => obtain ⟨_, _, _, e, _⟩ := x; exact ⟨_, e⟩
  | own y => exact x
  | xd fs => obtain ⟨_, ⟨_, _, _, e, _⟩, _⟩ := x; exact ⟨_, e⟩
  | rng lo hi => obtain ⟨_, _, _, e⟩ := x; exact ⟨_, e⟩
  | frz ob u => obtain ⟨e, _⟩ := x; exact ⟨_, e⟩
  | tbl ps => exact ⟨_, x⟩
  | met f y => exact ⟨_, x⟩
  | ext φ => obtain ⟨_, e, _⟩ := x; exact e
theorem HOk.on {P : Program} {w : World} {H : Hp} {h h' : Heap} (x : HOk P w H h) (k : ∀ b u o, H b = some u → h.get? b = some o → h'.get? b = some o) : HOk P w H h' := fun a o e =>
  (x a o e).stay (fun b u hb q => by
    rcases hb with rfl | hb
    · exact k _ _ _ e q
    · exact k _ _ _ hb q) (fun _ q => q) fun _ _ q => q
section
variable {P : Program} {w : World} {K : PySem.W.Frag} {mg : Str → Option Value} {base : Heap} {N : List Str} {qual : Str} {scope : Scope} {f : Addr} {cd : Value} {A : Around} {outer : List Env} {s : Shared} {H : Hp} {E : XK}
end

noncomputable def ExCls (K : PySem.W.Frag) (C : Addr) : Prop := ∃ (Bn newId inN B nid initId : String) (bmN bmB : List Value), ExcBaseFacts Bn newId inN bmN ∧ bmB.contains (.type Bn) = true ∧ ExcBaseFacts B nid initId bmB ∧
  ∀ h, K.In h → ∃ nm q N bs bm hdct sn sub ab col dd k0 k1 k2 k3 k5, ∃ mN : Str → Option Value, bm.contains (.type "BaseException") = true ∧ mN "__init__" = none ∧
    h.get? C = some (excClassObj nm q C N bs bm hdct sn sub ab col dd k0 k1 k2 k3 k5 newId) ∧ h.Ns N mN ∧ OwnTail h bmB bm
end L2

end

section
-- KcTry
set_option Elab.async false
set_option linter.all false
set_option maxRecDepth 100000
set_option maxHeartbeats 4000000
namespace L2
open PySem PySem.Spec PyProof.Rows
/-! ### what a flight leaves alone: B holds all that the body's facts lean on, but for the frames -/
structure Held (X : Cx) (pins : List (Addr × Obj)) (H : Hp) (B : Heap) : Prop where
  s0 : ∀ b o, X.s₀.heap.get? b = some o → b ∉ frs X.stack → ∃ o', B.get? b = some o'
  ce : ∀ x c, X.env.cells.lookup x = some c → ∃ o, B.get? c = some o
  pi : ∀ p ∈ X.pn ++ pins, B.get? p.1 = some p.2
  tr : ∀ b u, H b = some u → ∃ o, B.get? b = some o
section
variable {X : Cx} {pins : List (Addr × Obj)} {σ : St} {H : Hp} {s : Shared} {B h' : Heap}
end
section
variable {X : Cx} {pins pn pins' : List (Addr × Obj)} {σ : St} {H : Hp} {s : Shared} {B : Heap} {E : Value → Shared → Prop} {a : Addr}
end
end L2

end

section
-- KcExI
set_option Elab.async false
set_option linter.all false
set_option maxRecDepth 100000
set_option maxHeartbeats 4000000
namespace L2
open PySem PySem.Spec PySem.W PyProof.Rows
/-! ### isinstance of an own exception's object -/
structure ExI (K : Frag) (C : Addr) : Prop where
  ga : findIn K (.ref C) "__getattribute__" = some (some (.builtin "BaseException.__getattribute__"))
  gt : findIn K (.ref C) "__getattr__" = some none
  cl : findIn K (.ref C) "__class__" = some (some (.builtin "object.__class__"))
  mo : mroIn K C (.type "object") = some true
  mb : mroIn K C (.type "BaseException") = some true
section
variable {prog : Program} {w : World} {A : Around} {E : Value → Shared → Prop} {h : Heap} {g : Array GenState} {d : Drawn} {t : Nat} {os : OsState} {a : Addr} {o : Obj} {C : Addr} {K : Frag}
end
end L2

end

section
-- KcTryN
set_option Elab.async false
set_option linter.all false
set_option maxRecDepth 100000
set_option maxHeartbeats 4000000
namespace L2
open PySem PySem.Spec PySem.W PyProof.Rows
/-! ### a def that may raise -/
noncomputable def FnX (P : Program) (w : World) (K : Frag) (mg : Str → Option Value) (base : Heap) (k : Nat) (x : Str) (ps : List Str) (sp : Sp) : Prop :=
  ∃ f fd, FnOk P w K mg base (CX1 P w) k f fd ps sp ∧ mg x = some (.ref f) ∧ keepIn K (.ref f) = true ∧ Binds K fd ps []
theorem FnX.mono {P : Program} {w : World} {K : Frag} {mg : Str → Option Value} {base : Heap} {j k : Nat} {x : Str} {ps : List Str} {sp : Sp} (F : FnX P w K mg base j x ps sp) (h : j ≤ k) : FnX P w K mg base k x ps sp := by
  obtain ⟨f, fd, ok, r⟩ := F
  exact ⟨f, fd, ok.mono h, r⟩
/-! ### isinstance of the exception at a, of the class at C -/
noncomputable def IsCls (K : Frag) (C : Addr) : Prop := ∃ c' d' cd' sl', K.lookup C = some ⟨c', d', .cls cd', sl'⟩
end L2

end

section
-- KcErrs
set_option Elab.async false
set_option linter.all false
set_option maxRecDepth 100000
set_option maxHeartbeats 4000000
namespace L2
open PySem PySem.Spec PySem.W PyProof.Rows
/-! ### the text's own errors -/
structure Errs where
  CardError : Addr
  NoPack : Addr
  TooMany : Addr
  NoHand : Addr
  NoRow : Addr
  NoSaying : Addr
structure ErrK (K : Frag) (G : Errs) : Prop where
  exm : exmOne K (.ref G.NoPack) (.ref G.CardError) = some true
  xi : ExI K G.NoPack
  ic : IsCls K G.NoPack
  k1 : kitOne K (.ref G.NoPack) (.ref G.NoPack) = some true
  k2 : kitOne K (.ref G.NoPack) (.type "ValueError") = some true
  k3 : kitAny K (.ref G.NoPack) [.ref G.NoHand, .ref G.NoRow, .ref G.NoSaying, .ref G.TooMany] = some false
structure ErrsOk (P : Program) (w : World) (K : Frag) (mg : Str → Option Value) (G : Errs) : Prop where
  ok : ErrK K G
  m_CardError : mg "CardError" = some (.ref G.CardError)
  m_NoPack : mg "NoPack" = some (.ref G.NoPack)
  m_TooMany : mg "TooMany" = some (.ref G.TooMany)
  m_NoHand : mg "NoHand" = some (.ref G.NoHand)
  m_NoRow : mg "NoRow" = some (.ref G.NoRow)
  m_NoSaying : mg "NoSaying" = some (.ref G.NoSaying)
  ex_NoPack : ExCls K G.NoPack
end L2

end

section
-- KcFs
set_option Elab.async false
set_option linter.all false
set_option maxRecDepth 100000
set_option maxHeartbeats 4000000
namespace L2
open PySem PySem.Spec PySem.W PyProof.Rows
/-! ### two promises of one def; a calm one is a raising one -/
section
variable {P : Program} {w : World} {K : Frag} {mg : Str → Option Value} {base : Heap} {k : Nat} {f : Addr} {fd : FuncData} {ps : List Str}
theorem FnOk.up {sp : Sp} (F : FnOk P w K mg base CX0 k f fd ps sp) : FnOk P w K mg base (CX1 P w) k f fd ps sp :=
  ⟨F.len, fun A outer s H args us vs Q E hr he hb hv hs => codeAny_mono (F.run A outer s H args us vs Q E hr he hb hv hs) fun r s' h => by
    cases r with
    | ok fl => cases fl <;> exact h
    | error e => exact (show False from h).elim⟩
theorem FnOk.or {CX : CXT} {sp sp' : Sp} (F : FnOk P w K mg base CX k f fd ps sp) (G : FnOk P w K mg base CX k f fd ps sp') : FnOk P w K mg base CX k f fd ps (fun vs H Q E => sp vs H Q E ∨ sp' vs H Q E) :=
  ⟨fun vs H Q E h => h.elim (F.len vs H Q E) (G.len vs H Q E), fun A outer s H args us vs Q E hr he hb hv hs => hs.elim (F.run A outer s H args us vs Q E hr he hb hv) (G.run A outer s H args us vs Q E hr he hb hv)⟩
end
/-! ### f"a {i} b" -/
end L2

end

section
-- KcTry0
set_option Elab.async false
set_option linter.all false
set_option maxRecDepth 100000
set_option maxHeartbeats 4000000
/-! try: .. except D: .. (without a name) -/
namespace L2
open PySem PySem.Spec PySem.W PyProof.Rows
section
variable {X : Cx} {pins : List (Addr × Obj)} {σ : St} {H : Hp} {s : Shared} {B h' : Heap}
end
end L2

end

section
-- KcRdX
set_option Elab.async false
set_option linter.all false
set_option maxRecDepth 100000
set_option maxHeartbeats 4000000
namespace L2
open PySem PyProof.Rows

/-! ### a text of one table read at another; refused -/
/-! ### words counted, where is_saying is read too -/
theorem parts_sy {H : Hp} {v : V} {s : Sy} (h : IsSy H v s) : SysAt H (partsB H v) s.subs := by
  cases s with
  | holds w d => obtain ⟨a, rfl, e⟩ := h; rw [partsB_tup e]; exact .nil
  | sees w => obtain ⟨a, rfl, e⟩ := h; rw [partsB_tup e]; exact .nil
  | not s => obtain ⟨a, x, rfl, e, i⟩ := h; rw [partsB_tup e]; exact .cons i .nil
  | and s t => obtain ⟨a, x, y, rfl, e, i, j⟩ := h; rw [partsB_tup e]; exact .cons i (.cons j .nil)
  | or s t => obtain ⟨a, x, y, rfl, e, i, j⟩ := h; rw [partsB_tup e]; exact .cons i (.cons j .nil)
  | knows k s => obtain ⟨a, x, rfl, e, i⟩ := h; rw [partsB_tup e]; exact .cons i .nil
  | all g s => obtain ⟨a, b, x, rfl, e, e2, i⟩ := h; rw [partsB_tup e]; exact .cons i .nil
  | common g s => obtain ⟨a, b, x, rfl, e, e2, i⟩ := h; rw [partsB_tup e]; exact .cons i .nil
theorem sub_ok {c h : Nat} {s t : Sy} (ok : s.Ok c h) (m : t ∈ s.subs) : t.Ok c h := by
  cases s with
  | holds _ _ => cases m
  | sees _ => cases m
  | not s => cases (List.mem_singleton.mp m); exact ok
  | and s u => simp only [Sy.subs, List.mem_cons, List.not_mem_nil, or_false] at m; exact m.elim (fun e => e ▸ ok.1) (fun e => e ▸ ok.2)
  | or s u => simp only [Sy.subs, List.mem_cons, List.not_mem_nil, or_false] at m; exact m.elim (fun e => e ▸ ok.1) (fun e => e ▸ ok.2)
  | knows _ s => cases (List.mem_singleton.mp m); exact ok.2
  | all _ s => cases (List.mem_singleton.mp m); exact ok.2
  | common _ s => cases (List.mem_singleton.mp m); exact ok.2
theorem subs_len (s : Sy) : s.subs.length ≤ 2 := by cases s <;> simp [Sy.subs]
noncomputable def sp_words_in (_ : PySem.W.Frag) (n : Nat) : Sp := fun vs H Q _ => ∃ (v : V) (s : Sy) (c h : Nat), vs = [v] ∧ IsSy H v s ∧ s.Ok c h ∧ s.words ≤ n ∧ ∀ H', Same H H' → Q (.int (s.words : Nat)) H'
noncomputable def t_words_in (K : PySem.W.Frag) (n : Nat) : TS := (tRet (tOp (rI0 fun i j => .int (i + j)) (tC (.int 1)) (tCB (cSum K) (tCons (tComp (iList K (tCall (sp_parts_of K) [] E0 (tCons (tVar 0) tNil))) (fun _ _ _ _ => (gName 0)) (fun _ _ _ _ => tAlways) (fun _ _ _ _ => (tCall (sp_words_in K n) [] E0 (tCons (tVar 0) tNil))) [none]) tNil))))
noncomputable abbrev N_words_in : List Str := ["S"]
theorem len_words_in {K : PySem.W.Frag} {n : Nat} {vs : List V} {H : Hp} {Q : VK} {E : XK} (h : sp_words_in K n vs H Q E) : vs.length = 1 := by
  obtain ⟨v, s, c, h, rfl, _⟩ := h
  rfl
theorem no_words_in {K : PySem.W.Frag} {vs : List V} {H : Hp} {Q : VK} {E : XK} (h : sp_words_in K 0 vs H Q E) : False := by
  obtain ⟨v, s, c, h, rfl, _, _, h, _⟩ := h
  have := s.words_pos
  omega
theorem rd_words_in {K : PySem.W.Frag} {n : Nat} {vs : List V} {H : Hp} {Q : VK} {E : XK} (h : sp_words_in K (n + 1) vs H Q E) : t_words_in K n { nx := fun _ H' => Q .non H', rt := Q } (start N_words_in vs) H := by
  obtain ⟨v, s, c, h, rfl, hs, ok, hw, q⟩ := h
  show t_words_in K n _ [some _] _
  unfold t_words_in
  walk_at "rd"
  refine ⟨c, h, v, rfl, hs.known, (hs.sayw ok).word, fun p H1 s1 hp e1 => ?_⟩
  have hx := (parts_sy hs).keep s1.keep
  have hxl := sysAt_len hx
  have h2 := subs_len s
  refine lc_list _ (SqL.of e1) (by omega) (fun i acc _ => acc = ((s.subs.take i).map fun t => ((t.words : Nat) : Int)).map V.int) (fun _ _ => rfl) ?_ ?_
  · intro p' hp' C s' H' fp i x acc H2 hxi ⟨s2, e2, l2, r2⟩
    obtain ⟨t, ht, it⟩ := sysAt_get hx hxi
    have hm := List.mem_of_getElem? ht
    have hb := Sy.sub_words hm
    subst r2
    walk_at "rd"
    refine ⟨x, t, c, h, rfl, it.keep s2.keep, sub_ok ok hm, by omega, fun H3 s3 => ?_⟩
    refine CInv.put hp' (fun _ _ _ _ r _ => r) (s2.trans s3) (s3 _ _ e2) l2 ?_
    rw [List.take_add_one, ht, List.map_append, List.map_append]
    rfl
  · intro p' acc H2 hp' s2 e2 r2
    rw [hxl, List.take_length] at r2
    subst r2
    walk_at "rd"
    refine r_sum (SqL.of e2) ?_
    walk_at "rd"
    have e : (1 : Int) + (s.subs.map fun t => ((t.words : Nat) : Int)).sum = ((s.words : Nat) : Int) := by
      rw [s.words_subs, cast_words, sum_cast]
      omega
    rw [e]
    exact q H2 (s1.trans s2)
/-! ### the law's own count -/
noncomputable def sp__law_count (_ : PySem.W.Frag) (n : Nat) : Sp := fun vs H Q _ => ∃ (v : V) (s : Sy), vs = [v] ∧ IsSy H v s ∧ s.words ≤ n ∧ ∀ H', Same H H' → Q (.int (s.words : Nat)) H'
noncomputable def t__law_count (K : PySem.W.Frag) (n : Nat) : TS := (tSeq (tIfS (tTest (tOp (rIn K false) (tOp (rIxT K) (tVar 0) (tC (.int 0))) (mTup (tCons (tC (.str "holds")) (tCons (tC (.str "sees")) tNil))))) (tRet (tC (.int 1))) tNext)
  (tSeq (tIfS (tTest (tOp (rIn K false) (tOp (rIxT K) (tVar 0) (tC (.int 0))) (mTup (tCons (tC (.str "and")) (tCons (tC (.str "or")) tNil))))) (tRet (tOp (rI0 fun i j => .int (i + j)) (tOp (rI0 fun i j => .int (i + j)) (tC (.int 1)) (tCall (sp__law_count K n) [] E0 (tCons (tOp (rIxT K) (tVar 0) (tC (.int 1))) tNil))) (tCall (sp__law_count K n) [] E0 (tCons (tOp (rIxT K) (tVar 0) (tC (.int 2))) tNil)))) tNext)
  (tRet (tOp (rI0 fun i j => .int (i + j)) (tC (.int 1)) (tCall (sp__law_count K n) [] E0 (tCons (tOp (rIxT K) (tVar 0) (tUn (rU fun i => .int (-i)) (tC (.int 1)))) tNil))))))
noncomputable abbrev N__law_count : List Str := ["_law_told"]
theorem len__law_count {K : PySem.W.Frag} {n : Nat} {vs : List V} {H : Hp} {Q : VK} {E : XK} (h : sp__law_count K n vs H Q E) : vs.length = 1 := by
  obtain ⟨v, s, rfl, _⟩ := h
  rfl
theorem no__law_count {K : PySem.W.Frag} {vs : List V} {H : Hp} {Q : VK} {E : XK} (h : sp__law_count K 0 vs H Q E) : False := by
  obtain ⟨v, s, rfl, _, h, _⟩ := h
  have := s.words_pos
  omega
theorem sy_at {H : Hp} {v : V} {s : Sy} (is : IsSy H v s) : ∃ (a : Addr) (xs : List V), v = .ref a ∧ H a = some (.tup xs) ∧ atI xs 0 = some (.str s.word) ∧
    ((leafB s = true ∧ s.words = 1) ∨ (leafB s = false ∧ s.between = true ∧ ∃ x y s1 s2, atI xs 1 = some x ∧ atI xs 2 = some y ∧ IsSy H x s1 ∧ IsSy H y s2 ∧ s.words = s1.words + s2.words + 1) ∨ (leafB s = false ∧ s.between = false ∧ ∃ y s1, atI xs (-1) = some y ∧ IsSy H y s1 ∧ s.words = s1.words + 1)) := by
  cases s with
  | holds w d => obtain ⟨a, rfl, e⟩ := is; exact ⟨a, _, rfl, e, at_zero _ _, .inl ⟨rfl, rfl⟩⟩
  | sees w => obtain ⟨a, rfl, e⟩ := is; exact ⟨a, _, rfl, e, at_zero _ _, .inl ⟨rfl, rfl⟩⟩
  | not s => obtain ⟨a, x, rfl, e, i⟩ := is; exact ⟨a, _, rfl, e, at_zero _ _, .inr (.inr ⟨rfl, rfl, x, s, rfl, i, rfl⟩)⟩
  | and s t => obtain ⟨a, x, y, rfl, e, i, j⟩ := is; exact ⟨a, _, rfl, e, at_zero _ _, .inr (.inl ⟨rfl, rfl, x, y, s, t, ax_one _ _ _, ax_two _ _ _ _, i, j, rfl⟩)⟩
  | or s t => obtain ⟨a, x, y, rfl, e, i, j⟩ := is; exact ⟨a, _, rfl, e, at_zero _ _, .inr (.inl ⟨rfl, rfl, x, y, s, t, ax_one _ _ _, ax_two _ _ _ _, i, j, rfl⟩)⟩
  | knows k s => obtain ⟨a, x, rfl, e, i⟩ := is; exact ⟨a, _, rfl, e, at_zero _ _, .inr (.inr ⟨rfl, rfl, x, s, rfl, i, rfl⟩)⟩
  | all g s => obtain ⟨a, b, x, rfl, e, e2, i⟩ := is; exact ⟨a, _, rfl, e, at_zero _ _, .inr (.inr ⟨rfl, rfl, x, s, rfl, i, rfl⟩)⟩
  | common g s => obtain ⟨a, b, x, rfl, e, e2, i⟩ := is; exact ⟨a, _, rfl, e, at_zero _ _, .inr (.inr ⟨rfl, rfl, x, s, rfl, i, rfl⟩)⟩
theorem rd__law_count {K : PySem.W.Frag} {n : Nat} {vs : List V} {H : Hp} {Q : VK} {E : XK} (h : sp__law_count K (n + 1) vs H Q E) : t__law_count K n { nx := fun _ H' => Q .non H', rt := Q } (start N__law_count vs) H := by
  obtain ⟨v, s, rfl, is, hw, q⟩ := h
  obtain ⟨a, xs, rfl, ha, h0, cs⟩ := sy_at is
  show t__law_count K n _ [some _] _
  unfold t__law_count
  walk_at "rd"
  refine r_ixT (SqT.of ha) h0 ?_
  walk_at "rd"
  refine ⟨by simp [sizeLine_eq], fun u H1 hu s1 e1 => ?_⟩
  refine r_inT (SqT.of e1) rfl rfl (in_leafB s) ?_
  walk_at "rd"
  rcases cs with ⟨lf, hn⟩ | ⟨lf, bt, x, y, t1, t2, hx, hy, i1, i2, hn⟩ | ⟨lf, bt, y, t1, hy, i1, hn⟩
  · rw [lf]
    refine iteT ?_
    walk_at "rd"
    have := q H1 s1
    rw [hn] at this
    exact this
  · rw [lf]
    refine iteF ?_
    walk_at "rd"
    refine r_ixT (SqT.of (s1 _ _ ha)) h0 ?_
    walk_at "rd"
    refine ⟨by simp [sizeLine_eq], fun u2 H2 hu2 s2 e2 => ?_⟩
    refine r_inT (SqT.of e2) rfl rfl (in_btw s) ?_
    walk_at "rd"
    rw [bt]
    refine iteT ?_
    walk_at "rd"
    have s12 := s1.trans s2
    refine r_ixT (SqT.of (s12 _ _ ha)) hx ?_
    walk_at "rd"
    refine ⟨x, t1, rfl, i1.keep s12.keep, by omega, fun H3 s3 => ?_⟩
    walk_at "rd"
    refine r_ixT (SqT.of ((s12.trans s3) _ _ ha)) hy ?_
    walk_at "rd"
    refine ⟨y, t2, rfl, i2.keep (s12.trans s3).keep, by omega, fun H4 s4 => ?_⟩
    walk_at "rd"
    have := q H4 ((s12.trans s3).trans s4)
    rw [hn] at this
    rw [show (1 : Int) + (t1.words : Int) + (t2.words : Int) = ((t1.words + t2.words + 1 : Nat) : Int) by omega]
    exact this
  · rw [lf]
    refine iteF ?_
    walk_at "rd"
    refine r_ixT (SqT.of (s1 _ _ ha)) h0 ?_
    walk_at "rd"
    refine ⟨by simp [sizeLine_eq], fun u2 H2 hu2 s2 e2 => ?_⟩
    refine r_inT (SqT.of e2) rfl rfl (in_btw s) ?_
    walk_at "rd"
    rw [bt]
    refine iteF ?_
    walk_at "rd"
    have s12 := s1.trans s2
    refine r_ixT (SqT.of (s12 _ _ ha)) hy ?_
    walk_at "rd"
    refine ⟨y, t1, rfl, i1.keep s12.keep, by omega, fun H3 s3 => ?_⟩
    walk_at "rd"
    have := q H3 (s12.trans s3)
    rw [hn] at this
    rw [show (1 : Int) + (t1.words : Int) = ((t1.words + 1 : Nat) : Int) by omega]
    exact this

end L2

end

section
-- KcEq
set_option Elab.async false
set_option linter.all false
set_option maxRecDepth 100000
set_option maxHeartbeats 4000000
namespace L2
open PySem PySem.Spec PyProof.Rows
/-! ### data behind a value: lists and tuples to any depth -/
mutual
inductive Dat (K : PySem.W.Frag) (H : Hp) : V → PyData → Prop where
  | non : Dat K H .non .none
  | bl (b : Bool) : Dat K H (.bl b) (.bool b)
  | int (i : Int) : Dat K H (.int i) (.int i)
  | str (x : Str) : Dat K H (.str x) (.str x)
  | lst {a : Addr} {xs : List V} {ds : List PyData} (e : SqL K H a xs) (h : Dats K H xs ds) : Dat K H (.ref a) (.list ds)
  | tup {a : Addr} {xs : List V} {ds : List PyData} (e : SqT K H a xs) (h : Dats K H xs ds) : Dat K H (.ref a) (.tuple ds)
inductive Dats (K : PySem.W.Frag) (H : Hp) : List V → List PyData → Prop where
  | nil : Dats K H [] []
  | cons {x : V} {xs : List V} {d : PyData} {ds : List PyData} (h : Dat K H x d) (t : Dats K H xs ds) : Dats K H (x :: xs) (d :: ds)
end
section
variable {X : Cx} {pins : List (Addr × Obj)} {σ : St} {H : Hp} {s : Shared}
mutual
theorem Dat.reads (I : Inv X pins σ H s) : ∀ {x : V} {d : PyData} {u : Value}, Dat X.K H x d → RelV x u → ∃ as, Reads s.heap u d as
  | _, _, _, .non, r => by cases r; exact ⟨_, .none⟩
  | _, _, _, .bl b, r => by cases r; exact ⟨_, .bool b⟩
  | _, _, _, .int i, r => by obtain ⟨t, rfl⟩ := r; exact ⟨_, .int i t⟩
  | _, _, _, .str x, r => by obtain ⟨t, rfl⟩ := r; exact ⟨_, .str x t⟩
  | _, _, _, .lst e h, r => by
    cases r
    obtain ⟨its, rv, ⟨o, n, h1, h2, h3, h4⟩, _⟩ := I.list e
    obtain ⟨as, ra⟩ := Dats.reads I h rv
    exact ⟨_, .list h1 h2 h4 (by simpa using ra)⟩
  | _, _, _, .tup e h, r => by
    cases r
    obtain ⟨its, rv, ⟨o, h1, h2, n, h3⟩, _⟩ := I.tuple e
    obtain ⟨as, ra⟩ := Dats.reads I h rv
    exact ⟨_, .tuple h1 h2 h3 (by simpa using ra)⟩
theorem Dats.reads (I : Inv X pins σ H s) : ∀ {xs : List V} {ds : List PyData} {us : List Value}, Dats X.K H xs ds → Vals xs us → ∃ as, ReadsAll s.heap us ds as
  | _, _, _, .nil, .nil => ⟨_, .nil⟩
  | _, _, _, .cons h t, .cons r q => by
    obtain ⟨as, ra⟩ := Dat.reads I h r
    obtain ⟨bs, rb⟩ := Dats.reads I t q
    exact ⟨_, .cons ra rb⟩
end
end
noncomputable def rEqD (K : PySem.W.Frag) (neg : Bool) : R2 := fun x y H Q => ∃ d e, Dat K H x d ∧ Dat K H y e ∧ SeqAt.shaped d = true ∧ SeqAt.shaped e = true ∧ Q (.bl (if neg then !PyData.eqv d e else PyData.eqv d e)) H
section
variable {X : Cx}
theorem op_eqD (hu : X.A.units + 64 < cLine) : OpR X (compareOp .Eq) (rEqD X.K false) := by
  intro pins s σ H x y v u Q I rx ry h
  obtain ⟨d, e, hd, he, sd, se, q⟩ := h
  obtain ⟨as, ra⟩ := hd.reads I rx
  obtain ⟨bs, rb⟩ := he.reads I ry
  exact eq_dataH ra rb sd se hu ⟨.bl (PyData.eqv d e), H, I, rfl, q⟩
theorem op_neD (hu : X.A.units + 64 < cLine) : OpR X (compareOp .NotEq) (rEqD X.K true) := by
  intro pins s σ H x y v u Q I rx ry h
  obtain ⟨d, e, hd, he, sd, se, q⟩ := h
  obtain ⟨as, ra⟩ := hd.reads I rx
  obtain ⟨bs, rb⟩ := he.reads I ry
  exact ne_dataH ra rb sd se hu ⟨.bl (!PyData.eqv d e), H, I, rfl, q⟩
end
end L2

end

section
-- KcSyD
set_option Elab.async false
set_option linter.all false
set_option maxRecDepth 100000
set_option maxHeartbeats 4000000
/-! a saying as data, for == -/
namespace L2
open PySem PySem.Spec PyProof.Rows
noncomputable def gdat (g : List Nat) : PyData := .tuple (g.map fun (k : Nat) => .int (k : Int))
noncomputable def Sy.dat : Sy → PyData
  | .holds w c => .tuple [.str "holds", .int w, .int c]
  | .sees k => .tuple [.str "sees", .int k]
  | .not s => .tuple [.str "not", s.dat]
  | .and s t => .tuple [.str "and", s.dat, t.dat]
  | .or s t => .tuple [.str "or", s.dat, t.dat]
  | .knows k s => .tuple [.str "knows", .int k, s.dat]
  | .all g s => .tuple [.str "all", gdat g, s.dat]
  | .common g s => .tuple [.str "common", gdat g, s.dat]
theorem dats_nat {K : PySem.W.Frag} {H : Hp} : ∀ g : List Nat, Dats K H (natV g) (g.map fun (k : Nat) => .int (k : Int))
  | [] => .nil
  | k :: g => .cons (.int _) (dats_nat g)
theorem dat_sy {K : PySem.W.Frag} {H : Hp} : ∀ {s : Sy} {v : V}, IsSy H v s → Dat K H v s.dat
  | .holds w c, _, ⟨a, e, h⟩ => by subst e; exact .tup (SqT.of h) (.cons (.str _) (.cons (.int _) (.cons (.int _) .nil)))
  | .sees k, _, ⟨a, e, h⟩ => by subst e; exact .tup (SqT.of h) (.cons (.str _) (.cons (.int _) .nil))
  | .not s, _, ⟨a, x, e, h, i⟩ => by subst e; exact .tup (SqT.of h) (.cons (.str _) (.cons (dat_sy i) .nil))
  | .and s t, _, ⟨a, x, y, e, h, i, j⟩ => by subst e; exact .tup (SqT.of h) (.cons (.str _) (.cons (dat_sy i) (.cons (dat_sy j) .nil)))
  | .or s t, _, ⟨a, x, y, e, h, i, j⟩ => by subst e; exact .tup (SqT.of h) (.cons (.str _) (.cons (dat_sy i) (.cons (dat_sy j) .nil)))
  | .knows k s, _, ⟨a, x, e, h, i⟩ => by subst e; exact .tup (SqT.of h) (.cons (.str _) (.cons (.int _) (.cons (dat_sy i) .nil)))
  | .all g s, _, ⟨a, b, x, e, h, h2, i⟩ => by subst e; exact .tup (SqT.of h) (.cons (.str _) (.cons (.tup (SqT.of h2) (dats_nat g)) (.cons (dat_sy i) .nil)))
  | .common g s, _, ⟨a, b, x, e, h, h2, i⟩ => by subst e; exact .tup (SqT.of h) (.cons (.str _) (.cons (.tup (SqT.of h2) (dats_nat g)) (.cons (dat_sy i) .nil)))
theorem lay_nat : ∀ g : List Nat, PyData.canLayAll0 (g.map fun (k : Nat) => PyData.int (k : Int)) = true
  | [] => rfl
  | k :: g => by show (true && PyData.canLayAll0 _) = true; rw [lay_nat g]; rfl
theorem lay_sy : ∀ s : Sy, s.dat.canLay0 = true
  | .holds w c => by simp only [Sy.dat, PyData.canLay0, PyData.canLayAll0]; decide +kernel
  | .sees k => by simp only [Sy.dat, PyData.canLay0, PyData.canLayAll0]; decide +kernel
  | .not s => by simp only [Sy.dat, PyData.canLay0, PyData.canLayAll0, lay_sy s]; decide +kernel
  | .and s t => by simp only [Sy.dat, PyData.canLay0, PyData.canLayAll0, lay_sy s, lay_sy t]; decide +kernel
  | .or s t => by simp only [Sy.dat, PyData.canLay0, PyData.canLayAll0, lay_sy s, lay_sy t]; decide +kernel
  | .knows k s => by simp only [Sy.dat, PyData.canLay0, PyData.canLayAll0, lay_sy s]; decide +kernel
  | .all g s => by simp only [Sy.dat, gdat, PyData.canLay0, PyData.canLayAll0, lay_sy s, lay_nat g]; decide +kernel
  | .common g s => by simp only [Sy.dat, gdat, PyData.canLay0, PyData.canLayAll0, lay_sy s, lay_nat g]; decide +kernel
theorem deep_nat : ∀ g : List Nat, PyData.depthAll (g.map fun (k : Nat) => PyData.int (k : Int)) = 0
  | [] => rfl
  | k :: g => by show max 0 (PyData.depthAll _) = 0; rw [deep_nat g]; rfl
theorem deep_sy : ∀ s : Sy, s.dat.depth ≤ s.words + 1
  | .holds w c => by simp [Sy.dat, PyData.depth, PyData.depthAll, Sy.words]
  | .sees k => by simp [Sy.dat, PyData.depth, PyData.depthAll, Sy.words]
  | .not s => by have := deep_sy s; simp [Sy.dat, PyData.depth, PyData.depthAll, Sy.words]; omega
  | .and s t => by have := deep_sy s; have := deep_sy t; simp [Sy.dat, PyData.depth, PyData.depthAll, Sy.words]; omega
  | .or s t => by have := deep_sy s; have := deep_sy t; simp [Sy.dat, PyData.depth, PyData.depthAll, Sy.words]; omega
  | .knows k s => by have := deep_sy s; simp [Sy.dat, PyData.depth, PyData.depthAll, Sy.words]; omega
  | .all g s => by have := deep_sy s; have := s.words_pos; simp [Sy.dat, gdat, PyData.depth, PyData.depthAll, Sy.words, deep_nat]; omega
  | .common g s => by have := deep_sy s; have := s.words_pos; simp [Sy.dat, gdat, PyData.depth, PyData.depthAll, Sy.words, deep_nat]; omega
theorem shaped_sy {s : Sy} (h : s.words ≤ 60) : SeqAt.shaped s.dat = true := by
  unfold SeqAt.shaped
  rw [lay_sy s, decide_eq_true (by have := deep_sy s; omega)]
  rfl
theorem r_neSy {K : PySem.W.Frag} {H : Hp} {Q : VK} {s : Sy} {v w : V} (iv : IsSy H v s) (iw : IsSy H w s) (hs : s.words ≤ 60) (q : Q (.bl false) H) : rEqD K true v w H Q :=
  ⟨_, _, dat_sy iv, dat_sy iw, shaped_sy hs, shaped_sy hs, by rw [SeqAt.eqv_refl _ (lay_sy s)]; exact q⟩
end L2

end

section
-- KcSyE
set_option Elab.async false
set_option linter.all false
set_option maxRecDepth 100000
set_option maxHeartbeats 4000000
namespace L2
open PySem PySem.Spec PyProof.Rows
theorem eqv_t3 {a b c a' b' c' : PyData} (h : PyData.eqv (.tuple [a, b, c]) (.tuple [a', b', c']) = true) : PyData.eqv a a' = true ∧ PyData.eqv b b' = true ∧ PyData.eqv c c' = true := by
  simpa [PyData.eqv, PyData.eqvAll] using h
theorem eqv_t2 {a b a' b' : PyData} (h : PyData.eqv (.tuple [a, b]) (.tuple [a', b']) = true) : PyData.eqv a a' = true ∧ PyData.eqv b b' = true := by
  simpa [PyData.eqv, PyData.eqvAll] using h
theorem eqv_n23 {a b a' b' c' : PyData} (h : PyData.eqv (.tuple [a, b]) (.tuple [a', b', c']) = true) : False := by
  simp [PyData.eqv, PyData.eqvAll] at h
theorem eqv_n32 {a b c a' b' : PyData} (h : PyData.eqv (.tuple [a, b, c]) (.tuple [a', b']) = true) : False := by
  simp [PyData.eqv, PyData.eqvAll] at h
theorem eqv_s {x y : Str} (h : PyData.eqv (.str x) (.str y) = true) : x = y := by
  simpa [PyData.eqv] using h
theorem eqv_i {x y : Nat} (h : PyData.eqv (.int (x : Int)) (.int (y : Int)) = true) : x = y := by
  have : (x : Int) = (y : Int) := by simpa [PyData.eqv] using h
  omega
theorem eqv_all : ∀ {g g' : List Nat}, PyData.eqvAll (g.map fun (k : Nat) => PyData.int (k : Int)) (g'.map fun (k : Nat) => PyData.int (k : Int)) = true → g = g'
  | [], [], _ => rfl
  | [], _ :: _, h => by simp [PyData.eqvAll] at h
  | _ :: _, [], h => by simp [PyData.eqvAll] at h
  | a :: g, b :: g', h => by
    rw [List.map_cons, List.map_cons, PyData.eqvAll, Bool.and_eq_true] at h
    rw [eqv_i h.1, eqv_all h.2]
theorem eqv_g {g g' : List Nat} (h : PyData.eqv (gdat g) (gdat g') = true) : g = g' := by
  unfold gdat at h
  rw [PyData.eqv] at h
  exact eqv_all h
theorem eqv_inj : ∀ s t : Sy, PyData.eqv s.dat t.dat = true → s = t := by
  have w3 : ∀ {x y : Str} {b c b' c' : PyData}, x ≠ y → PyData.eqv (.tuple [.str x, b, c]) (.tuple [.str y, b', c']) = true → False := fun n h => n (eqv_s (eqv_t3 h).1)
  have w2 : ∀ {x y : Str} {b b' : PyData}, x ≠ y → PyData.eqv (.tuple [.str x, b]) (.tuple [.str y, b']) = true → False := fun n h => n (eqv_s (eqv_t2 h).1)
  intro s
  induction s with
  | holds w d =>
    intro t h
    cases t with
    | holds w' d' => obtain ⟨_, h1, h2⟩ := eqv_t3 h; rw [eqv_i h1, eqv_i h2]
    | sees _ => exact (eqv_n32 h).elim
    | not _ => exact (eqv_n32 h).elim
    | _ => exact (w3 (by decide +kernel) h).elim
  | sees k =>
    intro t h
    cases t with
    | sees k' => obtain ⟨_, h1⟩ := eqv_t2 h; rw [eqv_i h1]
    | not _ => exact (w2 (by decide +kernel) h).elim
    | _ => exact (eqv_n23 h).elim
  | not s ih =>
    intro t h
    cases t with
    | not t => obtain ⟨_, h1⟩ := eqv_t2 h; rw [ih t h1]
    | sees _ => exact (w2 (by decide +kernel) h).elim
    | _ => exact (eqv_n23 h).elim
  | and s1 s2 ih1 ih2 =>
    intro t h
    cases t with
    | and t1 t2 => obtain ⟨_, h1, h2⟩ := eqv_t3 h; rw [ih1 t1 h1, ih2 t2 h2]
    | sees _ => exact (eqv_n32 h).elim
    | not _ => exact (eqv_n32 h).elim
    | _ => exact (w3 (by decide +kernel) h).elim
  | or s1 s2 ih1 ih2 =>
    intro t h
    cases t with
    | or t1 t2 => obtain ⟨_, h1, h2⟩ := eqv_t3 h; rw [ih1 t1 h1, ih2 t2 h2]
    | sees _ => exact (eqv_n32 h).elim
    | not _ => exact (eqv_n32 h).elim
    | _ => exact (w3 (by decide +kernel) h).elim
  | knows k s ih =>
    intro t h
    cases t with
    | knows k' t => obtain ⟨_, h1, h2⟩ := eqv_t3 h; rw [eqv_i h1, ih t h2]
    | sees _ => exact (eqv_n32 h).elim
    | not _ => exact (eqv_n32 h).elim
    | _ => exact (w3 (by decide +kernel) h).elim
  | all g s ih =>
    intro t h
    cases t with
    | all g' t => obtain ⟨_, h1, h2⟩ := eqv_t3 h; rw [eqv_g h1, ih t h2]
    | sees _ => exact (eqv_n32 h).elim
    | not _ => exact (eqv_n32 h).elim
    | _ => exact (w3 (by decide +kernel) h).elim
  | common g s ih =>
    intro t h
    cases t with
    | common g' t => obtain ⟨_, h1, h2⟩ := eqv_t3 h; rw [eqv_g h1, ih t h2]
    | sees _ => exact (eqv_n32 h).elim
    | not _ => exact (eqv_n32 h).elim
    | _ => exact (w3 (by decide +kernel) h).elim
open Classical in
theorem r_eqSys {K : PySem.W.Frag} {H : Hp} {Q : VK} {s t : Sy} {v w : V} (iv : IsSy H v s) (iw : IsSy H w t) (hs : s.words ≤ 60) (ht : t.words ≤ 60) (q : ∀ b : Bool, (b = true ↔ s = t) → Q (.bl b) H) : rEqD K false v w H Q :=
  ⟨_, _, dat_sy iv, dat_sy iw, shaped_sy hs, shaped_sy ht, q _ ⟨fun h => eqv_inj s t h, fun h => by subst h; exact SeqAt.eqv_refl _ (lay_sy s)⟩⟩
end L2

end

section
-- KcFit
set_option Elab.async false
set_option linter.all false
set_option maxRecDepth 100000
set_option maxHeartbeats 4000000
/-! a saying of one table at another -/
namespace L2
open PySem PySem.Builtin PySem.Builtin.Str
namespace Sy
end Sy
theorem num_pileF {k : Nat} (hk : k ≤ 12) : num (k : Int) ≠ "pile" := by
  have : ∀ k : Fin 13, num ((k : Nat) : Int) ≠ "pile" := by decide +kernel
  exact this ⟨k, by omega⟩
end L2

end

section
-- KcNam
set_option Elab.async false
set_option linter.all false
set_option maxRecDepth 100000
set_option maxHeartbeats 4000000
/-! one text for each saying; the words named in it -/
namespace L2
open PySem PySem.Builtin PySem.Builtin.Str
theorem num_inj {a b : Nat} (ha : a ≤ 12) (hb : b ≤ 12) (e : num (a : Int) = num (b : Int)) : a = b := by
  have : ∀ a b : Fin 13, num ((a : Nat) : Int) = num ((b : Nat) : Int) → a = b := by decide +kernel
  exact congrArg Fin.val (this ⟨a, by omega⟩ ⟨b, by omega⟩ e)
theorem who_inj {h a b : Nat} (ha : a ≤ 12) (hb : b ≤ 12) (e : who h a = who h b) : a = b := by
  unfold who at e
  by_cases ea : a = h
  · by_cases eb : b = h
    · omega
    · rw [if_pos ea, if_neg eb] at e
      exact absurd e.symm (num_pileF hb)
  · by_cases eb : b = h
    · rw [if_neg ea, if_pos eb] at e
      exact absurd e (num_pileF ha)
    · rw [if_neg ea, if_neg eb] at e
      exact num_inj ha hb e
theorem grp_split {g : List Nat} (hg : ∀ k ∈ g, k ≤ 12) (hn : g ≠ []) : Txt.split (grp g) "," = g.map fun (k : Nat) => num (k : Int) := by
  have n1 : ∀ k : Fin 13, ((num ((k : Nat) : Int)).cps.toList.all fun c => decide (c ≠ 44)) = true := by decide +kernel
  unfold grp
  rw [if_neg hn]
  have e : ("," : Str) = ⟨#[44]⟩ := by decide +kernel
  rw [e]
  refine split_join (by simpa using hn) fun p hp hc => ?_
  obtain ⟨k, hk, rfl⟩ := List.mem_map.mp hp
  exact of_decide_eq_true (List.all_eq_true.mp (n1 ⟨k, by have := hg k hk; omega⟩) _ hc) rfl
theorem map_num_inj : ∀ {g g' : List Nat}, (∀ k ∈ g, k ≤ 12) → (∀ k ∈ g', k ≤ 12) → (g.map fun (k : Nat) => num (k : Int)) = (g'.map fun (k : Nat) => num (k : Int)) → g = g'
  | [], [], _, _, _ => rfl
  | [], _ :: _, _, _, e => by cases e
  | _ :: _, [], _, _, e => by cases e
  | a :: g, b :: g', ha, hb, e => by
    rw [List.map_cons, List.map_cons] at e
    injection e with e1 e2
    rw [num_inj (ha a (by simp)) (hb b (by simp)) e1, map_num_inj (fun k hk => ha k (by simp [hk])) (fun k hk => hb k (by simp [hk])) e2]
theorem dash_split : Txt.split (grp []) "," = [("-" : Str)] := by
  have e : ("," : Str) = ⟨#[44]⟩ := by decide +kernel
  have e2 : grp [] = Str.join ⟨#[44]⟩ [("-" : Str)] := by rw [join1]; rfl
  rw [e, e2]
  exact split_join (by simp) fun p hp => by rw [List.mem_singleton] at hp; subst hp; decide +kernel
theorem num_dash {k : Nat} (hk : k ≤ 12) : num (k : Int) ≠ "-" := by
  have : ∀ k : Fin 13, num ((k : Nat) : Int) ≠ "-" := by decide +kernel
  exact this ⟨k, by omega⟩
theorem grp_inj {g g' : List Nat} (hg : ∀ k ∈ g, k ≤ 12) (hg' : ∀ k ∈ g', k ≤ 12) (e : grp g = grp g') : g = g' := by
  by_cases e1 : g = []
  · by_cases e2 : g' = []
    · rw [e1, e2]
    · have := grp_split hg' e2
      rw [← e, e1, dash_split] at this
      cases g' with
      | nil => exact absurd rfl e2
      | cons k r =>
        rw [List.map_cons] at this
        injection this with z _
        exact absurd z.symm (num_dash (hg' k (by simp)))
  · by_cases e2 : g' = []
    · have := grp_split hg e1
      rw [e, e2, dash_split] at this
      cases g with
      | nil => exact absurd rfl e1
      | cons k r =>
        rw [List.map_cons] at this
        injection this with z _
        exact absurd z.symm (num_dash (hg k (by simp)))
    · have h1 := grp_split hg e1
      rw [e, grp_split hg' e2] at h1
      exact (map_num_inj hg' hg h1).symm
theorem toks_inj {h c : Nat} (h5 : h ≤ 5) (c13 : c ≤ 13) : ∀ (s t : Sy) (a b : List Str), s.Ok c h → t.Ok c h → s.toks h ++ a = t.toks h ++ b → s = t ∧ a = b := by
  have wd : ∀ (x y : Str) (l m : List Str), x :: l = y :: m → x = y ∧ l = m := fun x y l m e => by injection e with e1 e2; exact ⟨e1, e2⟩
  intro s
  induction s with
  | holds w d =>
    intro t a b ok1 ok2 e
    cases t with
    | holds w' d' =>
      obtain ⟨_, e⟩ := wd _ _ _ _ (show ("holds" : Str) :: who h w :: num (d : Int) :: a = ("holds" : Str) :: who h w' :: num (d' : Int) :: b from e)
      obtain ⟨e1, e⟩ := wd _ _ _ _ e
      obtain ⟨e2, e⟩ := wd _ _ _ _ e
      have : w ≤ h := ok1.1
      have : w' ≤ h := ok2.1
      have : d < c := ok1.2
      have : d' < c := ok2.2
      rw [who_inj (by omega) (by omega) e1, num_inj (by omega) (by omega) e2]
      exact ⟨rfl, e⟩
    | _ => exact absurd (wd _ _ _ _ e).1 (by decide +kernel)
  | sees k =>
    intro t a b ok1 ok2 e
    cases t with
    | sees k' =>
      obtain ⟨_, e⟩ := wd _ _ _ _ (show ("sees" : Str) :: num (k : Int) :: a = ("sees" : Str) :: num (k' : Int) :: b from e)
      obtain ⟨e1, e⟩ := wd _ _ _ _ e
      have : k < h := ok1
      have : k' < h := ok2
      rw [num_inj (by omega) (by omega) e1]
      exact ⟨rfl, e⟩
    | _ => exact absurd (wd _ _ _ _ e).1 (by decide +kernel)
  | not s ih =>
    intro t a b ok1 ok2 e
    cases t with
    | not t =>
      obtain ⟨_, e⟩ := wd _ _ _ _ (show ("not" : Str) :: (s.toks h ++ a) = ("not" : Str) :: (t.toks h ++ b) from e)
      obtain ⟨e1, e2⟩ := ih t a b ok1 ok2 e
      rw [e1]; exact ⟨rfl, e2⟩
    | _ => exact absurd (wd _ _ _ _ e).1 (by decide +kernel)
  | and s1 s2 ih1 ih2 =>
    intro t a b ok1 ok2 e
    have sh : ∀ (x y : Sy) (w : Str) (l : List Str), (("(" : Str) :: (x.toks h ++ w :: (y.toks h ++ [(")" : Str)]))) ++ l = ("(" : Str) :: (x.toks h ++ w :: (y.toks h ++ ((")" : Str) :: l))) := fun x y w l => by simp
    cases t with
    | and t1 t2 =>
      obtain ⟨_, e⟩ := wd _ _ _ _ ((sh s1 s2 "and" a).symm.trans (e.trans (sh t1 t2 "and" b)))
      obtain ⟨e1, e⟩ := ih1 t1 _ _ ok1.1 ok2.1 e
      obtain ⟨_, e⟩ := wd _ _ _ _ e
      obtain ⟨e2, e⟩ := ih2 t2 _ _ ok1.2 ok2.2 e
      obtain ⟨_, e⟩ := wd _ _ _ _ e
      rw [e1, e2]; exact ⟨rfl, e⟩
    | or t1 t2 =>
      obtain ⟨_, e⟩ := wd _ _ _ _ ((sh s1 s2 "and" a).symm.trans (e.trans (sh t1 t2 "or" b)))
      obtain ⟨e1, e⟩ := ih1 t1 _ _ ok1.1 ok2.1 e
      exact absurd (wd _ _ _ _ e).1 (by decide +kernel)
    | _ => exact absurd (wd _ _ _ _ e).1 (by decide +kernel)
  | or s1 s2 ih1 ih2 =>
    intro t a b ok1 ok2 e
    have sh : ∀ (x y : Sy) (w : Str) (l : List Str), (("(" : Str) :: (x.toks h ++ w :: (y.toks h ++ [(")" : Str)]))) ++ l = ("(" : Str) :: (x.toks h ++ w :: (y.toks h ++ ((")" : Str) :: l))) := fun x y w l => by simp
    cases t with
    | or t1 t2 =>
      obtain ⟨_, e⟩ := wd _ _ _ _ ((sh s1 s2 "or" a).symm.trans (e.trans (sh t1 t2 "or" b)))
      obtain ⟨e1, e⟩ := ih1 t1 _ _ ok1.1 ok2.1 e
      obtain ⟨_, e⟩ := wd _ _ _ _ e
      obtain ⟨e2, e⟩ := ih2 t2 _ _ ok1.2 ok2.2 e
      obtain ⟨_, e⟩ := wd _ _ _ _ e
      rw [e1, e2]; exact ⟨rfl, e⟩
    | and t1 t2 =>
      obtain ⟨_, e⟩ := wd _ _ _ _ ((sh s1 s2 "or" a).symm.trans (e.trans (sh t1 t2 "and" b)))
      obtain ⟨e1, e⟩ := ih1 t1 _ _ ok1.1 ok2.1 e
      exact absurd (wd _ _ _ _ e).1 (by decide +kernel)
    | _ => exact absurd (wd _ _ _ _ e).1 (by decide +kernel)
  | knows k s ih =>
    intro t a b ok1 ok2 e
    cases t with
    | knows k' t =>
      obtain ⟨_, e⟩ := wd _ _ _ _ (show ("knows" : Str) :: num (k : Int) :: (s.toks h ++ a) = ("knows" : Str) :: num (k' : Int) :: (t.toks h ++ b) from e)
      obtain ⟨e1, e⟩ := wd _ _ _ _ e
      obtain ⟨e2, e⟩ := ih t a b ok1.2 ok2.2 e
      have : k < h := ok1.1
      have : k' < h := ok2.1
      rw [num_inj (by omega) (by omega) e1, e2]
      exact ⟨rfl, e⟩
    | _ => exact absurd (wd _ _ _ _ e).1 (by decide +kernel)
  | all g s ih =>
    intro t a b ok1 ok2 e
    cases t with
    | all g' t =>
      obtain ⟨_, e⟩ := wd _ _ _ _ (show ("all" : Str) :: grp g :: (s.toks h ++ a) = ("all" : Str) :: grp g' :: (t.toks h ++ b) from e)
      obtain ⟨e1, e⟩ := wd _ _ _ _ e
      obtain ⟨e2, e⟩ := ih t a b ok1.2 ok2.2 e
      rw [grp_inj (fun k hk => by have := ok1.1.2 k hk; omega) (fun k hk => by have := ok2.1.2 k hk; omega) e1, e2]
      exact ⟨rfl, e⟩
    | _ => exact absurd (wd _ _ _ _ e).1 (by decide +kernel)
  | common g s ih =>
    intro t a b ok1 ok2 e
    cases t with
    | common g' t =>
      obtain ⟨_, e⟩ := wd _ _ _ _ (show ("common" : Str) :: grp g :: (s.toks h ++ a) = ("common" : Str) :: grp g' :: (t.toks h ++ b) from e)
      obtain ⟨e1, e⟩ := wd _ _ _ _ e
      obtain ⟨e2, e⟩ := ih t a b ok1.2 ok2.2 e
      rw [grp_inj (fun k hk => by have := ok1.1.2 k hk; omega) (fun k hk => by have := ok2.1.2 k hk; omega) e1, e2]
      exact ⟨rfl, e⟩
    | _ => exact absurd (wd _ _ _ _ e).1 (by decide +kernel)
theorem txt_inj {h c : Nat} (h5 : h ≤ 5) (c13 : c ≤ 13) {s t : Sy} (fs : s.Few) (ft : t.Few) (ok1 : s.Ok c h) (ok2 : t.Ok c h) (e : s.txt h = t.txt h) : s = t := by
  have e1 := words_txt (h := h) fs
  rw [e, words_txt (h := h) ft] at e1
  exact (toks_inj h5 c13 s t [] [] ok1 ok2 (by rw [List.append_nil, List.append_nil]; exact e1.symm)).1
/-! the words named -/
noncomputable def cnt : List Str → Nat
  | [] => 0
  | x :: r => (if x ∈ eight then 1 else 0) + cnt r
theorem cnt_app : ∀ a b : List Str, cnt (a ++ b) = cnt a + cnt b
  | [], _ => (Nat.zero_add _).symm
  | x :: a, b => by show _ + cnt (a ++ b) = _; rw [cnt_app a b]; show _ = (_ + cnt a) + _; omega
noncomputable def lastC : List Str → List Str
  | [] => []
  | [x] => [x ++ ")"]
  | x :: y :: r => x :: lastC (y :: r)
theorem lastC_app : ∀ (l : List Str) (x : Str), lastC (l ++ [x]) = l ++ [x ++ ")"]
  | [], _ => rfl
  | [a], _ => rfl
  | a :: b :: l, x => by
    show a :: lastC (b :: l ++ [x]) = _
    rw [lastC_app (b :: l) x]; rfl
noncomputable def Sy.bits (h : Nat) : Sy → List Str
  | .holds w c => ["holds", who h w, num (c : Int)]
  | .sees k => ["sees", num (k : Int)]
  | .not s => "not" :: s.bits h
  | .and s t => s.bits h ++ ("and" : Str) :: lastC (t.bits h)
  | .or s t => s.bits h ++ ("or" : Str) :: lastC (t.bits h)
  | .knows k s => "knows" :: num (k : Int) :: s.bits h
  | .all g s => "all" :: grp g :: s.bits h
  | .common g s => "common" :: grp g :: s.bits h
theorem no8_sgn {x : Str} (h : Sgn x) : x ∉ eight := by
  have no : ∀ y : Str, (y.cps.toList.any fun c => decide (58 ≤ c ∨ c = 40)) = true → x ≠ y := fun y hy e => by
    subst e
    obtain ⟨c, hc, z⟩ := List.any_eq_true.mp hy
    have := h c hc
    have z := of_decide_eq_true z
    omega
  intro hm
  simp only [eight, List.mem_cons, List.not_mem_nil, or_false] at hm
  rcases hm with e | e | e | e | e | e | e | e
  all_goals exact no _ (by decide +kernel) e
theorem no8_close (x : Str) : (x ++ ")" : Str) ∉ eight := by
  have no : ∀ y : Str, (!y.cps.toList.contains 41) = true → (x ++ ")" : Str) ≠ y := fun y hy e => by
    have : 41 ∈ y.cps.toList := by rw [← e, cpsA, close_cps]; simp
    rw [Bool.not_eq_true', List.contains_eq_mem, decide_eq_false_iff_not] at hy
    exact hy this
  intro hm
  simp only [eight, List.mem_cons, List.not_mem_nil, or_false] at hm
  rcases hm with e | e | e | e | e | e | e | e
  all_goals exact no _ (by decide +kernel) e
theorem no8_who {h w : Nat} (hw : w ≤ 12) : who h w ∉ eight := by
  unfold who
  split
  · decide +kernel
  · exact no8_sgn (sgn_num hw)
theorem bits_last (h : Nat) : ∀ s : Sy, s.Few → ∃ l x, s.bits h = l ++ [x] ∧ x ∉ eight
  | .holds w c, f => ⟨["holds", who h w], num (c : Int), rfl, no8_sgn (sgn_num f.2)⟩
  | .sees k, f => ⟨["sees"], num (k : Int), rfl, no8_sgn (sgn_num f)⟩
  | .not s, f => by obtain ⟨l, x, e, n⟩ := bits_last h s f; exact ⟨"not" :: l, x, by show _ :: s.bits h = _; rw [e]; rfl, n⟩
  | .and s t, f => by
    obtain ⟨l, x, e, n⟩ := bits_last h t f.2
    refine ⟨s.bits h ++ ("and" : Str) :: l, x ++ ")", ?_, no8_close x⟩
    show s.bits h ++ ("and" : Str) :: lastC (t.bits h) = _
    rw [e, lastC_app]; simp
  | .or s t, f => by
    obtain ⟨l, x, e, n⟩ := bits_last h t f.2
    refine ⟨s.bits h ++ ("or" : Str) :: l, x ++ ")", ?_, no8_close x⟩
    show s.bits h ++ ("or" : Str) :: lastC (t.bits h) = _
    rw [e, lastC_app]; simp
  | .knows k s, f => by obtain ⟨l, x, e, n⟩ := bits_last h s f.2; exact ⟨"knows" :: num (k : Int) :: l, x, by show _ :: _ :: s.bits h = _; rw [e]; rfl, n⟩
  | .all g s, f => by obtain ⟨l, x, e, n⟩ := bits_last h s f.2; exact ⟨"all" :: grp g :: l, x, by show _ :: _ :: s.bits h = _; rw [e]; rfl, n⟩
  | .common g s, f => by obtain ⟨l, x, e, n⟩ := bits_last h s f.2; exact ⟨"common" :: grp g :: l, x, by show _ :: _ :: s.bits h = _; rw [e]; rfl, n⟩
theorem cnt_lastC {h : Nat} {s : Sy} (f : s.Few) : cnt (lastC (s.bits h)) = cnt (s.bits h) := by
  obtain ⟨l, x, e, n⟩ := bits_last h s f
  rw [e, lastC_app, cnt_app, cnt_app]
  show cnt l + ((if _ then 1 else 0) + 0) = cnt l + ((if _ then 1 else 0) + 0)
  rw [if_neg (no8_close x), if_neg n]
theorem cnt_yes {x : Str} (h : x ∈ eight) (r : List Str) : cnt (x :: r) = cnt r + 1 := by show (if _ then 1 else 0) + _ = _; rw [if_pos h]; omega
theorem cnt_no {x : Str} (h : x ∉ eight) (r : List Str) : cnt (x :: r) = cnt r := by show (if _ then 1 else 0) + _ = _; rw [if_neg h]; omega
theorem cnt_bits (h : Nat) : ∀ s : Sy, s.Few → cnt (s.bits h) = s.words
  | .holds w c, f => by show cnt ["holds", who h w, num (c : Int)] = 1; rw [cnt_yes (x := "holds") (by decide +kernel), cnt_no (no8_who f.1), cnt_no (no8_sgn (sgn_num f.2))]; rfl
  | .sees k, f => by show cnt ["sees", num (k : Int)] = 1; rw [cnt_yes (x := "sees") (by decide +kernel), cnt_no (no8_sgn (sgn_num f))]; rfl
  | .not s, f => by show cnt ("not" :: s.bits h) = s.words + 1; rw [cnt_yes (x := "not") (by decide +kernel), cnt_bits h s f]
  | .and s t, f => by
    show cnt (s.bits h ++ ("and" : Str) :: lastC (t.bits h)) = s.words + t.words + 1
    rw [cnt_app, cnt_yes (x := "and") (by decide +kernel), cnt_lastC f.2, cnt_bits h s f.1, cnt_bits h t f.2]; omega
  | .or s t, f => by
    show cnt (s.bits h ++ ("or" : Str) :: lastC (t.bits h)) = s.words + t.words + 1
    rw [cnt_app, cnt_yes (x := "or") (by decide +kernel), cnt_lastC f.2, cnt_bits h s f.1, cnt_bits h t f.2]; omega
  | .knows k s, f => by show cnt ("knows" :: num (k : Int) :: s.bits h) = s.words + 1; rw [cnt_yes (x := "knows") (by decide +kernel), cnt_no (no8_sgn (sgn_num f.1)), cnt_bits h s f.2]
  | .all g s, f => by show cnt ("all" :: grp g :: s.bits h) = s.words + 1; rw [cnt_yes (x := "all") (by decide +kernel), cnt_no (no8_sgn (sgn_grp f.1)), cnt_bits h s f.2]
  | .common g s, f => by show cnt ("common" :: grp g :: s.bits h) = s.words + 1; rw [cnt_yes (x := "common") (by decide +kernel), cnt_no (no8_sgn (sgn_grp f.1)), cnt_bits h s f.2]
theorem bits_ne {h : Nat} {s : Sy} (f : s.Few) : s.bits h ≠ [] := by
  obtain ⟨l, x, e, _⟩ := bits_last h s f
  rw [e]; simp
theorem join_lastC : ∀ {l : List Str}, l ≠ [] → Str.join " " (lastC l) = Str.join " " l ++ ")"
  | [], h => absurd rfl h
  | [x], _ => by show Str.join " " [x ++ ")"] = _; rw [join1, join1]
  | x :: y :: r, _ => by
    have ih := join_lastC (l := y :: r) (by simp)
    have ne : lastC (y :: r) ≠ [] := by cases r <;> simp [lastC]
    show Str.join " " (x :: lastC (y :: r)) = _
    rw [join_cons _ _ ne, ih, join2, ← sAssoc]
theorem lastC_ne {l : List Str} (h : l ≠ []) : lastC l ≠ [] := by
  cases l with
  | nil => exact absurd rfl h
  | cons x r => cases r <;> simp [lastC]
theorem bits_text (h : Nat) : ∀ s : Sy, s.Few → fm 40 [] (s.txt h).cps.toList = (Str.join " " (s.bits h)).cps.toList := by
  have b32 : fm 40 [] [32] = [32] := rfl
  have b40 : fm 40 [] [40] = [] := rfl
  have b41 : fm 40 [] [41] = [41] := rfl
  have pl : ∀ {x : Str}, PlainW x → fm 40 [] x.cps.toList = x.cps.toList := fun hx => fm_free _ hx.2.1
  have one : ∀ (w x : Str) (l : List Str), PlainW w → l ≠ [] → fm 40 [] x.cps.toList = (Str.join " " l).cps.toList → fm 40 [] (w ++ " " ++ x).cps.toList = (Str.join " " (w :: l)).cps.toList := fun w x l hw hl e => by
    rw [join_cons _ _ hl, cpsA, cpsA, cpsA, cpsA, fm_app, fm_app, pl hw, e, blank_cps, b32]
  have lone : ∀ w : Str, PlainW w → fm 40 [] w.cps.toList = (Str.join " " [w]).cps.toList := fun w hw => by rw [join1, pl hw]
  have br : ∀ (x y w : Str) (l m : List Str), PlainW w → l ≠ [] → m ≠ [] → fm 40 [] x.cps.toList = (Str.join " " l).cps.toList → fm 40 [] y.cps.toList = (Str.join " " m).cps.toList → fm 40 [] (("(" : Str) ++ x ++ (" " : Str) ++ w ++ (" " : Str) ++ y ++ (")" : Str)).cps.toList = (Str.join " " (l ++ w :: lastC m)).cps.toList := fun x y w l m hw hl hm e1 e2 => by
    rw [join_app _ hl (by simp), join_cons _ _ (lastC_ne hm), join_lastC hm]
    simp only [cpsA, fm_app, e1, e2, pl hw, blank_cps, open_cps, close_cps, b32, b40, b41]
    simp
  have W : ∀ w : Str, (!w.cps.toList.contains 32 && !w.cps.toList.contains 40 && !w.cps.toList.contains 41) = true → PlainW w := fun w => plain_of
  intro s
  induction s with
  | holds w c => exact fun f => one _ _ _ (W _ (by decide +kernel)) (by simp) (one _ _ _ (plain_who f.1) (by simp) (lone _ (plain_num f.2)))
  | sees k => exact fun f => one _ _ _ (W _ (by decide +kernel)) (by simp) (lone _ (plain_num f))
  | not s ih => exact fun f => one _ _ _ (W _ (by decide +kernel)) (bits_ne f) (ih f)
  | and s t ih1 ih2 => exact fun f => br _ _ _ _ _ (W _ (by decide +kernel)) (bits_ne f.1) (bits_ne f.2) (ih1 f.1) (ih2 f.2)
  | or s t ih1 ih2 => exact fun f => br _ _ _ _ _ (W _ (by decide +kernel)) (bits_ne f.1) (bits_ne f.2) (ih1 f.1) (ih2 f.2)
  | knows k s ih => exact fun f => one _ _ _ (W _ (by decide +kernel)) (by simp) (one _ _ _ (plain_num f.1) (bits_ne f.2) (ih f.2))
  | all g s ih => exact fun f => one _ _ _ (W _ (by decide +kernel)) (by simp) (one _ _ _ (plain_grp f.1) (bits_ne f.2) (ih f.2))
  | common g s ih => exact fun f => one _ _ _ (W _ (by decide +kernel)) (by simp) (one _ _ _ (plain_grp f.1) (bits_ne f.2) (ih f.2))
theorem lastC_free : ∀ {l : List Str}, (∀ x ∈ l, 32 ∉ x.cps.toList) → ∀ x ∈ lastC l, 32 ∉ x.cps.toList
  | [], _, x, hx => by cases hx
  | [y], h, x, hx => by
    rw [show lastC [y] = [y ++ ")"] from rfl, List.mem_singleton] at hx
    subst hx
    rw [cpsA, close_cps, List.mem_append]
    exact fun z => z.elim (h y (by simp)) (by simp)
  | y :: z :: r, h, x, hx => by
    rcases List.mem_cons.mp (show x ∈ y :: lastC (z :: r) from hx) with rfl | hx
    · exact h x (by simp)
    · exact lastC_free (fun x hx => h x (List.mem_cons_of_mem _ hx)) x hx
theorem bits_free (h : Nat) : ∀ s : Sy, s.Few → ∀ x ∈ s.bits h, 32 ∉ x.cps.toList := by
  have W : ∀ w : Str, (!w.cps.toList.contains 32) = true → 32 ∉ w.cps.toList := fun w h => by
    simpa only [Bool.not_eq_true', List.contains_eq_mem, decide_eq_false_iff_not] using h
  have cons : ∀ {x : Str} {l : List Str}, 32 ∉ x.cps.toList → (∀ y ∈ l, 32 ∉ y.cps.toList) → ∀ y ∈ x :: l, 32 ∉ y.cps.toList := fun hx hl y hy => by
    rcases List.mem_cons.mp hy with rfl | hy
    · exact hx
    · exact hl y hy
  have nil : ∀ y ∈ ([] : List Str), 32 ∉ y.cps.toList := fun y hy => by cases hy
  have app : ∀ {l m : List Str}, (∀ y ∈ l, 32 ∉ y.cps.toList) → (∀ y ∈ m, 32 ∉ y.cps.toList) → ∀ y ∈ l ++ m, 32 ∉ y.cps.toList := fun hl hm y hy => (List.mem_append.mp hy).elim (hl y) (hm y)
  intro s
  induction s with
  | holds w c => exact fun f => cons (W _ (by decide +kernel)) (cons (plain_who f.1).1 (cons (plain_num f.2).1 nil))
  | sees k => exact fun f => cons (W _ (by decide +kernel)) (cons (plain_num f).1 nil)
  | not s ih => exact fun f => cons (W _ (by decide +kernel)) (ih f)
  | and s t ih1 ih2 => exact fun f => app (ih1 f.1) (cons (W _ (by decide +kernel)) (lastC_free (ih2 f.2)))
  | or s t ih1 ih2 => exact fun f => app (ih1 f.1) (cons (W _ (by decide +kernel)) (lastC_free (ih2 f.2)))
  | knows k s ih => exact fun f => cons (W _ (by decide +kernel)) (cons (plain_num f.1).1 (ih f.2))
  | all g s ih => exact fun f => cons (W _ (by decide +kernel)) (cons (plain_grp f.1).1 (ih f.2))
  | common g s ih => exact fun f => cons (W _ (by decide +kernel)) (cons (plain_grp f.1).1 (ih f.2))
theorem bits_txt {h : Nat} {s : Sy} (f : s.Few) : Txt.split (Str.join "" (Txt.split (s.txt h) "(")) " " = s.bits h := by
  have o : ("(" : Str) = ⟨#[40]⟩ := by decide +kernel
  have e0 : ("" : Str).cps.toList = [] := by decide +kernel
  have e : Str.join "" (Txt.split (s.txt h) "(") = Str.join " " (s.bits h) := by
    refine str_ext ?_
    rw [← bits_text h s f, o]
    have := fm_join 40 "" (Txt.split (s.txt h) ⟨#[40]⟩) (StrLaws.split_free _ 40)
    rw [StrLaws.join_split, e0] at this
    exact this.symm
  have b : (" " : Str) = ⟨#[32]⟩ := by decide +kernel
  rw [e, b]
  exact split_join (bits_ne f) (bits_free h s f)
theorem bits_len {h : Nat} : ∀ s : Sy, s.Few → (s.bits h).length ≤ 3 * s.words
  | .holds _ _, _ => Nat.le_refl _
  | .sees _, _ => by simp [Sy.bits, Sy.words]
  | .not s, f => by have := bits_len (h := h) s f; simp only [Sy.bits, Sy.words, List.length_cons]; omega
  | .and s t, f => by
    have := bits_len (h := h) s f.1; have := bits_len (h := h) t f.2
    obtain ⟨l, x, e, _⟩ := bits_last h t f.2
    have : (lastC (t.bits h)).length = (t.bits h).length := by rw [e, lastC_app]; simp
    simp only [Sy.bits, Sy.words, List.length_cons, List.length_append]; omega
  | .or s t, f => by
    have := bits_len (h := h) s f.1; have := bits_len (h := h) t f.2
    obtain ⟨l, x, e, _⟩ := bits_last h t f.2
    have : (lastC (t.bits h)).length = (t.bits h).length := by rw [e, lastC_app]; simp
    simp only [Sy.bits, Sy.words, List.length_cons, List.length_append]; omega
  | .knows _ s, f => by have := bits_len (h := h) s f.2; simp only [Sy.bits, Sy.words, List.length_cons]; omega
  | .all _ s, f => by have := bits_len (h := h) s f.2; simp only [Sy.bits, Sy.words, List.length_cons]; omega
  | .common _ s, f => by have := bits_len (h := h) s f.2; simp only [Sy.bits, Sy.words, List.length_cons]; omega
end L2

end

section
-- KcK13a
set_option Elab.async false
set_option linter.all false
set_option maxRecDepth 100000
set_option maxHeartbeats 4000000
namespace L2
open PySem PyProof.Rows

noncomputable def t__law_stream_q (K : PySem.W.Frag) : TS := (tSeq (tAsg (tOp (rI (fun _ j => 0 < j) fun i j => .int (i % j)) (tVar 0) (tC (.int 2147483629))) (gName 2))
  (tSeq (tAsg (mLst tNil) (gName 3))
  (tSeq (tFor (iRng1 (tCons (tVar 1) tNil)) (gName 4) (tSeq (tAsg (tOp (rI (fun _ j => 0 < j) fun i j => .int (i % j)) (tOp (rI0 fun i j => .int (i + j)) (tOp (rI0 fun i j => .int (i + j)) (tOp (rI0 fun i j => .int (i + j)) (tOp (rI IntMulOk fun i j => .int (i * j)) (tVar 2) (tVar 2)) (tOp (rI IntMulOk fun i j => .int (i * j)) (tC (.int 48271)) (tVar 2))) (tOp (rI IntMulOk fun i j => .int (i * j)) (tC (.int 59)) (tVar 4))) (tC (.int 4))) (tC (.int 2147483647))) (gName 2))
  (tDrop (tBM K "list" rAppend (tVar 3) (tCons (tOp (rI CDiv fun i j => .int (i / j)) (tVar 2) (tC (.int 3))) tNil)))))
  (tRet (tVar 3)))))
noncomputable abbrev N__law_stream_q : List Str := ["_law_cell", "_law_many", "_law_number", "_law_found", "_law_k"]
noncomputable def sp__law_stream_q (K : PySem.W.Frag) : Sp := sp__law_stream K
theorem len__law_stream_q {K : PySem.W.Frag} {vs : List V} {H : Hp} {Q : VK} {E : XK} (h : sp__law_stream_q K vs H Q E) : vs.length = 2 := by
  obtain ⟨c, m, rfl, hm, q⟩ := h
  rfl
theorem rd__law_stream_q {K : PySem.W.Frag} {vs : List V} {H : Hp} {Q : VK} {E : XK} (h : sp__law_stream_q K vs H Q E) : t__law_stream_q K { nx := fun _ H' => Q .non H', rt := Q } (start N__law_stream_q vs) H := by
  obtain ⟨c, m, rfl, hm, q⟩ := h
  show t__law_stream_q K _ [some _, some _, none, none, none] _
  unfold t__law_stream_q
  walk_at "rd"
  refine ⟨by simp [sizeLine_eq], fun p H1 hp s1 e1 => ?_⟩
  walk_at "rd"
  refine lp_range m (by omega) (by omega) (by omega) (fun i σ H2 => ∃ (z : Int) (ms : List Int) (st : Option V), σ = [some (.int c), some (.int m), some (.int z), some (.ref p), st] ∧ 0 ≤ z ∧ z < 2147483648 ∧ Same H H2 ∧ H2 p = some (.lst (ms.map V.int)) ∧ ms.length = i) ⟨_, [], none, rfl, by omega, by omega, s1, e1, rfl⟩ ?_ ?_
  · rintro i σ H2 hi ⟨z, ms, st, rfl, h0, h1, s2, e2, hl⟩
    walk_at "rd"
    refine ⟨r_tyL e2, ?_⟩
    walk_at "rd"
    refine r_append e2 (by rw [List.length_map, sizeLine_eq]; omega) fun H3 o3 e3 => ?_
    refine ⟨_, ms ++ [(z * z + 48271 * z + 59 * (i : Int) + 4) % 2147483647 / 3], _, rfl, by omega, by omega, s2.off hp o3, ?_, by rw [List.length_append, hl]; rfl⟩
    rw [e3, List.map_append]
    rfl
  · rintro σ H2 ⟨z, ms, st, rfl, h0, h1, s2, e2, hl⟩
    walk_at "rd"
    exact q p ms H2 s2 hp e2 hl
/-! ### one word exchanged -/
noncomputable def sp__law_exchanged (_ : PySem.W.Frag) : Sp := fun vs H Q _ => ∃ (v : V) (s : Sy) (c h : Nat) (z : Int), vs = [v, .int c, .int h, .int z] ∧ IsSy H v s ∧ s.Ok c h ∧ 1 ≤ h ∧ h ≤ 5 ∧ ∀ (v' : V) (s' : Sy) (H' : Hp), Same H H' → IsSy H' v' s' → s'.Ok c h → s'.words = s.words → Q v' H'
noncomputable def t__law_exchanged (K : PySem.W.Frag) : TS := (tSeq (tIfS (tTest (tOp rEq (tOp (rIxT K) (tVar 0) (tC (.int 0))) (tC (.str "holds")))) (tSeq (tIfS (tAnd (tTest (tOp rEq (tOp (rI (fun _ j => 0 < j) fun i j => .int (i % j)) (tVar 3) (tC (.int 2))) (tC (.int 1)))) (tTest (tOp (rI0 fun i j => .bl (decide (j < i))) (tVar 1) (tC (.int 1))))) (tRet (mTup (tCons (tC (.str "holds")) (tCons (tOp (rIxT K) (tVar 0) (tC (.int 1))) (tCons (tOp (rI (fun _ j => 0 < j) fun i j => .int (i % j)) (tOp (rI0 fun i j => .int (i + j)) (tOp (rIxT K) (tVar 0) (tC (.int 2))) (tC (.int 1))) (tVar 1)) tNil))))) tNext)
  (tRet (mTup (tCons (tC (.str "holds")) (tCons (tOp (rI (fun _ j => 0 < j) fun i j => .int (i % j)) (tOp (rI0 fun i j => .int (i + j)) (tOp (rIxT K) (tVar 0) (tC (.int 1))) (tC (.int 1))) (tOp (rI0 fun i j => .int (i + j)) (tVar 2) (tC (.int 1)))) (tCons (tOp (rIxT K) (tVar 0) (tC (.int 2))) tNil)))))) tNext)
  (tSeq (tIfS (tTest (tOp rEq (tOp (rIxT K) (tVar 0) (tC (.int 0))) (tC (.str "sees")))) (tRet (mTup (tCons (tC (.str "sees")) (tCons (tOp (rI (fun _ j => 0 < j) fun i j => .int (i % j)) (tOp (rI0 fun i j => .int (i + j)) (tOp (rIxT K) (tVar 0) (tC (.int 1))) (tC (.int 1))) (tVar 2)) tNil)))) tNext)
  (tSeq (tIfS (tTest (tOp (rIn K false) (tOp (rIxT K) (tVar 0) (tC (.int 0))) (mTup (tCons (tC (.str "and")) (tCons (tC (.str "or")) tNil))))) (tSeq (tIfS (tTest (tOp rEq (tOp (rI (fun _ j => 0 < j) fun i j => .int (i % j)) (tVar 3) (tC (.int 2))) (tC (.int 1)))) (tRet (mTup (tCons (tOp (rIxT K) (tVar 0) (tC (.int 0))) (tCons (tOp (rIxT K) (tVar 0) (tC (.int 2))) (tCons (tOp (rIxT K) (tVar 0) (tC (.int 1))) tNil))))) tNext)
  (tRet (mTup (tCons (tOp (rIxL K) (mLst (tCons (tC (.str "and")) (tCons (tC (.str "or")) tNil))) (tCB cInt (tCons (tOp rEq (tOp (rIxT K) (tVar 0) (tC (.int 0))) (tC (.str "and"))) tNil))) (tCons (tOp (rIxT K) (tVar 0) (tC (.int 1))) (tCons (tOp (rIxT K) (tVar 0) (tC (.int 2))) tNil)))))) tNext)
  (tSeq (tIfS (tTest (tOp rEq (tOp (rIxT K) (tVar 0) (tC (.int 0))) (tC (.str "not")))) (tRet (mTup (tCons (tC (.str "knows")) (tCons (tOp (rI (fun _ j => 0 < j) fun i j => .int (i % j)) (tVar 3) (tVar 2)) (tCons (tOp (rIxT K) (tVar 0) (tC (.int 1))) tNil))))) tNext)
  (tSeq (tIfS (tTest (tOp rEq (tOp (rIxT K) (tVar 0) (tC (.int 0))) (tC (.str "knows")))) (tRet (tOp (rIxL K) (mLst (tCons (mTup (tCons (tC (.str "not")) (tCons (tOp (rIxT K) (tVar 0) (tC (.int 2))) tNil))) (tCons (mTup (tCons (tC (.str "knows")) (tCons (tOp (rI (fun _ j => 0 < j) fun i j => .int (i % j)) (tOp (rI0 fun i j => .int (i + j)) (tOp (rIxT K) (tVar 0) (tC (.int 1))) (tC (.int 1))) (tVar 2)) (tCons (tOp (rIxT K) (tVar 0) (tC (.int 2))) tNil)))) tNil))) (tOp (rI (fun _ j => 0 < j) fun i j => .int (i % j)) (tVar 3) (tC (.int 2))))) tNext)
  (tSeq (tIfS (tTest (tOp rEq (tOp (rI (fun _ j => 0 < j) fun i j => .int (i % j)) (tVar 3) (tC (.int 2))) (tC (.int 1)))) (tRet (mTup (tCons (tOp (rIxL K) (mLst (tCons (tC (.str "all")) (tCons (tC (.str "common")) tNil))) (tCB cInt (tCons (tOp rEq (tOp (rIxT K) (tVar 0) (tC (.int 0))) (tC (.str "all"))) tNil))) (tCons (tOp (rIxT K) (tVar 0) (tC (.int 1))) (tCons (tOp (rIxT K) (tVar 0) (tC (.int 2))) tNil))))) tNext)
  (tRet (mTup (tCons (tOp (rIxT K) (tVar 0) (tC (.int 0))) (tCons (tCall (sp__law_group K) [] E0 (tCons (tOp (rI CDiv fun i j => .int (i / j)) (tVar 3) (tC (.int 2))) (tCons (tVar 2) tNil))) (tCons (tOp (rIxT K) (tVar 0) (tC (.int 2))) tNil)))))))))))
theorem len__law_exchanged {K : PySem.W.Frag} {vs : List V} {H : Hp} {Q : VK} {E : XK} (h : sp__law_exchanged K vs H Q E) : vs.length = 4 := by
  obtain ⟨v, s, c, h, z, rfl, is, ok, h1, h5, q⟩ := h
  rfl
theorem rd__law_exchanged {K : PySem.W.Frag} {vs : List V} {H : Hp} {Q : VK} {E : XK} (h : sp__law_exchanged K vs H Q E) : t__law_exchanged K { nx := fun _ H' => Q .non H', rt := Q } (start ["_law_one", "_law_cards", "_law_hands", "_law_number"] vs) H := by
  obtain ⟨v, s, c, h, z, rfl, is, ok, h1, h5, q⟩ := h
  show t__law_exchanged K _ [some _, some _, some _, some _] _
  unfold t__law_exchanged
  have par : z % 2 = 0 ∨ z % 2 = 1 := by omega
  walk_at "rd"
  cases s with
  | holds w d =>
    obtain ⟨a, rfl, ha⟩ := is
    have hw : w ≤ h := ok.1
    have hd : d < c := ok.2
    refine r_ixT (SqT.of ha) (at_zero _ _) ?_
    walk_at "rd"
    refine ite_dec (fun _ => ?_) (fun c => absurd rfl c)
    walk_at "rd"
    have oth : ∃ k : Nat, ((w : Int) + 1) % ((h : Int) + 1) = (k : Int) ∧ k ≤ h := by
      obtain ⟨k, hk, hk2⟩ := emodN ((w : Int) + 1) (m := (h : Int) + 1) (by omega)
      exact ⟨k, hk, by omega⟩
    obtain ⟨k, hk, hkh⟩ := oth
    refine ite_dec (fun c2 => ?_) (fun c2 => ?_)
    · walk_at "rd"
      refine ite_dec (fun c3 => ?_) (fun c3 => ?_)
      · walk_at "rd"
        refine r_ixT (SqT.of ha) (ax_one _ _ _) ?_
        walk_at "rd"
        refine r_ixT (SqT.of ha) (ax_two _ _ _ _) ?_
        walk_at "rd"
        obtain ⟨j, hj, hj2⟩ := emodN ((d : Int) + 1) (m := (c : Int)) (by omega)
        rw [hj]
        exact ⟨by simp [sizeLine_eq], fun p H1 hp s1 e1 => q _ (.holds w j) H1 s1 ⟨p, rfl, e1⟩ ⟨hw, by omega⟩ rfl⟩
      · walk_at "rd"
        refine r_ixT (SqT.of ha) (ax_one _ _ _) ?_
        walk_at "rd"
        rw [hk]
        refine r_ixT (SqT.of ha) (ax_two _ _ _ _) ?_
        walk_at "rd"
        exact ⟨by simp [sizeLine_eq], fun p H1 hp s1 e1 => q _ (.holds k d) H1 s1 ⟨p, rfl, e1⟩ ⟨hkh, hd⟩ rfl⟩
    · walk_at "rd"
      refine r_ixT (SqT.of ha) (ax_one _ _ _) ?_
      walk_at "rd"
      rw [hk]
      refine r_ixT (SqT.of ha) (ax_two _ _ _ _) ?_
      walk_at "rd"
      exact ⟨by simp [sizeLine_eq], fun p H1 hp s1 e1 => q _ (.holds k d) H1 s1 ⟨p, rfl, e1⟩ ⟨hkh, hd⟩ rfl⟩
  | sees k =>
    obtain ⟨a, rfl, ha⟩ := is
    refine r_ixT (SqT.of ha) (at_zero _ _) ?_
    walk_at "rd"
    refine ite_dec (fun c => absurd c (by decide +kernel)) (fun _ => ?_)
    walk_at "rd"
    refine r_ixT (SqT.of ha) (at_zero _ _) ?_
    walk_at "rd"
    refine ite_dec (fun _ => ?_) (fun c => absurd rfl c)
    walk_at "rd"
    refine r_ixT (SqT.of ha) (ax_one _ _ _) ?_
    walk_at "rd"
    obtain ⟨j, hj, hj2⟩ := emodN ((k : Int) + 1) (m := (h : Int)) (by omega)
    rw [hj]
    exact ⟨by simp [sizeLine_eq], fun p H1 hp s1 e1 => q _ (.sees j) H1 s1 ⟨p, rfl, e1⟩ (show j < h by omega) rfl⟩
  | and s t =>
    obtain ⟨a, x, y, rfl, ha, ix, iy⟩ := is
    refine r_ixT (SqT.of ha) (at_zero _ _) ?_
    walk_at "rd"
    refine ite_dec (fun c => absurd c (by decide +kernel)) (fun _ => ?_)
    walk_at "rd"
    refine r_ixT (SqT.of ha) (at_zero _ _) ?_
    walk_at "rd"
    refine ite_dec (fun c => absurd c (by decide +kernel)) (fun _ => ?_)
    walk_at "rd"
    refine r_ixT (SqT.of ha) (at_zero _ _) ?_
    walk_at "rd"
    refine ⟨by simp [sizeLine_eq], fun u H1 hu s1 e1 => ?_⟩
    refine r_inT (c := true) (SqT.of e1) rfl rfl rfl ?_
    walk_at "rd"
    have ha1 := s1 _ _ ha
    have ix1 := ix.keep s1.keep
    have iy1 := iy.keep s1.keep
    refine ite_dec (fun c2 => ?_) (fun c2 => ?_)
    · walk_at "rd"
      refine r_ixT (SqT.of ha1) (at_zero _ _) ?_
      walk_at "rd"
      refine r_ixT (SqT.of ha1) (ax_two _ _ _ _) ?_
      walk_at "rd"
      refine r_ixT (SqT.of ha1) (ax_one _ _ _) ?_
      walk_at "rd"
      exact ⟨by simp [sizeLine_eq], fun p H2 hp s2 e2 => q _ (.and t s) H2 (s1.trans s2) ⟨p, y, x, rfl, e2, iy1.keep s2.keep, ix1.keep s2.keep⟩ ⟨ok.2, ok.1⟩ (by simp only [Sy.words]; omega)⟩
    · walk_at "rd"
      refine ⟨by simp [sizeLine_eq], fun u2 H2 hu2 s2 e2 => ?_⟩
      walk_at "rd"
      refine r_ixT (SqT.of (s2 _ _ ha1)) (at_zero _ _) ?_
      walk_at "rd"
      rw [decide_eq_true rfl]
      refine r_ixL (SqL.of e2) (ax_one _ _ _) ?_
      walk_at "rd"
      refine r_ixT (SqT.of (s2 _ _ ha1)) (ax_one _ _ _) ?_
      walk_at "rd"
      refine r_ixT (SqT.of (s2 _ _ ha1)) (ax_two _ _ _ _) ?_
      walk_at "rd"
      exact ⟨by simp [sizeLine_eq], fun p H3 hp s3 e3 => q _ (.or s t) H3 ((s1.trans s2).trans s3) ⟨p, x, y, rfl, e3, ix1.keep (s2.trans s3).keep, iy1.keep (s2.trans s3).keep⟩ ok rfl⟩
  | or s t =>
    obtain ⟨a, x, y, rfl, ha, ix, iy⟩ := is
    refine r_ixT (SqT.of ha) (at_zero _ _) ?_
    walk_at "rd"
    refine ite_dec (fun c => absurd c (by decide +kernel)) (fun _ => ?_)
    walk_at "rd"
    refine r_ixT (SqT.of ha) (at_zero _ _) ?_
    walk_at "rd"
    refine ite_dec (fun c => absurd c (by decide +kernel)) (fun _ => ?_)
    walk_at "rd"
    refine r_ixT (SqT.of ha) (at_zero _ _) ?_
    walk_at "rd"
    refine ⟨by simp [sizeLine_eq], fun u H1 hu s1 e1 => ?_⟩
    refine r_inT (c := true) (SqT.of e1) rfl rfl rfl ?_
    walk_at "rd"
    have ha1 := s1 _ _ ha
    have ix1 := ix.keep s1.keep
    have iy1 := iy.keep s1.keep
    refine ite_dec (fun c2 => ?_) (fun c2 => ?_)
    · walk_at "rd"
      refine r_ixT (SqT.of ha1) (at_zero _ _) ?_
      walk_at "rd"
      refine r_ixT (SqT.of ha1) (ax_two _ _ _ _) ?_
      walk_at "rd"
      refine r_ixT (SqT.of ha1) (ax_one _ _ _) ?_
      walk_at "rd"
      exact ⟨by simp [sizeLine_eq], fun p H2 hp s2 e2 => q _ (.or t s) H2 (s1.trans s2) ⟨p, y, x, rfl, e2, iy1.keep s2.keep, ix1.keep s2.keep⟩ ⟨ok.2, ok.1⟩ (by simp only [Sy.words]; omega)⟩
    · walk_at "rd"
      refine ⟨by simp [sizeLine_eq], fun u2 H2 hu2 s2 e2 => ?_⟩
      walk_at "rd"
      refine r_ixT (SqT.of (s2 _ _ ha1)) (at_zero _ _) ?_
      walk_at "rd"
      rw [decide_eq_false (show ¬ (("or" : Str) = "and") by decide +kernel)]
      refine r_ixL (SqL.of e2) (at_zero _ _) ?_
      walk_at "rd"
      refine r_ixT (SqT.of (s2 _ _ ha1)) (ax_one _ _ _) ?_
      walk_at "rd"
      refine r_ixT (SqT.of (s2 _ _ ha1)) (ax_two _ _ _ _) ?_
      walk_at "rd"
      exact ⟨by simp [sizeLine_eq], fun p H3 hp s3 e3 => q _ (.and s t) H3 ((s1.trans s2).trans s3) ⟨p, x, y, rfl, e3, ix1.keep (s2.trans s3).keep, iy1.keep (s2.trans s3).keep⟩ ok rfl⟩
  | not s =>
    obtain ⟨a, x, rfl, ha, ix⟩ := is
    refine r_ixT (SqT.of ha) (at_zero _ _) ?_
    walk_at "rd"
    refine ite_dec (fun c => absurd c (by decide +kernel)) (fun _ => ?_)
    walk_at "rd"
    refine r_ixT (SqT.of ha) (at_zero _ _) ?_
    walk_at "rd"
    refine ite_dec (fun c => absurd c (by decide +kernel)) (fun _ => ?_)
    walk_at "rd"
    refine r_ixT (SqT.of ha) (at_zero _ _) ?_
    walk_at "rd"
    refine ⟨by simp [sizeLine_eq], fun u H1 hu s1 e1 => ?_⟩
    refine r_inT (c := false) (SqT.of e1) rfl rfl rfl ?_
    walk_at "rd"
    have ha1 := s1 _ _ ha
    have ix1 := ix.keep s1.keep
    refine r_ixT (SqT.of ha1) (at_zero _ _) ?_
    walk_at "rd"
    refine ite_dec (fun _ => ?_) (fun c => absurd rfl c)
    walk_at "rd"
    obtain ⟨j, hj, hj2⟩ := emodN z (m := (h : Int)) (by omega)
    rw [hj]
    refine r_ixT (SqT.of ha1) (ax_one _ _ _) ?_
    walk_at "rd"
    exact ⟨by simp [sizeLine_eq], fun p H2 hp s2 e2 => q _ (.knows j s) H2 (s1.trans s2) ⟨p, x, rfl, e2, ix1.keep s2.keep⟩ ⟨by omega, ok⟩ rfl⟩
  | knows k s =>
    obtain ⟨a, x, rfl, ha, ix⟩ := is
    refine r_ixT (SqT.of ha) (at_zero _ _) ?_
    walk_at "rd"
    refine ite_dec (fun c => absurd c (by decide +kernel)) (fun _ => ?_)
    walk_at "rd"
    refine r_ixT (SqT.of ha) (at_zero _ _) ?_
    walk_at "rd"
    refine ite_dec (fun c => absurd c (by decide +kernel)) (fun _ => ?_)
    walk_at "rd"
    refine r_ixT (SqT.of ha) (at_zero _ _) ?_
    walk_at "rd"
    refine ⟨by simp [sizeLine_eq], fun u H1 hu s1 e1 => ?_⟩
    refine r_inT (c := false) (SqT.of e1) rfl rfl rfl ?_
    walk_at "rd"
    have ha1 := s1 _ _ ha
    have ix1 := ix.keep s1.keep
    refine r_ixT (SqT.of ha1) (at_zero _ _) ?_
    walk_at "rd"
    refine ite_dec (fun c => absurd c (by decide +kernel)) (fun _ => ?_)
    walk_at "rd"
    refine r_ixT (SqT.of ha1) (at_zero _ _) ?_
    walk_at "rd"
    refine ite_dec (fun _ => ?_) (fun c => absurd rfl c)
    walk_at "rd"
    refine r_ixT (SqT.of ha1) (ax_two _ _ _ _) ?_
    walk_at "rd"
    refine ⟨by simp [sizeLine_eq], fun u2 H2 hu2 s2 e2 => ?_⟩
    walk_at "rd"
    refine r_ixT (SqT.of (s2 _ _ ha1)) (ax_one _ _ _) ?_
    walk_at "rd"
    obtain ⟨j, hj, hj2⟩ := emodN ((k : Int) + 1) (m := (h : Int)) (by omega)
    rw [hj]
    refine r_ixT (SqT.of (s2 _ _ ha1)) (ax_two _ _ _ _) ?_
    walk_at "rd"
    refine ⟨by simp [sizeLine_eq], fun u3 H3 hu3 s3 e3 => ?_⟩
    walk_at "rd"
    refine ⟨by simp [sizeLine_eq], fun u4 H4 hu4 s4 e4 => ?_⟩
    walk_at "rd"
    have s34 := s3.trans s4
    have s14 := (s1.trans s2).trans s34
    rcases par with e | e
    · rw [e]
      refine r_ixL (SqL.of e4) (at_zero _ _) ?_
      exact q _ (.not s) H4 s14 ⟨u2, x, rfl, s34 _ _ e2, ix1.keep (s2.trans s34).keep⟩ ok.2 rfl
    · rw [e]
      refine r_ixL (SqL.of e4) (ax_one _ _ _) ?_
      exact q _ (.knows j s) H4 s14 ⟨u3, x, rfl, s4 _ _ e3, ix1.keep (s2.trans s34).keep⟩ ⟨by omega, ok.2⟩ rfl
  | all g s =>
    obtain ⟨a, b, x, rfl, ha, hb, ix⟩ := is
    refine r_ixT (SqT.of ha) (at_zero _ _) ?_
    walk_at "rd"
    refine ite_dec (fun c => absurd c (by decide +kernel)) (fun _ => ?_)
    walk_at "rd"
    refine r_ixT (SqT.of ha) (at_zero _ _) ?_
    walk_at "rd"
    refine ite_dec (fun c => absurd c (by decide +kernel)) (fun _ => ?_)
    walk_at "rd"
    refine r_ixT (SqT.of ha) (at_zero _ _) ?_
    walk_at "rd"
    refine ⟨by simp [sizeLine_eq], fun u H1 hu s1 e1 => ?_⟩
    refine r_inT (c := false) (SqT.of e1) rfl rfl rfl ?_
    walk_at "rd"
    have ha1 := s1 _ _ ha
    have ix1 := ix.keep s1.keep
    refine r_ixT (SqT.of ha1) (at_zero _ _) ?_
    walk_at "rd"
    refine ite_dec (fun c => absurd c (by decide +kernel)) (fun _ => ?_)
    walk_at "rd"
    refine r_ixT (SqT.of ha1) (at_zero _ _) ?_
    walk_at "rd"
    refine ite_dec (fun c => absurd c (by decide +kernel)) (fun _ => ?_)
    walk_at "rd"
    refine ite_dec (fun c2 => ?_) (fun c2 => ?_)
    · walk_at "rd"
      refine ⟨by simp [sizeLine_eq], fun u2 H2 hu2 s2 e2 => ?_⟩
      walk_at "rd"
      refine r_ixT (SqT.of (s2 _ _ ha1)) (at_zero _ _) ?_
      walk_at "rd"
      rw [decide_eq_true rfl]
      refine r_ixL (SqL.of e2) (ax_one _ _ _) ?_
      walk_at "rd"
      refine r_ixT (SqT.of (s2 _ _ ha1)) (ax_one _ _ _) ?_
      walk_at "rd"
      refine r_ixT (SqT.of (s2 _ _ ha1)) (ax_two _ _ _ _) ?_
      walk_at "rd"
      exact ⟨by simp [sizeLine_eq], fun p H3 hp s3 e3 => q _ (.common g s) H3 ((s1.trans s2).trans s3) ⟨p, b, x, rfl, e3, ((s1.trans s2).trans s3) _ _ hb, ix1.keep (s2.trans s3).keep⟩ ok rfl⟩
    · walk_at "rd"
      refine r_ixT (SqT.of ha1) (at_zero _ _) ?_
      walk_at "rd"
      refine ⟨z / 2, h, rfl, h5, fun b2 gs H2 s2 e2 pw hbd => ?_⟩
      walk_at "rd"
      refine r_ixT (SqT.of (s2 _ _ ha1)) (ax_two _ _ _ _) ?_
      walk_at "rd"
      exact ⟨by simp [sizeLine_eq], fun p H3 hp s3 e3 => q _ (.all gs s) H3 ((s1.trans s2).trans s3) ⟨p, b2, x, rfl, e3, s3 _ _ e2, ix1.keep (s2.trans s3).keep⟩ ⟨⟨pw, hbd⟩, ok.2⟩ rfl⟩
  | common g s =>
    obtain ⟨a, b, x, rfl, ha, hb, ix⟩ := is
    refine r_ixT (SqT.of ha) (at_zero _ _) ?_
    walk_at "rd"
    refine ite_dec (fun c => absurd c (by decide +kernel)) (fun _ => ?_)
    walk_at "rd"
    refine r_ixT (SqT.of ha) (at_zero _ _) ?_
    walk_at "rd"
    refine ite_dec (fun c => absurd c (by decide +kernel)) (fun _ => ?_)
    walk_at "rd"
    refine r_ixT (SqT.of ha) (at_zero _ _) ?_
    walk_at "rd"
    refine ⟨by simp [sizeLine_eq], fun u H1 hu s1 e1 => ?_⟩
    refine r_inT (c := false) (SqT.of e1) rfl rfl rfl ?_
    walk_at "rd"
    have ha1 := s1 _ _ ha
    have ix1 := ix.keep s1.keep
    refine r_ixT (SqT.of ha1) (at_zero _ _) ?_
    walk_at "rd"
    refine ite_dec (fun c => absurd c (by decide +kernel)) (fun _ => ?_)
    walk_at "rd"
    refine r_ixT (SqT.of ha1) (at_zero _ _) ?_
    walk_at "rd"
    refine ite_dec (fun c => absurd c (by decide +kernel)) (fun _ => ?_)
    walk_at "rd"
    refine ite_dec (fun c2 => ?_) (fun c2 => ?_)
    · walk_at "rd"
      refine ⟨by simp [sizeLine_eq], fun u2 H2 hu2 s2 e2 => ?_⟩
      walk_at "rd"
      refine r_ixT (SqT.of (s2 _ _ ha1)) (at_zero _ _) ?_
      walk_at "rd"
      rw [decide_eq_false (show ¬ (("common" : Str) = "all") by decide +kernel)]
      refine r_ixL (SqL.of e2) (at_zero _ _) ?_
      walk_at "rd"
      refine r_ixT (SqT.of (s2 _ _ ha1)) (ax_one _ _ _) ?_
      walk_at "rd"
      refine r_ixT (SqT.of (s2 _ _ ha1)) (ax_two _ _ _ _) ?_
      walk_at "rd"
      exact ⟨by simp [sizeLine_eq], fun p H3 hp s3 e3 => q _ (.all g s) H3 ((s1.trans s2).trans s3) ⟨p, b, x, rfl, e3, ((s1.trans s2).trans s3) _ _ hb, ix1.keep (s2.trans s3).keep⟩ ok rfl⟩
    · walk_at "rd"
      refine r_ixT (SqT.of ha1) (at_zero _ _) ?_
      walk_at "rd"
      refine ⟨z / 2, h, rfl, h5, fun b2 gs H2 s2 e2 pw hbd => ?_⟩
      walk_at "rd"
      refine r_ixT (SqT.of (s2 _ _ ha1)) (ax_two _ _ _ _) ?_
      walk_at "rd"
      exact ⟨by simp [sizeLine_eq], fun p H3 hp s3 e3 => q _ (.common gs s) H3 ((s1.trans s2).trans s3) ⟨p, b2, x, rfl, e3, s3 _ _ e2, ix1.keep (s2.trans s3).keep⟩ ⟨⟨pw, hbd⟩, ok.2⟩ rfl⟩

end L2

end

section
-- KcJnR
set_option Elab.async false
set_option linter.all false
set_option maxRecDepth 100000
set_option maxHeartbeats 4000000
namespace L2
open PySem PySem.Builtin PySem.Builtin.Str
noncomputable def rJoinB : V → List V → Hp → VK → Prop := fun x vs H Q => ∃ (sep : Str) (p : Addr) (zs : List Str) (B : Nat), x = .str sep ∧ vs = [.ref p] ∧ H p = some (.lst (zs.map V.str)) ∧ (∀ y ∈ zs, y.length ≤ B) ∧ zs.length * B + zs.length * sep.length ≤ 16777216 ∧ Q (.str (Str.join sep zs)) H
theorem join_parts (c : Nat) : ∀ ps : List Str, ps ≠ [] → ps.length ≤ (Str.join ⟨#[c]⟩ ps).length + 1 ∧ ∀ p ∈ ps, p.length ≤ (Str.join ⟨#[c]⟩ ps).length
  | [], h => absurd rfl h
  | [a], _ => by rw [join1]; exact ⟨by simp, fun p hp => by rw [List.mem_singleton] at hp; subst hp; exact Nat.le_refl _⟩
  | a :: b :: r, _ => by
    obtain ⟨h1, h2⟩ := join_parts c (b :: r) (by simp)
    have h0 : (({ cps := #[c] } : Str)).length = 1 := rfl
    rw [join2, sLen, sLen, h0]
    refine ⟨by rw [List.length_cons]; omega, fun p hp => ?_⟩
    rcases List.mem_cons.mp hp with rfl | hp
    · omega
    · have := h2 p hp; omega
theorem split_parts (x : Str) : (Txt.split x "(").length ≤ x.length + 1 ∧ ∀ p ∈ Txt.split x "(", p.length ≤ x.length := by
  have o : ("(" : Str) = ⟨#[40]⟩ := by decide +kernel
  rw [o]
  have := join_parts 40 (Txt.split x ⟨#[40]⟩) (split_ne _ _)
  rw [StrLaws.join_split] at this
  exact this
theorem fm0_len (c : Nat) : ∀ l : List Nat, (fm c [] l).length ≤ l.length
  | [] => Nat.le_refl _
  | k :: l => by
    have ih := fm0_len c l
    have e : fm c [] (k :: l) = (if k = c then [] else [k]) ++ fm c [] l := rfl
    rw [e, List.length_append, List.length_cons]
    split
    · simp; omega
    · rw [List.length_singleton]; omega
theorem named_len (x : Str) : (Str.join "" (Txt.split x "(")).length ≤ x.length := by
  have o : ("(" : Str) = ⟨#[40]⟩ := by decide +kernel
  have e0 : ("" : Str).cps.toList = [] := by decide +kernel
  have := fm_join 40 "" (Txt.split x ⟨#[40]⟩) (StrLaws.split_free _ 40)
  rw [StrLaws.join_split, e0] at this
  have h := fm0_len 40 x.cps.toList
  rw [this, ← o] at h
  simpa [Str.length] using h
theorem cnt_take {bs : List Str} {i : Nat} {x : Str} (h : bs[i]? = some x) : cnt (bs.take (i + 1)) = cnt (bs.take i) + (if x ∈ eight then 1 else 0) := by
  rw [List.take_add_one, h, cnt_app]
  rfl
end L2

end

section
-- KcK13b
set_option Elab.async false
set_option linter.all false
set_option maxRecDepth 100000
set_option maxHeartbeats 4000000
namespace L2
open PySem PyProof.Rows

theorem cutm2 (a b : V) : cutV [a, b] none (some (-1)) = [a] := rfl
theorem cutm3 (a b c : V) : cutV [a, b, c] none (some (-1)) = [a, b] := rfl
theorem cutn2 (a b : V) : ¬ (HT.sIx ([a, b] : List V).length 0 none = 0 ∧ HT.sIx ([a, b] : List V).length ([a, b] : List V).length (some (-1)) = ([a, b] : List V).length) := fun z => absurd z.2 (by show ¬ (1 = 2); decide)
theorem cutn3 (a b c : V) : ¬ (HT.sIx ([a, b, c] : List V).length 0 none = 0 ∧ HT.sIx ([a, b, c] : List V).length ([a, b, c] : List V).length (some (-1)) = ([a, b, c] : List V).length) := fun z => absurd z.2 (by show ¬ (2 = 3); decide)
/-! ### .. at any place -/
noncomputable def sp__law_changed (_ : PySem.W.Frag) (n : Nat) : Sp := fun vs H Q _ => ∃ (v : V) (s : Sy) (at_ c h : Nat) (z : Int), vs = [v, .int at_, .int c, .int h, .int z] ∧ IsSy H v s ∧ s.Ok c h ∧ 1 ≤ h ∧ h ≤ 5 ∧ s.words ≤ n ∧ s.words ≤ 31 ∧ at_ < s.words ∧ ∀ (v' : V) (s' : Sy) (H' : Hp), Same H H' → IsSy H' v' s' → s'.Ok c h → s'.words = s.words → Q v' H'
noncomputable def t__law_changed (K : PySem.W.Frag) (n : Nat) : TS := (tSeq (tIfS (tTest (tOp rEq (tVar 1) (tC (.int 0)))) (tRet (tCall (sp__law_exchanged K) [] E0 (tCons (tVar 0) (tCons (tVar 2) (tCons (tVar 3) (tCons (tVar 4) tNil)))))) tNext)
  (tSeq (tIfS (tTest (tOp (rIn K false) (tOp (rIxT K) (tVar 0) (tC (.int 0))) (mTup (tCons (tC (.str "and")) (tCons (tC (.str "or")) tNil))))) (tSeq (tAsg (tCall (sp__law_count K 31) [] E0 (tCons (tOp (rIxT K) (tVar 0) (tC (.int 1))) tNil)) (gName 5))
  (tSeq (tIfS (tTest (tOp (rI0 fun i j => .bl (decide (i ≤ j))) (tVar 1) (tVar 5))) (tRet (mTup (tCons (tOp (rIxT K) (tVar 0) (tC (.int 0))) (tCons (tCall (sp__law_changed K n) [] E0 (tCons (tOp (rIxT K) (tVar 0) (tC (.int 1))) (tCons (tOp (rI0 fun i j => .int (i - j)) (tVar 1) (tC (.int 1))) (tCons (tVar 2) (tCons (tVar 3) (tCons (tVar 4) tNil)))))) (tCons (tOp (rIxT K) (tVar 0) (tC (.int 2))) tNil))))) tNext)
  (tRet (mTup (tCons (tOp (rIxT K) (tVar 0) (tC (.int 0))) (tCons (tOp (rIxT K) (tVar 0) (tC (.int 1))) (tCons (tCall (sp__law_changed K n) [] E0 (tCons (tOp (rIxT K) (tVar 0) (tC (.int 2))) (tCons (tOp (rI0 fun i j => .int (i - j)) (tOp (rI0 fun i j => .int (i - j)) (tVar 1) (tC (.int 1))) (tVar 5)) (tCons (tVar 2) (tCons (tVar 3) (tCons (tVar 4) tNil)))))) tNil))))))) tNext)
  (tRet (tOp (mCatT K) (tSl (mSlT K) (tVar 0) tNoPart (tPart (tUn (rU fun i => .int (-i)) (tC (.int 1))))) (mTup (tCons (tCall (sp__law_changed K n) [] E0 (tCons (tOp (rIxT K) (tVar 0) (tUn (rU fun i => .int (-i)) (tC (.int 1)))) (tCons (tOp (rI0 fun i j => .int (i - j)) (tVar 1) (tC (.int 1))) (tCons (tVar 2) (tCons (tVar 3) (tCons (tVar 4) tNil)))))) tNil))))))
noncomputable abbrev N__law_changed : List Str := ["_law_told", "_law_at", "_law_cards", "_law_hands", "_law_number", "_law_many"]
theorem len__law_changed {K : PySem.W.Frag} {n : Nat} {vs : List V} {H : Hp} {Q : VK} {E : XK} (h : sp__law_changed K n vs H Q E) : vs.length = 5 := by
  obtain ⟨v, s, k, c, h, z, rfl, _⟩ := h
  rfl
theorem no__law_changed {K : PySem.W.Frag} {vs : List V} {H : Hp} {Q : VK} {E : XK} (h : sp__law_changed K 0 vs H Q E) : False := by
  obtain ⟨v, s, k, c, h, z, rfl, _, _, _, _, h, _⟩ := h
  have := s.words_pos
  omega
theorem rd__law_changed {K : PySem.W.Frag} {n : Nat} {vs : List V} {H : Hp} {Q : VK} {E : XK} (h : sp__law_changed K (n + 1) vs H Q E) : t__law_changed K n { nx := fun _ H' => Q .non H', rt := Q } (start N__law_changed vs) H := by
  obtain ⟨v, s, k, c, h, z, rfl, is, ok, h1, h5, hw, hw31, hk, q⟩ := h
  show t__law_changed K n _ [some _, some _, some _, some _, some _, none] _
  unfold t__law_changed
  walk_at "rd"
  refine ite_dec (fun c0 => ?_) (fun c0 => ?_)
  · walk_at "rd"
    exact ⟨v, s, c, h, z, rfl, is, ok, h1, h5, q⟩
  walk_at "rd"
  cases s with
  | holds w d => have : k < 1 := hk; omega
  | sees w => have : k < 1 := hk; omega
  | and s t =>
    obtain ⟨a, x, y, rfl, ha, ix, iy⟩ := is
    have hk' : k < s.words + t.words + 1 := hk
    have hw' : s.words + t.words + 1 ≤ n + 1 := hw
    have hw2 : s.words + t.words + 1 ≤ 31 := hw31
    refine r_ixT (SqT.of ha) (at_zero _ _) ?_
    walk_at "rd"
    refine ⟨by simp [sizeLine_eq], fun u H1 hu s1 e1 => ?_⟩
    refine r_inT (c := true) (SqT.of e1) rfl rfl rfl ?_
    walk_at "rd"
    have ha1 := s1 _ _ ha
    refine r_ixT (SqT.of ha1) (ax_one _ _ _) ?_
    walk_at "rd"
    refine ⟨x, s, rfl, ix.keep s1.keep, by omega, fun H2 s2 => ?_⟩
    walk_at "rd"
    have s12 := s1.trans s2
    have ha2 := s12 _ _ ha
    refine ite_dec (fun c2 => ?_) (fun c2 => ?_)
    · walk_at "rd"
      refine r_ixT (SqT.of ha2) (at_zero _ _) ?_
      walk_at "rd"
      refine r_ixT (SqT.of ha2) (ax_one _ _ _) ?_
      walk_at "rd"
      rw [show (k : Int) - 1 = ((k - 1 : Nat) : Int) by omega]
      refine ⟨x, s, k - 1, c, h, z, rfl, ix.keep s12.keep, ok.1, h1, h5, by omega, by omega, by omega, fun x' s' H3 s3 ix' ok' hn => ?_⟩
      walk_at "rd"
      refine r_ixT (SqT.of (s3 _ _ ha2)) (ax_two _ _ _ _) ?_
      walk_at "rd"
      exact ⟨by simp [sizeLine_eq], fun p H4 hp s4 e4 => q _ (.and s' t) H4 ((s12.trans s3).trans s4) ⟨p, x', y, rfl, e4, ix'.keep s4.keep, iy.keep ((s12.trans s3).trans s4).keep⟩ ⟨ok', ok.2⟩ (by simp only [Sy.words, hn])⟩
    · walk_at "rd"
      refine r_ixT (SqT.of ha2) (at_zero _ _) ?_
      walk_at "rd"
      refine r_ixT (SqT.of ha2) (ax_one _ _ _) ?_
      walk_at "rd"
      refine r_ixT (SqT.of ha2) (ax_two _ _ _ _) ?_
      walk_at "rd"
      rw [show (k : Int) - 1 - (s.words : Int) = ((k - 1 - s.words : Nat) : Int) by omega]
      refine ⟨y, t, k - 1 - s.words, c, h, z, rfl, iy.keep s12.keep, ok.2, h1, h5, by omega, by omega, by omega, fun y' t' H3 s3 iy' ok' hn => ?_⟩
      walk_at "rd"
      exact ⟨by simp [sizeLine_eq], fun p H4 hp s4 e4 => q _ (.and s t') H4 ((s12.trans s3).trans s4) ⟨p, x, y', rfl, e4, ix.keep ((s12.trans s3).trans s4).keep, iy'.keep s4.keep⟩ ⟨ok.1, ok'⟩ (by simp only [Sy.words, hn])⟩
  | or s t =>
    obtain ⟨a, x, y, rfl, ha, ix, iy⟩ := is
    have hk' : k < s.words + t.words + 1 := hk
    have hw' : s.words + t.words + 1 ≤ n + 1 := hw
    have hw2 : s.words + t.words + 1 ≤ 31 := hw31
    refine r_ixT (SqT.of ha) (at_zero _ _) ?_
    walk_at "rd"
    refine ⟨by simp [sizeLine_eq], fun u H1 hu s1 e1 => ?_⟩
    refine r_inT (c := true) (SqT.of e1) rfl rfl rfl ?_
    walk_at "rd"
    have ha1 := s1 _ _ ha
    refine r_ixT (SqT.of ha1) (ax_one _ _ _) ?_
    walk_at "rd"
    refine ⟨x, s, rfl, ix.keep s1.keep, by omega, fun H2 s2 => ?_⟩
    walk_at "rd"
    have s12 := s1.trans s2
    have ha2 := s12 _ _ ha
    refine ite_dec (fun c2 => ?_) (fun c2 => ?_)
    · walk_at "rd"
      refine r_ixT (SqT.of ha2) (at_zero _ _) ?_
      walk_at "rd"
      refine r_ixT (SqT.of ha2) (ax_one _ _ _) ?_
      walk_at "rd"
      rw [show (k : Int) - 1 = ((k - 1 : Nat) : Int) by omega]
      refine ⟨x, s, k - 1, c, h, z, rfl, ix.keep s12.keep, ok.1, h1, h5, by omega, by omega, by omega, fun x' s' H3 s3 ix' ok' hn => ?_⟩
      walk_at "rd"
      refine r_ixT (SqT.of (s3 _ _ ha2)) (ax_two _ _ _ _) ?_
      walk_at "rd"
      exact ⟨by simp [sizeLine_eq], fun p H4 hp s4 e4 => q _ (.or s' t) H4 ((s12.trans s3).trans s4) ⟨p, x', y, rfl, e4, ix'.keep s4.keep, iy.keep ((s12.trans s3).trans s4).keep⟩ ⟨ok', ok.2⟩ (by simp only [Sy.words, hn])⟩
    · walk_at "rd"
      refine r_ixT (SqT.of ha2) (at_zero _ _) ?_
      walk_at "rd"
      refine r_ixT (SqT.of ha2) (ax_one _ _ _) ?_
      walk_at "rd"
      refine r_ixT (SqT.of ha2) (ax_two _ _ _ _) ?_
      walk_at "rd"
      rw [show (k : Int) - 1 - (s.words : Int) = ((k - 1 - s.words : Nat) : Int) by omega]
      refine ⟨y, t, k - 1 - s.words, c, h, z, rfl, iy.keep s12.keep, ok.2, h1, h5, by omega, by omega, by omega, fun y' t' H3 s3 iy' ok' hn => ?_⟩
      walk_at "rd"
      exact ⟨by simp [sizeLine_eq], fun p H4 hp s4 e4 => q _ (.or s t') H4 ((s12.trans s3).trans s4) ⟨p, x, y', rfl, e4, ix.keep ((s12.trans s3).trans s4).keep, iy'.keep s4.keep⟩ ⟨ok.1, ok'⟩ (by simp only [Sy.words, hn])⟩
  | not s =>
    obtain ⟨a, x, rfl, ha, ix⟩ := is
    have hk' : k < s.words + 1 := hk
    have hw' : s.words + 1 ≤ n + 1 := hw
    have hw2 : s.words + 1 ≤ 31 := hw31
    refine r_ixT (SqT.of ha) (at_zero _ _) ?_
    walk_at "rd"
    refine ⟨by simp [sizeLine_eq], fun u H1 hu s1 e1 => ?_⟩
    refine r_inT (c := false) (SqT.of e1) rfl rfl rfl ?_
    walk_at "rd"
    refine m_slT (SqT.of (s1 _ _ ha)) (cutn2 _ _) fun b2 H2 hb2 s2 e2 => ?_
    rw [cutm2] at e2
    walk_at "rd"
    have s12 := s1.trans s2
    refine r_ixT (SqT.of (s12 _ _ ha)) (v := x) rfl ?_
    walk_at "rd"
    rw [show (k : Int) - 1 = ((k - 1 : Nat) : Int) by omega]
    refine ⟨x, s, k - 1, c, h, z, rfl, ix.keep s12.keep, ok, h1, h5, by omega, by omega, by omega, fun x' s' H3 s3 ix' ok' hn => ?_⟩
    walk_at "rd"
    refine ⟨by simp [sizeLine_eq], fun u4 H4 hu4 s4 e4' => ?_⟩
    walk_at "rd"
    refine m_catT ((s3.trans s4) _ _ e2) e4' (by simp [sizeLine_eq]) fun p H5 s5 e4 => ?_
    have s34 := s4.trans s5
    have s1h := s12.trans s3
    exact q _ (.not s') H5 (s1h.trans s34) ⟨p, x', rfl, e4, ix'.keep s34.keep⟩ ok' (by simp only [Sy.words, hn])
  | knows k0 s =>
    obtain ⟨a, x, rfl, ha, ix⟩ := is
    have hk' : k < s.words + 1 := hk
    have hw' : s.words + 1 ≤ n + 1 := hw
    have hw2 : s.words + 1 ≤ 31 := hw31
    refine r_ixT (SqT.of ha) (at_zero _ _) ?_
    walk_at "rd"
    refine ⟨by simp [sizeLine_eq], fun u H1 hu s1 e1 => ?_⟩
    refine r_inT (c := false) (SqT.of e1) rfl rfl rfl ?_
    walk_at "rd"
    refine m_slT (SqT.of (s1 _ _ ha)) (cutn3 _ _ _) fun b2 H2 hb2 s2 e2 => ?_
    rw [cutm3] at e2
    walk_at "rd"
    have s12 := s1.trans s2
    refine r_ixT (SqT.of (s12 _ _ ha)) (v := x) rfl ?_
    walk_at "rd"
    rw [show (k : Int) - 1 = ((k - 1 : Nat) : Int) by omega]
    refine ⟨x, s, k - 1, c, h, z, rfl, ix.keep s12.keep, ok.2, h1, h5, by omega, by omega, by omega, fun x' s' H3 s3 ix' ok' hn => ?_⟩
    walk_at "rd"
    refine ⟨by simp [sizeLine_eq], fun u4 H4 hu4 s4 e4' => ?_⟩
    walk_at "rd"
    refine m_catT ((s3.trans s4) _ _ e2) e4' (by simp [sizeLine_eq]) fun p H5 s5 e4 => ?_
    have s34 := s4.trans s5
    have s1h := s12.trans s3
    exact q _ (.knows k0 s') H5 (s1h.trans s34) ⟨p, x', rfl, e4, ix'.keep s34.keep⟩ ⟨ok.1, ok'⟩ (by simp only [Sy.words, hn])
  | all g s =>
    obtain ⟨a, b, x, rfl, ha, hb, ix⟩ := is
    have hk' : k < s.words + 1 := hk
    have hw' : s.words + 1 ≤ n + 1 := hw
    have hw2 : s.words + 1 ≤ 31 := hw31
    refine r_ixT (SqT.of ha) (at_zero _ _) ?_
    walk_at "rd"
    refine ⟨by simp [sizeLine_eq], fun u H1 hu s1 e1 => ?_⟩
    refine r_inT (c := false) (SqT.of e1) rfl rfl rfl ?_
    walk_at "rd"
    refine m_slT (SqT.of (s1 _ _ ha)) (cutn3 _ _ _) fun b2 H2 hb2 s2 e2 => ?_
    rw [cutm3] at e2
    walk_at "rd"
    have s12 := s1.trans s2
    refine r_ixT (SqT.of (s12 _ _ ha)) (v := x) rfl ?_
    walk_at "rd"
    rw [show (k : Int) - 1 = ((k - 1 : Nat) : Int) by omega]
    refine ⟨x, s, k - 1, c, h, z, rfl, ix.keep s12.keep, ok.2, h1, h5, by omega, by omega, by omega, fun x' s' H3 s3 ix' ok' hn => ?_⟩
    walk_at "rd"
    refine ⟨by simp [sizeLine_eq], fun u4 H4 hu4 s4 e4' => ?_⟩
    walk_at "rd"
    refine m_catT ((s3.trans s4) _ _ e2) e4' (by simp [sizeLine_eq]) fun p H5 s5 e4 => ?_
    have s34 := s4.trans s5
    have s1h := s12.trans s3
    exact q _ (.all g s') H5 (s1h.trans s34) ⟨p, b, x', rfl, e4, (s1h.trans s34) _ _ hb, ix'.keep s34.keep⟩ ⟨ok.1, ok'⟩ (by simp only [Sy.words, hn])
  | common g s =>
    obtain ⟨a, b, x, rfl, ha, hb, ix⟩ := is
    have hk' : k < s.words + 1 := hk
    have hw' : s.words + 1 ≤ n + 1 := hw
    have hw2 : s.words + 1 ≤ 31 := hw31
    refine r_ixT (SqT.of ha) (at_zero _ _) ?_
    walk_at "rd"
    refine ⟨by simp [sizeLine_eq], fun u H1 hu s1 e1 => ?_⟩
    refine r_inT (c := false) (SqT.of e1) rfl rfl rfl ?_
    walk_at "rd"
    refine m_slT (SqT.of (s1 _ _ ha)) (cutn3 _ _ _) fun b2 H2 hb2 s2 e2 => ?_
    rw [cutm3] at e2
    walk_at "rd"
    have s12 := s1.trans s2
    refine r_ixT (SqT.of (s12 _ _ ha)) (v := x) rfl ?_
    walk_at "rd"
    rw [show (k : Int) - 1 = ((k - 1 : Nat) : Int) by omega]
    refine ⟨x, s, k - 1, c, h, z, rfl, ix.keep s12.keep, ok.2, h1, h5, by omega, by omega, by omega, fun x' s' H3 s3 ix' ok' hn => ?_⟩
    walk_at "rd"
    refine ⟨by simp [sizeLine_eq], fun u4 H4 hu4 s4 e4' => ?_⟩
    walk_at "rd"
    refine m_catT ((s3.trans s4) _ _ e2) e4' (by simp [sizeLine_eq]) fun p H5 s5 e4 => ?_
    have s34 := s4.trans s5
    have s1h := s12.trans s3
    exact q _ (.common g s') H5 (s1h.trans s34) ⟨p, b, x', rfl, e4, (s1h.trans s34) _ _ hb, ix'.keep s34.keep⟩ ⟨ok.1, ok'⟩ (by simp only [Sy.words, hn])
/-! ### words named -/
theorem in8 (x : Str) : inV (.str x) [.str "holds", .str "not", .str "and", .str "or", .str "knows", .str "all", .str "common", .str "sees"] = decide (x ∈ eight) := by
  simp only [inV, eight, List.any_cons, List.any_nil, eqV, Bool.or_false, List.mem_cons, List.not_mem_nil, or_false]
  have bd : ∀ a : Str, (a == x) = decide (x = a) := fun a => by rw [Bool.eq_iff_iff, beq_iff_eq, decide_eq_true_eq]; exact eq_comm
  simp only [bd, Bool.decide_or]
noncomputable def sp__law_named (_ : PySem.W.Frag) : Sp := fun vs H Q _ => ∃ (h c : Nat) (s : Sy), vs = [.str (s.txt h)] ∧ h ≤ 5 ∧ c ≤ 13 ∧ s.Ok c h ∧ s.words ≤ 30 ∧ ∀ H', Same H H' → Q (.int (s.words : Nat)) H'
noncomputable def t__law_named (K : PySem.W.Frag) : TS := (tSeq (tAsg (tBM K "str" rSplit (tBM K "str" rJoinB (tC (.str "")) (tCons (tBM K "str" rSplit (tVar 0) (tCons (tC (.str "(")) tNil)) tNil)) (tCons (tC (.str " ")) tNil)) (gName 1))
  (tRet (tCB (cLen K) (tCons (tComp (iList K (tVar 1)) (fun _ _ _ _ => (gName 0)) (fun _ _ _ _ => (tTest (tOp (rIn K false) (tVar 0) (mTup (tCons (tC (.str "holds")) (tCons (tC (.str "not")) (tCons (tC (.str "and")) (tCons (tC (.str "or")) (tCons (tC (.str "knows")) (tCons (tC (.str "all")) (tCons (tC (.str "common")) (tCons (tC (.str "sees")) tNil)))))))))))) (fun _ _ _ _ => (tVar 0)) [none]) tNil))))
theorem len__law_named {K : PySem.W.Frag} {vs : List V} {H : Hp} {Q : VK} {E : XK} (h : sp__law_named K vs H Q E) : vs.length = 1 := by
  obtain ⟨h, c, s, rfl, h5, c13, ok, hw, q⟩ := h
  rfl
theorem rd__law_named {K : PySem.W.Frag} {vs : List V} {H : Hp} {Q : VK} {E : XK} (h : sp__law_named K vs H Q E) : t__law_named K { nx := fun _ H' => Q .non H', rt := Q } (start ["_law_text", "_law_bits"] vs) H := by
  obtain ⟨h, c, s, rfl, h5, c13, ok, hw, q⟩ := h
  show t__law_named K _ [some _, none] _
  unfold t__law_named
  have tl := txt_len h5 c13 s ok
  have few := ok_few h5 c13 s ok
  walk_at "rd"
  refine ⟨rfl, ?_⟩
  walk_at "rd"
  refine ⟨rfl, ?_⟩
  walk_at "rd"
  obtain ⟨pl, pb⟩ := split_parts (s.txt h)
  refine ⟨_, _, rfl, rfl, by decide +kernel, by omega, fun p1 H1 hp1 s1 e1 => ?_⟩
  walk_at "rd"
  have l0 : ("" : Str).length = 0 := by decide +kernel
  refine ⟨"", p1, _, 1200, rfl, rfl, e1, fun y hy => Nat.le_trans (pb y hy) (by omega), ?_, ?_⟩
  · rw [l0]
    have : (Txt.split (s.txt h) "(").length ≤ 1201 := by omega
    omega
  walk_at "rd"
  refine ⟨rfl, ?_⟩
  walk_at "rd"
  have nl := named_len (s.txt h)
  refine ⟨_, _, rfl, rfl, by decide +kernel, by omega, fun p2 H2 hp2 s2 e2 => ?_⟩
  rw [bits_txt few] at e2
  walk_at "rd"
  have bl := bits_len (h := h) s few
  refine lc_list _ (SqL.of e2) (by rw [List.length_map]; omega) (fun i acc _ => acc.length = cnt ((s.bits h).take i)) (fun _ _ => rfl) ?_ ?_
  · intro p hp C s' H' fp i x acc H3 hx ⟨s3, e3, l3, r3⟩
    rw [List.getElem?_map] at hx
    cases eb : (s.bits h)[i]? with
    | none => rw [eb] at hx; cases hx
    | some b =>
      rw [eb] at hx
      cases hx
      walk_at "rd"
      refine ⟨by simp [sizeLine_eq], fun u H4 hu s4 e4 => ?_⟩
      refine r_inT (SqT.of e4) rfl rfl (in8 b) ?_
      walk_at "rd"
      have ct := cnt_take eb
      refine ite_dec (fun m => ?_) (fun m => ?_)
      · walk_at "rd"
        refine CInv.put hp (fun _ _ _ _ r _ => r) (s3.trans s4) (s4 _ _ e3) l3 ?_
        rw [ct, if_pos m, List.length_append, r3]
        rfl
      · refine CInv.skip (s3.trans s4) (s4 _ _ e3) l3 ?_
        rw [ct, if_neg m, r3]
        rfl
  · intro p acc H3 hp s3 e3 r3
    rw [List.length_map, List.take_length, cnt_bits h s few] at r3
    walk_at "rd"
    rw [r3]
    exact q H3 ((s1.trans s2).trans s3)
/-! ### read, shown again, counted -/
noncomputable def sp__law_good (_ : PySem.W.Frag) : Sp := fun vs H Q _ => ∃ (c h : Nat) (v : V) (s : Sy), vs = [.int c, .int h, v, .str (s.txt h)] ∧ h ≤ 5 ∧ c ≤ 13 ∧ IsSy H v s ∧ s.Ok c h ∧ s.words ≤ 30 ∧ ∀ H', Same H H' → Q (.bl true) H'
noncomputable def t__law_good (K : PySem.W.Frag) : TS := (tSeq (tAsg (tCall (sp_read_saying K) [] E0 (tCons (tVar 0) (tCons (tVar 1) (tCons (tVar 3) tNil)))) (gName 4))
  (tSeq (tIfS (tOr (tTest (tOp (rEqD K true) (tVar 4) (tVar 2))) (tOr (tTest (tOp rNe (tCall (sp_show_saying K 31) [] E0 (tCons (tVar 1) (tCons (tVar 4) tNil))) (tVar 3))) (tTest (tOp rIsnB (tCall (sp_is_saying K) [] E0 (tCons (tVar 0) (tCons (tVar 1) (tCons (tVar 4) tNil)))) (tC (.bl true)))))) (tRet (tC (.bl false))) tNext)
  (tRet (tOp rEq (tCall (sp_words_in K 31) [] E0 (tCons (tVar 2) tNil)) (tCall (sp__law_named K) [] E0 (tCons (tVar 3) tNil))))))
theorem len__law_good {K : PySem.W.Frag} {vs : List V} {H : Hp} {Q : VK} {E : XK} (h : sp__law_good K vs H Q E) : vs.length = 4 := by
  obtain ⟨c, h, v, s, rfl, h5, c13, is, ok, hw, q⟩ := h
  rfl
theorem rd__law_good {K : PySem.W.Frag} {vs : List V} {H : Hp} {Q : VK} {E : XK} (h : sp__law_good K vs H Q E) : t__law_good K { nx := fun _ H' => Q .non H', rt := Q } (start ["_law_cards", "_law_hands", "_law_told", "_law_text", "_law_found"] vs) H := by
  obtain ⟨c, h, v, s, rfl, h5, c13, is, ok, hw, q⟩ := h
  show t__law_good K _ [some _, some _, some _, some _, none] _
  unfold t__law_good
  walk_at "rd"
  refine ⟨c, h, s, rfl, h5, c13, ok, hw, fun w H1 s1 iw => ?_⟩
  walk_at "rd"
  refine r_neSy iw (is.keep s1.keep) (by omega) ?_
  walk_at "rd"
  refine ⟨h, c, w, s, rfl, h5, c13, iw, ok, by omega, hw, fun H2 s2 => ?_⟩
  walk_at "rd"
  rw [decide_eq_true rfl]
  refine iteNT ?_
  walk_at "rd"
  have iw2 := iw.keep s2.keep
  refine ⟨c, h, w, true, rfl, iw2.known, .inl ⟨rfl, s.words, hw, iw2.sayw ok⟩, fun H3 s3 => ?_⟩
  walk_at "rd"
  refine iteNT ?_
  walk_at "rd"
  have s13 := (s1.trans s2).trans s3
  refine ⟨v, s, c, h, rfl, is.keep s13.keep, ok, by omega, fun H4 s4 => ?_⟩
  walk_at "rd"
  refine ⟨h, c, s, rfl, h5, c13, ok, hw, fun H5 s5 => ?_⟩
  walk_at "rd"
  rw [decide_eq_true rfl]
  exact q H5 ((s13.trans s4).trans s5)

end L2

end

section
-- KcK13
set_option Elab.async false
set_option linter.all false
set_option maxRecDepth 100000
set_option maxHeartbeats 4000000
namespace L2
open PySem PyProof.Rows

noncomputable abbrev sp_law (K : PySem.W.Frag) : Sp := spLaw K
noncomputable def t_law (K : PySem.W.Frag) : TS := (tSeq (tAsg (tOp (rI CDiv fun i j => .int (i / j)) (tCall (sp__law_cell_at K) [] E0 (tCons (tVar 0) (tCons (tC (.int 0)) tNil))) (tC (.int 3))) (gName 1))
  (tSeq (tAsg (tOp (rI (fun _ j => 0 < j) fun i j => .int (i % j)) (tVar 1) (tC (.int 13))) (gName 2))
  (tSeq (tAsg (tOp (rI0 fun i j => .int (i + j)) (tC (.int 1)) (tOp (rI (fun _ j => 0 < j) fun i j => .int (i % j)) (tOp (rI CDiv fun i j => .int (i / j)) (tVar 1) (tC (.int 13))) (tC (.int 5)))) (gName 3))
  (tSeq (tAsg (tOp (rI0 fun i j => .int (i + j)) (tC (.int 1)) (tOp (rI (fun _ j => 0 < j) fun i j => .int (i % j)) (tOp (rI CDiv fun i j => .int (i / j)) (tVar 1) (tC (.int 65))) (tC (.int 30)))) (gName 4))
  (tSeq (tAsg (tCall (sp__law_numbers K) [] E0 (tCons (tVar 0) tNil)) (gName 5))
  (tSeq (tAsg (tCall (sp__law_built K) [] E0 (tCons (tVar 5) (tCons (tVar 2) (tCons (tVar 3) (tCons (tVar 4) tNil))))) (gName 6))
  (tSeq (tAsg (tCall (sp__law_cell_at K) [] E0 (tCons (tVar 0) (tCons (tC (.int 1)) tNil))) (gName 7))
  (tSeq (tAsg (tCall (sp__law_changed K 31) [] E0 (tCons (tVar 6) (tCons (tOp (rI (fun _ j => 0 < j) fun i j => .int (i % j)) (tOp (rI CDiv fun i j => .int (i / j)) (tVar 7) (tC (.int 3))) (tCall (sp__law_count K 31) [] E0 (tCons (tVar 6) tNil))) (tCons (tVar 2) (tCons (tVar 3) (tCons (tOp (rI CDiv fun i j => .int (i / j)) (tVar 7) (tC (.int 93))) tNil)))))) (gName 8))
  (tSeq (tIfS (tAnd (tTest (tOp rEq (tOp (rI (fun _ j => 0 < j) fun i j => .int (i % j)) (tVar 7) (tC (.int 3))) (tC (.int 0)))) (tTest (tOp (rI0 fun i j => .bl (decide (j < i))) (tCB (cLen K) (tCons (tVar 5) tNil)) (tC (.int 0))))) (tSeq (tAsg (tOp (rI (fun _ j => 0 < j) fun i j => .int (i % j)) (tOp (rI CDiv fun i j => .int (i / j)) (tVar 7) (tC (.int 3))) (tCB (cLen K) (tCons (tVar 5) tNil))) (gName 9))
  (tSeq (tAsg (tCB (mCList K) (tCons (tVar 5) tNil)) (gName 10))
  (tSeq (tAsg (tOp (rI0 fun i j => .int (i + j)) (tOp (rI0 fun i j => .int (i + j)) (tOp (rIxL K) (tVar 10) (tVar 9)) (tC (.int 1))) (tOp (rI (fun _ j => 0 < j) fun i j => .int (i % j)) (tOp (rI CDiv fun i j => .int (i / j)) (tVar 7) (tC (.int 190))) (tC (.int 40)))) (gSub (tVar 10) (tVar 9) rSetL))
  (tAsg (tCall (sp__law_built K) [] E0 (tCons (tVar 10) (tCons (tVar 2) (tCons (tVar 3) (tCons (tVar 4) tNil))))) (gName 8))))) tNext)
  (tSeq (tAsg (tCall (sp_show_saying K 31) [] E0 (tCons (tVar 3) (tCons (tVar 6) tNil))) (gName 11))
  (tSeq (tAsg (tCall (sp_show_saying K 31) [] E0 (tCons (tVar 3) (tCons (tVar 8) tNil))) (gName 12))
  (tSeq (tIfS (tTest (tOp rNe (tOp rEq (tVar 11) (tVar 12)) (tOp (rEqD K false) (tVar 6) (tVar 8)))) (tRet (tC (.bl false))) tNext)
  (tRet (tAndV (tCall (sp__law_good K) [] E0 (tCons (tVar 2) (tCons (tVar 3) (tCons (tVar 6) (tCons (tVar 11) tNil))))) (tCall (sp__law_good K) [] E0 (tCons (tVar 2) (tCons (tVar 3) (tCons (tVar 8) (tCons (tVar 12) tNil)))))))))))))))))))
theorem len_law {K : PySem.W.Frag} {vs : List V} {H : Hp} {Q : VK} {E : XK} (h : sp_law K vs H Q E) : vs.length = 1 := by
  obtain ⟨a, ns, rfl, hSc, g⟩ := h
  rfl
theorem rd_law {K : PySem.W.Frag} {vs : List V} {H : Hp} {Q : VK} {E : XK} (h : sp_law K vs H Q E) : t_law K { nx := fun _ H' => Q .non H', rt := Q } (start ["_law_script", "_law_first", "_law_cards", "_law_hands", "_law_room", "_law_numbers_here", "_law_told", "_law_second", "_law_other", "_law_at", "_law_near", "_law_one_text", "_law_other_text"] vs) H := by
  obtain ⟨a, ns, rfl, hSc, g⟩ := h
  show t_law K _ [some _, none, none, none, none, none, none, none, none, none, none, none, none] _
  unfold t_law
  walk_at "rd"
  refine ⟨a, ns, 0, rfl, hSc, by decide, fun z => ?_⟩
  refine r_c ?_
  refine r_I ⟨by decide, by decide⟩ ?_
  generalize z / 3 = f
  walk_at "rd"
  obtain ⟨c, hc, hc2⟩ := emodN f (m := 13) (by decide)
  obtain ⟨h0, hh, hh2⟩ := emodN (f / 13) (m := 5) (by decide)
  obtain ⟨ro, hro, hro2⟩ := emodN (f / 65) (m := 30) (by decide)
  have eh : (1 : Int) + (h0 : Int) = ((1 + h0 : Nat) : Int) := by omega
  have er : (1 : Int) + (ro : Int) = ((1 + ro : Nat) : Int) := by omega
  rw [hc, hh, eh, hro, er]
  generalize hh' : 1 + h0 = h
  generalize hr' : 1 + ro = room
  refine ⟨a, ns, rfl, hSc, fun l ms H1 s1 hl e1 hl63 => ?_⟩
  walk_at "rd"
  refine ⟨l, ms, c, h, room, rfl, e1, hl63, by omega, by omega, by omega, by omega, fun v s H3 s3 is3 ws3 ok3 => ?_⟩
  walk_at "rd"
  refine ⟨a, ns, 1, rfl, (hSc.same (s1.trans s3)), by decide, fun z2 => ?_⟩
  walk_at "rd"
  refine ⟨v, s, rfl, is3, by omega, fun H4 s4 => ?_⟩
  walk_at "rd"
  have wp := s.words_pos
  obtain ⟨at_, hat, hat2⟩ := emodN (z2 / 3) (m := ((s.words : Nat) : Int)) (by omega)
  refine r_I (by omega) ?_
  rw [hat]
  walk_at "rd"
  refine ⟨v, s, at_, c, h, _, rfl, is3.keep s4.keep, ok3, by omega, by omega, by omega, by omega, by omega, fun w t H5 s5 it okt hwt => ?_⟩
  refine r_name ?_
  dsimp only [List.set_cons_zero, List.set_cons_succ]
  refine r_seq_n fun NX hNX => ?_
  have key : ∀ (w : V) (t : Sy) (H6 : Hp) (v9 v10 : Option V), Same H3 H6 → IsSy H6 w t → t.Ok c h → t.words ≤ 30 → NX [some (.ref a), some (.int f), some (.int c), some (.int h), some (.int room), some (.ref l), some v, some (.int z2), some w, v9, v10, none, none] H6 := by
    intro w t H6 v9 v10 s6 it okt hwt
    refine hNX _ _ ?_
    have is6 := is3.keep s6.keep
    walk_at "rd"
    refine ⟨h, c, v, s, rfl, by omega, by omega, is6, ok3, by omega, by omega, fun H7 s7 => ?_⟩
    walk_at "rd"
    refine ⟨h, c, w, t, rfl, by omega, by omega, it.keep s7.keep, okt, by omega, by omega, fun H8 s8 => ?_⟩
    walk_at "rd"
    have s78 := s7.trans s8
    have is8 := is6.keep s78.keep
    have it8 := it.keep s78.keep
    refine r_eqSys is8 it8 (by omega) (by omega) fun b hb => ?_
    have hb2 : decide (s.txt h = t.txt h) = b := by
      rw [Bool.eq_iff_iff, decide_eq_true_eq, hb]
      exact ⟨fun e => txt_inj (by omega) (by omega) (ok_few (by omega) (by omega) s ok3) (ok_few (by omega) (by omega) t okt) ok3 okt e, fun e => by rw [e]⟩
    walk_at "rd"
    rw [hb2, beq_self_eq_true]
    refine iteNT ?_
    walk_at "rd"
    refine ⟨c, h, v, s, rfl, by omega, by omega, is8, ok3, by omega, fun H9 s9 => ?_⟩
    walk_at "rd"
    exact ⟨c, h, w, t, rfl, by omega, by omega, it8.keep s9.keep, okt, by omega, fun HA sA => g _⟩
  have s45 := s4.trans s5
  walk_at "rd"
  refine ite_dec (fun c1 => ?_) (fun c1 => ?_)
  · walk_at "rd"
    have e5 := (s3.trans s45) _ _ e1
    refine ⟨_, _, rfl, .inl (SqL.of e5), ?_⟩
    walk_at "rd"
    refine ite_dec (fun c2 => ?_) (fun c2 => ?_)
    · rw [List.length_map] at c2
      walk_at "rd"
      rw [List.length_map]
      obtain ⟨j, hj, hj2⟩ := emodN (z2 / 3) (m := ((ms.length : Nat) : Int)) (by omega)
      refine r_I (by omega) ?_
      rw [hj]
      walk_at "rd"
      refine m_list (SqL.of e5) fun p6 H6 hp6 s6 e6 => ?_
      walk_at "rd"
      have hjl : j < ms.length := by omega
      have hjm : ms[j]? = some (ms[j]'hjl) := List.getElem?_eq_getElem _
      generalize ms[j]'hjl = mj at hjm
      have hja : (ms.map V.int)[j]? = some (.int mj) := by rw [List.getElem?_map, hjm]; rfl
      refine r_ixL (SqL.of e6) (atI_nat hja) ?_
      walk_at "rd"
      refine r_setL e6 (j := j) (by unfold ixN; rw [List.length_map, if_pos (by omega), if_pos (by omega)]; simp) ?_
      walk_at "rd"
      rw [show (ms.map V.int).set j (.int (mj + 1 + z2 / 190 % 40)) = (ms.set j (mj + 1 + z2 / 190 % 40)).map V.int from (List.map_set ..).symm]
      refine ⟨p6, _, c, h, room, rfl, upd_same, by rw [List.length_set]; exact hl63, by omega, by omega, by omega, by omega, fun w2 t2 H7 s7 it2 hw2 ok2 => ?_⟩
      refine r_name ?_
      dsimp only [List.set_cons_zero, List.set_cons_succ]
      exact key w2 t2 H7 _ _ ((s45.trans (s6.upd hp6 _)).trans s7) it2 ok2 (by omega)
    · walk_at "rd"
      exact key w t H5 _ _ s45 it okt (by omega)
  · walk_at "rd"
    exact key w t H5 _ _ s45 it okt (by omega)

end L2

end

section
-- KcTabs
set_option Elab.async false
set_option linter.all false
set_option maxRecDepth 100000
set_option maxHeartbeats 4000000
namespace L2
open PySem PySem.Spec PyProof.Rows
structure Tabs (P : Program) (w : World) (K : PySem.W.Frag) (mg : Str → Option Value) (G : Glo) : Prop where
  ok : GloOk K G
  mf : mg "FORMS" = some (.ref G.forms)
  df : KDict P w K G.forms G.kvs
structure TabsC (P : Program) (w : World) (K : PySem.W.Frag) (mg : Str → Option Value) (G : Glo) : Prop extends Tabs P w K mg G where
  mc : mg "CARD_WORDS" = some (.ref G.cw)
  cwk : KTup K G.cw [.str "holds", .str "not", .str "and", .str "or"]
theorem ktup_mk {K : PySem.W.Frag} {a : Addr} {od : Option Addr} {its : Array Value} {n : Nat} {sl : Array (Option Value)} (l : K.lookup a = some ⟨.type "tuple", od, .seq its n, sl⟩) (xs : List V) (hz : its.size ≤ sizeLine) (r : Vals xs its.toList) : KTup K a xs := ⟨_, its, n, l, rfl, rfl, hz, r⟩
theorem tabs_mk {P : Program} {w : World} {K : PySem.W.Frag} {mg : Str → Option Value} {aF aC f1 f2 f3 f4 f5 f6 f7 f8 : Addr} {k1 k2 k3 k4 k5 k6 k7 k8 u1 u2 u3 u4 u5 u6 u7 u8 u9 ua ub uc ud ue : Tok} {ep n1 n2 n3 n4 n5 n6 n7 n8 : Nat} {o1 o2 o3 o4 o5 o6 o7 o8 : Option Addr} {s1 s2 s3 s4 s5 s6 s7 s8 : Array (Option Value)}
    (nF : (aF == sysModules) = false) (mf : mg "FORMS" = some (.ref aF))
    (lF : K.lookup aF = some ⟨.type "dict", none, .dict #[⟨PyData.keyHash w.params "holds", .str "holds" k1, .ref f1⟩, ⟨PyData.keyHash w.params "not", .str "not" k2, .ref f2⟩, ⟨PyData.keyHash w.params "and", .str "and" k3, .ref f3⟩, ⟨PyData.keyHash w.params "or", .str "or" k4, .ref f4⟩,
      ⟨PyData.keyHash w.params "knows", .str "knows" k5, .ref f5⟩, ⟨PyData.keyHash w.params "all", .str "all" k6, .ref f6⟩, ⟨PyData.keyHash w.params "common", .str "common" k7, .ref f7⟩, ⟨PyData.keyHash w.params "sees", .str "sees" k8, .ref f8⟩] ep, #[]⟩)
    (l1 : K.lookup f1 = some ⟨.type "tuple", o1, .seq #[.str "holder" u1, .str "card" u2] n1, s1⟩) (l2 : K.lookup f2 = some ⟨.type "tuple", o2, .seq #[.str "saying" u3] n2, s2⟩) (l3 : K.lookup f3 = some ⟨.type "tuple", o3, .seq #[.str "saying" u4, .str "saying" u5] n3, s3⟩) (l4 : K.lookup f4 = some ⟨.type "tuple", o4, .seq #[.str "saying" u6, .str "saying" u7] n4, s4⟩)
    (l5 : K.lookup f5 = some ⟨.type "tuple", o5, .seq #[.str "hand" u8, .str "saying" u9] n5, s5⟩) (l6 : K.lookup f6 = some ⟨.type "tuple", o6, .seq #[.str "hands" ua, .str "saying" ub] n6, s6⟩) (l7 : K.lookup f7 = some ⟨.type "tuple", o7, .seq #[.str "hands" uc, .str "saying" ud] n7, s7⟩) (l8 : K.lookup f8 = some ⟨.type "tuple", o8, .seq #[.str "hand" ue] n8, s8⟩)
    : Tabs P w K mg ⟨aF, aC, f1, f2, f3, f4, f5, f6, f7, f8⟩ where
  mf := mf
  ok := ⟨ktup_mk l1 _ (by show 2 ≤ sizeLine; decide) (.cons ⟨_, rfl⟩ (.cons ⟨_, rfl⟩ .nil)), ktup_mk l2 _ (by show 1 ≤ sizeLine; decide) (.cons ⟨_, rfl⟩ .nil), ktup_mk l3 _ (by show 2 ≤ sizeLine; decide) (.cons ⟨_, rfl⟩ (.cons ⟨_, rfl⟩ .nil)), ktup_mk l4 _ (by show 2 ≤ sizeLine; decide) (.cons ⟨_, rfl⟩ (.cons ⟨_, rfl⟩ .nil)),
    ktup_mk l5 _ (by show 2 ≤ sizeLine; decide) (.cons ⟨_, rfl⟩ (.cons ⟨_, rfl⟩ .nil)), ktup_mk l6 _ (by show 2 ≤ sizeLine; decide) (.cons ⟨_, rfl⟩ (.cons ⟨_, rfl⟩ .nil)), ktup_mk l7 _ (by show 2 ≤ sizeLine; decide) (.cons ⟨_, rfl⟩ (.cons ⟨_, rfl⟩ .nil)), ktup_mk l8 _ (by show 1 ≤ sizeLine; decide) (.cons ⟨_, rfl⟩ .nil)⟩
  df := by
    refine ⟨nF, _, _, _, [(.inr "holds", .ref f1), (.inr "not", .ref f2), (.inr "and", .ref f3), (.inr "or", .ref f4), (.inr "knows", .ref f5), (.inr "all", .ref f6), (.inr "common", .ref f7), (.inr "sees", .ref f8)], lF, ⟨rfl, rfl, rfl⟩, rfl, ?_, ?_, ?_, ?_⟩
    · intro e he
      simp only [List.mem_toArray, Array.mem_def, List.mem_cons, List.not_mem_nil, or_false] at he
      rcases he with rfl | rfl | rfl | rfl | rfl | rfl | rfl | rfl
      · exact ⟨.inr "holds", mixKind_str P w _ _, rfl⟩
      · exact ⟨.inr "not", mixKind_str P w _ _, rfl⟩
      · exact ⟨.inr "and", mixKind_str P w _ _, rfl⟩
      · exact ⟨.inr "or", mixKind_str P w _ _, rfl⟩
      · exact ⟨.inr "knows", mixKind_str P w _ _, rfl⟩
      · exact ⟨.inr "all", mixKind_str P w _ _, rfl⟩
      · exact ⟨.inr "common", mixKind_str P w _ _, rfl⟩
      · exact ⟨.inr "sees", mixKind_str P w _ _, rfl⟩
    · exact .cons (mixKind_str P w _ _) rfl (.cons (mixKind_str P w _ _) rfl (.cons (mixKind_str P w _ _) rfl (.cons (mixKind_str P w _ _) rfl (.cons (mixKind_str P w _ _) rfl (.cons (mixKind_str P w _ _) rfl (.cons (mixKind_str P w _ _) rfl (.cons (mixKind_str P w _ _) rfl .nil)))))))
    · show ([.inr "holds", .inr "not", .inr "and", .inr "or", .inr "knows", .inr "all", .inr "common", .inr "sees"] : List Key).Nodup
      decide +kernel
    · exact .cons ⟨rfl, rfl⟩ (.cons ⟨rfl, rfl⟩ (.cons ⟨rfl, rfl⟩ (.cons ⟨rfl, rfl⟩ (.cons ⟨rfl, rfl⟩ (.cons ⟨rfl, rfl⟩ (.cons ⟨rfl, rfl⟩ (.cons ⟨rfl, rfl⟩ .nil)))))))
end L2

end

section
-- KcTxN
set_option Elab.async false
set_option linter.all false
set_option maxRecDepth 100000
set_option maxHeartbeats 4000000
namespace L2
open PySem PySem.Spec PyProof.Rows
structure TabsB (P : Program) (w : World) (K : PySem.W.Frag) (mg : Str → Option Value) (G : Glo) : Prop extends Tabs P w K mg G where
  mb : mg "BETWEEN" = some (.ref G.cw)
  bwk : KTup K G.cw [.str "and", .str "or"]
theorem tabsB_mk {P : Program} {w : World} {K : PySem.W.Frag} {mg : Str → Option Value} {G : Glo} {w1 w2 : Tok} {nC : Nat} {oC : Option Addr} {sC : Array (Option Value)} (T : Tabs P w K mg G) (mb : mg "BETWEEN" = some (.ref G.cw))
    (lC : K.lookup G.cw = some ⟨.type "tuple", oC, .seq #[.str "and" w1, .str "or" w2] nC, sC⟩) : TabsB P w K mg G :=
  ⟨T, mb, ktup_mk lC _ (by show 2 ≤ sizeLine; decide) (.cons ⟨_, rfl⟩ (.cons ⟨_, rfl⟩ .nil))⟩
theorem strs_of : ∀ {zs : List Str} {us : List Value}, Vals (zs.map V.str) us → ∃ l : List (Str × Tok), us = strValues l ∧ l.map (·.1) = zs
  | [], _, h => by cases h; exact ⟨[], rfl, rfl⟩
  | z :: zs, _, h => by
    cases h with
    | cons r rs =>
      obtain ⟨t, rfl⟩ := (show ∃ t, _ = Value.str z t from r)
      obtain ⟨l, rfl, hl⟩ := strs_of rs
      exact ⟨(z, t) :: l, rfl, by rw [List.map_cons, hl]⟩
section
variable {X : Cx}
theorem mt_join : MtR X "str.join" rJoin := by
  intro pins s σ H x vs v us Q I rx rv h
  obtain ⟨sep, p, zs, rfl, rfl, hH, hl, hb, hs, q⟩ := h
  obtain ⟨t, rfl⟩ := (show ∃ t, v = Value.str sep t from rx)
  cases rv with
  | cons r rs =>
    cases rs
    cases r
    obtain ⟨_, its, n, ri, e⟩ := I.hok p _ hH
    obtain ⟨l, hus, hlz⟩ := strs_of ri
    have fits : zs.length * 100000 + zs.length * sep.length ≤ 16777216 := Nat.le_trans (Nat.add_le_add (Nat.mul_le_mul_right 100000 hl) (Nat.mul_le_mul hl hs)) (by decide)
    refine SC.join (l := l) (texts := zs) (x := sep) (D := p) ⟨_, e, rfl, n, by rw [← hus]⟩ hlz (by unfold JoinOk; rw [StrLaws.joinFits hb fits]; rfl) fun t' k => ⟨.str (Str.join sep zs), H, I.tok _, ⟨t', congrArg (fun z => Value.str z t') (PySem.StrLaws.glued_eq_join sep zs)⟩, q⟩
end
end L2

end

section
-- KcListN
set_option Elab.async false
set_option linter.all false
set_option maxRecDepth 100000
set_option maxHeartbeats 4000000
namespace L2
open PySem PySem.Spec PyProof.Rows
section
variable {X : Cx}
end
end L2

end

section
-- KcListZ
set_option Elab.async false
set_option linter.all false
set_option maxRecDepth 100000
set_option maxHeartbeats 4000000
namespace L2
open PySem PySem.Spec PyProof.Rows
section
variable {prog : Program} {w : World} {A : Around} {E : Value → Shared → Prop} {s : Shared}
/-! ### the loop of list(zip(..)) -/
end
section
variable {prog : Program} {w : World} {A : Around} {s : Shared} {R : Result → Shared → Prop}
end
end L2

end

section
-- KcZipL
set_option Elab.async false
set_option linter.all false
set_option maxRecDepth 100000
set_option maxHeartbeats 4000000
namespace L2
open PySem PySem.Spec PyProof.Rows
section
variable {prog : Program} {w : World} {A : Around} {E : Value → Shared → Prop} {s : Shared}
end
section
variable {X : Cx}
end
end L2

end

section
-- KcListV
set_option Elab.async false
set_option linter.all false
set_option maxRecDepth 100000
set_option maxHeartbeats 4000000
namespace L2
open PySem PySem.Spec PyProof.Rows
/-! ### list(reversed(xs)) of a list -/
section
variable {prog : Program} {w : World} {A : Around} {E : Value → Shared → Prop} {s : Shared}
end
section
variable {X : Cx}
end
end L2

end

section
-- KcSame
set_option Elab.async false
set_option linter.all false
set_option maxRecDepth 100000
set_option maxHeartbeats 4000000
namespace L2
open PySem PySem.Spec PyProof.Rows
section
variable {X : Cx}
theorem op_isnB : OpR X (compareOp .IsNot) rIsnB := by
  intro pins s σ H x y v u Q I rx ry h
  obtain ⟨a, b, rfl, rfl, q⟩ := h
  cases rx
  cases ry
  refine wpAny_isNot_plain rfl ⟨.bl (!(a == b)), H, I, ?_, q⟩
  cases a <;> cases b <;> rfl
end
end L2

end

section
-- KcRev
set_option Elab.async false
set_option linter.all false
set_option maxRecDepth 100000
set_option maxHeartbeats 4000000
/-! for x in reversed(list); try, where nothing is raised -/
namespace L2
open PySem PySem.Spec PyProof.Rows
theorem turn_rev {P : Program} {w : World} {K : PySem.W.Frag} {tg : Expr} (a it : Addr) (n : Nat) : Turn P w K tg (Itv K a n) [it] it (fun i h => h.IsRevIter it a ((n : Int) - 1 - (i : Int))) where
  mem := by simp
  obj := fun i h st b hb => by
    have e : b = it := by simpa using hb
    subst e
    obtain ⟨o, e, c, d⟩ := st
    exact ⟨o, e, fun v z => by rw [d] at z; cases z⟩
  keep := fun i h h' st k => st.at fun o e => k it (by simp) o e
  item := by
    intro X hP hw hK hc i pins s σ H E I hf st hg
    subst hP hw hK
    obtain ⟨hi, xs, hq, hn⟩ := hg
    obtain ⟨its, rv, p, hz⟩ := I.list hq
    have hx : xs[n - 1 - i]? = some (xs[n - 1 - i]'(by omega)) := List.getElem?_eq_getElem _
    obtain ⟨u, hu, ru⟩ := rv.get hx
    obtain ⟨f0, f1, f2, f3, f4, f5⟩ := hf it (by simp)
    have e0 : (n : Int) - 1 - (i : Int) = ((n - 1 - i : Nat) : Int) := by omega
    have st1 : s.heap.IsRevIter it a ((n - 1 - i : Nat) : Int) := e0 ▸ st
    refine wpAny_pyNext_rev_item st1 p.isList (x := u) (by simpa using hu) fun h' st' sb => ?_
    have I1 : Inv X pins σ H { s with heap := h' } := I.turned (t' := s.toks) (fun b o hb e => (sb.2 b hb).trans e) f0 f1 f3 f4 f5
    obtain ⟨o, e, c, d⟩ := id st'
    have e1 : ((n - 1 - i : Nat) : Int) - 1 = (n : Int) - 1 - ((i + 1 : Nat) : Int) := by omega
    exact ⟨u, rfl, go_of (s := { s with heap := h' }) e c d (by decide) ⟨_, H, I1, ru, ⟨rfl, fun ys hy => by rw [I.list_inj hy hq]; exact hx⟩, e1 ▸ st', fun b hb => (hf b hb).1⟩⟩
  done := by
    intro X hP hw hK hc i pins s σ H E I hf st hg
    subst hP hw hK
    obtain ⟨f0, f1, f2, f3, f4, f5⟩ := hf it (by simp)
    have hi : i = n := hg
    have e0 : (n : Int) - 1 - (i : Int) = -1 := by omega
    have st1 : s.heap.IsRevIter it a (-1) := e0 ▸ st
    exact wpAny_pyNext_rev_end (I.ok.hd hc) st1 fun h' eb => ⟨rfl, I.turned (t' := s.toks) (fun b o hb e => eb b o hb e) f0 f1 f3 f4 f5⟩
  self := fun _ _ _ _ _ st h => wpAny_pyIter_revIter st h
section
variable {X : Cx} {tg : Expr}
theorem pi_rev {a : Expr} {ta : TA} {p pos : Pos} (hg : Gl X "reversed") (hm : X.mg "reversed" = none) (ha : PA X [a] ta) (hs : starEach [a] X.env = [(false, eval a X.env)] := by rfl) : PI X tg (.Call (.Name "reversed" p) [a] [] pos) (iRev X.K ta) := by
  intro pins s σ H R I h
  refine Call_ (ld_blt I hg hm boot_reversed (PyProof.Rows.callWith_type1 (thn (ha pos pins s σ H _ I h) fun us s1 ⟨vs, H1, I1, r1, q1⟩ => ?_) hs rfl))
  obtain ⟨l, xs, e, hq, q⟩ := q1
  subst e
  obtain ⟨u, rfl, ru⟩ := vals1 r1
  cases ru
  obtain ⟨us1, rv, p1, hsz⟩ := srcL.get I1 hq
  have p1' : s1.heap.IsList l us1.toArray := p1
  refine call_reversed_list p1' (wpAny_pyIter_revIter (s := { s1 with heap := s1.heap.push (revObj l ((us1.toArray.size : Int) - 1)) }) (i := (us1.toArray.size : Int) - 1) ⟨_, Heap.get?_push_size _ rfl, rfl, rfl⟩ ?_)
  have hl := rv.length
  refine ⟨s1.heap.objs.size, [s1.heap.objs.size], _, _, H1, rfl, I1.kept (t' := s1.toks) fun b o e => Heap.get?_push_of_some _ e, turn_rev l _ xs.length, ?_, fun b hb => ?_, q⟩
  · refine ⟨_, Heap.get?_push_size _ rfl, rfl, ?_⟩
    show (revObj l ((us1.toArray.size : Int) - 1)).data = _
    have : ((us1.toArray.size : Int) - 1) = (xs.length : Int) - 1 - ((0 : Nat) : Int) := by
      have : us1.toArray.size = xs.length := by simpa using hl.symm
      rw [this]; omega
    rw [this]
    rfl
  · have e : b = s1.heap.objs.size := by simpa using hb
    subst e
    exact I1.fpOk (Nat.le_refl _) (I1.hok.fresh (Nat.le_refl _))
theorem ps_tryC {body : List Stmt} {h0 : ExceptHandler} {hs : List ExceptHandler} {tb : TS} {pos : Pos} (hx : ∀ e s, X.xe e s → False) (hb : PSs X body tb) : PS X (.Try body (h0 :: hs) [] [] pos) tb := by
  intro pins s σ H Z I h
  refine wpAny_Try_except (wpAny_mono (hb pins s σ H Z I h) (fun f s1 q => ?_) fun e s1 z => (hx _ _ z).elim)
  cases f with
  | next => exact wpAny_execs_nil q
  | brk => exact q
  | cont => exact q
  | ret u => exact q
end
end L2

end

section
-- KcTok
set_option Elab.async false
set_option linter.all false
set_option maxRecDepth 100000
set_option maxHeartbeats 4000000
/-! the count of tokens never falls -/
namespace L2
open PySem
theorem runs_toks {M : Model} {Γ : Ctx} {p : Pos} {t : Sem Fin} {fs : List Frame} {s : Shared} {e : End} {s' : Shared} (h : Runs M Γ p t fs s e s') : s.toks ≤ s'.toks := by
  induction h with
  | fresh _ ih => exact Nat.le_trans (Nat.le_succ _) ih
  | call _ _ a b => exact Nat.le_trans a b
  | resumeFresh _ _ _ _ a b => exact Nat.le_trans a b
  | resumeSuspended _ _ _ _ a b => exact Nat.le_trans a b
  | segRet _ _ a b => exact Nat.le_trans a b
  | segGen _ _ a b => exact Nat.le_trans a b
  | segSuspGen _ _ _ _ a b => exact Nat.le_trans a b
  | done => exact Nat.le_refl _
  | raise => exact Nat.le_refl _
  | yield => exact Nat.le_refl _
  | _ => assumption
theorem wakes_toks {M : Model} {Γ : Ctx} {p : Pos} {g : Nat} {r : Resume} {s : Shared} {res : GenResult} {s' : Shared} (h : Wakes M Γ p g r s res s') : s.toks ≤ s'.toks := by
  unfold Wakes at h
  split at h
  · exact h.elim
  · split at h
    · obtain ⟨e₁, s₁, h1, _, _, rfl⟩ := h; exact show (s.setGen g .running).toks ≤ s₁.toks from runs_toks h1
    · obtain ⟨_, rfl⟩ := h; exact Nat.le_refl _
    · obtain ⟨_, rfl⟩ := h; exact Nat.le_refl _
  · obtain ⟨e₁, s₁, h1, _, _, rfl⟩ := h; exact show (s.setGen g .running).toks ≤ s₁.toks from runs_toks h1
  · obtain ⟨_, rfl⟩ := h; exact Nat.le_refl _
  · obtain ⟨_, rfl⟩ := h; exact Nat.le_refl _
theorem wp_toks {α : Type} {M : Model} {Γ : Ctx} {Q : α → Pos → Shared → Prop} {E : Value → Pos → Shared → Prop} {n : Nat} (t : Sem α) : ∀ {p : Pos} {s : Shared}, n ≤ s.toks → Sem.wp M Γ t (fun a p' s' => n ≤ s'.toks → Q a p' s') (fun e p' s' => n ≤ s'.toks → E e p' s') p s → Sem.wp M Γ t Q E p s := by
  induction t with
  | pure a => exact fun hn h => h hn
  | raise e => exact fun hn h => h hn
  | fresh k ih => exact fun {p s} hn h => ih _ (Nat.le_trans hn (Nat.le_succ _)) h
  | load a part k ih => exact fun {p s} hn ⟨o, ho, h⟩ => ⟨o, ho, ih _ hn h⟩
  | update a part f k ih => exact fun {p s} hn ⟨ho, h⟩ => ⟨ho, ih _ hn h⟩
  | choose src m k ih => exact fun {p s} hn ⟨ho, h⟩ => ⟨ho, ih _ hn h⟩
  | call c h g l k ih => exact fun {p s} hn ⟨r, s', hr, h⟩ => ⟨r, s', hr, ih _ (Nat.le_trans hn (runs_toks hr)) h⟩
  | genState g k ih => exact fun {p s} hn ⟨st, ho, h⟩ => ⟨st, ho, ih _ hn h⟩
  | resume g r l k ih => exact fun {p s} hn ⟨res, s', hw, h⟩ => ⟨res, s', hw, ih _ (Nat.le_trans hn (wakes_toks hw)) h⟩
  | rule tag k ih => exact fun {p s} hn h => ih _ hn h
  | «at» p' k ih => exact fun {p s} hn h => ih _ hn h
  | loadIfAlive a k ih => exact fun {p s} hn h => ih _ hn h
  | point l k ih => exact fun {p s} hn h => ih _ hn h
  | alloc o k ih => exact fun {p s} hn h => ih _ hn h
  | ask k ih => exact fun {p s} hn h => ih _ hn h
  | os q l k ih => exact fun {p s} hn h => ih _ hn h
  | handled own k ih => exact fun {p s} hn h => ih _ hn h
  | newGen c k ih => exact fun {p s} hn h => ih _ hn h
  | stack k ih => exact fun {p s} hn h => ih _ hn h
  | thread k ih => exact fun {p s} hn h => ih _ hn h
  | unsupported w => exact fun hn h => h
  | «finish» e => exact fun hn h => h
  | register => exact fun hn h => h
  | yield => exact fun hn h => h
  | fork => exact fun hn h => h
  | await => exact fun hn h => h
theorem wpAny_toks {α : Type} {M : Model} {A : Around} {t : Sem α} {Q : α → Shared → Prop} {E : Value → Shared → Prop} {s : Shared} (h : wpAny M A t (fun a s' => s.toks ≤ s'.toks → Q a s') (fun e s' => s.toks ≤ s'.toks → E e s') s) : wpAny M A t Q E s := fun Γ p hΓ => wp_toks t (Nat.le_refl _) (h Γ p hΓ)
end L2

end

section
-- KcTokF
set_option Elab.async false
set_option linter.all false
set_option maxRecDepth 100000
set_option maxHeartbeats 4000000
/-! a frame whose first parameter is a local name begins with a token behind it -/
namespace L2
open PySem
section
variable {M : Model} {A : Around} {E : Value → Shared → Prop} {s₀ s : Shared}
theorem store_pos {env : Env} {m cm : Str → Option Value} {n : Str} {v : Value} {Q : Unit → Shared → Prop} (x : InCallC s₀ env.locals m env.cells cm s) (hk : env.scope.kind = .function) (hl : env.kindOf n = some .local)
    (h : ∀ s', 0 < s'.toks → InCallC s₀ env.locals (fun y => if y = n then some v else m y) env.cells cm s' → Q () s') : wpAny M A (storeName env n v) Q E s := by
  refine wpAny_storeName_local hl x.toInCall.ns (fun h' hn' hs' => h _ (Nat.succ_pos _) ?_) (by rw [hk]; rfl)
  refine ⟨⟨?_, hn', fun b o e => ?_, x.toInCall.fresh⟩, fun k c hc => ?_, x.apart, x.above⟩
  · obtain ⟨h₁, tk, rfl⟩ := x.toInCall.same
    exact ⟨h', _, rfl⟩
  · exact hs'.extBut b o (Nat.ne_of_lt (Nat.lt_of_lt_of_le (Heap.lt_size e) x.toInCall.fresh)) (x.toInCall.keep b o e)
  · exact (x.cell k c hc).sameBut hs' (Nat.ne_of_gt (x.above k c (mem_of_lookup hc)))
theorem binds_pos {env : Env} (f : Str × Value → PUnit → Sem (ForInStep PUnit)) (hf : ∀ n v u, f (n, v) u = (do storeName env n v; pure (.yield ⟨⟩))) (hk : env.scope.kind = .function) {n : Str} {v : Value} {r : List (Str × Value)} {m cm : Str → Option Value} {Q : PUnit → Shared → Prop}
    (x : InCallC s₀ env.locals m env.cells cm s) (hl : env.kindOf n = some .local) (hr : ∀ y ∈ r, env.kindOf y.1 = some .local ∨ (env.kindOf y.1 = some .cell ∧ (env.cells.lookup y.1).isSome = true))
    (h : ∀ s', 0 < s'.toks → InCallC s₀ env.locals (bindL env.kindOf ((n, v) :: r) m) env.cells (bindC env.kindOf ((n, v) :: r) cm) s' → Q ⟨⟩ s') : wpAny M A (forIn ((n, v) :: r) ⟨⟩ f) Q E s := by
  rw [List.forIn_cons, hf]
  refine wpAny_bind (wpAny_bind (store_pos x hk hl fun s' hp x' => wpAny_pure (wpAny_mono (wpAny_toks (E := fun _ _ => False) (wpAny_bindParams f hf hk r _ _ s' (fun u s'' => s'.toks ≤ s''.toks → Q u s'') x' hr fun s'' x'' hge => h s'' (Nat.lt_of_lt_of_le hp hge) ?_)) (fun _ _ q => q) fun _ _ q => q.elim)))
  unfold bindL bindC
  rw [if_pos hl, if_pos hl]
  exact x''
theorem newEnv_pos {scope : Scope} {globals : Addr} {n : Str} {v : Value} {r : List (Str × Value)} {qual : Str} {func : Option Addr} {code : Value} {builtins : Addr} {Q : Env → Shared → Prop} (hk : scope.kind = .function) (hl : scope.names.lookup n = some .local)
    (hr : ∀ x ∈ r, scope.names.lookup x.1 = some .local ∨ (scope.names.lookup x.1 = some .cell ∧ ((cellsFrom (s.heap.objs.size + 1) scope.names []).lookup x.1).isSome = true))
    (hQ : ∀ env, env = newEnv scope s.heap.objs.size globals (cellsFrom (s.heap.objs.size + 1) scope.names []) qual func code none builtins → ∀ s', 0 < s'.toks →
      InCallC s env.locals (bindL env.kindOf ((n, v) :: r) fun _ => none) env.cells (bindC env.kindOf ((n, v) :: r) fun _ => none) s' → Q env s') :
    wpAny M A (newFunctionEnv scope globals [] ((n, v) :: r) qual func code none builtins) Q E s := by
  have ok := cellsFrom_ok scope.names (s.heap.push { cls := .type "frame", data := .dict #[] }) (s.heap.objs.size + 1) [] ⟨fun _ _ hm => (nomatch hm), List.Pairwise.nil⟩ (by rw [Heap.size_push]; exact Nat.le_refl _)
  rw [Heap.size_push] at ok
  unfold newFunctionEnv
  simp only [Option.isSome_none, Bool.false_eq_true, if_false]
  refine wpAny_bind (wpAny_alloc (wpAny_bind (wpAny_layCells _ (fun name kind cells => by cases hkc : kind == NameKind.cell <;> simp [hkc]) _ _ _ _ ?_)))
  rw [show ({ s with heap := s.heap.push { cls := .type "frame", data := .dict #[] } } : Shared).heap.objs.size = s.heap.objs.size + 1 from Heap.size_push ..]
  have start : InCallC s s.heap.objs.size (fun _ => none) (cellsFrom (s.heap.objs.size + 1) scope.names []) (fun _ => none) { s with heap := pushCells (s.heap.push { cls := .type "frame", data := .dict #[] }) scope.names } := ⟨⟨⟨_, s.toks, rfl⟩, (Heap.Ns.new s.heap (.type "frame")).keeps (pushCells_keeps _ _), fun b o e => pushCells_keeps _ _ b o (Heap.get?_push_of_some _ e), Nat.le_refl _⟩, fun n c hc => (ok.empty n c (mem_of_lookup hc)).1, ok.apart, fun n c hm => (ok.empty n c hm).2⟩
  exact wpAny_bind (binds_pos (s₀ := s) (env := newEnv scope s.heap.objs.size globals (cellsFrom (s.heap.objs.size + 1) scope.names []) qual func code none builtins) _ (fun _ _ _ => rfl) hk start hl hr fun s' hp x => wpAny_pure (hQ _ rfl s' hp x))
end
end L2

end

section
-- KcTokR
set_option Elab.async false
set_option linter.all false
set_option maxRecDepth 100000
set_option maxHeartbeats 4000000
/-! text.replace(c, d), behind a token -/
namespace L2
open PySem PySem.Spec PyProof.Rows
section
variable {X : Cx}
noncomputable def PET (X : Cx) (e : Expr) (t : TE) : Prop :=
  ∀ (pins : List (Addr × Obj)) (s : Shared) (σ : St) (H : Hp) (Q : VK), 0 < s.toks → Inv X pins σ H s → t σ H Q → wpAny (model X.prog X.w) X.A (eval e X.env) (EP X pins σ Q) X.xe s
theorem PET.of {e : Expr} {t : TE} (h : PE X e t) : PET X e t := fun pins s σ H Q _ I q => h pins s σ H Q I q
theorem PET.thn {e : Expr} {t : TE} (h : PET X e t) {pins : List (Addr × Obj)} {s : Shared} {σ : St} {H : Hp} {Q : VK} {Q' : Value → Shared → Prop} (hp : 0 < s.toks) (I : Inv X pins σ H s) (q : t σ H Q) (k : ∀ u s1, 0 < s1.toks → EP X pins σ Q u s1 → Q' u s1) : wpAny (model X.prog X.w) X.A (eval e X.env) Q' X.xe s :=
  wpAny_toks (wpAny_mono (h pins s σ H Q hp I q) (fun u s1 z hge => k u s1 (Nat.lt_of_lt_of_le hp hge) z) fun e s1 z _ => z)
theorem pet_replace {o : Expr} {to : TE} {c d : Str} {j1 j2 : Nat} {p1 p2 apos cpos : Pos} (ho : PET X o to) (hcd : (c == d) = false) (hd : d.length ≤ 14)
    (hbase : attributeBase o "replace" X.env (eval o X.env) = eval o X.env := by rfl) (hline : (apos.endLine == cpos.line) = true := by rfl) :
    PET X (.Call (.Attribute o "replace" apos) [.Constant (.str c) j1 p1, .Constant (.str d) j2 p2] [] cpos) (tRep c d to) := by
  intro pins s σ H Q hp I h
  refine wpAny_Call_method_late hbase (by rfl) hline rfl (ho.thn hp I h fun v s1 hp1 ⟨x, H1, I1, r1, t, e, hl, q⟩ => ?_)
  subst e
  obtain ⟨tk, rfl⟩ := (show ∃ tk, v = Value.str t tk from r1)
  refine ⟨"str", "str.replace", PySem.F.plainAttrs_str, PySem.F.slot_str_replace, PySem.F.type_str_replace, typeIs_str _ _ _, (fun b e => by cases e), ?_⟩
  refine Calls.callWith_builtin (by rfl) (Calls.evalArgs_plain ?_)
  refine Calls.spliced_cons (Calls.Constant_str (k := j1) (pos := p1) (Calls.spliced_cons (Calls.Constant_str (k := j2) (pos := p2) (Calls.spliced_nil ?_))))
  refine SC.replaceW (show s1.toks ≠ 0 by omega) (by show s1.toks + 1 ≠ 0; omega) (by show s1.toks ≠ s1.toks + 1; omega) hcd (Nat.le_trans hl (by decide)) hd fun t' k => ?_
  exact ⟨.str (Txt.replace t c d), H1, I1.tok _, ⟨t', rfl⟩, q⟩
end
end L2

end

section
-- KcSpl
set_option Elab.async false
set_option linter.all false
set_option maxRecDepth 100000
set_option maxHeartbeats 4000000
/-! text.split(sep) -/
namespace L2
open PySem PySem.Spec PyProof.Rows PySem.Builtin PySem.Builtin.Str
section
variable {X : Cx}
theorem vals_strs (l : List (Str × Tok)) : Vals ((l.map (·.1)).map V.str) (strValues l) := by
  induction l with
  | nil => exact .nil
  | cons a l ih => exact .cons ⟨a.2, rfl⟩ ih
theorem mt_split : MtR X "str.split" rSplit := by
  intro pins s σ H x vs v us Q I rx rv h
  obtain ⟨t, c, rfl, rfl, hc, hl, q⟩ := h
  obtain ⟨tk, rfl⟩ := (show ∃ tk, v = Value.str t tk from rx)
  cases rv with
  | cons r rs =>
    cases rs
    obtain ⟨u, rfl⟩ := (show ∃ u, _ = Value.str c u from r)
    have hf : H s.heap.objs.size = none := I.hok.fresh (Nat.le_refl _)
    have fin : ∀ (l : List (Str × Tok)) (k : Nat), l.map (·.1) = Txt.split t c → l.length ≤ sizeLine → EP X pins σ Q (.ref s.heap.objs.size) { s with toks := k, heap := s.heap.push { cls := .type "list", data := .seq (strValues l).toArray } } := fun l k e hz =>
      ⟨.ref s.heap.objs.size, _, I.laid (t' := k) (o := .lst ((Txt.split t c).map V.str)) (fun b ob z => Heap.get?_push_of_some _ z) (Nat.le_refl _) ⟨by rw [← e, List.length_map, List.length_map]; exact hz, strValues l, 0, by rw [← e]; exact vals_strs l, Heap.get?_push_size _ rfl⟩, rfl, q.upd _ hf⟩
    have hsz : t.length ≤ sizeLine := by rw [sizeLine_eq]; omega
    have hsz2 : (partsBetween t (occurrences t c 0 t.length (t.length + 1)) c.length).length ≤ sizeLine := by
      have h1 := StrLaws.occ_length_le t c 0 t.length (t.length + 1)
      unfold partsBetween
      rw [List.length_map, List.length_zip, List.length_cons, List.length_map, List.length_append, List.length_singleton, sizeLine_eq]
      omega
    cases h1 : (decide (t.length < c.length) || decide (strKind t < strKind c))
    · cases hf : (occurrences t c 0 t.length (t.length + 1)).isEmpty
      · refine call_meets F.slot_str_split (typeIs_str _ _ _) F.entry_str_split (F.args_str_split_2 _ _) (meets_str_split_sep t c tk u h1 hc hf hsz hsz2) ?_
        show EP X pins σ Q (.ref s.heap.objs.size) { s with toks := _, heap := s.heap.push { cls := .type "list", data := .seq (strsFrom s.toks (partsBetween t (occurrences t c 0 t.length (t.length + 1)) c.length)).toArray } }
        rw [strsFrom_eq]
        refine fin (numbered s.toks _) _ ((numbered_texts _ _).trans ((if_neg (ne_true_of_eq_false h1)).trans (if_neg (ne_true_of_eq_false hf))).symm) ?_
        have := congrArg List.length (numbered_texts s.toks (partsBetween t (occurrences t c 0 t.length (t.length + 1)) c.length))
        rw [List.length_map] at this
        rw [this]
        exact hsz2
      · exact call_meets F.slot_str_split (typeIs_str _ _ _) F.entry_str_split (F.args_str_split_2 _ _) (meets_str_split_not_found t c tk u h1 hc hf) (fin [(t, tk)] s.toks ((if_neg (ne_true_of_eq_false h1)).trans (if_pos hf)).symm (by rw [sizeLine_eq]; show 1 ≤ 16777216; decide))
    · exact call_meets F.slot_str_split (typeIs_str _ _ _) F.entry_str_split (F.args_str_split_2 _ _) (meets_str_split_cannot_occur t c tk u h1) (fin [(t, tk)] s.toks (if_pos h1).symm (by rw [sizeLine_eq]; show 1 ≤ 16777216; decide))
end
end L2

end

section
-- KcFnT
set_option Elab.async false
set_option linter.all false
set_option maxRecDepth 100000
set_option maxHeartbeats 4000000
/-! a def whose body may take it that a token lies behind: its first parameter is a local name -/
namespace L2
open PySem PySem.Spec PyProof.Rows
section
variable {X : Cx}
noncomputable def PSsT (X : Cx) (st : List Stmt) (t : TS) : Prop :=
  ∀ (pins : List (Addr × Obj)) (s : Shared) (σ : St) (H : Hp) (D : Ends), 0 < s.toks → Inv X pins σ H s → t D σ H → wpAny (model X.prog X.w) X.A (execs st X.env) (SP X pins D) X.xe s
theorem psT_ret {e : Expr} {te : TE} {pos : Pos} (he : PET X e te) : PSsT X [.Return (some e) pos] (tRet te) := by
  intro pins s σ H D hp I h
  have h1 : wpAny (model X.prog X.w) X.A (exec (.Return (some e) pos) X.env) (SP X pins D) X.xe s := wpAny_Return_some (thn (he pins s σ H _ hp I h) fun v s1 ⟨x, H1, I1, r1, q1⟩ => ⟨x, σ, H1, I1, r1, q1⟩)
  refine wpAny_execs_cons (thn h1 fun f s1 q => ?_)
  cases f with
  | next => exact wpAny_execs_nil q
  | ret v => exact q
  | brk => exact q
  | cont => exact q
theorem PSsT.nox {st : List Stmt} {t : TS} (h : PSsT X.nox st t) : PSsT X st t := fun pins s σ H D hp I hw =>
  wpAny_mono (h pins s σ H D hp (I.wish _) hw) (fun _ _ q => q.unwish) fun _ _ z => False.elim z
noncomputable def flV : Flow → Value
  | .ret v => v
  | _ => .none
theorem end_of {CX : CXT} {P : Program} {w : World} {K : PySem.W.Frag} {mg : Str → Option Value} {base : Heap} {N : List Str} {qual : Str} {scope : Scope} {f : Addr} {cdv : Value} {A : Around} {outer : List Env} {s s' : Shared} {H : Hp} {E : XK} {Q : VK} {fl : Flow}
    (hs : SP (cxOf CX P w K mg base N qual scope f cdv A outer s H E) [] { nx := fun _ H' => Q .non H', rt := Q } fl s') : CR CX outer P w H s Q E (.ok (.ret (flV fl))) s' := by
  cases fl with
  | ret u =>
    obtain ⟨v, σ', H', J, rv, q⟩ := hs
    exact ⟨v, H', J.os, J.bare, J.base, J.hok, rv, q⟩
  | next =>
    obtain ⟨σ', H', J, q⟩ := hs
    exact ⟨.non, H', J.os, J.bare, J.base, J.hok, rfl, q⟩
  | brk => obtain ⟨_, _, _, q⟩ := hs; exact False.elim q
  | cont => obtain ⟨_, _, _, q⟩ := hs; exact False.elim q
theorem fn_ofT {CX : CXT} {P : Program} {w : World} {K : PySem.W.Frag} {mg : Str → Option Value} {base : Heap} {k : Nat} {f : Addr} {name qual : Str} {params : Arguments} {body : List Stmt} {scope : Scope} {dV kV doc pm cdv ct oc : Value} {an od : Option Addr}
    {osl : Array (Option Value)} {N ps : List Str} {p0 : Str} {sp : Sp} (lk : K.lookup f = some ⟨oc, od, .func (PySem.W.fnOf name qual params body scope dV kV doc pm an cdv ct), osl⟩) (hcd : PySem.W.codeIn K cdv qual = true) (S : FnScope N (p0 :: ps) scope) (h0 : scope.names.lookup p0 = some .local)
    (len : ∀ vs H Q E, sp vs H Q E → vs.length = (p0 :: ps).length)
    (hbody : ∀ (A : Around) (outer : List Env) (s : Shared) (H : Hp) (vs : List V) (Q : VK) (E : XK), Room k (A.deeper (envOfC qual scope s.heap.objs.size f cdv)) → sp vs H Q E →
      ∃ t, PSsT (cxOf CX P w K mg base N qual scope f cdv A outer s H E) body t ∧ t { nx := fun _ H' => Q .non H', rt := Q } (start N vs) H) :
    FnOk P w K mg base CX (k + 1) f (PySem.W.fnOf name qual params body scope dV kV doc pm an cdv ct) (p0 :: ps) sp := by
  refine ⟨len, fun A outer s H args us vs Q E hr e0 hb r hsp => ?_⟩
  have hl := len _ _ _ _ hsp
  have KX : K.In s.heap := e0.mod.kin.keeps fun b o e => (e0.bs b o e).1
  have lim : s.heap.NoLimit := e0.mod.nolimit.keeps fun b o e => (e0.bs b o e).1
  refine codeAny_call_function hr.depth (KX _ _ lk) rfl S.co S.gen rfl (PySem.W.codeRec_of KX hcd) (hb _ _ _ _ ?_)
  match us, r, hl with
  | [], r, hl => cases r; simp at hl
  | u0 :: us, r, hl =>
    refine newEnv_pos (n := p0) (v := u0) (r := ps.zip us) S.kind h0 (fun y hy => ?_) fun env he s1 hp x => ?_
    · rcases S.par y.1 (List.mem_cons_of_mem _ (List.of_mem_zip hy).1) with q | q
      · exact .inl q
      · exact .inr ⟨q, PySem.W.cellsFrom_some _ _ _ (.inl q)⟩
    subst he
    refine ⟨lim.keeps x.toInCall.keep, codeAny_func ?_⟩
    obtain ⟨t, ht, hq⟩ := hbody A outer s H vs Q E (hr.deeper _) hsp
    have I : Inv (cxOf CX P w K mg base N qual scope f cdv A outer s H E) [] (start N vs) H s1 := inv_start S hr.hd e0 hl r x
    exact wpAny_mono (ht [] s1 (start N vs) H _ hp I hq) (fun fl s' hs => by cases fl <;> exact end_of hs) fun e s' hs => hs
variable {P : Program} {w : World} {K : PySem.W.Frag} {mg : Str → Option Value} {base : Heap}
theorem Fun.okT {x qual : Str} {st : Stmt} {f : Addr} {fd : FuncData} {N ps : List Str} {p0 : Str} {k : Nat} {sp : Sp} (F : Fun K x qual st f fd) (S : FnScope N (p0 :: ps) (defScope st)) (h0 : (defScope st).names.lookup p0 = some .local) (len : ∀ vs H Q E, sp vs H Q E → vs.length = (p0 :: ps).length)
    (hbody : ∀ (cdv : Value) (A : Around) (outer : List Env) (s : Shared) (H : Hp) (vs : List V) (Q : VK) (E : XK), Room k (A.deeper (envOfC qual (defScope st) s.heap.objs.size f cdv)) → sp vs H Q E →
      ∃ t, PSsT (cxOf CX0 P w K mg base N qual (defScope st) f cdv A outer s H E).nox (defBody st) t ∧ t { nx := fun _ H' => Q .non H', rt := Q } (start N vs) H) : FnOk P w K mg base CX0 (k + 1) f fd (p0 :: ps) sp := by
  obtain ⟨oc, od, kV, doc, pm, an, cdv, ct, osl, rfl, lk, hcd⟩ := F.ex
  refine fn_ofT lk hcd S h0 len fun A outer s H vs Q E hr hsp => ?_
  obtain ⟨t, h, q⟩ := hbody cdv A outer s H vs Q E hr hsp
  exact ⟨t, h.nox, q⟩
theorem Def.okT {x : Str} {st : Stmt} {N ps : List Str} {p0 : Str} {f : Addr} {fd : FuncData} {k : Nat} {sp : Sp} (D : Def K mg x st (p0 :: ps) f fd) (S : FnScope N (p0 :: ps) (defScope st)) (h0 : (defScope st).names.lookup p0 = some .local) (len : ∀ vs H Q E, sp vs H Q E → vs.length = (p0 :: ps).length)
    (hbody : ∀ (cdv : Value) (A : Around) (outer : List Env) (s : Shared) (H : Hp) (vs : List V) (Q : VK) (E : XK), Room k (A.deeper (envOfC x (defScope st) s.heap.objs.size f cdv)) → sp vs H Q E →
      ∃ t, PSsT (cxOf CX0 P w K mg base N x (defScope st) f cdv A outer s H E).nox (defBody st) t ∧ t { nx := fun _ H' => Q .non H', rt := Q } (start N vs) H) : FnB P w K mg base (k + 1) x (p0 :: ps) sp :=
  ⟨f, fd, D.fn.okT S h0 len hbody, D.m, D.fn.kp, D.b⟩
theorem pet_split {o : Expr} {to : TE} {c : Str} {j1 : Nat} {p1 apos cpos : Pos} (ho : PET X o to)
    (hbase : attributeBase o "split" X.env (eval o X.env) = eval o X.env := by rfl) (hline : (apos.endLine == cpos.line) = true := by rfl) :
    PET X (.Call (.Attribute o "split" apos) [.Constant (.str c) j1 p1] [] cpos) (tSplT c to) := by
  intro pins s σ H Q hp I h
  refine wpAny_Call_method_late hbase (by rfl) hline rfl (ho.thn hp I h fun v s1 hp1 ⟨x, H1, I1, r1, ⟨t, e⟩, q⟩ => ?_)
  subst e
  obtain ⟨tk, rfl⟩ := (show ∃ tk, v = Value.str t tk from r1)
  refine ⟨"str", "str.split", PySem.F.plainAttrs_str, PySem.F.slot_str_split, PySem.F.type_str_split, typeIs_str _ _ _, (fun b e => by cases e), ?_⟩
  refine Calls.callWith_builtin (by rfl) (Calls.evalArgs_plain ?_)
  refine Calls.spliced_cons (Calls.Constant_str (k := j1) (pos := p1) (Calls.spliced_nil ?_))
  exact mt_split pins _ σ H1 (.str t) [.str c] _ [.str c s1.toks] Q (I1.tok _) ⟨tk, rfl⟩ (.cons ⟨_, rfl⟩ .nil) q
end
end L2

end

section
-- KcIntT
set_option Elab.async false
set_option linter.all false
set_option maxRecDepth 100000
set_option maxHeartbeats 4000000
/-! int(text) of a number's own text -/
namespace L2
open PySem PySem.Spec PyProof.Rows
section
variable {X : Cx}
theorem call_intT : CallR X (.type "int") cIntT := by
  intro pins s σ H xs us Q I r h
  obtain ⟨n, rfl, h0, h1, q⟩ := h
  obtain ⟨u, rfl, rx⟩ := r.one
  obtain ⟨tk, rfl⟩ := (show ∃ tk, u = Value.str (Str.ofString (toString n)) tk from rx)
  exact PySem.W.KIN.call_num h0 (by omega) ⟨.int n, H, I.tok _, ⟨_, rfl⟩, q⟩
end
end L2

end

section
-- KcJn
set_option Elab.async false
set_option linter.all false
set_option maxRecDepth 100000
set_option maxHeartbeats 4000000
namespace L2
open PySem PySem.Spec PyProof.Rows
section
variable {X : Cx}
theorem mt_joinB : MtR X "str.join" rJoinB := by
  intro pins s σ H x vs v us Q I rx rv h
  obtain ⟨sep, p, zs, B, rfl, rfl, hH, hb, fits, q⟩ := h
  obtain ⟨t, rfl⟩ := (show ∃ t, v = Value.str sep t from rx)
  cases rv with
  | cons r rs =>
    cases rs
    cases r
    obtain ⟨_, its, n, ri, e⟩ := I.hok p _ hH
    obtain ⟨l, hus, hlz⟩ := strs_of ri
    refine SC.join (l := l) (texts := zs) (x := sep) (D := p) ⟨_, e, rfl, n, by rw [← hus]⟩ hlz (by unfold JoinOk; rw [StrLaws.joinFits hb fits]; rfl) fun t' k => ⟨.str (Str.join sep zs), H, I.tok _, ⟨t', congrArg (fun z => Value.str z t') (PySem.StrLaws.glued_eq_join sep zs)⟩, q⟩
end
end L2

end

set_option Elab.async false
set_option linter.all false
set_option maxRecDepth 100000
set_option maxHeartbeats 4000000
namespace Kc_k13
open PySem L2 PyProof.Rows
seal L2.PE L2.PA L2.PS L2.PSs L2.PT L2.PW L2.PI L2.PG L2.PGs L2.PO L2.PTL L2.OpR L2.UnR L2.CallR L2.SlR L2.IxR L2.PSet
noncomputable def top (i : Nat) : Stmt := PySem.Challenge.pw_knowcards_k13_whole_one_text_each.main.body.getD i (.Pass ⟨0, 0, 0, 0⟩)
noncomputable abbrev S_is_whole : Stmt := top 4
theorem sc_is_whole : FnScope ["thing"] ["thing"] (defScope S_is_whole) := ⟨rfl, rfl, rfl, by decide +kernel, rfl, by decide +kernel, by decide +kernel⟩
theorem v_is_whole_0 : VarAt ["thing"] (defScope S_is_whole) 0 "thing" := ⟨rfl, by first | exact Or.inl rfl | exact Or.inr (Or.inl rfl) | exact Or.inr (Or.inr rfl), by decide, by decide⟩
noncomputable abbrev S_is_within : Stmt := top 5
theorem sc_is_within : FnScope ["thing", "least", "most"] ["thing", "least", "most"] (defScope S_is_within) := ⟨rfl, rfl, rfl, by decide +kernel, rfl, by decide +kernel, by decide +kernel⟩
theorem v_is_within_0 : VarAt ["thing", "least", "most"] (defScope S_is_within) 0 "thing" := ⟨rfl, by first | exact Or.inl rfl | exact Or.inr (Or.inl rfl) | exact Or.inr (Or.inr rfl), by decide, by decide⟩
theorem v_is_within_1 : VarAt ["thing", "least", "most"] (defScope S_is_within) 1 "least" := ⟨rfl, by first | exact Or.inl rfl | exact Or.inr (Or.inl rfl) | exact Or.inr (Or.inr rfl), by decide, by decide⟩
theorem v_is_within_2 : VarAt ["thing", "least", "most"] (defScope S_is_within) 2 "most" := ⟨rfl, by first | exact Or.inl rfl | exact Or.inr (Or.inl rfl) | exact Or.inr (Or.inr rfl), by decide, by decide⟩
noncomputable abbrev S_is_below : Stmt := top 6
theorem sc_is_below : FnScope ["thing", "bound"] ["thing", "bound"] (defScope S_is_below) := ⟨rfl, rfl, rfl, by decide +kernel, rfl, by decide +kernel, by decide +kernel⟩
theorem v_is_below_0 : VarAt ["thing", "bound"] (defScope S_is_below) 0 "thing" := ⟨rfl, by first | exact Or.inl rfl | exact Or.inr (Or.inl rfl) | exact Or.inr (Or.inr rfl), by decide, by decide⟩
theorem v_is_below_1 : VarAt ["thing", "bound"] (defScope S_is_below) 1 "bound" := ⟨rfl, by first | exact Or.inl rfl | exact Or.inr (Or.inl rfl) | exact Or.inr (Or.inr rfl), by decide, by decide⟩
noncomputable abbrev S_are_hands : Stmt := top 7
theorem sc_are_hands : FnScope ["thing", "hands", "least", "hand"] ["thing", "hands"] (defScope S_are_hands) := ⟨rfl, rfl, rfl, by decide +kernel, rfl, by decide +kernel, by decide +kernel⟩
theorem v_are_hands_0 : VarAt ["thing", "hands", "least", "hand"] (defScope S_are_hands) 0 "thing" := ⟨rfl, by first | exact Or.inl rfl | exact Or.inr (Or.inl rfl) | exact Or.inr (Or.inr rfl), by decide, by decide⟩
theorem v_are_hands_1 : VarAt ["thing", "hands", "least", "hand"] (defScope S_are_hands) 1 "hands" := ⟨rfl, by first | exact Or.inl rfl | exact Or.inr (Or.inl rfl) | exact Or.inr (Or.inr rfl), by decide, by decide⟩
theorem v_are_hands_2 : VarAt ["thing", "hands", "least", "hand"] (defScope S_are_hands) 2 "least" := ⟨rfl, by first | exact Or.inl rfl | exact Or.inr (Or.inl rfl) | exact Or.inr (Or.inr rfl), by decide, by decide⟩
theorem v_are_hands_3 : VarAt ["thing", "hands", "least", "hand"] (defScope S_are_hands) 3 "hand" := ⟨rfl, by first | exact Or.inl rfl | exact Or.inr (Or.inl rfl) | exact Or.inr (Or.inr rfl), by decide, by decide⟩
noncomputable abbrev S_is_saying : Stmt := top 11
theorem sc_is_saying : FnScope ["cards", "hands", "thing", "words", "level"] ["cards", "hands", "thing"] (defScope S_is_saying) := ⟨rfl, rfl, rfl, by decide +kernel, rfl, by decide +kernel, by decide +kernel⟩
theorem v_is_saying_0 : VarAt ["cards", "hands", "thing", "words", "level"] (defScope S_is_saying) 0 "cards" := ⟨rfl, by first | exact Or.inl rfl | exact Or.inr (Or.inl rfl) | exact Or.inr (Or.inr rfl), by decide, by decide⟩
theorem v_is_saying_1 : VarAt ["cards", "hands", "thing", "words", "level"] (defScope S_is_saying) 1 "hands" := ⟨rfl, by first | exact Or.inl rfl | exact Or.inr (Or.inl rfl) | exact Or.inr (Or.inr rfl), by decide, by decide⟩
theorem v_is_saying_2 : VarAt ["cards", "hands", "thing", "words", "level"] (defScope S_is_saying) 2 "thing" := ⟨rfl, by first | exact Or.inl rfl | exact Or.inr (Or.inl rfl) | exact Or.inr (Or.inr rfl), by decide, by decide⟩
theorem v_is_saying_3 : VarAt ["cards", "hands", "thing", "words", "level"] (defScope S_is_saying) 3 "words" := ⟨rfl, by first | exact Or.inl rfl | exact Or.inr (Or.inl rfl) | exact Or.inr (Or.inr rfl), by decide, by decide⟩
theorem v_is_saying_4 : VarAt ["cards", "hands", "thing", "words", "level"] (defScope S_is_saying) 4 "level" := ⟨rfl, by first | exact Or.inl rfl | exact Or.inr (Or.inl rfl) | exact Or.inr (Or.inr rfl), by decide, by decide⟩
noncomputable abbrev S_is_word : Stmt := top 12
theorem sc_is_word : FnScope ["cards", "hands", "thing", "form"] ["cards", "hands", "thing"] (defScope S_is_word) := ⟨rfl, rfl, rfl, by decide +kernel, rfl, by decide +kernel, by decide +kernel⟩
theorem v_is_word_2 : VarAt ["cards", "hands", "thing", "form"] (defScope S_is_word) 2 "thing" := ⟨rfl, by first | exact Or.inl rfl | exact Or.inr (Or.inl rfl) | exact Or.inr (Or.inr rfl), by decide, by decide⟩
theorem v_is_word_3 : VarAt ["cards", "hands", "thing", "form"] (defScope S_is_word) 3 "form" := ⟨rfl, by first | exact Or.inl rfl | exact Or.inr (Or.inl rfl) | exact Or.inr (Or.inr rfl), by decide, by decide⟩
noncomputable abbrev S_fits : Stmt := top 13
theorem sc_fits : FnScope ["cards", "hands", "place", "part"] ["cards", "hands", "place", "part"] (defScope S_fits) := ⟨rfl, rfl, rfl, by decide +kernel, rfl, by decide +kernel, by decide +kernel⟩
theorem v_fits_0 : VarAt ["cards", "hands", "place", "part"] (defScope S_fits) 0 "cards" := ⟨rfl, by first | exact Or.inl rfl | exact Or.inr (Or.inl rfl) | exact Or.inr (Or.inr rfl), by decide, by decide⟩
theorem v_fits_1 : VarAt ["cards", "hands", "place", "part"] (defScope S_fits) 1 "hands" := ⟨rfl, by first | exact Or.inl rfl | exact Or.inr (Or.inl rfl) | exact Or.inr (Or.inr rfl), by decide, by decide⟩
theorem v_fits_2 : VarAt ["cards", "hands", "place", "part"] (defScope S_fits) 2 "place" := ⟨rfl, by first | exact Or.inl rfl | exact Or.inr (Or.inl rfl) | exact Or.inr (Or.inr rfl), by decide, by decide⟩
theorem v_fits_3 : VarAt ["cards", "hands", "place", "part"] (defScope S_fits) 3 "part" := ⟨rfl, by first | exact Or.inl rfl | exact Or.inr (Or.inl rfl) | exact Or.inr (Or.inr rfl), by decide, by decide⟩
noncomputable abbrev S_parts_of : Stmt := top 14
theorem sc_parts_of : FnScope ["saying", "form"] ["saying"] (defScope S_parts_of) := ⟨rfl, rfl, rfl, by decide +kernel, rfl, by decide +kernel, by decide +kernel⟩
theorem v_parts_of_0 : VarAt ["saying", "form"] (defScope S_parts_of) 0 "saying" := ⟨rfl, by first | exact Or.inl rfl | exact Or.inr (Or.inl rfl) | exact Or.inr (Or.inr rfl), by decide, by decide⟩
theorem v_parts_of_1 : VarAt ["saying", "form"] (defScope S_parts_of) 1 "form" := ⟨rfl, by first | exact Or.inl rfl | exact Or.inr (Or.inl rfl) | exact Or.inr (Or.inr rfl), by decide, by decide⟩
noncomputable abbrev S_parts_of_all : Stmt := top 15
theorem sc_parts_of_all : FnScope ["sayings", "parts", "saying"] ["sayings"] (defScope S_parts_of_all) := ⟨rfl, rfl, rfl, by decide +kernel, rfl, by decide +kernel, by decide +kernel⟩
theorem v_parts_of_all_0 : VarAt ["sayings", "parts", "saying"] (defScope S_parts_of_all) 0 "sayings" := ⟨rfl, by first | exact Or.inl rfl | exact Or.inr (Or.inl rfl) | exact Or.inr (Or.inr rfl), by decide, by decide⟩
theorem v_parts_of_all_1 : VarAt ["sayings", "parts", "saying"] (defScope S_parts_of_all) 1 "parts" := ⟨rfl, by first | exact Or.inl rfl | exact Or.inr (Or.inl rfl) | exact Or.inr (Or.inr rfl), by decide, by decide⟩
theorem v_parts_of_all_2 : VarAt ["sayings", "parts", "saying"] (defScope S_parts_of_all) 2 "saying" := ⟨rfl, by first | exact Or.inl rfl | exact Or.inr (Or.inl rfl) | exact Or.inr (Or.inr rfl), by decide, by decide⟩
noncomputable abbrev S_words_in : Stmt := top 16
theorem sc_words_in : FnScope ["S"] ["S"] (defScope S_words_in) := ⟨rfl, rfl, rfl, by decide +kernel, rfl, by decide +kernel, by decide +kernel⟩
theorem v_words_in_0 : VarAt ["S"] (defScope S_words_in) 0 "S" := ⟨rfl, by first | exact Or.inl rfl | exact Or.inr (Or.inl rfl) | exact Or.inr (Or.inr rfl), by decide, by decide⟩
noncomputable abbrev S_show_saying : Stmt := top 21
theorem sc_show_saying : FnScope ["hands", "S", "word", "shown"] ["hands", "S"] (defScope S_show_saying) := ⟨rfl, rfl, rfl, by decide +kernel, rfl, by decide +kernel, by decide +kernel⟩
theorem v_show_saying_1 : VarAt ["hands", "S", "word", "shown"] (defScope S_show_saying) 1 "S" := ⟨rfl, by first | exact Or.inl rfl | exact Or.inr (Or.inl rfl) | exact Or.inr (Or.inr rfl), by decide, by decide⟩
theorem v_show_saying_2 : VarAt ["hands", "S", "word", "shown"] (defScope S_show_saying) 2 "word" := ⟨rfl, by first | exact Or.inl rfl | exact Or.inr (Or.inl rfl) | exact Or.inr (Or.inr rfl), by decide, by decide⟩
theorem v_show_saying_3 : VarAt ["hands", "S", "word", "shown"] (defScope S_show_saying) 3 "shown" := ⟨rfl, by first | exact Or.inl rfl | exact Or.inr (Or.inl rfl) | exact Or.inr (Or.inr rfl), by decide, by decide⟩
noncomputable abbrev S_show_part : Stmt := top 22
theorem sc_show_part : FnScope ["hands", "place", "part"] ["hands", "place", "part"] (defScope S_show_part) := ⟨rfl, rfl, rfl, by decide +kernel, rfl, by decide +kernel, by decide +kernel⟩
theorem v_show_part_0 : VarAt ["hands", "place", "part"] (defScope S_show_part) 0 "hands" := ⟨rfl, by first | exact Or.inl rfl | exact Or.inr (Or.inl rfl) | exact Or.inr (Or.inr rfl), by decide, by decide⟩
theorem v_show_part_1 : VarAt ["hands", "place", "part"] (defScope S_show_part) 1 "place" := ⟨rfl, by first | exact Or.inl rfl | exact Or.inr (Or.inl rfl) | exact Or.inr (Or.inr rfl), by decide, by decide⟩
theorem v_show_part_2 : VarAt ["hands", "place", "part"] (defScope S_show_part) 2 "part" := ⟨rfl, by first | exact Or.inl rfl | exact Or.inr (Or.inl rfl) | exact Or.inr (Or.inr rfl), by decide, by decide⟩
noncomputable abbrev S_with_commas : Stmt := top 23
theorem sc_with_commas : FnScope ["numbers"] ["numbers"] (defScope S_with_commas) := ⟨rfl, rfl, rfl, by decide +kernel, rfl, by decide +kernel, by decide +kernel⟩
theorem v_with_commas_0 : VarAt ["numbers"] (defScope S_with_commas) 0 "numbers" := ⟨rfl, by first | exact Or.inl rfl | exact Or.inr (Or.inl rfl) | exact Or.inr (Or.inr rfl), by decide, by decide⟩
noncomputable abbrev S_read_saying : Stmt := top 24
theorem sc_read_saying : FnScope ["cards", "hands", "text", "things"] ["cards", "hands", "text"] (defScope S_read_saying) := ⟨rfl, rfl, rfl, by decide +kernel, rfl, by decide +kernel, by decide +kernel⟩
theorem v_read_saying_0 : VarAt ["cards", "hands", "text", "things"] (defScope S_read_saying) 0 "cards" := ⟨rfl, by first | exact Or.inl rfl | exact Or.inr (Or.inl rfl) | exact Or.inr (Or.inr rfl), by decide, by decide⟩
theorem v_read_saying_1 : VarAt ["cards", "hands", "text", "things"] (defScope S_read_saying) 1 "hands" := ⟨rfl, by first | exact Or.inl rfl | exact Or.inr (Or.inl rfl) | exact Or.inr (Or.inr rfl), by decide, by decide⟩
theorem v_read_saying_2 : VarAt ["cards", "hands", "text", "things"] (defScope S_read_saying) 2 "text" := ⟨rfl, by first | exact Or.inl rfl | exact Or.inr (Or.inl rfl) | exact Or.inr (Or.inr rfl), by decide, by decide⟩
theorem v_read_saying_3 : VarAt ["cards", "hands", "text", "things"] (defScope S_read_saying) 3 "things" := ⟨rfl, by first | exact Or.inl rfl | exact Or.inr (Or.inl rfl) | exact Or.inr (Or.inr rfl), by decide, by decide⟩
noncomputable abbrev S_words_of : Stmt := top 25
theorem sc_words_of : FnScope ["text"] ["text"] (defScope S_words_of) := ⟨rfl, rfl, rfl, by decide +kernel, rfl, by decide +kernel, by decide +kernel⟩
theorem v_words_of_0 : VarAt ["text"] (defScope S_words_of) 0 "text" := ⟨rfl, by first | exact Or.inl rfl | exact Or.inr (Or.inl rfl) | exact Or.inr (Or.inr rfl), by decide, by decide⟩
noncomputable abbrev S_built_of : Stmt := top 26
theorem sc_built_of : FnScope ["hands", "words", "things", "word"] ["hands", "words"] (defScope S_built_of) := ⟨rfl, rfl, rfl, by decide +kernel, rfl, by decide +kernel, by decide +kernel⟩
theorem v_built_of_0 : VarAt ["hands", "words", "things", "word"] (defScope S_built_of) 0 "hands" := ⟨rfl, by first | exact Or.inl rfl | exact Or.inr (Or.inl rfl) | exact Or.inr (Or.inr rfl), by decide, by decide⟩
theorem v_built_of_1 : VarAt ["hands", "words", "things", "word"] (defScope S_built_of) 1 "words" := ⟨rfl, by first | exact Or.inl rfl | exact Or.inr (Or.inl rfl) | exact Or.inr (Or.inr rfl), by decide, by decide⟩
theorem v_built_of_2 : VarAt ["hands", "words", "things", "word"] (defScope S_built_of) 2 "things" := ⟨rfl, by first | exact Or.inl rfl | exact Or.inr (Or.inl rfl) | exact Or.inr (Or.inr rfl), by decide, by decide⟩
theorem v_built_of_3 : VarAt ["hands", "words", "things", "word"] (defScope S_built_of) 3 "word" := ⟨rfl, by first | exact Or.inl rfl | exact Or.inr (Or.inl rfl) | exact Or.inr (Or.inr rfl), by decide, by decide⟩
noncomputable abbrev S_with_word : Stmt := top 27
theorem sc_with_word : FnScope ["hands", "word", "things", "form", "parts"] ["hands", "word", "things"] (defScope S_with_word) := ⟨rfl, rfl, rfl, by decide +kernel, rfl, by decide +kernel, by decide +kernel⟩
theorem v_with_word_1 : VarAt ["hands", "word", "things", "form", "parts"] (defScope S_with_word) 1 "word" := ⟨rfl, by first | exact Or.inl rfl | exact Or.inr (Or.inl rfl) | exact Or.inr (Or.inr rfl), by decide, by decide⟩
theorem v_with_word_2 : VarAt ["hands", "word", "things", "form", "parts"] (defScope S_with_word) 2 "things" := ⟨rfl, by first | exact Or.inl rfl | exact Or.inr (Or.inl rfl) | exact Or.inr (Or.inr rfl), by decide, by decide⟩
theorem v_with_word_3 : VarAt ["hands", "word", "things", "form", "parts"] (defScope S_with_word) 3 "form" := ⟨rfl, by first | exact Or.inl rfl | exact Or.inr (Or.inl rfl) | exact Or.inr (Or.inr rfl), by decide, by decide⟩
theorem v_with_word_4 : VarAt ["hands", "word", "things", "form", "parts"] (defScope S_with_word) 4 "parts" := ⟨rfl, by first | exact Or.inl rfl | exact Or.inr (Or.inl rfl) | exact Or.inr (Or.inr rfl), by decide, by decide⟩
noncomputable abbrev S_out_of_brackets : Stmt := top 28
theorem sc_out_of_brackets : FnScope ["things"] ["things"] (defScope S_out_of_brackets) := ⟨rfl, rfl, rfl, by decide +kernel, rfl, by decide +kernel, by decide +kernel⟩
theorem v_out_of_brackets_0 : VarAt ["things"] (defScope S_out_of_brackets) 0 "things" := ⟨rfl, by first | exact Or.inl rfl | exact Or.inr (Or.inl rfl) | exact Or.inr (Or.inr rfl), by decide, by decide⟩
noncomputable abbrev S_read_part : Stmt := top 29
theorem sc_read_part : FnScope ["hands", "place", "thing"] ["hands", "place", "thing"] (defScope S_read_part) := ⟨rfl, rfl, rfl, by decide +kernel, rfl, by decide +kernel, by decide +kernel⟩
theorem v_read_part_0 : VarAt ["hands", "place", "thing"] (defScope S_read_part) 0 "hands" := ⟨rfl, by first | exact Or.inl rfl | exact Or.inr (Or.inl rfl) | exact Or.inr (Or.inr rfl), by decide, by decide⟩
theorem v_read_part_1 : VarAt ["hands", "place", "thing"] (defScope S_read_part) 1 "place" := ⟨rfl, by first | exact Or.inl rfl | exact Or.inr (Or.inl rfl) | exact Or.inr (Or.inr rfl), by decide, by decide⟩
theorem v_read_part_2 : VarAt ["hands", "place", "thing"] (defScope S_read_part) 2 "thing" := ⟨rfl, by first | exact Or.inl rfl | exact Or.inr (Or.inl rfl) | exact Or.inr (Or.inr rfl), by decide, by decide⟩
noncomputable abbrev S_read_hands : Stmt := top 30
theorem sc_read_hands : FnScope ["word"] ["word"] (defScope S_read_hands) := ⟨rfl, rfl, rfl, by decide +kernel, rfl, by decide +kernel, by decide +kernel⟩
theorem v_read_hands_0 : VarAt ["word"] (defScope S_read_hands) 0 "word" := ⟨rfl, by first | exact Or.inl rfl | exact Or.inr (Or.inl rfl) | exact Or.inr (Or.inr rfl), by decide, by decide⟩
noncomputable abbrev S_read_number : Stmt := top 31
theorem sc_read_number : FnScope ["word"] ["word"] (defScope S_read_number) := ⟨rfl, rfl, rfl, by decide +kernel, rfl, by decide +kernel, by decide +kernel⟩
theorem v_read_number_0 : VarAt ["word"] (defScope S_read_number) 0 "word" := ⟨rfl, by first | exact Or.inl rfl | exact Or.inr (Or.inl rfl) | exact Or.inr (Or.inr rfl), by decide, by decide⟩
noncomputable abbrev S__law_cell_at : Stmt := top 33
theorem sc__law_cell_at : FnScope ["_law_script", "_law_k"] ["_law_script", "_law_k"] (defScope S__law_cell_at) := ⟨rfl, rfl, rfl, by decide +kernel, rfl, by decide +kernel, by decide +kernel⟩
theorem v__law_cell_at_0 : VarAt ["_law_script", "_law_k"] (defScope S__law_cell_at) 0 "_law_script" := ⟨rfl, by first | exact Or.inl rfl | exact Or.inr (Or.inl rfl) | exact Or.inr (Or.inr rfl), by decide, by decide⟩
theorem v__law_cell_at_1 : VarAt ["_law_script", "_law_k"] (defScope S__law_cell_at) 1 "_law_k" := ⟨rfl, by first | exact Or.inl rfl | exact Or.inr (Or.inl rfl) | exact Or.inr (Or.inr rfl), by decide, by decide⟩
noncomputable abbrev S__law_stream : Stmt := top 34
theorem sc__law_stream : FnScope ["_law_cell", "_law_many", "_law_number", "_law_found", "_law_k"] ["_law_cell", "_law_many"] (defScope S__law_stream) := ⟨rfl, rfl, rfl, by decide +kernel, rfl, by decide +kernel, by decide +kernel⟩
theorem v__law_stream_0 : VarAt ["_law_cell", "_law_many", "_law_number", "_law_found", "_law_k"] (defScope S__law_stream) 0 "_law_cell" := ⟨rfl, by first | exact Or.inl rfl | exact Or.inr (Or.inl rfl) | exact Or.inr (Or.inr rfl), by decide, by decide⟩
theorem v__law_stream_1 : VarAt ["_law_cell", "_law_many", "_law_number", "_law_found", "_law_k"] (defScope S__law_stream) 1 "_law_many" := ⟨rfl, by first | exact Or.inl rfl | exact Or.inr (Or.inl rfl) | exact Or.inr (Or.inr rfl), by decide, by decide⟩
theorem v__law_stream_2 : VarAt ["_law_cell", "_law_many", "_law_number", "_law_found", "_law_k"] (defScope S__law_stream) 2 "_law_number" := ⟨rfl, by first | exact Or.inl rfl | exact Or.inr (Or.inl rfl) | exact Or.inr (Or.inr rfl), by decide, by decide⟩
theorem v__law_stream_3 : VarAt ["_law_cell", "_law_many", "_law_number", "_law_found", "_law_k"] (defScope S__law_stream) 3 "_law_found" := ⟨rfl, by first | exact Or.inl rfl | exact Or.inr (Or.inl rfl) | exact Or.inr (Or.inr rfl), by decide, by decide⟩
theorem v__law_stream_4 : VarAt ["_law_cell", "_law_many", "_law_number", "_law_found", "_law_k"] (defScope S__law_stream) 4 "_law_k" := ⟨rfl, by first | exact Or.inl rfl | exact Or.inr (Or.inl rfl) | exact Or.inr (Or.inr rfl), by decide, by decide⟩
noncomputable abbrev S__law_numbers : Stmt := top 35
theorem sc__law_numbers : FnScope ["_law_script"] ["_law_script"] (defScope S__law_numbers) := ⟨rfl, rfl, rfl, by decide +kernel, rfl, by decide +kernel, by decide +kernel⟩
theorem v__law_numbers_0 : VarAt ["_law_script"] (defScope S__law_numbers) 0 "_law_script" := ⟨rfl, by first | exact Or.inl rfl | exact Or.inr (Or.inl rfl) | exact Or.inr (Or.inr rfl), by decide, by decide⟩
noncomputable abbrev S__law_group : Stmt := top 36
theorem sc__law_group : FnScope ["_law_number", "_law_hands"] ["_law_number", "_law_hands"] (defScope S__law_group) := ⟨rfl, rfl, rfl, by decide +kernel, rfl, by decide +kernel, by decide +kernel⟩
theorem v__law_group_1 : VarAt ["_law_number", "_law_hands"] (defScope S__law_group) 1 "_law_hands" := ⟨rfl, by first | exact Or.inl rfl | exact Or.inr (Or.inl rfl) | exact Or.inr (Or.inr rfl), by decide, by decide⟩
noncomputable abbrev S__law_leaf : Stmt := top 37
theorem sc__law_leaf : FnScope ["_law_number", "_law_cards", "_law_hands"] ["_law_number", "_law_cards", "_law_hands"] (defScope S__law_leaf) := ⟨rfl, rfl, rfl, by decide +kernel, rfl, by decide +kernel, by decide +kernel⟩
theorem v__law_leaf_0 : VarAt ["_law_number", "_law_cards", "_law_hands"] (defScope S__law_leaf) 0 "_law_number" := ⟨rfl, by first | exact Or.inl rfl | exact Or.inr (Or.inl rfl) | exact Or.inr (Or.inr rfl), by decide, by decide⟩
theorem v__law_leaf_1 : VarAt ["_law_number", "_law_cards", "_law_hands"] (defScope S__law_leaf) 1 "_law_cards" := ⟨rfl, by first | exact Or.inl rfl | exact Or.inr (Or.inl rfl) | exact Or.inr (Or.inr rfl), by decide, by decide⟩
theorem v__law_leaf_2 : VarAt ["_law_number", "_law_cards", "_law_hands"] (defScope S__law_leaf) 2 "_law_hands" := ⟨rfl, by first | exact Or.inl rfl | exact Or.inr (Or.inl rfl) | exact Or.inr (Or.inr rfl), by decide, by decide⟩
noncomputable abbrev S__law_over : Stmt := top 38
theorem sc__law_over : FnScope ["_law_number", "_law_told", "_law_hands", "_law_way"] ["_law_number", "_law_told", "_law_hands"] (defScope S__law_over) := ⟨rfl, rfl, rfl, by decide +kernel, rfl, by decide +kernel, by decide +kernel⟩
theorem v__law_over_0 : VarAt ["_law_number", "_law_told", "_law_hands", "_law_way"] (defScope S__law_over) 0 "_law_number" := ⟨rfl, by first | exact Or.inl rfl | exact Or.inr (Or.inl rfl) | exact Or.inr (Or.inr rfl), by decide, by decide⟩
theorem v__law_over_1 : VarAt ["_law_number", "_law_told", "_law_hands", "_law_way"] (defScope S__law_over) 1 "_law_told" := ⟨rfl, by first | exact Or.inl rfl | exact Or.inr (Or.inl rfl) | exact Or.inr (Or.inr rfl), by decide, by decide⟩
theorem v__law_over_2 : VarAt ["_law_number", "_law_told", "_law_hands", "_law_way"] (defScope S__law_over) 2 "_law_hands" := ⟨rfl, by first | exact Or.inl rfl | exact Or.inr (Or.inl rfl) | exact Or.inr (Or.inr rfl), by decide, by decide⟩
theorem v__law_over_3 : VarAt ["_law_number", "_law_told", "_law_hands", "_law_way"] (defScope S__law_over) 3 "_law_way" := ⟨rfl, by first | exact Or.inl rfl | exact Or.inr (Or.inl rfl) | exact Or.inr (Or.inr rfl), by decide, by decide⟩
noncomputable abbrev S__law_built : Stmt := top 39
theorem sc__law_built : FnScope ["_law_numbers_here", "_law_cards", "_law_hands", "_law_room", "_law_row", "_law_spent", "_law_number", "_law_way", "_law_other"] ["_law_numbers_here", "_law_cards", "_law_hands", "_law_room"] (defScope S__law_built) := ⟨rfl, rfl, rfl, by decide +kernel, rfl, by decide +kernel, by decide +kernel⟩
theorem v__law_built_0 : VarAt ["_law_numbers_here", "_law_cards", "_law_hands", "_law_room", "_law_row", "_law_spent", "_law_number", "_law_way", "_law_other"] (defScope S__law_built) 0 "_law_numbers_here" := ⟨rfl, by first | exact Or.inl rfl | exact Or.inr (Or.inl rfl) | exact Or.inr (Or.inr rfl), by decide, by decide⟩
theorem v__law_built_1 : VarAt ["_law_numbers_here", "_law_cards", "_law_hands", "_law_room", "_law_row", "_law_spent", "_law_number", "_law_way", "_law_other"] (defScope S__law_built) 1 "_law_cards" := ⟨rfl, by first | exact Or.inl rfl | exact Or.inr (Or.inl rfl) | exact Or.inr (Or.inr rfl), by decide, by decide⟩
theorem v__law_built_2 : VarAt ["_law_numbers_here", "_law_cards", "_law_hands", "_law_room", "_law_row", "_law_spent", "_law_number", "_law_way", "_law_other"] (defScope S__law_built) 2 "_law_hands" := ⟨rfl, by first | exact Or.inl rfl | exact Or.inr (Or.inl rfl) | exact Or.inr (Or.inr rfl), by decide, by decide⟩
theorem v__law_built_3 : VarAt ["_law_numbers_here", "_law_cards", "_law_hands", "_law_room", "_law_row", "_law_spent", "_law_number", "_law_way", "_law_other"] (defScope S__law_built) 3 "_law_room" := ⟨rfl, by first | exact Or.inl rfl | exact Or.inr (Or.inl rfl) | exact Or.inr (Or.inr rfl), by decide, by decide⟩
theorem v__law_built_4 : VarAt ["_law_numbers_here", "_law_cards", "_law_hands", "_law_room", "_law_row", "_law_spent", "_law_number", "_law_way", "_law_other"] (defScope S__law_built) 4 "_law_row" := ⟨rfl, by first | exact Or.inl rfl | exact Or.inr (Or.inl rfl) | exact Or.inr (Or.inr rfl), by decide, by decide⟩
theorem v__law_built_5 : VarAt ["_law_numbers_here", "_law_cards", "_law_hands", "_law_room", "_law_row", "_law_spent", "_law_number", "_law_way", "_law_other"] (defScope S__law_built) 5 "_law_spent" := ⟨rfl, by first | exact Or.inl rfl | exact Or.inr (Or.inl rfl) | exact Or.inr (Or.inr rfl), by decide, by decide⟩
theorem v__law_built_6 : VarAt ["_law_numbers_here", "_law_cards", "_law_hands", "_law_room", "_law_row", "_law_spent", "_law_number", "_law_way", "_law_other"] (defScope S__law_built) 6 "_law_number" := ⟨rfl, by first | exact Or.inl rfl | exact Or.inr (Or.inl rfl) | exact Or.inr (Or.inr rfl), by decide, by decide⟩
theorem v__law_built_7 : VarAt ["_law_numbers_here", "_law_cards", "_law_hands", "_law_room", "_law_row", "_law_spent", "_law_number", "_law_way", "_law_other"] (defScope S__law_built) 7 "_law_way" := ⟨rfl, by first | exact Or.inl rfl | exact Or.inr (Or.inl rfl) | exact Or.inr (Or.inr rfl), by decide, by decide⟩
theorem v__law_built_8 : VarAt ["_law_numbers_here", "_law_cards", "_law_hands", "_law_room", "_law_row", "_law_spent", "_law_number", "_law_way", "_law_other"] (defScope S__law_built) 8 "_law_other" := ⟨rfl, by first | exact Or.inl rfl | exact Or.inr (Or.inl rfl) | exact Or.inr (Or.inr rfl), by decide, by decide⟩
noncomputable abbrev S__law_count : Stmt := top 40
theorem sc__law_count : FnScope ["_law_told"] ["_law_told"] (defScope S__law_count) := ⟨rfl, rfl, rfl, by decide +kernel, rfl, by decide +kernel, by decide +kernel⟩
theorem v__law_count_0 : VarAt ["_law_told"] (defScope S__law_count) 0 "_law_told" := ⟨rfl, by first | exact Or.inl rfl | exact Or.inr (Or.inl rfl) | exact Or.inr (Or.inr rfl), by decide, by decide⟩
noncomputable abbrev S__law_exchanged : Stmt := top 41
theorem sc__law_exchanged : FnScope ["_law_one", "_law_cards", "_law_hands", "_law_number"] ["_law_one", "_law_cards", "_law_hands", "_law_number"] (defScope S__law_exchanged) := ⟨rfl, rfl, rfl, by decide +kernel, rfl, by decide +kernel, by decide +kernel⟩
theorem v__law_exchanged_0 : VarAt ["_law_one", "_law_cards", "_law_hands", "_law_number"] (defScope S__law_exchanged) 0 "_law_one" := ⟨rfl, by first | exact Or.inl rfl | exact Or.inr (Or.inl rfl) | exact Or.inr (Or.inr rfl), by decide, by decide⟩
theorem v__law_exchanged_1 : VarAt ["_law_one", "_law_cards", "_law_hands", "_law_number"] (defScope S__law_exchanged) 1 "_law_cards" := ⟨rfl, by first | exact Or.inl rfl | exact Or.inr (Or.inl rfl) | exact Or.inr (Or.inr rfl), by decide, by decide⟩
theorem v__law_exchanged_2 : VarAt ["_law_one", "_law_cards", "_law_hands", "_law_number"] (defScope S__law_exchanged) 2 "_law_hands" := ⟨rfl, by first | exact Or.inl rfl | exact Or.inr (Or.inl rfl) | exact Or.inr (Or.inr rfl), by decide, by decide⟩
theorem v__law_exchanged_3 : VarAt ["_law_one", "_law_cards", "_law_hands", "_law_number"] (defScope S__law_exchanged) 3 "_law_number" := ⟨rfl, by first | exact Or.inl rfl | exact Or.inr (Or.inl rfl) | exact Or.inr (Or.inr rfl), by decide, by decide⟩
noncomputable abbrev S__law_changed : Stmt := top 42
theorem sc__law_changed : FnScope ["_law_told", "_law_at", "_law_cards", "_law_hands", "_law_number", "_law_many"] ["_law_told", "_law_at", "_law_cards", "_law_hands", "_law_number"] (defScope S__law_changed) := ⟨rfl, rfl, rfl, by decide +kernel, rfl, by decide +kernel, by decide +kernel⟩
theorem v__law_changed_0 : VarAt ["_law_told", "_law_at", "_law_cards", "_law_hands", "_law_number", "_law_many"] (defScope S__law_changed) 0 "_law_told" := ⟨rfl, by first | exact Or.inl rfl | exact Or.inr (Or.inl rfl) | exact Or.inr (Or.inr rfl), by decide, by decide⟩
theorem v__law_changed_1 : VarAt ["_law_told", "_law_at", "_law_cards", "_law_hands", "_law_number", "_law_many"] (defScope S__law_changed) 1 "_law_at" := ⟨rfl, by first | exact Or.inl rfl | exact Or.inr (Or.inl rfl) | exact Or.inr (Or.inr rfl), by decide, by decide⟩
theorem v__law_changed_2 : VarAt ["_law_told", "_law_at", "_law_cards", "_law_hands", "_law_number", "_law_many"] (defScope S__law_changed) 2 "_law_cards" := ⟨rfl, by first | exact Or.inl rfl | exact Or.inr (Or.inl rfl) | exact Or.inr (Or.inr rfl), by decide, by decide⟩
theorem v__law_changed_3 : VarAt ["_law_told", "_law_at", "_law_cards", "_law_hands", "_law_number", "_law_many"] (defScope S__law_changed) 3 "_law_hands" := ⟨rfl, by first | exact Or.inl rfl | exact Or.inr (Or.inl rfl) | exact Or.inr (Or.inr rfl), by decide, by decide⟩
theorem v__law_changed_4 : VarAt ["_law_told", "_law_at", "_law_cards", "_law_hands", "_law_number", "_law_many"] (defScope S__law_changed) 4 "_law_number" := ⟨rfl, by first | exact Or.inl rfl | exact Or.inr (Or.inl rfl) | exact Or.inr (Or.inr rfl), by decide, by decide⟩
theorem v__law_changed_5 : VarAt ["_law_told", "_law_at", "_law_cards", "_law_hands", "_law_number", "_law_many"] (defScope S__law_changed) 5 "_law_many" := ⟨rfl, by first | exact Or.inl rfl | exact Or.inr (Or.inl rfl) | exact Or.inr (Or.inr rfl), by decide, by decide⟩
noncomputable abbrev S__law_named : Stmt := top 43
theorem sc__law_named : FnScope ["_law_text", "_law_bits"] ["_law_text"] (defScope S__law_named) := ⟨rfl, rfl, rfl, by decide +kernel, rfl, by decide +kernel, by decide +kernel⟩
theorem v__law_named_0 : VarAt ["_law_text", "_law_bits"] (defScope S__law_named) 0 "_law_text" := ⟨rfl, by first | exact Or.inl rfl | exact Or.inr (Or.inl rfl) | exact Or.inr (Or.inr rfl), by decide, by decide⟩
theorem v__law_named_1 : VarAt ["_law_text", "_law_bits"] (defScope S__law_named) 1 "_law_bits" := ⟨rfl, by first | exact Or.inl rfl | exact Or.inr (Or.inl rfl) | exact Or.inr (Or.inr rfl), by decide, by decide⟩
noncomputable abbrev S__law_good : Stmt := top 44
theorem sc__law_good : FnScope ["_law_cards", "_law_hands", "_law_told", "_law_text", "_law_found"] ["_law_cards", "_law_hands", "_law_told", "_law_text"] (defScope S__law_good) := ⟨rfl, rfl, rfl, by decide +kernel, rfl, by decide +kernel, by decide +kernel⟩
theorem v__law_good_0 : VarAt ["_law_cards", "_law_hands", "_law_told", "_law_text", "_law_found"] (defScope S__law_good) 0 "_law_cards" := ⟨rfl, by first | exact Or.inl rfl | exact Or.inr (Or.inl rfl) | exact Or.inr (Or.inr rfl), by decide, by decide⟩
theorem v__law_good_1 : VarAt ["_law_cards", "_law_hands", "_law_told", "_law_text", "_law_found"] (defScope S__law_good) 1 "_law_hands" := ⟨rfl, by first | exact Or.inl rfl | exact Or.inr (Or.inl rfl) | exact Or.inr (Or.inr rfl), by decide, by decide⟩
theorem v__law_good_2 : VarAt ["_law_cards", "_law_hands", "_law_told", "_law_text", "_law_found"] (defScope S__law_good) 2 "_law_told" := ⟨rfl, by first | exact Or.inl rfl | exact Or.inr (Or.inl rfl) | exact Or.inr (Or.inr rfl), by decide, by decide⟩
theorem v__law_good_3 : VarAt ["_law_cards", "_law_hands", "_law_told", "_law_text", "_law_found"] (defScope S__law_good) 3 "_law_text" := ⟨rfl, by first | exact Or.inl rfl | exact Or.inr (Or.inl rfl) | exact Or.inr (Or.inr rfl), by decide, by decide⟩
theorem v__law_good_4 : VarAt ["_law_cards", "_law_hands", "_law_told", "_law_text", "_law_found"] (defScope S__law_good) 4 "_law_found" := ⟨rfl, by first | exact Or.inl rfl | exact Or.inr (Or.inl rfl) | exact Or.inr (Or.inr rfl), by decide, by decide⟩
noncomputable abbrev S_law : Stmt := top 45
theorem sc_law : FnScope ["_law_script", "_law_first", "_law_cards", "_law_hands", "_law_room", "_law_numbers_here", "_law_told", "_law_second", "_law_other", "_law_at", "_law_near", "_law_one_text", "_law_other_text"] ["_law_script"] (defScope S_law) := ⟨rfl, rfl, rfl, by decide +kernel, rfl, by decide +kernel, by decide +kernel⟩
theorem v_law_0 : VarAt ["_law_script", "_law_first", "_law_cards", "_law_hands", "_law_room", "_law_numbers_here", "_law_told", "_law_second", "_law_other", "_law_at", "_law_near", "_law_one_text", "_law_other_text"] (defScope S_law) 0 "_law_script" := ⟨rfl, by first | exact Or.inl rfl | exact Or.inr (Or.inl rfl) | exact Or.inr (Or.inr rfl), by decide, by decide⟩
theorem v_law_1 : VarAt ["_law_script", "_law_first", "_law_cards", "_law_hands", "_law_room", "_law_numbers_here", "_law_told", "_law_second", "_law_other", "_law_at", "_law_near", "_law_one_text", "_law_other_text"] (defScope S_law) 1 "_law_first" := ⟨rfl, by first | exact Or.inl rfl | exact Or.inr (Or.inl rfl) | exact Or.inr (Or.inr rfl), by decide, by decide⟩
theorem v_law_2 : VarAt ["_law_script", "_law_first", "_law_cards", "_law_hands", "_law_room", "_law_numbers_here", "_law_told", "_law_second", "_law_other", "_law_at", "_law_near", "_law_one_text", "_law_other_text"] (defScope S_law) 2 "_law_cards" := ⟨rfl, by first | exact Or.inl rfl | exact Or.inr (Or.inl rfl) | exact Or.inr (Or.inr rfl), by decide, by decide⟩
theorem v_law_3 : VarAt ["_law_script", "_law_first", "_law_cards", "_law_hands", "_law_room", "_law_numbers_here", "_law_told", "_law_second", "_law_other", "_law_at", "_law_near", "_law_one_text", "_law_other_text"] (defScope S_law) 3 "_law_hands" := ⟨rfl, by first | exact Or.inl rfl | exact Or.inr (Or.inl rfl) | exact Or.inr (Or.inr rfl), by decide, by decide⟩
theorem v_law_4 : VarAt ["_law_script", "_law_first", "_law_cards", "_law_hands", "_law_room", "_law_numbers_here", "_law_told", "_law_second", "_law_other", "_law_at", "_law_near", "_law_one_text", "_law_other_text"] (defScope S_law) 4 "_law_room" := ⟨rfl, by first | exact Or.inl rfl | exact Or.inr (Or.inl rfl) | exact Or.inr (Or.inr rfl), by decide, by decide⟩
theorem v_law_5 : VarAt ["_law_script", "_law_first", "_law_cards", "_law_hands", "_law_room", "_law_numbers_here", "_law_told", "_law_second", "_law_other", "_law_at", "_law_near", "_law_one_text", "_law_other_text"] (defScope S_law) 5 "_law_numbers_here" := ⟨rfl, by first | exact Or.inl rfl | exact Or.inr (Or.inl rfl) | exact Or.inr (Or.inr rfl), by decide, by decide⟩
theorem v_law_6 : VarAt ["_law_script", "_law_first", "_law_cards", "_law_hands", "_law_room", "_law_numbers_here", "_law_told", "_law_second", "_law_other", "_law_at", "_law_near", "_law_one_text", "_law_other_text"] (defScope S_law) 6 "_law_told" := ⟨rfl, by first | exact Or.inl rfl | exact Or.inr (Or.inl rfl) | exact Or.inr (Or.inr rfl), by decide, by decide⟩
theorem v_law_7 : VarAt ["_law_script", "_law_first", "_law_cards", "_law_hands", "_law_room", "_law_numbers_here", "_law_told", "_law_second", "_law_other", "_law_at", "_law_near", "_law_one_text", "_law_other_text"] (defScope S_law) 7 "_law_second" := ⟨rfl, by first | exact Or.inl rfl | exact Or.inr (Or.inl rfl) | exact Or.inr (Or.inr rfl), by decide, by decide⟩
theorem v_law_8 : VarAt ["_law_script", "_law_first", "_law_cards", "_law_hands", "_law_room", "_law_numbers_here", "_law_told", "_law_second", "_law_other", "_law_at", "_law_near", "_law_one_text", "_law_other_text"] (defScope S_law) 8 "_law_other" := ⟨rfl, by first | exact Or.inl rfl | exact Or.inr (Or.inl rfl) | exact Or.inr (Or.inr rfl), by decide, by decide⟩
theorem v_law_9 : VarAt ["_law_script", "_law_first", "_law_cards", "_law_hands", "_law_room", "_law_numbers_here", "_law_told", "_law_second", "_law_other", "_law_at", "_law_near", "_law_one_text", "_law_other_text"] (defScope S_law) 9 "_law_at" := ⟨rfl, by first | exact Or.inl rfl | exact Or.inr (Or.inl rfl) | exact Or.inr (Or.inr rfl), by decide, by decide⟩
theorem v_law_10 : VarAt ["_law_script", "_law_first", "_law_cards", "_law_hands", "_law_room", "_law_numbers_here", "_law_told", "_law_second", "_law_other", "_law_at", "_law_near", "_law_one_text", "_law_other_text"] (defScope S_law) 10 "_law_near" := ⟨rfl, by first | exact Or.inl rfl | exact Or.inr (Or.inl rfl) | exact Or.inr (Or.inr rfl), by decide, by decide⟩
theorem v_law_11 : VarAt ["_law_script", "_law_first", "_law_cards", "_law_hands", "_law_room", "_law_numbers_here", "_law_told", "_law_second", "_law_other", "_law_at", "_law_near", "_law_one_text", "_law_other_text"] (defScope S_law) 11 "_law_one_text" := ⟨rfl, by first | exact Or.inl rfl | exact Or.inr (Or.inl rfl) | exact Or.inr (Or.inr rfl), by decide, by decide⟩
theorem v_law_12 : VarAt ["_law_script", "_law_first", "_law_cards", "_law_hands", "_law_room", "_law_numbers_here", "_law_told", "_law_second", "_law_other", "_law_at", "_law_near", "_law_one_text", "_law_other_text"] (defScope S_law) 12 "_law_other_text" := ⟨rfl, by first | exact Or.inl rfl | exact Or.inr (Or.inl rfl) | exact Or.inr (Or.inr rfl), by decide, by decide⟩
section
variable {P : Program} {w : World} {K : PySem.W.Frag} {mg : Str → Option Value} {base : Heap}
theorem ok_is_whole {f : Addr} {fd : FuncData} (D : Def K mg "is_whole" S_is_whole ["thing"] f fd) (B : Blt mg) : FnB P w K mg base 1 "is_whole" ["thing"] (sp_is_whole K) := by
  refine D.ok sc_is_whole (fun vs H Q E h => len_is_whole h) (fun cdv A outer s H vs Q E hr h => ?_)
  have hu := hr.units0
  have hux := hr.units64
  exact ⟨t_is_whole K, (pss_one (ps_ret (pe_and (pe_callB call_isi rfl B.isinstance boot_isinstance (pac_Name (pvQ v_is_whole_0 rfl rfl) (pac_Name (pe_bltn (v := .ty "int") rfl B.int boot_int rfl) pa_nil))) (pe_one (pe_not (pe_callB call_isi rfl B.isinstance boot_isinstance (pac_Name (pvQ v_is_whole_0 rfl rfl) (pac_Name (pe_bltn (v := .ty "bool") rfl B.bool boot_bool rfl) pa_nil)))))))), rd_is_whole h⟩
theorem ok_is_within {f : Addr} {fd : FuncData} (D : Def K mg "is_within" S_is_within ["thing", "least", "most"] f fd) (B : Blt mg) (F_is_whole : FnB P w K mg base 1 "is_whole" ["thing"] (sp_is_whole K)) : FnB P w K mg base 2 "is_within" ["thing", "least", "most"] (sp_is_within K) := by
  refine D.ok sc_is_within (fun vs H Q E h => len_is_within h) (fun cdv A outer s H vs Q E hr h => ?_)
  have hu := hr.units0
  have hux := hr.units64
  exact ⟨t_is_within K, (pss_one (ps_ret (pe_and (pe_callF F_is_whole (hr.mono (by decide)) (pac_Name (pvQ v_is_within_0 rfl rfl) pa_nil)) (pe_one (pe_chain op_le op_le (pvQ v_is_within_1 rfl rfl) (pvQ v_is_within_0 rfl rfl) (pvQ v_is_within_2 rfl rfl)))))), rd_is_within h⟩
theorem ok_is_below {f : Addr} {fd : FuncData} (D : Def K mg "is_below" S_is_below ["thing", "bound"] f fd) (B : Blt mg) (F_is_within : FnB P w K mg base 2 "is_within" ["thing", "least", "most"] (sp_is_within K)) : FnB P w K mg base 3 "is_below" ["thing", "bound"] (sp_is_below K) := by
  refine D.ok sc_is_below (fun vs H Q E h => len_is_below h) (fun cdv A outer s H vs Q E hr h => ?_)
  have hu := hr.units0
  have hux := hr.units64
  exact ⟨t_is_below K, (pss_one (ps_ret (pe_callF F_is_within (hr.mono (by decide)) (pac_Name (pvQ v_is_below_0 rfl rfl) (pac_Constant pe_int (pac_BinOp (pe_op op_sub (pvQ v_is_below_1 rfl rfl) pe_int) pa_nil)))))), rd_is_below h⟩
theorem ok_are_hands {f : Addr} {fd : FuncData} (D : Def K mg "are_hands" S_are_hands ["thing", "hands"] f fd) (B : Blt mg) (F_is_within : FnB P w K mg base 2 "is_within" ["thing", "least", "most"] (sp_is_within K)) : FnB P w K mg base 3 "are_hands" ["thing", "hands"] (sp_are_hands K) := by
  refine D.ok sc_are_hands (fun vs H Q E h => len_are_hands h) (fun cdv A outer s H vs Q E hr h => ?_)
  have hu := hr.units0
  have hux := hr.units64
  exact ⟨t_are_hands K, (pss_cons (ps_if (pt_not (pt_val (pe_callB call_isi rfl B.isinstance boot_isinstance (pac_Name (pvQ v_are_hands_0 rfl rfl) (pac_Name (pe_bltn (v := .ty "tuple") rfl B.tuple boot_tuple rfl) pa_nil))))) (pss_one (ps_ret pe_bl)) pss_nil)
    (pss_cons (ps_set (i := 2) sc_are_hands.nd rfl (Or.inl rfl) pe_int)
    (pss_cons (ps_for PassesOwn.never rfl (pi_tup (pvQ v_are_hands_0 rfl rfl)) (pg_name (i := 3) sc_are_hands.nd rfl (Or.inl rfl)) (pss_cons (ps_if (pt_not (pt_val (pe_callF F_is_within (hr.mono (by decide)) (pac_Name (pvQ v_are_hands_3 rfl rfl) (pac_Name (pvQ v_are_hands_2 rfl rfl) (pac_BinOp (pe_op op_sub (pvQ v_are_hands_1 rfl rfl) pe_int) pa_nil)))))) (pss_one (ps_ret pe_bl)) pss_nil)
    (pss_one (ps_set (i := 2) sc_are_hands.nd rfl (Or.inl rfl) (pe_op op_add (pvQ v_are_hands_3 rfl rfl) pe_int)))))
    (pss_one (ps_ret pe_bl))))), rd_are_hands h⟩
theorem ok_is_saying {f : Addr} {fd : FuncData} (D : Def K mg "is_saying" S_is_saying ["cards", "hands", "thing"] f fd) (B : Blt mg) {t_MOST_WORDS : Tok} (m_MOST_WORDS : mg "MOST_WORDS" = some (.int 30 t_MOST_WORDS)) (F_is_whole : FnB P w K mg base 1 "is_whole" ["thing"] (sp_is_whole K)) (F_is_word : FnB P w K mg base 5 "is_word" ["cards", "hands", "thing"] (sp_is_word K)) (F_parts_of_all : FnB P w K mg base 2 "parts_of_all" ["sayings"] (sp_parts_of_all K)) : FnB P w K mg base 6 "is_saying" ["cards", "hands", "thing"] (sp_is_saying K) := by
  refine D.ok sc_is_saying (fun vs H Q E h => len_is_saying h) (fun cdv A outer s H vs Q E hr h => ?_)
  have hu := hr.units0
  have hux := hr.units64
  exact ⟨t_is_saying K, (pss_cons (ps_if (PW.pt (pw_or (pt_not (pt_val (pe_callF F_is_whole (hr.mono (by decide)) (pac_Name (pvQ v_is_saying_0 rfl rfl) pa_nil)))) (pw_or1 (pt_not (pt_val (pe_callF F_is_whole (hr.mono (by decide)) (pac_Name (pvQ v_is_saying_1 rfl rfl) pa_nil))))))) (pss_one (ps_ret pe_bl)) pss_nil)
    (pss_cons (ps_set (i := 3) sc_is_saying.nd rfl (Or.inl rfl) pe_int)
    (pss_cons (ps_set (i := 4) sc_is_saying.nd rfl (Or.inl rfl) (pm_lst (pac_Name (pvQ v_is_saying_2 rfl rfl) pa_nil)))
    (pss_cons (ps_while PassesOwn.never (pt_cmpR op_gt (pe_callB call_len_seq rfl B.len boot_len (pac_Name (pvQ v_is_saying_4 rfl rfl) pa_nil)) pe_int (nomark _)) (pss_cons (ps_set (i := 3) sc_is_saying.nd rfl (Or.inl rfl) (pe_op op_add (pvQ v_is_saying_3 rfl rfl) (pe_callB call_len_seq rfl B.len boot_len (pac_Name (pvQ v_is_saying_4 rfl rfl) pa_nil))))
    (pss_cons (ps_if (PW.pt (pw_or (pt_cmpR op_gt (pvQ v_is_saying_3 rfl rfl) (pe_glob (v := (.int 30)) rfl m_MOST_WORDS ⟨_, rfl⟩) (nomark _)) (pw_or1 (pt_not (pt_val (pe_callB (call_allL rfl) rfl B.all boot_all (pac_ListComp (pe_comp (sc := (defScope S_is_saying)) (NX := ["cards", "hands", "thing", "words", "level"]) (N := ["one", "cards", "hands"]) (ix := [none, some 0, some 1]) rfl (by refine ⟨rfl, ?_, ?_, ?_, ?_, rfl, ?_⟩ <;> decide +kernel) (pi_list (pvQ v_is_saying_4 rfl rfl)) (by intros; exact (pg_name (i := 0) (show (["one", "cards", "hands"] : List Str).Nodup by decide +kernel) rfl (Or.inl rfl))) (by intros; exact ptl_nil) (by intros; exact (pe_callF F_is_word (hr.mono (by decide)) (pac_Name (pv 1) (pac_Name (pv 2) (pac_Name (pv 0) pa_nil)))))) pa_nil))))))) (pss_one (ps_ret pe_bl)) pss_nil)
    (pss_one (ps_set (i := 4) sc_is_saying.nd rfl (Or.inl rfl) (pe_callF F_parts_of_all (hr.mono (by decide)) (pac_Name (pvQ v_is_saying_4 rfl rfl) pa_nil)))))))
    (pss_one (ps_ret pe_bl)))))), rd_is_saying h⟩
theorem ok_is_word {f : Addr} {fd : FuncData} (D : Def K mg "is_word" S_is_word ["cards", "hands", "thing"] f fd) (B : Blt mg) {G : Glo} (T : TabsB P w K mg G) (F_fits : FnB P w K mg base 4 "fits" ["cards", "hands", "place", "part"] (sp_fits K)) : FnB P w K mg base 5 "is_word" ["cards", "hands", "thing"] (sp_is_word K) := by
  refine D.ok sc_is_word (fun vs H Q E h => len_is_word h) (fun cdv A outer s H vs Q E hr h => ?_)
  have hu := hr.units0
  have hux := hr.units64
  have m_FORMS := T.mf
  have m_BETWEEN := T.mb
  have d_FORMS := T.df
  exact ⟨t_is_word K G, (pss_cons (ps_if (PW.pt (pw_or (pt_not (pt_val (pe_callB call_isi rfl B.isinstance boot_isinstance (pac_Name (pvQ v_is_word_2 rfl rfl) (pac_Name (pe_bltn (v := .ty "tuple") rfl B.tuple boot_tuple rfl) pa_nil))))) (pw_or1 (pt_cmpR op_eq (pe_callB call_len_seq rfl B.len boot_len (pac_Name (pvQ v_is_word_2 rfl rfl) pa_nil)) pe_int (nomark _))))) (pss_one (ps_ret pe_bl)) pss_nil)
    (pss_cons (ps_if (PW.pt (pw_or (pt_not (pt_val (pe_callB call_isi rfl B.isinstance boot_isinstance (pac_Subscript (pe_ix ix_tup (pvQ v_is_word_2 rfl rfl) pe_int (fun _ _ => rfl)) (pac_Name (pe_bltn (v := .ty "str") rfl B.str boot_str rfl) pa_nil))))) (pw_or1 (pt_cmpR (op_notIn_dic d_FORMS) (pe_ix ix_tup (pvQ v_is_word_2 rfl rfl) pe_int (fun _ _ => rfl)) (pe_glob (v := (.ref G.forms)) rfl m_FORMS rfl) rfl)))) (pss_one (ps_ret pe_bl)) pss_nil)
    (pss_cons (ps_set (i := 3) sc_is_word.nd rfl (Or.inl rfl) (pe_dic d_FORMS (pe_glob (v := (.ref G.forms)) rfl m_FORMS rfl) (pe_ix ix_tup (pvQ v_is_word_2 rfl rfl) pe_int (fun _ _ => rfl)) (fun _ _ => rfl)))
    (pss_cons (ps_if (pt_cmpR op_ne (pe_callB call_len_seq rfl B.len boot_len (pac_Name (pvQ v_is_word_2 rfl rfl) pa_nil)) (pe_op op_add pe_int (pe_callB call_len_seq rfl B.len boot_len (pac_Name (pvQ v_is_word_3 rfl rfl) pa_nil))) (nomark _)) (pss_one (ps_ret pe_bl)) pss_nil)
    (pss_one (ps_ret (pe_callB (call_allL rfl) rfl B.all boot_all (pac_ListComp (pe_comp (sc := (defScope S_is_word)) (NX := ["cards", "hands", "thing", "form"]) (N := ["place", "part", "cards", "hands"]) (ix := [none, none, some 0, some 1]) rfl (by refine ⟨rfl, ?_, ?_, ?_, ?_, rfl, ?_⟩ <;> decide +kernel) (pi_zip srcT srcT rfl B.zip (pac_Name (pvQ v_is_word_3 rfl rfl) (pac_Subscript (pe_slice sm_tup (pvQ v_is_word_2 rfl rfl) (po_some pe_int) po_none) pa_nil))) (by intros; exact (pg_tup rfl (pgs_cons (pg_name (i := 0) (show (["place", "part", "cards", "hands"] : List Str).Nodup by decide +kernel) rfl (Or.inl rfl)) (pgs_cons (pg_name (i := 1) (show (["place", "part", "cards", "hands"] : List Str).Nodup by decide +kernel) rfl (Or.inl rfl)) pgs_nil)))) (by intros; exact ptl_nil) (by intros; exact (pe_callF F_fits (hr.mono (by decide)) (pac_Name (pv 2) (pac_Name (pv 3) (pac_Name (pv 0) (pac_Name (pv 1) pa_nil))))))) pa_nil)))))))), rd_is_word T.ok h⟩
theorem ok_fits {f : Addr} {fd : FuncData} (D : Def K mg "fits" S_fits ["cards", "hands", "place", "part"] f fd) (B : Blt mg) (F_are_hands : FnB P w K mg base 3 "are_hands" ["thing", "hands"] (sp_are_hands K)) (F_is_below : FnB P w K mg base 3 "is_below" ["thing", "bound"] (sp_is_below K)) : FnB P w K mg base 4 "fits" ["cards", "hands", "place", "part"] (sp_fits K) := by
  refine D.ok sc_fits (fun vs H Q E h => len_fits h) (fun cdv A outer s H vs Q E hr h => ?_)
  have hu := hr.units0
  have hux := hr.units64
  exact ⟨t_fits K, (pss_cons (ps_if (pt_cmpR op_eq (pvQ v_fits_2 rfl rfl) pe_str (nomark _)) (pss_one (ps_ret (pe_callF F_is_below (hr.mono (by decide)) (pac_Name (pvQ v_fits_3 rfl rfl) (pac_BinOp (pe_op op_add (pvQ v_fits_1 rfl rfl) pe_int) pa_nil))))) pss_nil)
    (pss_cons (ps_if (pt_cmpR op_eq (pvQ v_fits_2 rfl rfl) pe_str (nomark _)) (pss_one (ps_ret (pe_callF F_is_below (hr.mono (by decide)) (pac_Name (pvQ v_fits_3 rfl rfl) (pac_Name (pvQ v_fits_0 rfl rfl) pa_nil))))) pss_nil)
    (pss_cons (ps_if (pt_cmpR op_eq (pvQ v_fits_2 rfl rfl) pe_str (nomark _)) (pss_one (ps_ret (pe_callF F_is_below (hr.mono (by decide)) (pac_Name (pvQ v_fits_3 rfl rfl) (pac_Name (pvQ v_fits_1 rfl rfl) pa_nil))))) pss_nil)
    (pss_cons (ps_if (pt_cmpR op_eq (pvQ v_fits_2 rfl rfl) pe_str (nomark _)) (pss_one (ps_ret (pe_callF F_are_hands (hr.mono (by decide)) (pac_Name (pvQ v_fits_3 rfl rfl) (pac_Name (pvQ v_fits_1 rfl rfl) pa_nil))))) pss_nil)
    (pss_one (ps_ret pe_bl)))))), rd_fits h⟩
theorem ok_parts_of {f : Addr} {fd : FuncData} (D : Def K mg "parts_of" S_parts_of ["saying"] f fd) (B : Blt mg) {G : Glo} (T : TabsB P w K mg G) : FnB P w K mg base 1 "parts_of" ["saying"] (sp_parts_of K) := by
  refine D.ok sc_parts_of (fun vs H Q E h => len_parts_of h) (fun cdv A outer s H vs Q E hr h => ?_)
  have hu := hr.units0
  have hux := hr.units64
  have m_FORMS := T.mf
  have m_BETWEEN := T.mb
  have d_FORMS := T.df
  exact ⟨t_parts_of K G, (pss_cons (ps_set (i := 1) sc_parts_of.nd rfl (Or.inl rfl) (pe_dic d_FORMS (pe_glob (v := (.ref G.forms)) rfl m_FORMS rfl) (pe_ix ix_tup (pvQ v_parts_of_0 rfl rfl) pe_int (fun _ _ => rfl)) (fun _ _ => rfl)))
    (pss_one (ps_ret (pe_comp (sc := (defScope S_parts_of)) (NX := ["saying", "form"]) (N := ["place", "part"]) (ix := [none, none]) rfl (by refine ⟨rfl, ?_, ?_, ?_, ?_, rfl, ?_⟩ <;> decide +kernel) (pi_zip srcT srcT rfl B.zip (pac_Name (pvQ v_parts_of_1 rfl rfl) (pac_Subscript (pe_slice sm_tup (pvQ v_parts_of_0 rfl rfl) (po_some pe_int) po_none) pa_nil))) (by intros; exact (pg_tup rfl (pgs_cons (pg_name (i := 0) (show (["place", "part"] : List Str).Nodup by decide +kernel) rfl (Or.inl rfl)) (pgs_cons (pg_name (i := 1) (show (["place", "part"] : List Str).Nodup by decide +kernel) rfl (Or.inl rfl)) pgs_nil)))) (by intros; exact (ptl_one (pt_cmpR op_eq (pv 0) pe_str (nomark _)))) (by intros; exact (pv 1)))))), rd_parts_of T.ok h⟩
theorem ok_parts_of_all {f : Addr} {fd : FuncData} (D : Def K mg "parts_of_all" S_parts_of_all ["sayings"] f fd) (B : Blt mg) (F_parts_of : FnB P w K mg base 1 "parts_of" ["saying"] (sp_parts_of K)) : FnB P w K mg base 2 "parts_of_all" ["sayings"] (sp_parts_of_all K) := by
  refine D.ok sc_parts_of_all (fun vs H Q E h => len_parts_of_all h) (fun cdv A outer s H vs Q E hr h => ?_)
  have hu := hr.units0
  have hux := hr.units64
  exact ⟨t_parts_of_all K, (pss_cons (ps_set (i := 1) sc_parts_of_all.nd rfl (Or.inl rfl) (pm_lst pa_nil))
    (pss_cons (ps_for PassesOwn.never rfl (pi_list (pvQ v_parts_of_all_0 rfl rfl)) (pg_name (i := 2) sc_parts_of_all.nd rfl (Or.inl rfl)) (pss_one (ps_expr (pe_bm PySem.F.plainAttrs_list PySem.F.slot_list_extend PySem.F.type_list_extend mt_extend (pvQ v_parts_of_all_1 rfl rfl) (pac_Call (pe_callF F_parts_of (hr.mono (by decide)) (pac_Name (pvQ v_parts_of_all_2 rfl rfl) pa_nil)) pa_nil)))))
    (pss_one (ps_ret (pvQ v_parts_of_all_1 rfl rfl))))), rd_parts_of_all h⟩
theorem ok_words_in {f : Addr} {fd : FuncData} (D : Def K mg "words_in" S_words_in ["S"] f fd) (B : Blt mg) (F_parts_of : FnB P w K mg base 1 "parts_of" ["saying"] (sp_parts_of K)) : ∀ n, FnB P w K mg base (2 + n) "words_in" ["S"] (sp_words_in K n)
  | 0 => D.ok (k := 1) sc_words_in (fun vs H Q E h => (no_words_in h).elim) (fun cdv A outer s H vs Q E hr h => (no_words_in h).elim)
  | n + 1 => by
    have F_words_in := ok_words_in D B F_parts_of n
    refine D.ok (k := 2 + n) sc_words_in (fun vs H Q E h => len_words_in h) (fun cdv A outer s H vs Q E hr h => ?_)
    have hu := hr.units0
    have hux := hr.units64
    exact ⟨t_words_in K n, (pss_one (ps_ret (pe_op op_add pe_int (pe_callB (call_sumL rfl) rfl B.sum boot_sum (pac_ListComp (pe_comp (sc := (defScope S_words_in)) (NX := ["S"]) (N := ["part"]) (ix := [none]) rfl (by refine ⟨rfl, ?_, ?_, ?_, ?_, rfl, ?_⟩ <;> decide +kernel) (pi_list (pe_callF F_parts_of (hr.mono (by omega)) (pac_Name (pvQ v_words_in_0 rfl rfl) pa_nil))) (by intros; exact (pg_name (i := 0) (show (["part"] : List Str).Nodup by decide +kernel) rfl (Or.inl rfl))) (by intros; exact ptl_nil) (by intros; exact (pe_callF F_words_in (hr.mono (by omega)) (pac_Name (pv 0) pa_nil)))) pa_nil))))), rd_words_in h⟩
theorem ok_show_part {n : Nat} {f : Addr} {fd : FuncData} (D : Def K mg "show_part" S_show_part ["hands", "place", "part"] f fd) (B : Blt mg) {t_PILE : Tok} (m_PILE : mg "PILE" = some (.str "pile" t_PILE)) (F_show_saying : FnB P w K mg base (2 + 2 * n) "show_saying" ["hands", "S"] (sp_show_saying K n)) (F_with_commas : FnB P w K mg base 1 "with_commas" ["numbers"] (sp_with_commas K)) : FnB P w K mg base (2 + 2 * n + 1) "show_part" ["hands", "place", "part"] (sp_show_part K n) := by
    refine D.ok (k := 2 + 2 * n) sc_show_part (fun vs H Q E h => len_show_part h) (fun cdv A outer s H vs Q E hr h => ?_)
    have hu := hr.units0
    have hux := hr.units64
    exact ⟨t_show_part K n, (pss_cons (ps_if (pt_cmpR op_eq (pvQ v_show_part_1 rfl rfl) pe_str (nomark _)) (pss_one (ps_ret (pe_callF F_show_saying (hr.mono (by omega)) (pac_Name (pvQ v_show_part_0 rfl rfl) (pac_Name (pvQ v_show_part_2 rfl rfl) pa_nil))))) pss_nil)
    (pss_cons (ps_if (pt_cmpR op_eq (pvQ v_show_part_1 rfl rfl) pe_str (nomark _)) (pss_one (ps_ret (pe_callF F_with_commas (hr.mono (by omega)) (pac_Name (pvQ v_show_part_2 rfl rfl) pa_nil)))) pss_nil)
    (pss_cons (ps_if (PW.pt (pw_and (pt_cmpR op_eq (pvQ v_show_part_1 rfl rfl) pe_str (nomark _)) (pw_and1 (pt_cmpR op_eq (pvQ v_show_part_2 rfl rfl) (pvQ v_show_part_0 rfl rfl) (nomark _))))) (pss_one (ps_ret (pe_glob (v := (.str "pile")) rfl m_PILE ⟨_, rfl⟩))) pss_nil)
    (pss_one (ps_ret (pe_callTy call_str_int rfl B.str boot_str (pac_Name (pvQ v_show_part_2 rfl rfl) pa_nil))))))), rd_show_part h⟩
theorem ok_with_commas {f : Addr} {fd : FuncData} (D : Def K mg "with_commas" S_with_commas ["numbers"] f fd) (B : Blt mg) {t_NO_NUMBERS : Tok} (m_NO_NUMBERS : mg "NO_NUMBERS" = some (.str "-" t_NO_NUMBERS)) : FnB P w K mg base 1 "with_commas" ["numbers"] (sp_with_commas K) := by
  refine D.ok sc_with_commas (fun vs H Q E h => len_with_commas h) (fun cdv A outer s H vs Q E hr h => ?_)
  have hu := hr.units0
  have hux := hr.units64
  exact ⟨t_with_commas K, (pss_cons (ps_if (pt_cmpR op_eq (pe_callB call_len_seq rfl B.len boot_len (pac_Name (pvQ v_with_commas_0 rfl rfl) pa_nil)) pe_int (nomark _)) (pss_one (ps_ret (pe_glob (v := (.str "-")) rfl m_NO_NUMBERS ⟨_, rfl⟩))) pss_nil)
    (pss_one (ps_ret (pe_bm PySem.F.plainAttrs_str PySem.F.slot_str_join PySem.F.type_str_join mt_join pe_str (pac_ListComp (pe_comp (sc := (defScope S_with_commas)) (NX := ["numbers"]) (N := ["number"]) (ix := [none]) rfl (by refine ⟨rfl, ?_, ?_, ?_, ?_, rfl, ?_⟩ <;> decide +kernel) (pi_tup (pvQ v_with_commas_0 rfl rfl)) (by intros; exact (pg_name (i := 0) (show (["number"] : List Str).Nodup by decide +kernel) rfl (Or.inl rfl))) (by intros; exact ptl_nil) (by intros; exact (pe_callTy call_str_int rfl B.str boot_str (pac_Name (pv 0) pa_nil)))) pa_nil))))), rd_with_commas h⟩
theorem ok_read_saying {f : Addr} {fd : FuncData} (D : Def K mg "read_saying" S_read_saying ["cards", "hands", "text"] f fd) (B : Blt mg) (F_built_of : FnB P w K mg base 5 "built_of" ["hands", "words"] (sp_built_of K)) (F_is_saying : FnB P w K mg base 6 "is_saying" ["cards", "hands", "thing"] (sp_is_saying K)) (F_show_saying : FnB P w K mg base 64 "show_saying" ["hands", "S"] (sp_show_saying K 31)) (F_words_of : FnB P w K mg base 1 "words_of" ["text"] (sp_words_of K)) : FnB P w K mg base 65 "read_saying" ["cards", "hands", "text"] (sp_read_saying K) := by
  refine D.ok sc_read_saying (fun vs H Q E h => len_read_saying h) (fun cdv A outer s H vs Q E hr h => ?_)
  have hu := hr.units0
  have hux := hr.units64
  exact ⟨t_read_saying K, (pss_cons (ps_if (pt_not (pt_val (pe_callB call_isi rfl B.isinstance boot_isinstance (pac_Name (pvQ v_read_saying_2 rfl rfl) (pac_Name (pe_bltn (v := .ty "str") rfl B.str boot_str rfl) pa_nil))))) (pss_one ps_never) pss_nil)
    (pss_cons (ps_set (i := 3) sc_read_saying.nd rfl (Or.inl rfl) (pe_callF F_built_of (hr.mono (by decide)) (pac_Name (pvQ v_read_saying_1 rfl rfl) (pac_Call (pe_callF F_words_of (hr.mono (by decide)) (pac_Name (pvQ v_read_saying_2 rfl rfl) pa_nil)) pa_nil))))
    (pss_cons (ps_if (PW.pt (pw_or (pt_cmpR op_ne (pe_callB call_len_seq rfl B.len boot_len (pac_Name (pvQ v_read_saying_3 rfl rfl) pa_nil)) pe_int (nomark _)) (pw_or1 (pt_not (pt_val (pe_callF F_is_saying (hr.mono (by decide)) (pac_Name (pvQ v_read_saying_0 rfl rfl) (pac_Name (pvQ v_read_saying_1 rfl rfl) (pac_Subscript (pe_ix ix_list (pvQ v_read_saying_3 rfl rfl) pe_int (fun _ _ => rfl)) pa_nil))))))))) (pss_one ps_never) pss_nil)
    (pss_cons (ps_if (pt_cmpR op_ne (pe_callF F_show_saying (hr.mono (by decide)) (pac_Name (pvQ v_read_saying_1 rfl rfl) (pac_Subscript (pe_ix ix_list (pvQ v_read_saying_3 rfl rfl) pe_int (fun _ _ => rfl)) pa_nil))) (pvQ v_read_saying_2 rfl rfl) (nomark _)) (pss_one ps_never) pss_nil)
    (pss_one (ps_ret (pe_ix ix_list (pvQ v_read_saying_3 rfl rfl) pe_int (fun _ _ => rfl)))))))), rd_read_saying h⟩
theorem ok_words_of {f : Addr} {fd : FuncData} (D : Def K mg "words_of" S_words_of ["text"] f fd) (B : Blt mg) : FnB P w K mg base 1 "words_of" ["text"] (sp_words_of K) := by
  refine D.okT sc_words_of (by decide +kernel) (fun vs H Q E h => len_words_of h) (fun cdv A outer s H vs Q E hr h => ?_)
  have hu := hr.units0
  have hux := hr.units64
  exact ⟨t_words_of K, (psT_ret (pet_split (pet_replace (pet_replace (PET.of (pvQ v_words_of_0 rfl rfl)) (by decide +kernel) (by decide +kernel)) (by decide +kernel) (by decide +kernel)))), rd_words_of h⟩
theorem ok_built_of {f : Addr} {fd : FuncData} (D : Def K mg "built_of" S_built_of ["hands", "words"] f fd) (B : Blt mg) (m_reversed : mg "reversed" = none) (F_with_word : FnB P w K mg base 4 "with_word" ["hands", "word", "things"] (sp_with_word K)) : FnB P w K mg base 5 "built_of" ["hands", "words"] (sp_built_of K) := by
  refine D.ok sc_built_of (fun vs H Q E h => len_built_of h) (fun cdv A outer s H vs Q E hr h => ?_)
  have hu := hr.units0
  have hux := hr.units64
  exact ⟨t_built_of K, (pss_cons (ps_set (i := 2) sc_built_of.nd rfl (Or.inl rfl) (pm_lst pa_nil))
    (pss_cons (ps_for PassesOwn.never rfl (pi_rev rfl m_reversed (pac_Name (pvQ v_built_of_1 rfl rfl) pa_nil)) (pg_name (i := 3) sc_built_of.nd rfl (Or.inl rfl)) (pss_one (ps_set (i := 2) sc_built_of.nd rfl (Or.inl rfl) (pe_callF F_with_word (hr.mono (by decide)) (pac_Name (pvQ v_built_of_0 rfl rfl) (pac_Name (pvQ v_built_of_3 rfl rfl) (pac_Name (pvQ v_built_of_2 rfl rfl) pa_nil)))))))
    (pss_one (ps_ret (pvQ v_built_of_2 rfl rfl))))), rd_built_of h⟩
theorem ok_with_word {f : Addr} {fd : FuncData} (D : Def K mg "with_word" S_with_word ["hands", "word", "things"] f fd) (B : Blt mg) {G : Glo} (T : TabsB P w K mg G) (F_out_of_brackets : FnB P w K mg base 1 "out_of_brackets" ["things"] (sp_out_of_brackets K)) (F_read_part : FnB P w K mg base 3 "read_part" ["hands", "place", "thing"] (sp_read_part K)) : FnB P w K mg base 4 "with_word" ["hands", "word", "things"] (sp_with_word K) := by
  refine D.ok sc_with_word (fun vs H Q E h => len_with_word h) (fun cdv A outer s H vs Q E hr h => ?_)
  have hu := hr.units0
  have hux := hr.units64
  have m_FORMS := T.mf
  have m_BETWEEN := T.mb
  have d_FORMS := T.df
  exact ⟨t_with_word K G, (pss_cons (ps_if (pt_cmpR op_eq (pvQ v_with_word_1 rfl rfl) pe_str (nomark _)) (pss_one (ps_ret (pe_op om_cat (pm_lst (pac_Call (pe_callF F_out_of_brackets (hr.mono (by decide)) (pac_Subscript (pe_slice sm_list (pvQ v_with_word_2 rfl rfl) po_none (po_some pe_int)) pa_nil)) pa_nil)) (pe_slice sm_list (pvQ v_with_word_2 rfl rfl) (po_some pe_int) po_none)))) pss_nil)
    (pss_cons (ps_if (PW.pt (pw_and (pt_cmpR (op_in_dic d_FORMS) (pvQ v_with_word_1 rfl rfl) (pe_glob (v := (.ref G.forms)) rfl m_FORMS rfl) rfl) (pw_and1 (pt_cmpR op_notIn_seq (pvQ v_with_word_1 rfl rfl) (pe_glob (v := (.ref G.cw)) rfl m_BETWEEN rfl) rfl)))) (pss_cons (ps_set (i := 3) sc_with_word.nd rfl (Or.inl rfl) (pe_dic d_FORMS (pe_glob (v := (.ref G.forms)) rfl m_FORMS rfl) (pvQ v_with_word_1 rfl rfl) (fun _ _ => rfl)))
    (pss_cons (ps_setComp (i := 4) sc_with_word.nd rfl rfl (sc := (defScope S_with_word)) (NX := ["hands", "word", "things", "form", "parts"]) (N := ["place", "thing", "hands"]) (ix := [none, none, some 0]) rfl (by refine ⟨rfl, ?_, ?_, ?_, ?_, rfl, ?_⟩ <;> decide +kernel) (pi_zip srcT srcL rfl B.zip (pac_Name (pvQ v_with_word_3 rfl rfl) (pac_Name (pvQ v_with_word_2 rfl rfl) pa_nil))) (by intros; exact (pg_tup rfl (pgs_cons (pg_name (i := 0) (show (["place", "thing", "hands"] : List Str).Nodup by decide +kernel) rfl (Or.inl rfl)) (pgs_cons (pg_name (i := 1) (show (["place", "thing", "hands"] : List Str).Nodup by decide +kernel) rfl (Or.inl rfl)) pgs_nil)))) (by intros; exact ptl_nil) (by intros; exact (pe_callF F_read_part (hr.mono (by decide)) (pac_Name (pv 2) (pac_Name (pv 0) (pac_Name (pv 1) pa_nil))))))
    (pss_one (ps_ret (pe_op om_cat (pm_lst (pac_Call (pe_callTy cm_tuple rfl B.tuple boot_tuple (pac_BinOp (pe_op om_cat (pm_lst (pac_Name (pvQ v_with_word_1 rfl rfl) pa_nil)) (pvQ v_with_word_4 rfl rfl)) pa_nil)) pa_nil)) (pe_slice sm_list (pvQ v_with_word_2 rfl rfl) (po_some (pe_callB call_len_seq rfl B.len boot_len (pac_Name (pvQ v_with_word_3 rfl rfl) pa_nil))) po_none)))))) pss_nil)
    (pss_one (ps_ret (pe_op om_cat (pm_lst (pac_Name (pvQ v_with_word_1 rfl rfl) pa_nil)) (pvQ v_with_word_2 rfl rfl)))))), rd_with_word T.ok T.bwk h⟩
theorem ok_out_of_brackets {f : Addr} {fd : FuncData} (D : Def K mg "out_of_brackets" S_out_of_brackets ["things"] f fd) (B : Blt mg) : FnB P w K mg base 1 "out_of_brackets" ["things"] (sp_out_of_brackets K) := by
  refine D.ok sc_out_of_brackets (fun vs H Q E h => len_out_of_brackets h) (fun cdv A outer s H vs Q E hr h => ?_)
  have hu := hr.units0
  have hux := hr.units64
  exact ⟨t_out_of_brackets K, (pss_cons (ps_if (PW.pt (pw_or (pt_cmpR op_lt (pe_callB call_len_seq rfl B.len boot_len (pac_Name (pvQ v_out_of_brackets_0 rfl rfl) pa_nil)) pe_int (nomark _)) (pw_or1 (pt_cmpR op_ne (pe_ix ix_list (pvQ v_out_of_brackets_0 rfl rfl) pe_int (fun _ _ => rfl)) pe_str (nomark _))))) (pss_one (ps_ret pe_non)) pss_nil)
    (pss_one (ps_ret (pm_tup (pac_Subscript (pe_ix ix_list (pvQ v_out_of_brackets_0 rfl rfl) pe_int (fun _ _ => rfl)) (pac_Subscript (pe_ix ix_list (pvQ v_out_of_brackets_0 rfl rfl) pe_int (fun _ _ => rfl)) (pac_Subscript (pe_ix ix_list (pvQ v_out_of_brackets_0 rfl rfl) pe_int (fun _ _ => rfl)) pa_nil))))))), rd_out_of_brackets h⟩
theorem ok_read_part {f : Addr} {fd : FuncData} (D : Def K mg "read_part" S_read_part ["hands", "place", "thing"] f fd) (B : Blt mg) {t_PILE : Tok} (m_PILE : mg "PILE" = some (.str "pile" t_PILE)) (F_read_hands : FnB P w K mg base 2 "read_hands" ["word"] (sp_read_hands K)) (F_read_number : FnB P w K mg base 1 "read_number" ["word"] (sp_read_number K)) : FnB P w K mg base 3 "read_part" ["hands", "place", "thing"] (sp_read_part K) := by
  refine D.ok sc_read_part (fun vs H Q E h => len_read_part h) (fun cdv A outer s H vs Q E hr h => ?_)
  have hu := hr.units0
  have hux := hr.units64
  exact ⟨t_read_part K, (pss_cons (ps_if (pt_cmpR op_eq (pvQ v_read_part_1 rfl rfl) pe_str (nomark _)) (pss_one (ps_ret (pvQ v_read_part_2 rfl rfl))) pss_nil)
    (pss_cons (ps_if (pt_not (pt_val (pe_callB call_isi rfl B.isinstance boot_isinstance (pac_Name (pvQ v_read_part_2 rfl rfl) (pac_Name (pe_bltn (v := .ty "str") rfl B.str boot_str rfl) pa_nil))))) (pss_one (ps_ret pe_non)) pss_nil)
    (pss_cons (ps_if (pt_cmpR op_eq (pvQ v_read_part_1 rfl rfl) pe_str (nomark _)) (pss_one (ps_ret (pe_callF F_read_hands (hr.mono (by decide)) (pac_Name (pvQ v_read_part_2 rfl rfl) pa_nil)))) pss_nil)
    (pss_cons (ps_if (PW.pt (pw_and (pt_cmpR op_eq (pvQ v_read_part_1 rfl rfl) pe_str (nomark _)) (pw_and1 (pt_cmpR op_eq (pvQ v_read_part_2 rfl rfl) (pe_glob (v := (.str "pile")) rfl m_PILE ⟨_, rfl⟩) (nomark _))))) (pss_one (ps_ret (pvQ v_read_part_0 rfl rfl))) pss_nil)
    (pss_one (ps_ret (pe_callF F_read_number (hr.mono (by decide)) (pac_Name (pvQ v_read_part_2 rfl rfl) pa_nil)))))))), rd_read_part h⟩
theorem ok_read_hands {f : Addr} {fd : FuncData} (D : Def K mg "read_hands" S_read_hands ["word"] f fd) (B : Blt mg) {t_NO_NUMBERS : Tok} (m_NO_NUMBERS : mg "NO_NUMBERS" = some (.str "-" t_NO_NUMBERS)) (F_read_number : FnB P w K mg base 1 "read_number" ["word"] (sp_read_number K)) : FnB P w K mg base 2 "read_hands" ["word"] (sp_read_hands K) := by
  refine D.ok sc_read_hands (fun vs H Q E h => len_read_hands h) (fun cdv A outer s H vs Q E hr h => ?_)
  have hu := hr.units0
  have hux := hr.units64
  exact ⟨t_read_hands K, (pss_cons (ps_if (pt_cmpR op_eq (pvQ v_read_hands_0 rfl rfl) (pe_glob (v := (.str "-")) rfl m_NO_NUMBERS ⟨_, rfl⟩) (nomark _)) (pss_one (ps_ret (pm_tup pa_nil))) pss_nil)
    (pss_one (ps_ret (pe_callTy cm_tuple rfl B.tuple boot_tuple (pac_ListComp (pe_comp (sc := (defScope S_read_hands)) (NX := ["word"]) (N := ["part"]) (ix := [none]) rfl (by refine ⟨rfl, ?_, ?_, ?_, ?_, rfl, ?_⟩ <;> decide +kernel) (pi_list (pe_bm PySem.F.plainAttrs_str PySem.F.slot_str_split PySem.F.type_str_split mt_split (pvQ v_read_hands_0 rfl rfl) (pac_Constant pe_str pa_nil))) (by intros; exact (pg_name (i := 0) (show (["part"] : List Str).Nodup by decide +kernel) rfl (Or.inl rfl))) (by intros; exact ptl_nil) (by intros; exact (pe_callF F_read_number (hr.mono (by decide)) (pac_Name (pv 0) pa_nil)))) pa_nil))))), rd_read_hands h⟩
theorem ok_read_number {f : Addr} {fd : FuncData} (D : Def K mg "read_number" S_read_number ["word"] f fd) (B : Blt mg) : FnB P w K mg base 1 "read_number" ["word"] (sp_read_number K) := by
  refine D.ok sc_read_number (fun vs H Q E h => len_read_number h) (fun cdv A outer s H vs Q E hr h => ?_)
  have hu := hr.units0
  have hux := hr.units64
  exact ⟨t_read_number K, (pss_one (ps_tryC (fun _ _ z => z) (pss_one (ps_ret (pe_callTy call_intT rfl B.int boot_int (pac_Name (pvQ v_read_number_0 rfl rfl) pa_nil)))))), rd_read_number h⟩
theorem ok__law_cell_at {f : Addr} {fd : FuncData} (D : Def K mg "_law_cell_at" S__law_cell_at ["_law_script", "_law_k"] f fd) (B : Blt mg) : FnB P w K mg base 1 "_law_cell_at" ["_law_script", "_law_k"] (sp__law_cell_at K) := by
  refine D.ok sc__law_cell_at (fun vs H Q E h => len__law_cell_at h) (fun cdv A outer s H vs Q E hr h => ?_)
  have hu := hr.units0
  have hux := hr.units64
  exact ⟨t__law_cell_at K, (pss_cons (ps_if (pt_cmpR op_lt (pvQ v__law_cell_at_1 rfl rfl) (pe_callB call_len_seq rfl B.len boot_len (pac_Name (pvQ v__law_cell_at_0 rfl rfl) pa_nil)) (nomark _)) (pss_one (ps_ret (pe_ix ix_list (pvQ v__law_cell_at_0 rfl rfl) (pvQ v__law_cell_at_1 rfl rfl) (fun _ _ => rfl)))) pss_nil)
    (pss_one (ps_ret pe_int))), rd__law_cell_at h⟩
theorem ok__law_stream {f : Addr} {fd : FuncData} (D : Def K mg "_law_stream" S__law_stream ["_law_cell", "_law_many"] f fd) (B : Blt mg) : FnB P w K mg base 1 "_law_stream" ["_law_cell", "_law_many"] (sp__law_stream_q K) := by
  refine D.ok sc__law_stream (fun vs H Q E h => len__law_stream_q h) (fun cdv A outer s H vs Q E hr h => ?_)
  have hu := hr.units0
  have hux := hr.units64
  exact ⟨t__law_stream_q K, (pss_cons (ps_set (i := 2) sc__law_stream.nd rfl (Or.inl rfl) (pe_op op_mod (pvQ v__law_stream_0 rfl rfl) pe_int))
    (pss_cons (ps_set (i := 3) sc__law_stream.nd rfl (Or.inl rfl) (pm_lst pa_nil))
    (pss_cons (ps_for PassesOwn.never rfl (pi_range1 rfl B.range (pac_Name (pvQ v__law_stream_1 rfl rfl) pa_nil)) (pg_name (i := 4) sc__law_stream.nd rfl (Or.inl rfl)) (pss_cons (ps_set (i := 2) sc__law_stream.nd rfl (Or.inl rfl) (pe_op op_mod (pe_op op_add (pe_op op_add (pe_op op_add (pe_op op_mulB (pvQ v__law_stream_2 rfl rfl) (pvQ v__law_stream_2 rfl rfl)) (pe_op op_mulB pe_int (pvQ v__law_stream_2 rfl rfl))) (pe_op op_mulB pe_int (pvQ v__law_stream_4 rfl rfl))) pe_int) pe_int))
    (pss_one (ps_expr (pe_bm PySem.F.plainAttrs_list PySem.F.slot_list_append PySem.F.type_list_append mt_append (pvQ v__law_stream_3 rfl rfl) (pac_BinOp (pe_op op_fdiv (pvQ v__law_stream_2 rfl rfl) pe_int) pa_nil))))))
    (pss_one (ps_ret (pvQ v__law_stream_3 rfl rfl)))))), rd__law_stream_q h⟩
theorem ok__law_numbers {f : Addr} {fd : FuncData} (D : Def K mg "_law_numbers" S__law_numbers ["_law_script"] f fd) (B : Blt mg) (F__law_cell_at : FnB P w K mg base 1 "_law_cell_at" ["_law_script", "_law_k"] (sp__law_cell_at K)) (F__law_stream : FnB P w K mg base 1 "_law_stream" ["_law_cell", "_law_many"] (sp__law_stream_q K)) : FnB P w K mg base 2 "_law_numbers" ["_law_script"] (sp__law_numbers K) := by
  refine D.ok sc__law_numbers (fun vs H Q E h => len__law_numbers h) (fun cdv A outer s H vs Q E hr h => ?_)
  have hu := hr.units0
  have hux := hr.units64
  exact ⟨t__law_numbers K, (pss_cons (ps_if (pt_cmpR op_eq (pe_op op_mod (pe_callF F__law_cell_at (hr.mono (by decide)) (pac_Name (pvQ v__law_numbers_0 rfl rfl) (pac_Constant pe_int pa_nil))) pe_int) pe_int (nomark _)) (pss_one (ps_ret (pe_callF F__law_stream (hr.mono (by decide)) (pac_Call (pe_callF F__law_cell_at (hr.mono (by decide)) (pac_Name (pvQ v__law_numbers_0 rfl rfl) (pac_Constant pe_int pa_nil))) (pac_Constant pe_int pa_nil))))) pss_nil)
    (pss_one (ps_ret (pe_callTy cm_list rfl B.list boot_list (pac_Subscript (pe_slice sm_list (pvQ v__law_numbers_0 rfl rfl) (po_some pe_int) (po_some pe_int)) pa_nil))))), rd__law_numbers h⟩
theorem ok__law_group {f : Addr} {fd : FuncData} (D : Def K mg "_law_group" S__law_group ["_law_number", "_law_hands"] f fd) (B : Blt mg) : FnB P w K mg base 1 "_law_group" ["_law_number", "_law_hands"] (sp__law_group K) := by
  refine D.ok sc__law_group (fun vs H Q E h => len__law_group h) (fun cdv A outer s H vs Q E hr h => ?_)
  have hu := hr.units0
  have hux := hr.units64
  exact ⟨t__law_group K, (pss_one (ps_ret (pe_callTy cm_tuple rfl B.tuple boot_tuple (pac_ListComp (pe_comp (sc := (defScope S__law_group)) (NX := ["_law_number", "_law_hands"]) (N := ["_law_k", "_law_number"]) (ix := [none, some 0]) rfl (by refine ⟨rfl, ?_, ?_, ?_, ?_, rfl, ?_⟩ <;> decide +kernel) (pi_range1 rfl B.range (pac_Name (pvQ v__law_group_1 rfl rfl) pa_nil)) (by intros; exact (pg_name (i := 0) (show (["_law_k", "_law_number"] : List Str).Nodup by decide +kernel) rfl (Or.inl rfl))) (by intros; exact (ptl_one (pt_cmpR op_eq (pe_op op_mod (pe_op op_fdiv (pv 1) (pe_ix ix_list (pm_lst (pac_Constant pe_int (pac_Constant pe_int (pac_Constant pe_int (pac_Constant pe_int (pac_Constant pe_int pa_nil)))))) (pv 0) (fun _ _ => rfl))) pe_int) pe_int (nomark _)))) (by intros; exact (pv 0))) pa_nil)))), rd__law_group h⟩
theorem ok__law_leaf {f : Addr} {fd : FuncData} (D : Def K mg "_law_leaf" S__law_leaf ["_law_number", "_law_cards", "_law_hands"] f fd) (B : Blt mg) : FnB P w K mg base 1 "_law_leaf" ["_law_number", "_law_cards", "_law_hands"] (sp__law_leaf K) := by
  refine D.ok sc__law_leaf (fun vs H Q E h => len__law_leaf h) (fun cdv A outer s H vs Q E hr h => ?_)
  have hu := hr.units0
  have hux := hr.units64
  exact ⟨t__law_leaf K, (pss_cons (ps_if (PW.pt (pw_or (pt_cmpR op_eq (pvQ v__law_leaf_1 rfl rfl) pe_int (nomark _)) (pw_or1 (pt_cmpR op_eq (pe_op op_mod (pvQ v__law_leaf_0 rfl rfl) pe_int) pe_int (nomark _))))) (pss_one (ps_ret (pm_tup (pac_Constant pe_str (pac_BinOp (pe_op op_mod (pe_op op_fdiv (pvQ v__law_leaf_0 rfl rfl) pe_int) (pvQ v__law_leaf_2 rfl rfl)) pa_nil))))) pss_nil)
    (pss_one (ps_ret (pm_tup (pac_Constant pe_str (pac_BinOp (pe_op op_mod (pe_op op_fdiv (pvQ v__law_leaf_0 rfl rfl) pe_int) (pe_op op_add (pvQ v__law_leaf_2 rfl rfl) pe_int)) (pac_BinOp (pe_op op_mod (pe_op op_fdiv (pvQ v__law_leaf_0 rfl rfl) pe_int) (pvQ v__law_leaf_1 rfl rfl)) pa_nil))))))), rd__law_leaf h⟩
theorem ok__law_over {f : Addr} {fd : FuncData} (D : Def K mg "_law_over" S__law_over ["_law_number", "_law_told", "_law_hands"] f fd) (B : Blt mg) (F__law_group : FnB P w K mg base 1 "_law_group" ["_law_number", "_law_hands"] (sp__law_group K)) : FnB P w K mg base 2 "_law_over" ["_law_number", "_law_told", "_law_hands"] (sp__law_over K) := by
  refine D.ok sc__law_over (fun vs H Q E h => len__law_over h) (fun cdv A outer s H vs Q E hr h => ?_)
  have hu := hr.units0
  have hux := hr.units64
  exact ⟨t__law_over K, (pss_cons (ps_set (i := 3) sc__law_over.nd rfl (Or.inl rfl) (pe_op op_mod (pvQ v__law_over_0 rfl rfl) pe_int))
    (pss_cons (ps_if (pt_cmpR op_lt (pvQ v__law_over_3 rfl rfl) pe_int (nomark _)) (pss_one (ps_ret (pm_tup (pac_Constant pe_str (pac_Name (pvQ v__law_over_1 rfl rfl) pa_nil))))) pss_nil)
    (pss_cons (ps_if (pt_cmpR op_lt (pvQ v__law_over_3 rfl rfl) pe_int (nomark _)) (pss_one (ps_ret (pm_tup (pac_Constant pe_str (pac_BinOp (pe_op op_mod (pe_op op_fdiv (pvQ v__law_over_0 rfl rfl) pe_int) (pvQ v__law_over_2 rfl rfl)) (pac_Name (pvQ v__law_over_1 rfl rfl) pa_nil)))))) pss_nil)
    (pss_one (ps_ret (pm_tup (pac_Subscript (pe_ix ix_list (pm_lst (pac_Constant pe_str (pac_Constant pe_str pa_nil))) (pe_op op_sub (pvQ v__law_over_3 rfl rfl) pe_int) (fun _ _ => rfl)) (pac_Call (pe_callF F__law_group (hr.mono (by decide)) (pac_BinOp (pe_op op_fdiv (pvQ v__law_over_0 rfl rfl) pe_int) (pac_Name (pvQ v__law_over_2 rfl rfl) pa_nil))) (pac_Name (pvQ v__law_over_1 rfl rfl) pa_nil))))))))), rd__law_over h⟩
theorem ok__law_built {f : Addr} {fd : FuncData} (D : Def K mg "_law_built" S__law_built ["_law_numbers_here", "_law_cards", "_law_hands", "_law_room"] f fd) (B : Blt mg) (F__law_leaf : FnB P w K mg base 1 "_law_leaf" ["_law_number", "_law_cards", "_law_hands"] (sp__law_leaf K)) (F__law_over : FnB P w K mg base 2 "_law_over" ["_law_number", "_law_told", "_law_hands"] (sp__law_over K)) : FnB P w K mg base 3 "_law_built" ["_law_numbers_here", "_law_cards", "_law_hands", "_law_room"] (sp__law_built K) := by
  refine D.ok sc__law_built (fun vs H Q E h => len__law_built h) (fun cdv A outer s H vs Q E hr h => ?_)
  have hu := hr.units0
  have hux := hr.units64
  exact ⟨t__law_built K, (pss_cons (ps_set (i := 4) sc__law_built.nd rfl (Or.inl rfl) (pm_lst pa_nil))
    (pss_cons (ps_set (i := 5) sc__law_built.nd rfl (Or.inl rfl) pe_int)
    (pss_cons (ps_for PassesOwn.never rfl (pi_list (pvQ v__law_built_0 rfl rfl)) (pg_name (i := 6) sc__law_built.nd rfl (Or.inl rfl)) (pss_cons (ps_set (i := 7) sc__law_built.nd rfl (Or.inl rfl) (pe_op op_mod (pvQ v__law_built_6 rfl rfl) pe_int))
    (pss_one (ps_if (PW.pt (pw_and (pt_cmpR op_gt (pvQ v__law_built_7 rfl rfl) pe_int (nomark _)) (pw_and1 (pt_cmpR op_gt (pe_callB call_len_seq rfl B.len boot_len (pac_Name (pvQ v__law_built_4 rfl rfl) pa_nil)) pe_int (nomark _))))) (pss_cons (ps_set (i := 8) sc__law_built.nd rfl (Or.inl rfl) (pe_bm0 PySem.F.plainAttrs_list PySem.F.slot_list_pop PySem.F.type_list_pop mt_pop (pvQ v__law_built_4 rfl rfl)))
    (pss_cons (ps_expr (pe_bm PySem.F.plainAttrs_list PySem.F.slot_list_append PySem.F.type_list_append mt_append (pvQ v__law_built_4 rfl rfl) (pac_Tuple (pm_tup (pac_Subscript (pe_ix ix_list (pm_lst (pac_Constant pe_str (pac_Constant pe_str pa_nil))) (pe_op op_sub (pvQ v__law_built_7 rfl rfl) pe_int) (fun _ _ => rfl)) (pac_Call (pe_bm0 PySem.F.plainAttrs_list PySem.F.slot_list_pop PySem.F.type_list_pop mt_pop (pvQ v__law_built_4 rfl rfl)) (pac_Name (pvQ v__law_built_8 rfl rfl) pa_nil)))) pa_nil)))
    (pss_one (ps_set (i := 5) sc__law_built.nd rfl (Or.inl rfl) (pe_op op_add (pvQ v__law_built_5 rfl rfl) pe_int))))) (pss_one (ps_if (PW.pt (pw_and (pt_cmpR op_eq (pvQ v__law_built_7 rfl rfl) pe_int (nomark _)) (pw_and (pt_cmpR op_gt (pe_callB call_len_seq rfl B.len boot_len (pac_Name (pvQ v__law_built_4 rfl rfl) pa_nil)) pe_int (nomark _)) (pw_and1 (pt_cmpR op_le (pe_op op_add (pvQ v__law_built_5 rfl rfl) (pe_callB call_len_seq rfl B.len boot_len (pac_Name (pvQ v__law_built_4 rfl rfl) pa_nil))) (pvQ v__law_built_3 rfl rfl) (nomark _)))))) (pss_cons (ps_expr (pe_bm PySem.F.plainAttrs_list PySem.F.slot_list_append PySem.F.type_list_append mt_append (pvQ v__law_built_4 rfl rfl) (pac_Call (pe_callF F__law_over (hr.mono (by decide)) (pac_BinOp (pe_op op_fdiv (pvQ v__law_built_6 rfl rfl) pe_int) (pac_Call (pe_bm0 PySem.F.plainAttrs_list PySem.F.slot_list_pop PySem.F.type_list_pop mt_pop (pvQ v__law_built_4 rfl rfl)) (pac_Name (pvQ v__law_built_2 rfl rfl) pa_nil)))) pa_nil)))
    (pss_one (ps_set (i := 5) sc__law_built.nd rfl (Or.inl rfl) (pe_op op_add (pvQ v__law_built_5 rfl rfl) pe_int)))) (pss_one (ps_if (PW.pt (pw_or (pt_cmpR op_eq (pe_callB call_len_seq rfl B.len boot_len (pac_Name (pvQ v__law_built_4 rfl rfl) pa_nil)) pe_int (nomark _)) (pw_or1 (pt_cmpR op_lt (pe_op op_add (pvQ v__law_built_5 rfl rfl) (pe_callB call_len_seq rfl B.len boot_len (pac_Name (pvQ v__law_built_4 rfl rfl) pa_nil))) (pvQ v__law_built_3 rfl rfl) (nomark _))))) (pss_cons (ps_expr (pe_bm PySem.F.plainAttrs_list PySem.F.slot_list_append PySem.F.type_list_append mt_append (pvQ v__law_built_4 rfl rfl) (pac_Call (pe_callF F__law_leaf (hr.mono (by decide)) (pac_BinOp (pe_op op_fdiv (pvQ v__law_built_6 rfl rfl) pe_int) (pac_Name (pvQ v__law_built_1 rfl rfl) (pac_Name (pvQ v__law_built_2 rfl rfl) pa_nil)))) pa_nil)))
    (pss_one (ps_set (i := 5) sc__law_built.nd rfl (Or.inl rfl) (pe_op op_add (pvQ v__law_built_5 rfl rfl) pe_int)))) pss_nil))))))))
    (pss_cons (ps_if (pt_cmpR op_eq (pe_callB call_len_seq rfl B.len boot_len (pac_Name (pvQ v__law_built_4 rfl rfl) pa_nil)) pe_int (nomark _)) (pss_one (ps_expr (pe_bm PySem.F.plainAttrs_list PySem.F.slot_list_append PySem.F.type_list_append mt_append (pvQ v__law_built_4 rfl rfl) (pac_Call (pe_callF F__law_leaf (hr.mono (by decide)) (pac_Name (pvQ v__law_built_3 rfl rfl) (pac_Name (pvQ v__law_built_1 rfl rfl) (pac_Name (pvQ v__law_built_2 rfl rfl) pa_nil)))) pa_nil)))) pss_nil)
    (pss_cons (ps_while PassesOwn.never (pt_cmpR op_gt (pe_callB call_len_seq rfl B.len boot_len (pac_Name (pvQ v__law_built_4 rfl rfl) pa_nil)) pe_int (nomark _)) (pss_cons (ps_set (i := 8) sc__law_built.nd rfl (Or.inl rfl) (pe_bm0 PySem.F.plainAttrs_list PySem.F.slot_list_pop PySem.F.type_list_pop mt_pop (pvQ v__law_built_4 rfl rfl)))
    (pss_one (ps_expr (pe_bm PySem.F.plainAttrs_list PySem.F.slot_list_append PySem.F.type_list_append mt_append (pvQ v__law_built_4 rfl rfl) (pac_Tuple (pm_tup (pac_Constant pe_str (pac_Call (pe_bm0 PySem.F.plainAttrs_list PySem.F.slot_list_pop PySem.F.type_list_pop mt_pop (pvQ v__law_built_4 rfl rfl)) (pac_Name (pvQ v__law_built_8 rfl rfl) pa_nil)))) pa_nil))))))
    (pss_one (ps_ret (pe_ix ix_list (pvQ v__law_built_4 rfl rfl) pe_int (fun _ _ => rfl))))))))), rd__law_built h⟩
theorem ok__law_count {f : Addr} {fd : FuncData} (D : Def K mg "_law_count" S__law_count ["_law_told"] f fd) (B : Blt mg) : ∀ n, FnB P w K mg base (1 + n) "_law_count" ["_law_told"] (sp__law_count K n)
  | 0 => D.ok (k := 0) sc__law_count (fun vs H Q E h => (no__law_count h).elim) (fun cdv A outer s H vs Q E hr h => (no__law_count h).elim)
  | n + 1 => by
    have F__law_count := ok__law_count D B n
    refine D.ok (k := 1 + n) sc__law_count (fun vs H Q E h => len__law_count h) (fun cdv A outer s H vs Q E hr h => ?_)
    have hu := hr.units0
    have hux := hr.units64
    exact ⟨t__law_count K n, (pss_cons (ps_if (pt_cmpR op_in_seq (pe_ix ix_tup (pvQ v__law_count_0 rfl rfl) pe_int (fun _ _ => rfl)) (pm_tup (pac_Constant pe_str (pac_Constant pe_str pa_nil))) rfl) (pss_one (ps_ret pe_int)) pss_nil)
    (pss_cons (ps_if (pt_cmpR op_in_seq (pe_ix ix_tup (pvQ v__law_count_0 rfl rfl) pe_int (fun _ _ => rfl)) (pm_tup (pac_Constant pe_str (pac_Constant pe_str pa_nil))) rfl) (pss_one (ps_ret (pe_op op_add (pe_op op_add pe_int (pe_callF F__law_count (hr.mono (by omega)) (pac_Subscript (pe_ix ix_tup (pvQ v__law_count_0 rfl rfl) pe_int (fun _ _ => rfl)) pa_nil))) (pe_callF F__law_count (hr.mono (by omega)) (pac_Subscript (pe_ix ix_tup (pvQ v__law_count_0 rfl rfl) pe_int (fun _ _ => rfl)) pa_nil))))) pss_nil)
    (pss_one (ps_ret (pe_op op_add pe_int (pe_callF F__law_count (hr.mono (by omega)) (pac_Subscript (pe_ix ix_tup (pvQ v__law_count_0 rfl rfl) (pe_un un_neg pe_int) (fun _ _ => rfl)) pa_nil))))))), rd__law_count h⟩
theorem ok__law_exchanged {f : Addr} {fd : FuncData} (D : Def K mg "_law_exchanged" S__law_exchanged ["_law_one", "_law_cards", "_law_hands", "_law_number"] f fd) (B : Blt mg) (F__law_group : FnB P w K mg base 1 "_law_group" ["_law_number", "_law_hands"] (sp__law_group K)) : FnB P w K mg base 2 "_law_exchanged" ["_law_one", "_law_cards", "_law_hands", "_law_number"] (sp__law_exchanged K) := by
  refine D.ok sc__law_exchanged (fun vs H Q E h => len__law_exchanged h) (fun cdv A outer s H vs Q E hr h => ?_)
  have hu := hr.units0
  have hux := hr.units64
  exact ⟨t__law_exchanged K, (pss_cons (ps_if (pt_cmpR op_eq (pe_ix ix_tup (pvQ v__law_exchanged_0 rfl rfl) pe_int (fun _ _ => rfl)) pe_str (nomark _)) (pss_cons (ps_if (PW.pt (pw_and (pt_cmpR op_eq (pe_op op_mod (pvQ v__law_exchanged_3 rfl rfl) pe_int) pe_int (nomark _)) (pw_and1 (pt_cmpR op_gt (pvQ v__law_exchanged_1 rfl rfl) pe_int (nomark _))))) (pss_one (ps_ret (pm_tup (pac_Constant pe_str (pac_Subscript (pe_ix ix_tup (pvQ v__law_exchanged_0 rfl rfl) pe_int (fun _ _ => rfl)) (pac_BinOp (pe_op op_mod (pe_op op_add (pe_ix ix_tup (pvQ v__law_exchanged_0 rfl rfl) pe_int (fun _ _ => rfl)) pe_int) (pvQ v__law_exchanged_1 rfl rfl)) pa_nil)))))) pss_nil)
    (pss_one (ps_ret (pm_tup (pac_Constant pe_str (pac_BinOp (pe_op op_mod (pe_op op_add (pe_ix ix_tup (pvQ v__law_exchanged_0 rfl rfl) pe_int (fun _ _ => rfl)) pe_int) (pe_op op_add (pvQ v__law_exchanged_2 rfl rfl) pe_int)) (pac_Subscript (pe_ix ix_tup (pvQ v__law_exchanged_0 rfl rfl) pe_int (fun _ _ => rfl)) pa_nil))))))) pss_nil)
    (pss_cons (ps_if (pt_cmpR op_eq (pe_ix ix_tup (pvQ v__law_exchanged_0 rfl rfl) pe_int (fun _ _ => rfl)) pe_str (nomark _)) (pss_one (ps_ret (pm_tup (pac_Constant pe_str (pac_BinOp (pe_op op_mod (pe_op op_add (pe_ix ix_tup (pvQ v__law_exchanged_0 rfl rfl) pe_int (fun _ _ => rfl)) pe_int) (pvQ v__law_exchanged_2 rfl rfl)) pa_nil))))) pss_nil)
    (pss_cons (ps_if (pt_cmpR op_in_seq (pe_ix ix_tup (pvQ v__law_exchanged_0 rfl rfl) pe_int (fun _ _ => rfl)) (pm_tup (pac_Constant pe_str (pac_Constant pe_str pa_nil))) rfl) (pss_cons (ps_if (pt_cmpR op_eq (pe_op op_mod (pvQ v__law_exchanged_3 rfl rfl) pe_int) pe_int (nomark _)) (pss_one (ps_ret (pm_tup (pac_Subscript (pe_ix ix_tup (pvQ v__law_exchanged_0 rfl rfl) pe_int (fun _ _ => rfl)) (pac_Subscript (pe_ix ix_tup (pvQ v__law_exchanged_0 rfl rfl) pe_int (fun _ _ => rfl)) (pac_Subscript (pe_ix ix_tup (pvQ v__law_exchanged_0 rfl rfl) pe_int (fun _ _ => rfl)) pa_nil)))))) pss_nil)
    (pss_one (ps_ret (pm_tup (pac_Subscript (pe_ix ix_list (pm_lst (pac_Constant pe_str (pac_Constant pe_str pa_nil))) (pe_callTy call_int1 rfl B.int boot_int (pac_Compare (pe_cmpR op_eq (pe_ix ix_tup (pvQ v__law_exchanged_0 rfl rfl) pe_int (fun _ _ => rfl)) pe_str (nomark _)) pa_nil)) (fun _ _ => rfl)) (pac_Subscript (pe_ix ix_tup (pvQ v__law_exchanged_0 rfl rfl) pe_int (fun _ _ => rfl)) (pac_Subscript (pe_ix ix_tup (pvQ v__law_exchanged_0 rfl rfl) pe_int (fun _ _ => rfl)) pa_nil))))))) pss_nil)
    (pss_cons (ps_if (pt_cmpR op_eq (pe_ix ix_tup (pvQ v__law_exchanged_0 rfl rfl) pe_int (fun _ _ => rfl)) pe_str (nomark _)) (pss_one (ps_ret (pm_tup (pac_Constant pe_str (pac_BinOp (pe_op op_mod (pvQ v__law_exchanged_3 rfl rfl) (pvQ v__law_exchanged_2 rfl rfl)) (pac_Subscript (pe_ix ix_tup (pvQ v__law_exchanged_0 rfl rfl) pe_int (fun _ _ => rfl)) pa_nil)))))) pss_nil)
    (pss_cons (ps_if (pt_cmpR op_eq (pe_ix ix_tup (pvQ v__law_exchanged_0 rfl rfl) pe_int (fun _ _ => rfl)) pe_str (nomark _)) (pss_one (ps_ret (pe_ix ix_list (pm_lst (pac_Tuple (pm_tup (pac_Constant pe_str (pac_Subscript (pe_ix ix_tup (pvQ v__law_exchanged_0 rfl rfl) pe_int (fun _ _ => rfl)) pa_nil))) (pac_Tuple (pm_tup (pac_Constant pe_str (pac_BinOp (pe_op op_mod (pe_op op_add (pe_ix ix_tup (pvQ v__law_exchanged_0 rfl rfl) pe_int (fun _ _ => rfl)) pe_int) (pvQ v__law_exchanged_2 rfl rfl)) (pac_Subscript (pe_ix ix_tup (pvQ v__law_exchanged_0 rfl rfl) pe_int (fun _ _ => rfl)) pa_nil)))) pa_nil))) (pe_op op_mod (pvQ v__law_exchanged_3 rfl rfl) pe_int) (fun _ _ => rfl)))) pss_nil)
    (pss_cons (ps_if (pt_cmpR op_eq (pe_op op_mod (pvQ v__law_exchanged_3 rfl rfl) pe_int) pe_int (nomark _)) (pss_one (ps_ret (pm_tup (pac_Subscript (pe_ix ix_list (pm_lst (pac_Constant pe_str (pac_Constant pe_str pa_nil))) (pe_callTy call_int1 rfl B.int boot_int (pac_Compare (pe_cmpR op_eq (pe_ix ix_tup (pvQ v__law_exchanged_0 rfl rfl) pe_int (fun _ _ => rfl)) pe_str (nomark _)) pa_nil)) (fun _ _ => rfl)) (pac_Subscript (pe_ix ix_tup (pvQ v__law_exchanged_0 rfl rfl) pe_int (fun _ _ => rfl)) (pac_Subscript (pe_ix ix_tup (pvQ v__law_exchanged_0 rfl rfl) pe_int (fun _ _ => rfl)) pa_nil)))))) pss_nil)
    (pss_one (ps_ret (pm_tup (pac_Subscript (pe_ix ix_tup (pvQ v__law_exchanged_0 rfl rfl) pe_int (fun _ _ => rfl)) (pac_Call (pe_callF F__law_group (hr.mono (by decide)) (pac_BinOp (pe_op op_fdiv (pvQ v__law_exchanged_3 rfl rfl) pe_int) (pac_Name (pvQ v__law_exchanged_2 rfl rfl) pa_nil))) (pac_Subscript (pe_ix ix_tup (pvQ v__law_exchanged_0 rfl rfl) pe_int (fun _ _ => rfl)) pa_nil)))))))))))), rd__law_exchanged h⟩
theorem ok__law_changed {f : Addr} {fd : FuncData} (D : Def K mg "_law_changed" S__law_changed ["_law_told", "_law_at", "_law_cards", "_law_hands", "_law_number"] f fd) (B : Blt mg) (F__law_count : FnB P w K mg base 32 "_law_count" ["_law_told"] (sp__law_count K 31)) (F__law_exchanged : FnB P w K mg base 2 "_law_exchanged" ["_law_one", "_law_cards", "_law_hands", "_law_number"] (sp__law_exchanged K)) : ∀ n, FnB P w K mg base (33 + n) "_law_changed" ["_law_told", "_law_at", "_law_cards", "_law_hands", "_law_number"] (sp__law_changed K n)
  | 0 => D.ok (k := 32) sc__law_changed (fun vs H Q E h => (no__law_changed h).elim) (fun cdv A outer s H vs Q E hr h => (no__law_changed h).elim)
  | n + 1 => by
    have F__law_changed := ok__law_changed D B F__law_count F__law_exchanged n
    refine D.ok (k := 33 + n) sc__law_changed (fun vs H Q E h => len__law_changed h) (fun cdv A outer s H vs Q E hr h => ?_)
    have hu := hr.units0
    have hux := hr.units64
    exact ⟨t__law_changed K n, (pss_cons (ps_if (pt_cmpR op_eq (pvQ v__law_changed_1 rfl rfl) pe_int (nomark _)) (pss_one (ps_ret (pe_callF F__law_exchanged (hr.mono (by omega)) (pac_Name (pvQ v__law_changed_0 rfl rfl) (pac_Name (pvQ v__law_changed_2 rfl rfl) (pac_Name (pvQ v__law_changed_3 rfl rfl) (pac_Name (pvQ v__law_changed_4 rfl rfl) pa_nil))))))) pss_nil)
    (pss_cons (ps_if (pt_cmpR op_in_seq (pe_ix ix_tup (pvQ v__law_changed_0 rfl rfl) pe_int (fun _ _ => rfl)) (pm_tup (pac_Constant pe_str (pac_Constant pe_str pa_nil))) rfl) (pss_cons (ps_set (i := 5) sc__law_changed.nd rfl (Or.inl rfl) (pe_callF F__law_count (hr.mono (by omega)) (pac_Subscript (pe_ix ix_tup (pvQ v__law_changed_0 rfl rfl) pe_int (fun _ _ => rfl)) pa_nil)))
    (pss_cons (ps_if (pt_cmpR op_le (pvQ v__law_changed_1 rfl rfl) (pvQ v__law_changed_5 rfl rfl) (nomark _)) (pss_one (ps_ret (pm_tup (pac_Subscript (pe_ix ix_tup (pvQ v__law_changed_0 rfl rfl) pe_int (fun _ _ => rfl)) (pac_Call (pe_callF F__law_changed (hr.mono (by omega)) (pac_Subscript (pe_ix ix_tup (pvQ v__law_changed_0 rfl rfl) pe_int (fun _ _ => rfl)) (pac_BinOp (pe_op op_sub (pvQ v__law_changed_1 rfl rfl) pe_int) (pac_Name (pvQ v__law_changed_2 rfl rfl) (pac_Name (pvQ v__law_changed_3 rfl rfl) (pac_Name (pvQ v__law_changed_4 rfl rfl) pa_nil)))))) (pac_Subscript (pe_ix ix_tup (pvQ v__law_changed_0 rfl rfl) pe_int (fun _ _ => rfl)) pa_nil)))))) pss_nil)
    (pss_one (ps_ret (pm_tup (pac_Subscript (pe_ix ix_tup (pvQ v__law_changed_0 rfl rfl) pe_int (fun _ _ => rfl)) (pac_Subscript (pe_ix ix_tup (pvQ v__law_changed_0 rfl rfl) pe_int (fun _ _ => rfl)) (pac_Call (pe_callF F__law_changed (hr.mono (by omega)) (pac_Subscript (pe_ix ix_tup (pvQ v__law_changed_0 rfl rfl) pe_int (fun _ _ => rfl)) (pac_BinOp (pe_op op_sub (pe_op op_sub (pvQ v__law_changed_1 rfl rfl) pe_int) (pvQ v__law_changed_5 rfl rfl)) (pac_Name (pvQ v__law_changed_2 rfl rfl) (pac_Name (pvQ v__law_changed_3 rfl rfl) (pac_Name (pvQ v__law_changed_4 rfl rfl) pa_nil)))))) pa_nil)))))))) pss_nil)
    (pss_one (ps_ret (pe_op om_catT (pe_slice sm_tup (pvQ v__law_changed_0 rfl rfl) po_none (po_some (pe_un un_neg pe_int))) (pm_tup (pac_Call (pe_callF F__law_changed (hr.mono (by omega)) (pac_Subscript (pe_ix ix_tup (pvQ v__law_changed_0 rfl rfl) (pe_un un_neg pe_int) (fun _ _ => rfl)) (pac_BinOp (pe_op op_sub (pvQ v__law_changed_1 rfl rfl) pe_int) (pac_Name (pvQ v__law_changed_2 rfl rfl) (pac_Name (pvQ v__law_changed_3 rfl rfl) (pac_Name (pvQ v__law_changed_4 rfl rfl) pa_nil)))))) pa_nil))))))), rd__law_changed h⟩
theorem ok__law_named {f : Addr} {fd : FuncData} (D : Def K mg "_law_named" S__law_named ["_law_text"] f fd) (B : Blt mg) : FnB P w K mg base 1 "_law_named" ["_law_text"] (sp__law_named K) := by
  refine D.ok sc__law_named (fun vs H Q E h => len__law_named h) (fun cdv A outer s H vs Q E hr h => ?_)
  have hu := hr.units0
  have hux := hr.units64
  exact ⟨t__law_named K, (pss_cons (ps_set (i := 1) sc__law_named.nd rfl (Or.inl rfl) (pe_bm PySem.F.plainAttrs_str PySem.F.slot_str_split PySem.F.type_str_split mt_split (pe_bm PySem.F.plainAttrs_str PySem.F.slot_str_join PySem.F.type_str_join mt_joinB pe_str (pac_Call (pe_bm PySem.F.plainAttrs_str PySem.F.slot_str_split PySem.F.type_str_split mt_split (pvQ v__law_named_0 rfl rfl) (pac_Constant pe_str pa_nil)) pa_nil)) (pac_Constant pe_str pa_nil)))
    (pss_one (ps_ret (pe_callB call_len_seq rfl B.len boot_len (pac_ListComp (pe_comp (sc := (defScope S__law_named)) (NX := ["_law_text", "_law_bits"]) (N := ["_law_word"]) (ix := [none]) rfl (by refine ⟨rfl, ?_, ?_, ?_, ?_, rfl, ?_⟩ <;> decide +kernel) (pi_list (pvQ v__law_named_1 rfl rfl)) (by intros; exact (pg_name (i := 0) (show (["_law_word"] : List Str).Nodup by decide +kernel) rfl (Or.inl rfl))) (by intros; exact (ptl_one (pt_cmpR op_in_seq (pv 0) (pm_tup (pac_Constant pe_str (pac_Constant pe_str (pac_Constant pe_str (pac_Constant pe_str (pac_Constant pe_str (pac_Constant pe_str (pac_Constant pe_str (pac_Constant pe_str pa_nil))))))))) rfl))) (by intros; exact (pv 0))) pa_nil))))), rd__law_named h⟩
theorem ok__law_good {f : Addr} {fd : FuncData} (D : Def K mg "_law_good" S__law_good ["_law_cards", "_law_hands", "_law_told", "_law_text"] f fd) (B : Blt mg) (F__law_named : FnB P w K mg base 1 "_law_named" ["_law_text"] (sp__law_named K)) (F_is_saying : FnB P w K mg base 6 "is_saying" ["cards", "hands", "thing"] (sp_is_saying K)) (F_read_saying : FnB P w K mg base 65 "read_saying" ["cards", "hands", "text"] (sp_read_saying K)) (F_show_saying : FnB P w K mg base 64 "show_saying" ["hands", "S"] (sp_show_saying K 31)) (F_words_in : FnB P w K mg base 33 "words_in" ["S"] (sp_words_in K 31)) : FnB P w K mg base 66 "_law_good" ["_law_cards", "_law_hands", "_law_told", "_law_text"] (sp__law_good K) := by
  refine D.ok sc__law_good (fun vs H Q E h => len__law_good h) (fun cdv A outer s H vs Q E hr h => ?_)
  have hu := hr.units0
  have hux := hr.units64
  exact ⟨t__law_good K, (pss_cons (ps_set (i := 4) sc__law_good.nd rfl (Or.inl rfl) (pe_callF F_read_saying (hr.mono (by decide)) (pac_Name (pvQ v__law_good_0 rfl rfl) (pac_Name (pvQ v__law_good_1 rfl rfl) (pac_Name (pvQ v__law_good_3 rfl rfl) pa_nil)))))
    (pss_cons (ps_if (PW.pt (pw_or (pt_cmpR (op_neD hux) (pvQ v__law_good_4 rfl rfl) (pvQ v__law_good_2 rfl rfl) (nomark _)) (pw_or (pt_cmpR op_ne (pe_callF F_show_saying (hr.mono (by decide)) (pac_Name (pvQ v__law_good_1 rfl rfl) (pac_Name (pvQ v__law_good_4 rfl rfl) pa_nil))) (pvQ v__law_good_3 rfl rfl) (nomark _)) (pw_or1 (pt_cmpR op_isnB (pe_callF F_is_saying (hr.mono (by decide)) (pac_Name (pvQ v__law_good_0 rfl rfl) (pac_Name (pvQ v__law_good_1 rfl rfl) (pac_Name (pvQ v__law_good_4 rfl rfl) pa_nil)))) pe_bl (nomark _)))))) (pss_one (ps_ret pe_bl)) pss_nil)
    (pss_one (ps_ret (pe_cmpR op_eq (pe_callF F_words_in (hr.mono (by decide)) (pac_Name (pvQ v__law_good_2 rfl rfl) pa_nil)) (pe_callF F__law_named (hr.mono (by decide)) (pac_Name (pvQ v__law_good_3 rfl rfl) pa_nil)) (nomark _)))))), rd__law_good h⟩
theorem ok_law {f : Addr} {fd : FuncData} (D : Def K mg "law" S_law ["_law_script"] f fd) (B : Blt mg) (F__law_built : FnB P w K mg base 3 "_law_built" ["_law_numbers_here", "_law_cards", "_law_hands", "_law_room"] (sp__law_built K)) (F__law_cell_at : FnB P w K mg base 1 "_law_cell_at" ["_law_script", "_law_k"] (sp__law_cell_at K)) (F__law_changed : FnB P w K mg base 64 "_law_changed" ["_law_told", "_law_at", "_law_cards", "_law_hands", "_law_number"] (sp__law_changed K 31)) (F__law_count : FnB P w K mg base 32 "_law_count" ["_law_told"] (sp__law_count K 31)) (F__law_good : FnB P w K mg base 66 "_law_good" ["_law_cards", "_law_hands", "_law_told", "_law_text"] (sp__law_good K)) (F__law_numbers : FnB P w K mg base 2 "_law_numbers" ["_law_script"] (sp__law_numbers K)) (F_show_saying : FnB P w K mg base 64 "show_saying" ["hands", "S"] (sp_show_saying K 31)) : FnOk P w K mg base CX0 67 f fd ["_law_script"] (spLaw K) := by
  refine D.fn.ok sc_law (fun vs H Q E h => len_law h) (fun cdv A outer s H vs Q E hr h => ?_)
  have hu := hr.units0
  have hux := hr.units64
  exact ⟨t_law K, (pss_cons (ps_set (i := 1) sc_law.nd rfl (Or.inl rfl) (pe_op op_fdiv (pe_callF F__law_cell_at (hr.mono (by decide)) (pac_Name (pvQ v_law_0 rfl rfl) (pac_Constant pe_int pa_nil))) pe_int))
    (pss_cons (ps_set (i := 2) sc_law.nd rfl (Or.inl rfl) (pe_op op_mod (pvQ v_law_1 rfl rfl) pe_int))
    (pss_cons (ps_set (i := 3) sc_law.nd rfl (Or.inl rfl) (pe_op op_add pe_int (pe_op op_mod (pe_op op_fdiv (pvQ v_law_1 rfl rfl) pe_int) pe_int)))
    (pss_cons (ps_set (i := 4) sc_law.nd rfl (Or.inl rfl) (pe_op op_add pe_int (pe_op op_mod (pe_op op_fdiv (pvQ v_law_1 rfl rfl) pe_int) pe_int)))
    (pss_cons (ps_set (i := 5) sc_law.nd rfl (Or.inl rfl) (pe_callF F__law_numbers (hr.mono (by decide)) (pac_Name (pvQ v_law_0 rfl rfl) pa_nil)))
    (pss_cons (ps_set (i := 6) sc_law.nd rfl (Or.inl rfl) (pe_callF F__law_built (hr.mono (by decide)) (pac_Name (pvQ v_law_5 rfl rfl) (pac_Name (pvQ v_law_2 rfl rfl) (pac_Name (pvQ v_law_3 rfl rfl) (pac_Name (pvQ v_law_4 rfl rfl) pa_nil))))))
    (pss_cons (ps_set (i := 7) sc_law.nd rfl (Or.inl rfl) (pe_callF F__law_cell_at (hr.mono (by decide)) (pac_Name (pvQ v_law_0 rfl rfl) (pac_Constant pe_int pa_nil))))
    (pss_cons (ps_set (i := 8) sc_law.nd rfl (Or.inl rfl) (pe_callF F__law_changed (hr.mono (by decide)) (pac_Name (pvQ v_law_6 rfl rfl) (pac_BinOp (pe_op op_mod (pe_op op_fdiv (pvQ v_law_7 rfl rfl) pe_int) (pe_callF F__law_count (hr.mono (by decide)) (pac_Name (pvQ v_law_6 rfl rfl) pa_nil))) (pac_Name (pvQ v_law_2 rfl rfl) (pac_Name (pvQ v_law_3 rfl rfl) (pac_BinOp (pe_op op_fdiv (pvQ v_law_7 rfl rfl) pe_int) pa_nil)))))))
    (pss_cons (ps_if (PW.pt (pw_and (pt_cmpR op_eq (pe_op op_mod (pvQ v_law_7 rfl rfl) pe_int) pe_int (nomark _)) (pw_and1 (pt_cmpR op_gt (pe_callB call_len_seq rfl B.len boot_len (pac_Name (pvQ v_law_5 rfl rfl) pa_nil)) pe_int (nomark _))))) (pss_cons (ps_set (i := 9) sc_law.nd rfl (Or.inl rfl) (pe_op op_mod (pe_op op_fdiv (pvQ v_law_7 rfl rfl) pe_int) (pe_callB call_len_seq rfl B.len boot_len (pac_Name (pvQ v_law_5 rfl rfl) pa_nil))))
    (pss_cons (ps_set (i := 10) sc_law.nd rfl (Or.inl rfl) (pe_callTy cm_list rfl B.list boot_list (pac_Name (pvQ v_law_5 rfl rfl) pa_nil)))
    (pss_cons (ps_asg (pe_op op_add (pe_op op_add (pe_ix ix_list (pvQ v_law_10 rfl rfl) (pvQ v_law_9 rfl rfl) (fun _ _ => rfl)) pe_int) (pe_op op_mod (pe_op op_fdiv (pvQ v_law_7 rfl rfl) pe_int) pe_int)) (pg_sub (pvQ v_law_10 rfl rfl) (pvQ v_law_9 rfl rfl) set_list))
    (pss_one (ps_set (i := 8) sc_law.nd rfl (Or.inl rfl) (pe_callF F__law_built (hr.mono (by decide)) (pac_Name (pvQ v_law_10 rfl rfl) (pac_Name (pvQ v_law_2 rfl rfl) (pac_Name (pvQ v_law_3 rfl rfl) (pac_Name (pvQ v_law_4 rfl rfl) pa_nil)))))))))) pss_nil)
    (pss_cons (ps_set (i := 11) sc_law.nd rfl (Or.inl rfl) (pe_callF F_show_saying (hr.mono (by decide)) (pac_Name (pvQ v_law_3 rfl rfl) (pac_Name (pvQ v_law_6 rfl rfl) pa_nil))))
    (pss_cons (ps_set (i := 12) sc_law.nd rfl (Or.inl rfl) (pe_callF F_show_saying (hr.mono (by decide)) (pac_Name (pvQ v_law_3 rfl rfl) (pac_Name (pvQ v_law_8 rfl rfl) pa_nil))))
    (pss_cons (ps_if (pt_cmpR op_ne (pe_cmpR op_eq (pvQ v_law_11 rfl rfl) (pvQ v_law_12 rfl rfl) (nomark _)) (pe_cmpR (op_eqD hux) (pvQ v_law_6 rfl rfl) (pvQ v_law_8 rfl rfl) (nomark _)) (nomark _)) (pss_one (ps_ret pe_bl)) pss_nil)
    (pss_one (ps_ret (pe_and (pe_callF F__law_good (hr.mono (by decide)) (pac_Name (pvQ v_law_2 rfl rfl) (pac_Name (pvQ v_law_3 rfl rfl) (pac_Name (pvQ v_law_6 rfl rfl) (pac_Name (pvQ v_law_11 rfl rfl) pa_nil))))) (pe_one (pe_callF F__law_good (hr.mono (by decide)) (pac_Name (pvQ v_law_2 rfl rfl) (pac_Name (pvQ v_law_3 rfl rfl) (pac_Name (pvQ v_law_8 rfl rfl) (pac_Name (pvQ v_law_12 rfl rfl) pa_nil))))))))))))))))))))), rd_law h⟩
theorem ok_show_saying {f : Addr} {fd : FuncData} (D : Def K mg "show_saying" S_show_saying ["hands", "S"] f fd) {f2 : Addr} {fd2 : FuncData} (D2 : Def K mg "show_part" S_show_part ["hands", "place", "part"] f2 fd2) (B : Blt mg) {G : Glo} (T : TabsB P w K mg G) {t_PILE : Tok} (m_PILE : mg "PILE" = some (.str "pile" t_PILE)) (F_with_commas : FnB P w K mg base 1 "with_commas" ["numbers"] (sp_with_commas K)) : ∀ n, FnB P w K mg base (2 + 2 * n) "show_saying" ["hands", "S"] (sp_show_saying K n)
  | 0 => D.ok (k := 1) sc_show_saying (fun vs H Q E h => (no_show_saying h).elim) (fun cdv A outer s H vs Q E hr h => (no_show_saying h).elim)
  | n + 1 => by
    have F_show_saying := ok_show_saying D D2 B T m_PILE F_with_commas n
    have F_show_part := ok_show_part D2 B m_PILE F_show_saying F_with_commas
    refine D.ok (k := 2 + 2 * n + 1) sc_show_saying (fun vs H Q E h => len_show_saying h) (fun cdv A outer s H vs Q E hr h => ?_)
    have hu := hr.units0
    have hux := hr.units64
    have m_FORMS := T.mf
    have m_BETWEEN := T.mb
    have d_FORMS := T.df
    exact ⟨t_show_saying K G n, (pss_cons (ps_set (i := 2) sc_show_saying.nd rfl (Or.inl rfl) (pe_ix ix_tup (pvQ v_show_saying_1 rfl rfl) pe_int (fun _ _ => rfl)))
    (pss_cons (ps_setComp (i := 3) sc_show_saying.nd rfl rfl (sc := (defScope S_show_saying)) (NX := ["hands", "S", "word", "shown"]) (N := ["place", "part", "hands"]) (ix := [none, none, some 0]) rfl (by refine ⟨rfl, ?_, ?_, ?_, ?_, rfl, ?_⟩ <;> decide +kernel) (pi_zip srcT srcT rfl B.zip (pac_Subscript (pe_dic d_FORMS (pe_glob (v := (.ref G.forms)) rfl m_FORMS rfl) (pvQ v_show_saying_2 rfl rfl) (fun _ _ => rfl)) (pac_Subscript (pe_slice sm_tup (pvQ v_show_saying_1 rfl rfl) (po_some pe_int) po_none) pa_nil))) (by intros; exact (pg_tup rfl (pgs_cons (pg_name (i := 0) (show (["place", "part", "hands"] : List Str).Nodup by decide +kernel) rfl (Or.inl rfl)) (pgs_cons (pg_name (i := 1) (show (["place", "part", "hands"] : List Str).Nodup by decide +kernel) rfl (Or.inl rfl)) pgs_nil)))) (by intros; exact ptl_nil) (by intros; exact (pe_callF F_show_part (hr.mono (by omega)) (pac_Name (pv 2) (pac_Name (pv 0) (pac_Name (pv 1) pa_nil))))))
    (pss_cons (ps_if (pt_cmpR op_in_seq (pvQ v_show_saying_2 rfl rfl) (pe_glob (v := (.ref G.cw)) rfl m_BETWEEN rfl) rfl) (pss_one (ps_ret (pe_op op_add_str (pe_op op_add_str (pe_op op_add_str (pe_op op_add_str (pe_op op_add_str (pe_op op_add_str pe_str (pe_ix ix_list (pvQ v_show_saying_3 rfl rfl) pe_int (fun _ _ => rfl))) pe_str) (pvQ v_show_saying_2 rfl rfl)) pe_str) (pe_ix ix_list (pvQ v_show_saying_3 rfl rfl) pe_int (fun _ _ => rfl))) pe_str))) pss_nil)
    (pss_one (ps_ret (pe_bm PySem.F.plainAttrs_str PySem.F.slot_str_join PySem.F.type_str_join mt_join pe_str (pac_BinOp (pe_op om_cat (pm_lst (pac_Name (pvQ v_show_saying_2 rfl rfl) pa_nil)) (pvQ v_show_saying_3 rfl rfl)) pa_nil))))))), rd_show_saying T.ok T.bwk h⟩
theorem build (B : Blt mg) {f1 : Addr} {fd1 : FuncData} (D_is_whole : Def K mg "is_whole" S_is_whole ["thing"] f1 fd1) {f2 : Addr} {fd2 : FuncData} (D_is_within : Def K mg "is_within" S_is_within ["thing", "least", "most"] f2 fd2) {f3 : Addr} {fd3 : FuncData} (D_is_below : Def K mg "is_below" S_is_below ["thing", "bound"] f3 fd3) {f4 : Addr} {fd4 : FuncData} (D_are_hands : Def K mg "are_hands" S_are_hands ["thing", "hands"] f4 fd4) {f5 : Addr} {fd5 : FuncData} (D_is_saying : Def K mg "is_saying" S_is_saying ["cards", "hands", "thing"] f5 fd5) {f6 : Addr} {fd6 : FuncData} (D_is_word : Def K mg "is_word" S_is_word ["cards", "hands", "thing"] f6 fd6) {f7 : Addr} {fd7 : FuncData} (D_fits : Def K mg "fits" S_fits ["cards", "hands", "place", "part"] f7 fd7) {f8 : Addr} {fd8 : FuncData} (D_parts_of : Def K mg "parts_of" S_parts_of ["saying"] f8 fd8) {f9 : Addr} {fd9 : FuncData} (D_parts_of_all : Def K mg "parts_of_all" S_parts_of_all ["sayings"] f9 fd9) {f10 : Addr} {fd10 : FuncData} (D_words_in : Def K mg "words_in" S_words_in ["S"] f10 fd10) {f11 : Addr} {fd11 : FuncData} (D_show_saying : Def K mg "show_saying" S_show_saying ["hands", "S"] f11 fd11) {f12 : Addr} {fd12 : FuncData} (D_show_part : Def K mg "show_part" S_show_part ["hands", "place", "part"] f12 fd12) {f13 : Addr} {fd13 : FuncData} (D_with_commas : Def K mg "with_commas" S_with_commas ["numbers"] f13 fd13) {f14 : Addr} {fd14 : FuncData} (D_read_saying : Def K mg "read_saying" S_read_saying ["cards", "hands", "text"] f14 fd14) {f15 : Addr} {fd15 : FuncData} (D_words_of : Def K mg "words_of" S_words_of ["text"] f15 fd15) {f16 : Addr} {fd16 : FuncData} (D_built_of : Def K mg "built_of" S_built_of ["hands", "words"] f16 fd16) {f17 : Addr} {fd17 : FuncData} (D_with_word : Def K mg "with_word" S_with_word ["hands", "word", "things"] f17 fd17) {f18 : Addr} {fd18 : FuncData} (D_out_of_brackets : Def K mg "out_of_brackets" S_out_of_brackets ["things"] f18 fd18) {f19 : Addr} {fd19 : FuncData} (D_read_part : Def K mg "read_part" S_read_part ["hands", "place", "thing"] f19 fd19) {f20 : Addr} {fd20 : FuncData} (D_read_hands : Def K mg "read_hands" S_read_hands ["word"] f20 fd20) {f21 : Addr} {fd21 : FuncData} (D_read_number : Def K mg "read_number" S_read_number ["word"] f21 fd21) {f22 : Addr} {fd22 : FuncData} (D__law_cell_at : Def K mg "_law_cell_at" S__law_cell_at ["_law_script", "_law_k"] f22 fd22) {f23 : Addr} {fd23 : FuncData} (D__law_stream : Def K mg "_law_stream" S__law_stream ["_law_cell", "_law_many"] f23 fd23) {f24 : Addr} {fd24 : FuncData} (D__law_numbers : Def K mg "_law_numbers" S__law_numbers ["_law_script"] f24 fd24) {f25 : Addr} {fd25 : FuncData} (D__law_group : Def K mg "_law_group" S__law_group ["_law_number", "_law_hands"] f25 fd25) {f26 : Addr} {fd26 : FuncData} (D__law_leaf : Def K mg "_law_leaf" S__law_leaf ["_law_number", "_law_cards", "_law_hands"] f26 fd26) {f27 : Addr} {fd27 : FuncData} (D__law_over : Def K mg "_law_over" S__law_over ["_law_number", "_law_told", "_law_hands"] f27 fd27) {f28 : Addr} {fd28 : FuncData} (D__law_built : Def K mg "_law_built" S__law_built ["_law_numbers_here", "_law_cards", "_law_hands", "_law_room"] f28 fd28) {f29 : Addr} {fd29 : FuncData} (D__law_count : Def K mg "_law_count" S__law_count ["_law_told"] f29 fd29) {f30 : Addr} {fd30 : FuncData} (D__law_exchanged : Def K mg "_law_exchanged" S__law_exchanged ["_law_one", "_law_cards", "_law_hands", "_law_number"] f30 fd30) {f31 : Addr} {fd31 : FuncData} (D__law_changed : Def K mg "_law_changed" S__law_changed ["_law_told", "_law_at", "_law_cards", "_law_hands", "_law_number"] f31 fd31) {f32 : Addr} {fd32 : FuncData} (D__law_named : Def K mg "_law_named" S__law_named ["_law_text"] f32 fd32) {f33 : Addr} {fd33 : FuncData} (D__law_good : Def K mg "_law_good" S__law_good ["_law_cards", "_law_hands", "_law_told", "_law_text"] f33 fd33) {f34 : Addr} {fd34 : FuncData} (D_law : Def K mg "law" S_law ["_law_script"] f34 fd34) {G : Glo} (T : TabsB P w K mg G) {t_PILE : Tok} (m_PILE : mg "PILE" = some (.str "pile" t_PILE)) {t_NO_NUMBERS : Tok} (m_NO_NUMBERS : mg "NO_NUMBERS" = some (.str "-" t_NO_NUMBERS)) (m_reversed : mg "reversed" = none) {t_MOST_WORDS : Tok} (m_MOST_WORDS : mg "MOST_WORDS" = some (.int 30 t_MOST_WORDS)) : FnOk P w K mg base CX0 67 f34 fd34 ["_law_script"] (spLaw K) := by
  have F__law_leaf : FnB P w K mg base 1 "_law_leaf" ["_law_number", "_law_cards", "_law_hands"] (sp__law_leaf K) := ok__law_leaf D__law_leaf B
  have F__law_group : FnB P w K mg base 1 "_law_group" ["_law_number", "_law_hands"] (sp__law_group K) := ok__law_group D__law_group B
  have F__law_over : FnB P w K mg base 2 "_law_over" ["_law_number", "_law_told", "_law_hands"] (sp__law_over K) := ok__law_over D__law_over B F__law_group
  have F__law_built : FnB P w K mg base 3 "_law_built" ["_law_numbers_here", "_law_cards", "_law_hands", "_law_room"] (sp__law_built K) := ok__law_built D__law_built B F__law_leaf F__law_over
  have F__law_cell_at : FnB P w K mg base 1 "_law_cell_at" ["_law_script", "_law_k"] (sp__law_cell_at K) := ok__law_cell_at D__law_cell_at B
  have F__law_count : FnB P w K mg base 32 "_law_count" ["_law_told"] (sp__law_count K 31) := ok__law_count D__law_count B 31
  have F__law_exchanged : FnB P w K mg base 2 "_law_exchanged" ["_law_one", "_law_cards", "_law_hands", "_law_number"] (sp__law_exchanged K) := ok__law_exchanged D__law_exchanged B F__law_group
  have F__law_changed : FnB P w K mg base 64 "_law_changed" ["_law_told", "_law_at", "_law_cards", "_law_hands", "_law_number"] (sp__law_changed K 31) := ok__law_changed D__law_changed B F__law_count F__law_exchanged 31
  have F__law_named : FnB P w K mg base 1 "_law_named" ["_law_text"] (sp__law_named K) := ok__law_named D__law_named B
  have F_is_whole : FnB P w K mg base 1 "is_whole" ["thing"] (sp_is_whole K) := ok_is_whole D_is_whole B
  have F_is_within : FnB P w K mg base 2 "is_within" ["thing", "least", "most"] (sp_is_within K) := ok_is_within D_is_within B F_is_whole
  have F_are_hands : FnB P w K mg base 3 "are_hands" ["thing", "hands"] (sp_are_hands K) := ok_are_hands D_are_hands B F_is_within
  have F_is_below : FnB P w K mg base 3 "is_below" ["thing", "bound"] (sp_is_below K) := ok_is_below D_is_below B F_is_within
  have F_fits : FnB P w K mg base 4 "fits" ["cards", "hands", "place", "part"] (sp_fits K) := ok_fits D_fits B F_are_hands F_is_below
  have F_is_word : FnB P w K mg base 5 "is_word" ["cards", "hands", "thing"] (sp_is_word K) := ok_is_word D_is_word B T F_fits
  have F_parts_of : FnB P w K mg base 1 "parts_of" ["saying"] (sp_parts_of K) := ok_parts_of D_parts_of B T
  have F_parts_of_all : FnB P w K mg base 2 "parts_of_all" ["sayings"] (sp_parts_of_all K) := ok_parts_of_all D_parts_of_all B F_parts_of
  have F_is_saying : FnB P w K mg base 6 "is_saying" ["cards", "hands", "thing"] (sp_is_saying K) := ok_is_saying D_is_saying B m_MOST_WORDS F_is_whole F_is_word F_parts_of_all
  have F_out_of_brackets : FnB P w K mg base 1 "out_of_brackets" ["things"] (sp_out_of_brackets K) := ok_out_of_brackets D_out_of_brackets B
  have F_read_number : FnB P w K mg base 1 "read_number" ["word"] (sp_read_number K) := ok_read_number D_read_number B
  have F_read_hands : FnB P w K mg base 2 "read_hands" ["word"] (sp_read_hands K) := ok_read_hands D_read_hands B m_NO_NUMBERS F_read_number
  have F_read_part : FnB P w K mg base 3 "read_part" ["hands", "place", "thing"] (sp_read_part K) := ok_read_part D_read_part B m_PILE F_read_hands F_read_number
  have F_with_word : FnB P w K mg base 4 "with_word" ["hands", "word", "things"] (sp_with_word K) := ok_with_word D_with_word B T F_out_of_brackets F_read_part
  have F_built_of : FnB P w K mg base 5 "built_of" ["hands", "words"] (sp_built_of K) := ok_built_of D_built_of B m_reversed F_with_word
  have F_with_commas : FnB P w K mg base 1 "with_commas" ["numbers"] (sp_with_commas K) := ok_with_commas D_with_commas B m_NO_NUMBERS
  have F_show_saying : FnB P w K mg base 64 "show_saying" ["hands", "S"] (sp_show_saying K 31) := ok_show_saying D_show_saying D_show_part B T m_PILE F_with_commas 31
  have F_words_of : FnB P w K mg base 1 "words_of" ["text"] (sp_words_of K) := ok_words_of D_words_of B
  have F_read_saying : FnB P w K mg base 65 "read_saying" ["cards", "hands", "text"] (sp_read_saying K) := ok_read_saying D_read_saying B F_built_of F_is_saying F_show_saying F_words_of
  have F_words_in : FnB P w K mg base 33 "words_in" ["S"] (sp_words_in K 31) := ok_words_in D_words_in B F_parts_of 31
  have F__law_good : FnB P w K mg base 66 "_law_good" ["_law_cards", "_law_hands", "_law_told", "_law_text"] (sp__law_good K) := ok__law_good D__law_good B F__law_named F_is_saying F_read_saying F_show_saying F_words_in
  have F__law_stream : FnB P w K mg base 1 "_law_stream" ["_law_cell", "_law_many"] (sp__law_stream_q K) := ok__law_stream D__law_stream B
  have F__law_numbers : FnB P w K mg base 2 "_law_numbers" ["_law_script"] (sp__law_numbers K) := ok__law_numbers D__law_numbers B F__law_cell_at F__law_stream
  exact ok_law D_law B F__law_built F__law_cell_at F__law_changed F__law_count F__law_good F__law_numbers F_show_saying
end
@[elab_as_elim] theorem ofLen1 {α : Type} {P : List α → Prop} (us : List α) (hl : us.length = 1) (h : ∀ a0 : α, P [a0]) : P us := match us, hl with | [a0], _ => h a0
@[elab_as_elim] theorem ofLen2 {α : Type} {P : List α → Prop} (us : List α) (hl : us.length = 2) (h : ∀ a0 a1 : α, P [a0, a1]) : P us := match us, hl with | [a0, a1], _ => h a0 a1
@[elab_as_elim] theorem ofLen3 {α : Type} {P : List α → Prop} (us : List α) (hl : us.length = 3) (h : ∀ a0 a1 a2 : α, P [a0, a1, a2]) : P us := match us, hl with | [a0, a1, a2], _ => h a0 a1 a2
@[elab_as_elim] theorem ofLen4 {α : Type} {P : List α → Prop} (us : List α) (hl : us.length = 4) (h : ∀ a0 a1 a2 a3 : α, P [a0, a1, a2, a3]) : P us := match us, hl with | [a0, a1, a2, a3], _ => h a0 a1 a2 a3
@[elab_as_elim] theorem ofLen5 {α : Type} {P : List α → Prop} (us : List α) (hl : us.length = 5) (h : ∀ a0 a1 a2 a3 a4 : α, P [a0, a1, a2, a3, a4]) : P us := match us, hl with | [a0, a1, a2, a3, a4], _ => h a0 a1 a2 a3 a4
theorem all_mk {l : PySem.W.OpenLaw} {w : World} {K : PySem.W.Frag} {h : Heap} {mg : Str → Option Value} {fa f1 f2 f3 f4 f5 f6 f7 f8 f9 f10 f11 f12 f13 f14 f15 f16 f17 f18 f19 f20 f21 f22 f23 f24 f25 f26 f27 f28 f29 f30 f31 f32 f33 f34 : Addr} (X : K.In h) (G : h.Ns mainGlobals mg) (hfa : mg "law" = some (.ref fa))
    {od1 an1 od2 an2 od3 an3 od4 an4 od5 an5 od6 an6 od7 an7 od8 an8 od9 an9 od10 an10 od11 an11 od12 an12 od13 an13 od14 an14 od15 an15 od16 an16 od17 an17 od18 an18 od19 an19 od20 an20 od21 an21 od22 an22 od23 an23 od24 an24 od25 an25 od26 an26 od27 an27 od28 an28 od29 an29 od30 an30 od31 an31 od32 an32 od33 an33 od34 an34 : Option Addr} {sl1 sl2 sl3 sl4 sl5 sl6 sl7 sl8 sl9 sl10 sl11 sl12 sl13 sl14 sl15 sl16 sl17 sl18 sl19 sl20 sl21 sl22 sl23 sl24 sl25 sl26 sl27 sl28 sl29 sl30 sl31 sl32 sl33 sl34 : Array (Option Value)} {oc1 kV1 dc1 pm1 cd1 ct1 oc2 kV2 dc2 pm2 cd2 ct2 oc3 kV3 dc3 pm3 cd3 ct3 oc4 kV4 dc4 pm4 cd4 ct4 oc5 kV5 dc5 pm5 cd5 ct5 oc6 kV6 dc6 pm6 cd6 ct6 oc7 kV7 dc7 pm7 cd7 ct7 oc8 kV8 dc8 pm8 cd8 ct8 oc9 kV9 dc9 pm9 cd9 ct9 oc10 kV10 dc10 pm10 cd10 ct10 oc11 kV11 dc11 pm11 cd11 ct11 oc12 kV12 dc12 pm12 cd12 ct12 oc13 kV13 dc13 pm13 cd13 ct13 oc14 kV14 dc14 pm14 cd14 ct14 oc15 kV15 dc15 pm15 cd15 ct15 oc16 kV16 dc16 pm16 cd16 ct16 oc17 kV17 dc17 pm17 cd17 ct17 oc18 kV18 dc18 pm18 cd18 ct18 oc19 kV19 dc19 pm19 cd19 ct19 oc20 kV20 dc20 pm20 cd20 ct20 oc21 kV21 dc21 pm21 cd21 ct21 oc22 kV22 dc22 pm22 cd22 ct22 oc23 kV23 dc23 pm23 cd23 ct23 oc24 kV24 dc24 pm24 cd24 ct24 oc25 kV25 dc25 pm25 cd25 ct25 oc26 kV26 dc26 pm26 cd26 ct26 oc27 kV27 dc27 pm27 cd27 ct27 oc28 kV28 dc28 pm28 cd28 ct28 oc29 kV29 dc29 pm29 cd29 ct29 oc30 kV30 dc30 pm30 cd30 ct30 oc31 kV31 dc31 pm31 cd31 ct31 oc32 kV32 dc32 pm32 cd32 ct32 oc33 kV33 dc33 pm33 cd33 ct33 oc34 kV34 dc34 pm34 cd34 ct34 : Value} {t_PILE : Tok}  {t_NO_NUMBERS : Tok}   {t_MOST_WORDS : Tok}  {aF aC fm1 fm2 fm3 fm4 fm5 fm6 fm7 fm8 : Addr} {tk1 tk2 tk3 tk4 tk5 tk6 tk7 tk8 tu1 tu2 tu3 tu4 tu5 tu6 tu7 tu8 tu9 tu10 tu11 tu12 tu13 tu14 tu15 tu16 : Tok} {epF tn1 tn2 tn3 tn4 tn5 tn6 tn7 tn8 tn9 : Nat} {to1 to2 to3 to4 to5 to6 to7 to8 to9 : Option Addr} {ts1 ts2 ts3 ts4 ts5 ts6 ts7 ts8 ts9 : Array (Option Value)}
    (a1 : PySem.W.nsIn K mainGlobals "is_whole" = some (some (.ref f1))) (l1 : K.lookup f1 = some ⟨oc1, od1, .func (PySem.W.fnOf "is_whole" "is_whole" (defArgs S_is_whole) (defBody S_is_whole) (defScope S_is_whole) .none kV1 dc1 pm1 an1 cd1 ct1), sl1⟩) (c1 : PySem.W.codeIn K cd1 "is_whole" = true) (k1 : PySem.W.keepIn K (.ref f1) = true)
    (a2 : PySem.W.nsIn K mainGlobals "is_within" = some (some (.ref f2))) (l2 : K.lookup f2 = some ⟨oc2, od2, .func (PySem.W.fnOf "is_within" "is_within" (defArgs S_is_within) (defBody S_is_within) (defScope S_is_within) .none kV2 dc2 pm2 an2 cd2 ct2), sl2⟩) (c2 : PySem.W.codeIn K cd2 "is_within" = true) (k2 : PySem.W.keepIn K (.ref f2) = true)
    (a3 : PySem.W.nsIn K mainGlobals "is_below" = some (some (.ref f3))) (l3 : K.lookup f3 = some ⟨oc3, od3, .func (PySem.W.fnOf "is_below" "is_below" (defArgs S_is_below) (defBody S_is_below) (defScope S_is_below) .none kV3 dc3 pm3 an3 cd3 ct3), sl3⟩) (c3 : PySem.W.codeIn K cd3 "is_below" = true) (k3 : PySem.W.keepIn K (.ref f3) = true)
    (a4 : PySem.W.nsIn K mainGlobals "are_hands" = some (some (.ref f4))) (l4 : K.lookup f4 = some ⟨oc4, od4, .func (PySem.W.fnOf "are_hands" "are_hands" (defArgs S_are_hands) (defBody S_are_hands) (defScope S_are_hands) .none kV4 dc4 pm4 an4 cd4 ct4), sl4⟩) (c4 : PySem.W.codeIn K cd4 "are_hands" = true) (k4 : PySem.W.keepIn K (.ref f4) = true)
    (a5 : PySem.W.nsIn K mainGlobals "is_saying" = some (some (.ref f5))) (l5 : K.lookup f5 = some ⟨oc5, od5, .func (PySem.W.fnOf "is_saying" "is_saying" (defArgs S_is_saying) (defBody S_is_saying) (defScope S_is_saying) .none kV5 dc5 pm5 an5 cd5 ct5), sl5⟩) (c5 : PySem.W.codeIn K cd5 "is_saying" = true) (k5 : PySem.W.keepIn K (.ref f5) = true)
    (a6 : PySem.W.nsIn K mainGlobals "is_word" = some (some (.ref f6))) (l6 : K.lookup f6 = some ⟨oc6, od6, .func (PySem.W.fnOf "is_word" "is_word" (defArgs S_is_word) (defBody S_is_word) (defScope S_is_word) .none kV6 dc6 pm6 an6 cd6 ct6), sl6⟩) (c6 : PySem.W.codeIn K cd6 "is_word" = true) (k6 : PySem.W.keepIn K (.ref f6) = true)
    (a7 : PySem.W.nsIn K mainGlobals "fits" = some (some (.ref f7))) (l7 : K.lookup f7 = some ⟨oc7, od7, .func (PySem.W.fnOf "fits" "fits" (defArgs S_fits) (defBody S_fits) (defScope S_fits) .none kV7 dc7 pm7 an7 cd7 ct7), sl7⟩) (c7 : PySem.W.codeIn K cd7 "fits" = true) (k7 : PySem.W.keepIn K (.ref f7) = true)
    (a8 : PySem.W.nsIn K mainGlobals "parts_of" = some (some (.ref f8))) (l8 : K.lookup f8 = some ⟨oc8, od8, .func (PySem.W.fnOf "parts_of" "parts_of" (defArgs S_parts_of) (defBody S_parts_of) (defScope S_parts_of) .none kV8 dc8 pm8 an8 cd8 ct8), sl8⟩) (c8 : PySem.W.codeIn K cd8 "parts_of" = true) (k8 : PySem.W.keepIn K (.ref f8) = true)
    (a9 : PySem.W.nsIn K mainGlobals "parts_of_all" = some (some (.ref f9))) (l9 : K.lookup f9 = some ⟨oc9, od9, .func (PySem.W.fnOf "parts_of_all" "parts_of_all" (defArgs S_parts_of_all) (defBody S_parts_of_all) (defScope S_parts_of_all) .none kV9 dc9 pm9 an9 cd9 ct9), sl9⟩) (c9 : PySem.W.codeIn K cd9 "parts_of_all" = true) (k9 : PySem.W.keepIn K (.ref f9) = true)
    (a10 : PySem.W.nsIn K mainGlobals "words_in" = some (some (.ref f10))) (l10 : K.lookup f10 = some ⟨oc10, od10, .func (PySem.W.fnOf "words_in" "words_in" (defArgs S_words_in) (defBody S_words_in) (defScope S_words_in) .none kV10 dc10 pm10 an10 cd10 ct10), sl10⟩) (c10 : PySem.W.codeIn K cd10 "words_in" = true) (k10 : PySem.W.keepIn K (.ref f10) = true)
    (a11 : PySem.W.nsIn K mainGlobals "show_saying" = some (some (.ref f11))) (l11 : K.lookup f11 = some ⟨oc11, od11, .func (PySem.W.fnOf "show_saying" "show_saying" (defArgs S_show_saying) (defBody S_show_saying) (defScope S_show_saying) .none kV11 dc11 pm11 an11 cd11 ct11), sl11⟩) (c11 : PySem.W.codeIn K cd11 "show_saying" = true) (k11 : PySem.W.keepIn K (.ref f11) = true)
    (a12 : PySem.W.nsIn K mainGlobals "show_part" = some (some (.ref f12))) (l12 : K.lookup f12 = some ⟨oc12, od12, .func (PySem.W.fnOf "show_part" "show_part" (defArgs S_show_part) (defBody S_show_part) (defScope S_show_part) .none kV12 dc12 pm12 an12 cd12 ct12), sl12⟩) (c12 : PySem.W.codeIn K cd12 "show_part" = true) (k12 : PySem.W.keepIn K (.ref f12) = true)
    (a13 : PySem.W.nsIn K mainGlobals "with_commas" = some (some (.ref f13))) (l13 : K.lookup f13 = some ⟨oc13, od13, .func (PySem.W.fnOf "with_commas" "with_commas" (defArgs S_with_commas) (defBody S_with_commas) (defScope S_with_commas) .none kV13 dc13 pm13 an13 cd13 ct13), sl13⟩) (c13 : PySem.W.codeIn K cd13 "with_commas" = true) (k13 : PySem.W.keepIn K (.ref f13) = true)
    (a14 : PySem.W.nsIn K mainGlobals "read_saying" = some (some (.ref f14))) (l14 : K.lookup f14 = some ⟨oc14, od14, .func (PySem.W.fnOf "read_saying" "read_saying" (defArgs S_read_saying) (defBody S_read_saying) (defScope S_read_saying) .none kV14 dc14 pm14 an14 cd14 ct14), sl14⟩) (c14 : PySem.W.codeIn K cd14 "read_saying" = true) (k14 : PySem.W.keepIn K (.ref f14) = true)
    (a15 : PySem.W.nsIn K mainGlobals "words_of" = some (some (.ref f15))) (l15 : K.lookup f15 = some ⟨oc15, od15, .func (PySem.W.fnOf "words_of" "words_of" (defArgs S_words_of) (defBody S_words_of) (defScope S_words_of) .none kV15 dc15 pm15 an15 cd15 ct15), sl15⟩) (c15 : PySem.W.codeIn K cd15 "words_of" = true) (k15 : PySem.W.keepIn K (.ref f15) = true)
    (a16 : PySem.W.nsIn K mainGlobals "built_of" = some (some (.ref f16))) (l16 : K.lookup f16 = some ⟨oc16, od16, .func (PySem.W.fnOf "built_of" "built_of" (defArgs S_built_of) (defBody S_built_of) (defScope S_built_of) .none kV16 dc16 pm16 an16 cd16 ct16), sl16⟩) (c16 : PySem.W.codeIn K cd16 "built_of" = true) (k16 : PySem.W.keepIn K (.ref f16) = true)
    (a17 : PySem.W.nsIn K mainGlobals "with_word" = some (some (.ref f17))) (l17 : K.lookup f17 = some ⟨oc17, od17, .func (PySem.W.fnOf "with_word" "with_word" (defArgs S_with_word) (defBody S_with_word) (defScope S_with_word) .none kV17 dc17 pm17 an17 cd17 ct17), sl17⟩) (c17 : PySem.W.codeIn K cd17 "with_word" = true) (k17 : PySem.W.keepIn K (.ref f17) = true)
    (a18 : PySem.W.nsIn K mainGlobals "out_of_brackets" = some (some (.ref f18))) (l18 : K.lookup f18 = some ⟨oc18, od18, .func (PySem.W.fnOf "out_of_brackets" "out_of_brackets" (defArgs S_out_of_brackets) (defBody S_out_of_brackets) (defScope S_out_of_brackets) .none kV18 dc18 pm18 an18 cd18 ct18), sl18⟩) (c18 : PySem.W.codeIn K cd18 "out_of_brackets" = true) (k18 : PySem.W.keepIn K (.ref f18) = true)
    (a19 : PySem.W.nsIn K mainGlobals "read_part" = some (some (.ref f19))) (l19 : K.lookup f19 = some ⟨oc19, od19, .func (PySem.W.fnOf "read_part" "read_part" (defArgs S_read_part) (defBody S_read_part) (defScope S_read_part) .none kV19 dc19 pm19 an19 cd19 ct19), sl19⟩) (c19 : PySem.W.codeIn K cd19 "read_part" = true) (k19 : PySem.W.keepIn K (.ref f19) = true)
    (a20 : PySem.W.nsIn K mainGlobals "read_hands" = some (some (.ref f20))) (l20 : K.lookup f20 = some ⟨oc20, od20, .func (PySem.W.fnOf "read_hands" "read_hands" (defArgs S_read_hands) (defBody S_read_hands) (defScope S_read_hands) .none kV20 dc20 pm20 an20 cd20 ct20), sl20⟩) (c20 : PySem.W.codeIn K cd20 "read_hands" = true) (k20 : PySem.W.keepIn K (.ref f20) = true)
    (a21 : PySem.W.nsIn K mainGlobals "read_number" = some (some (.ref f21))) (l21 : K.lookup f21 = some ⟨oc21, od21, .func (PySem.W.fnOf "read_number" "read_number" (defArgs S_read_number) (defBody S_read_number) (defScope S_read_number) .none kV21 dc21 pm21 an21 cd21 ct21), sl21⟩) (c21 : PySem.W.codeIn K cd21 "read_number" = true) (k21 : PySem.W.keepIn K (.ref f21) = true)
    (a22 : PySem.W.nsIn K mainGlobals "_law_cell_at" = some (some (.ref f22))) (l22 : K.lookup f22 = some ⟨oc22, od22, .func (PySem.W.fnOf "_law_cell_at" "_law_cell_at" (defArgs S__law_cell_at) (defBody S__law_cell_at) (defScope S__law_cell_at) .none kV22 dc22 pm22 an22 cd22 ct22), sl22⟩) (c22 : PySem.W.codeIn K cd22 "_law_cell_at" = true) (k22 : PySem.W.keepIn K (.ref f22) = true)
    (a23 : PySem.W.nsIn K mainGlobals "_law_stream" = some (some (.ref f23))) (l23 : K.lookup f23 = some ⟨oc23, od23, .func (PySem.W.fnOf "_law_stream" "_law_stream" (defArgs S__law_stream) (defBody S__law_stream) (defScope S__law_stream) .none kV23 dc23 pm23 an23 cd23 ct23), sl23⟩) (c23 : PySem.W.codeIn K cd23 "_law_stream" = true) (k23 : PySem.W.keepIn K (.ref f23) = true)
    (a24 : PySem.W.nsIn K mainGlobals "_law_numbers" = some (some (.ref f24))) (l24 : K.lookup f24 = some ⟨oc24, od24, .func (PySem.W.fnOf "_law_numbers" "_law_numbers" (defArgs S__law_numbers) (defBody S__law_numbers) (defScope S__law_numbers) .none kV24 dc24 pm24 an24 cd24 ct24), sl24⟩) (c24 : PySem.W.codeIn K cd24 "_law_numbers" = true) (k24 : PySem.W.keepIn K (.ref f24) = true)
    (a25 : PySem.W.nsIn K mainGlobals "_law_group" = some (some (.ref f25))) (l25 : K.lookup f25 = some ⟨oc25, od25, .func (PySem.W.fnOf "_law_group" "_law_group" (defArgs S__law_group) (defBody S__law_group) (defScope S__law_group) .none kV25 dc25 pm25 an25 cd25 ct25), sl25⟩) (c25 : PySem.W.codeIn K cd25 "_law_group" = true) (k25 : PySem.W.keepIn K (.ref f25) = true)
    (a26 : PySem.W.nsIn K mainGlobals "_law_leaf" = some (some (.ref f26))) (l26 : K.lookup f26 = some ⟨oc26, od26, .func (PySem.W.fnOf "_law_leaf" "_law_leaf" (defArgs S__law_leaf) (defBody S__law_leaf) (defScope S__law_leaf) .none kV26 dc26 pm26 an26 cd26 ct26), sl26⟩) (c26 : PySem.W.codeIn K cd26 "_law_leaf" = true) (k26 : PySem.W.keepIn K (.ref f26) = true)
    (a27 : PySem.W.nsIn K mainGlobals "_law_over" = some (some (.ref f27))) (l27 : K.lookup f27 = some ⟨oc27, od27, .func (PySem.W.fnOf "_law_over" "_law_over" (defArgs S__law_over) (defBody S__law_over) (defScope S__law_over) .none kV27 dc27 pm27 an27 cd27 ct27), sl27⟩) (c27 : PySem.W.codeIn K cd27 "_law_over" = true) (k27 : PySem.W.keepIn K (.ref f27) = true)
    (a28 : PySem.W.nsIn K mainGlobals "_law_built" = some (some (.ref f28))) (l28 : K.lookup f28 = some ⟨oc28, od28, .func (PySem.W.fnOf "_law_built" "_law_built" (defArgs S__law_built) (defBody S__law_built) (defScope S__law_built) .none kV28 dc28 pm28 an28 cd28 ct28), sl28⟩) (c28 : PySem.W.codeIn K cd28 "_law_built" = true) (k28 : PySem.W.keepIn K (.ref f28) = true)
    (a29 : PySem.W.nsIn K mainGlobals "_law_count" = some (some (.ref f29))) (l29 : K.lookup f29 = some ⟨oc29, od29, .func (PySem.W.fnOf "_law_count" "_law_count" (defArgs S__law_count) (defBody S__law_count) (defScope S__law_count) .none kV29 dc29 pm29 an29 cd29 ct29), sl29⟩) (c29 : PySem.W.codeIn K cd29 "_law_count" = true) (k29 : PySem.W.keepIn K (.ref f29) = true)
    (a30 : PySem.W.nsIn K mainGlobals "_law_exchanged" = some (some (.ref f30))) (l30 : K.lookup f30 = some ⟨oc30, od30, .func (PySem.W.fnOf "_law_exchanged" "_law_exchanged" (defArgs S__law_exchanged) (defBody S__law_exchanged) (defScope S__law_exchanged) .none kV30 dc30 pm30 an30 cd30 ct30), sl30⟩) (c30 : PySem.W.codeIn K cd30 "_law_exchanged" = true) (k30 : PySem.W.keepIn K (.ref f30) = true)
    (a31 : PySem.W.nsIn K mainGlobals "_law_changed" = some (some (.ref f31))) (l31 : K.lookup f31 = some ⟨oc31, od31, .func (PySem.W.fnOf "_law_changed" "_law_changed" (defArgs S__law_changed) (defBody S__law_changed) (defScope S__law_changed) .none kV31 dc31 pm31 an31 cd31 ct31), sl31⟩) (c31 : PySem.W.codeIn K cd31 "_law_changed" = true) (k31 : PySem.W.keepIn K (.ref f31) = true)
    (a32 : PySem.W.nsIn K mainGlobals "_law_named" = some (some (.ref f32))) (l32 : K.lookup f32 = some ⟨oc32, od32, .func (PySem.W.fnOf "_law_named" "_law_named" (defArgs S__law_named) (defBody S__law_named) (defScope S__law_named) .none kV32 dc32 pm32 an32 cd32 ct32), sl32⟩) (c32 : PySem.W.codeIn K cd32 "_law_named" = true) (k32 : PySem.W.keepIn K (.ref f32) = true)
    (a33 : PySem.W.nsIn K mainGlobals "_law_good" = some (some (.ref f33))) (l33 : K.lookup f33 = some ⟨oc33, od33, .func (PySem.W.fnOf "_law_good" "_law_good" (defArgs S__law_good) (defBody S__law_good) (defScope S__law_good) .none kV33 dc33 pm33 an33 cd33 ct33), sl33⟩) (c33 : PySem.W.codeIn K cd33 "_law_good" = true) (k33 : PySem.W.keepIn K (.ref f33) = true)
    (a34 : PySem.W.nsIn K mainGlobals "law" = some (some (.ref f34))) (l34 : K.lookup f34 = some ⟨oc34, od34, .func (PySem.W.fnOf "law" "law" (defArgs S_law) (defBody S_law) (defScope S_law) .none kV34 dc34 pm34 an34 cd34 ct34), sl34⟩) (c34 : PySem.W.codeIn K cd34 "law" = true) (k34 : PySem.W.keepIn K (.ref f34) = true)
    (y1 : PySem.W.nsIn K mainGlobals "PILE" = some (some (.str "pile" t_PILE)))
    (y2 : PySem.W.nsIn K mainGlobals "NO_NUMBERS" = some (some (.str "-" t_NO_NUMBERS)))
    (y3 : PySem.W.nsIn K mainGlobals "reversed" = some none)
    (y4 : PySem.W.nsIn K mainGlobals "MOST_WORDS" = some (some (.int 30 t_MOST_WORDS)))
    (x1 : PySem.W.nsIn K mainGlobals "FORMS" = some (some (.ref aF)))
    (x2 : K.lookup aF = some ⟨.type "dict", none, .dict #[⟨PyData.keyHash w.params "holds", .str "holds" tk1, .ref fm1⟩, ⟨PyData.keyHash w.params "not", .str "not" tk2, .ref fm2⟩, ⟨PyData.keyHash w.params "and", .str "and" tk3, .ref fm3⟩, ⟨PyData.keyHash w.params "or", .str "or" tk4, .ref fm4⟩, ⟨PyData.keyHash w.params "knows", .str "knows" tk5, .ref fm5⟩, ⟨PyData.keyHash w.params "all", .str "all" tk6, .ref fm6⟩, ⟨PyData.keyHash w.params "common", .str "common" tk7, .ref fm7⟩, ⟨PyData.keyHash w.params "sees", .str "sees" tk8, .ref fm8⟩] epF, #[]⟩)
    (x3 : K.lookup fm1 = some ⟨.type "tuple", to1, .seq #[.str "holder" tu1, .str "card" tu2] tn1, ts1⟩)
    (x4 : K.lookup fm2 = some ⟨.type "tuple", to2, .seq #[.str "saying" tu3] tn2, ts2⟩)
    (x5 : K.lookup fm3 = some ⟨.type "tuple", to3, .seq #[.str "saying" tu4, .str "saying" tu5] tn3, ts3⟩)
    (x6 : K.lookup fm4 = some ⟨.type "tuple", to4, .seq #[.str "saying" tu6, .str "saying" tu7] tn4, ts4⟩)
    (x7 : K.lookup fm5 = some ⟨.type "tuple", to5, .seq #[.str "hand" tu8, .str "saying" tu9] tn5, ts5⟩)
    (x8 : K.lookup fm6 = some ⟨.type "tuple", to6, .seq #[.str "hands" tu10, .str "saying" tu11] tn6, ts6⟩)
    (x9 : K.lookup fm7 = some ⟨.type "tuple", to7, .seq #[.str "hands" tu12, .str "saying" tu13] tn7, ts7⟩)
    (x10 : K.lookup fm8 = some ⟨.type "tuple", to8, .seq #[.str "hand" tu14] tn8, ts8⟩)
    (x11 : (aF == sysModules) = false)
    (x12 : PySem.W.nsIn K mainGlobals "BETWEEN" = some (some (.ref aC)))
    (x13 : K.lookup aC = some ⟨.type "tuple", to9, .seq #[.str "and" tu15, .str "or" tu16] tn9, ts9⟩)
    (z1 : PySem.W.nsIn K mainGlobals "len" = some none) (z2 : PySem.W.nsIn K mainGlobals "range" = some none) (z3 : PySem.W.nsIn K mainGlobals "tuple" = some none) (z4 : PySem.W.nsIn K mainGlobals "list" = some none) (z5 : PySem.W.nsIn K mainGlobals "int" = some none) (z6 : PySem.W.nsIn K mainGlobals "bool" = some none) (z7 : PySem.W.nsIn K mainGlobals "str" = some none) (z8 : PySem.W.nsIn K mainGlobals "dict" = some none) (z9 : PySem.W.nsIn K mainGlobals "sum" = some none) (z10 : PySem.W.nsIn K mainGlobals "all" = some none) (z11 : PySem.W.nsIn K mainGlobals "min" = some none) (z12 : PySem.W.nsIn K mainGlobals "max" = some none) (z13 : PySem.W.nsIn K mainGlobals "sorted" = some none) (z14 : PySem.W.nsIn K mainGlobals "enumerate" = some none) (z15 : PySem.W.nsIn K mainGlobals "zip" = some none) (z16 : PySem.W.nsIn K mainGlobals "isinstance" = some none) :
    ∃ fd : FuncData, (∀ (s : Shared) (v : Value), BindsTo s fd ⟨[v], []⟩ [("_law_script", v)]) ∧ ∀ base : Heap, K.In base → base.Ns mainGlobals mg → FnOk l.prog w K mg base CX0 67 fa fd ["_law_script"] (spLaw K) := by
  have e := hfa.symm.trans (PySem.W.mg_of X G a34)
  cases e
  have B : Blt mg := ⟨PySem.W.mg_none_of X G z1, PySem.W.mg_none_of X G z2, PySem.W.mg_none_of X G z3, PySem.W.mg_none_of X G z4, PySem.W.mg_none_of X G z5, PySem.W.mg_none_of X G z6, PySem.W.mg_none_of X G z7, PySem.W.mg_none_of X G z8, PySem.W.mg_none_of X G z9, PySem.W.mg_none_of X G z10, PySem.W.mg_none_of X G z11, PySem.W.mg_none_of X G z12, PySem.W.mg_none_of X G z13, PySem.W.mg_none_of X G z14, PySem.W.mg_none_of X G z15, PySem.W.mg_none_of X G z16⟩
  have F1 := fun_mk (st := S_is_whole) l1 c1 k1
  have D1 : Def K mg "is_whole" S_is_whole ["thing"] _ _ := ⟨F1, PySem.W.mg_of X G a1, F1.binds (ps := ["thing"]) fun _ _ _ _ _ _ us hl => ofLen1 us hl fun _ => rfl⟩
  have F2 := fun_mk (st := S_is_within) l2 c2 k2
  have D2 : Def K mg "is_within" S_is_within ["thing", "least", "most"] _ _ := ⟨F2, PySem.W.mg_of X G a2, F2.binds (ps := ["thing", "least", "most"]) fun _ _ _ _ _ _ us hl => ofLen3 us hl fun _ _ _ => rfl⟩
  have F3 := fun_mk (st := S_is_below) l3 c3 k3
  have D3 : Def K mg "is_below" S_is_below ["thing", "bound"] _ _ := ⟨F3, PySem.W.mg_of X G a3, F3.binds (ps := ["thing", "bound"]) fun _ _ _ _ _ _ us hl => ofLen2 us hl fun _ _ => rfl⟩
  have F4 := fun_mk (st := S_are_hands) l4 c4 k4
  have D4 : Def K mg "are_hands" S_are_hands ["thing", "hands"] _ _ := ⟨F4, PySem.W.mg_of X G a4, F4.binds (ps := ["thing", "hands"]) fun _ _ _ _ _ _ us hl => ofLen2 us hl fun _ _ => rfl⟩
  have F5 := fun_mk (st := S_is_saying) l5 c5 k5
  have D5 : Def K mg "is_saying" S_is_saying ["cards", "hands", "thing"] _ _ := ⟨F5, PySem.W.mg_of X G a5, F5.binds (ps := ["cards", "hands", "thing"]) fun _ _ _ _ _ _ us hl => ofLen3 us hl fun _ _ _ => rfl⟩
  have F6 := fun_mk (st := S_is_word) l6 c6 k6
  have D6 : Def K mg "is_word" S_is_word ["cards", "hands", "thing"] _ _ := ⟨F6, PySem.W.mg_of X G a6, F6.binds (ps := ["cards", "hands", "thing"]) fun _ _ _ _ _ _ us hl => ofLen3 us hl fun _ _ _ => rfl⟩
  have F7 := fun_mk (st := S_fits) l7 c7 k7
  have D7 : Def K mg "fits" S_fits ["cards", "hands", "place", "part"] _ _ := ⟨F7, PySem.W.mg_of X G a7, F7.binds (ps := ["cards", "hands", "place", "part"]) fun _ _ _ _ _ _ us hl => ofLen4 us hl fun _ _ _ _ => rfl⟩
  have F8 := fun_mk (st := S_parts_of) l8 c8 k8
  have D8 : Def K mg "parts_of" S_parts_of ["saying"] _ _ := ⟨F8, PySem.W.mg_of X G a8, F8.binds (ps := ["saying"]) fun _ _ _ _ _ _ us hl => ofLen1 us hl fun _ => rfl⟩
  have F9 := fun_mk (st := S_parts_of_all) l9 c9 k9
  have D9 : Def K mg "parts_of_all" S_parts_of_all ["sayings"] _ _ := ⟨F9, PySem.W.mg_of X G a9, F9.binds (ps := ["sayings"]) fun _ _ _ _ _ _ us hl => ofLen1 us hl fun _ => rfl⟩
  have F10 := fun_mk (st := S_words_in) l10 c10 k10
  have D10 : Def K mg "words_in" S_words_in ["S"] _ _ := ⟨F10, PySem.W.mg_of X G a10, F10.binds (ps := ["S"]) fun _ _ _ _ _ _ us hl => ofLen1 us hl fun _ => rfl⟩
  have F11 := fun_mk (st := S_show_saying) l11 c11 k11
  have D11 : Def K mg "show_saying" S_show_saying ["hands", "S"] _ _ := ⟨F11, PySem.W.mg_of X G a11, F11.binds (ps := ["hands", "S"]) fun _ _ _ _ _ _ us hl => ofLen2 us hl fun _ _ => rfl⟩
  have F12 := fun_mk (st := S_show_part) l12 c12 k12
  have D12 : Def K mg "show_part" S_show_part ["hands", "place", "part"] _ _ := ⟨F12, PySem.W.mg_of X G a12, F12.binds (ps := ["hands", "place", "part"]) fun _ _ _ _ _ _ us hl => ofLen3 us hl fun _ _ _ => rfl⟩
  have F13 := fun_mk (st := S_with_commas) l13 c13 k13
  have D13 : Def K mg "with_commas" S_with_commas ["numbers"] _ _ := ⟨F13, PySem.W.mg_of X G a13, F13.binds (ps := ["numbers"]) fun _ _ _ _ _ _ us hl => ofLen1 us hl fun _ => rfl⟩
  have F14 := fun_mk (st := S_read_saying) l14 c14 k14
  have D14 : Def K mg "read_saying" S_read_saying ["cards", "hands", "text"] _ _ := ⟨F14, PySem.W.mg_of X G a14, F14.binds (ps := ["cards", "hands", "text"]) fun _ _ _ _ _ _ us hl => ofLen3 us hl fun _ _ _ => rfl⟩
  have F15 := fun_mk (st := S_words_of) l15 c15 k15
  have D15 : Def K mg "words_of" S_words_of ["text"] _ _ := ⟨F15, PySem.W.mg_of X G a15, F15.binds (ps := ["text"]) fun _ _ _ _ _ _ us hl => ofLen1 us hl fun _ => rfl⟩
  have F16 := fun_mk (st := S_built_of) l16 c16 k16
  have D16 : Def K mg "built_of" S_built_of ["hands", "words"] _ _ := ⟨F16, PySem.W.mg_of X G a16, F16.binds (ps := ["hands", "words"]) fun _ _ _ _ _ _ us hl => ofLen2 us hl fun _ _ => rfl⟩
  have F17 := fun_mk (st := S_with_word) l17 c17 k17
  have D17 : Def K mg "with_word" S_with_word ["hands", "word", "things"] _ _ := ⟨F17, PySem.W.mg_of X G a17, F17.binds (ps := ["hands", "word", "things"]) fun _ _ _ _ _ _ us hl => ofLen3 us hl fun _ _ _ => rfl⟩
  have F18 := fun_mk (st := S_out_of_brackets) l18 c18 k18
  have D18 : Def K mg "out_of_brackets" S_out_of_brackets ["things"] _ _ := ⟨F18, PySem.W.mg_of X G a18, F18.binds (ps := ["things"]) fun _ _ _ _ _ _ us hl => ofLen1 us hl fun _ => rfl⟩
  have F19 := fun_mk (st := S_read_part) l19 c19 k19
  have D19 : Def K mg "read_part" S_read_part ["hands", "place", "thing"] _ _ := ⟨F19, PySem.W.mg_of X G a19, F19.binds (ps := ["hands", "place", "thing"]) fun _ _ _ _ _ _ us hl => ofLen3 us hl fun _ _ _ => rfl⟩
  have F20 := fun_mk (st := S_read_hands) l20 c20 k20
  have D20 : Def K mg "read_hands" S_read_hands ["word"] _ _ := ⟨F20, PySem.W.mg_of X G a20, F20.binds (ps := ["word"]) fun _ _ _ _ _ _ us hl => ofLen1 us hl fun _ => rfl⟩
  have F21 := fun_mk (st := S_read_number) l21 c21 k21
  have D21 : Def K mg "read_number" S_read_number ["word"] _ _ := ⟨F21, PySem.W.mg_of X G a21, F21.binds (ps := ["word"]) fun _ _ _ _ _ _ us hl => ofLen1 us hl fun _ => rfl⟩
  have F22 := fun_mk (st := S__law_cell_at) l22 c22 k22
  have D22 : Def K mg "_law_cell_at" S__law_cell_at ["_law_script", "_law_k"] _ _ := ⟨F22, PySem.W.mg_of X G a22, F22.binds (ps := ["_law_script", "_law_k"]) fun _ _ _ _ _ _ us hl => ofLen2 us hl fun _ _ => rfl⟩
  have F23 := fun_mk (st := S__law_stream) l23 c23 k23
  have D23 : Def K mg "_law_stream" S__law_stream ["_law_cell", "_law_many"] _ _ := ⟨F23, PySem.W.mg_of X G a23, F23.binds (ps := ["_law_cell", "_law_many"]) fun _ _ _ _ _ _ us hl => ofLen2 us hl fun _ _ => rfl⟩
  have F24 := fun_mk (st := S__law_numbers) l24 c24 k24
  have D24 : Def K mg "_law_numbers" S__law_numbers ["_law_script"] _ _ := ⟨F24, PySem.W.mg_of X G a24, F24.binds (ps := ["_law_script"]) fun _ _ _ _ _ _ us hl => ofLen1 us hl fun _ => rfl⟩
  have F25 := fun_mk (st := S__law_group) l25 c25 k25
  have D25 : Def K mg "_law_group" S__law_group ["_law_number", "_law_hands"] _ _ := ⟨F25, PySem.W.mg_of X G a25, F25.binds (ps := ["_law_number", "_law_hands"]) fun _ _ _ _ _ _ us hl => ofLen2 us hl fun _ _ => rfl⟩
  have F26 := fun_mk (st := S__law_leaf) l26 c26 k26
  have D26 : Def K mg "_law_leaf" S__law_leaf ["_law_number", "_law_cards", "_law_hands"] _ _ := ⟨F26, PySem.W.mg_of X G a26, F26.binds (ps := ["_law_number", "_law_cards", "_law_hands"]) fun _ _ _ _ _ _ us hl => ofLen3 us hl fun _ _ _ => rfl⟩
  have F27 := fun_mk (st := S__law_over) l27 c27 k27
  have D27 : Def K mg "_law_over" S__law_over ["_law_number", "_law_told", "_law_hands"] _ _ := ⟨F27, PySem.W.mg_of X G a27, F27.binds (ps := ["_law_number", "_law_told", "_law_hands"]) fun _ _ _ _ _ _ us hl => ofLen3 us hl fun _ _ _ => rfl⟩
  have F28 := fun_mk (st := S__law_built) l28 c28 k28
  have D28 : Def K mg "_law_built" S__law_built ["_law_numbers_here", "_law_cards", "_law_hands", "_law_room"] _ _ := ⟨F28, PySem.W.mg_of X G a28, F28.binds (ps := ["_law_numbers_here", "_law_cards", "_law_hands", "_law_room"]) fun _ _ _ _ _ _ us hl => ofLen4 us hl fun _ _ _ _ => rfl⟩
  have F29 := fun_mk (st := S__law_count) l29 c29 k29
  have D29 : Def K mg "_law_count" S__law_count ["_law_told"] _ _ := ⟨F29, PySem.W.mg_of X G a29, F29.binds (ps := ["_law_told"]) fun _ _ _ _ _ _ us hl => ofLen1 us hl fun _ => rfl⟩
  have F30 := fun_mk (st := S__law_exchanged) l30 c30 k30
  have D30 : Def K mg "_law_exchanged" S__law_exchanged ["_law_one", "_law_cards", "_law_hands", "_law_number"] _ _ := ⟨F30, PySem.W.mg_of X G a30, F30.binds (ps := ["_law_one", "_law_cards", "_law_hands", "_law_number"]) fun _ _ _ _ _ _ us hl => ofLen4 us hl fun _ _ _ _ => rfl⟩
  have F31 := fun_mk (st := S__law_changed) l31 c31 k31
  have D31 : Def K mg "_law_changed" S__law_changed ["_law_told", "_law_at", "_law_cards", "_law_hands", "_law_number"] _ _ := ⟨F31, PySem.W.mg_of X G a31, F31.binds (ps := ["_law_told", "_law_at", "_law_cards", "_law_hands", "_law_number"]) fun _ _ _ _ _ _ us hl => ofLen5 us hl fun _ _ _ _ _ => rfl⟩
  have F32 := fun_mk (st := S__law_named) l32 c32 k32
  have D32 : Def K mg "_law_named" S__law_named ["_law_text"] _ _ := ⟨F32, PySem.W.mg_of X G a32, F32.binds (ps := ["_law_text"]) fun _ _ _ _ _ _ us hl => ofLen1 us hl fun _ => rfl⟩
  have F33 := fun_mk (st := S__law_good) l33 c33 k33
  have D33 : Def K mg "_law_good" S__law_good ["_law_cards", "_law_hands", "_law_told", "_law_text"] _ _ := ⟨F33, PySem.W.mg_of X G a33, F33.binds (ps := ["_law_cards", "_law_hands", "_law_told", "_law_text"]) fun _ _ _ _ _ _ us hl => ofLen4 us hl fun _ _ _ _ => rfl⟩
  have F34 := fun_mk (st := S_law) l34 c34 k34
  have D34 : Def K mg "law" S_law ["_law_script"] _ _ := ⟨F34, PySem.W.mg_of X G a34, F34.binds (ps := ["_law_script"]) fun _ _ _ _ _ _ us hl => ofLen1 us hl fun _ => rfl⟩
  refine ⟨PySem.W.fnOf "law" "law" (defArgs S_law) (defBody S_law) (defScope S_law) .none kV34 dc34 pm34 an34 cd34 ct34, fun s v => .of_eq rfl, fun base _ _ => ?_⟩
  have T : TabsB l.prog w K mg _ := tabsB_mk (G := ⟨aF, aC, fm1, fm2, fm3, fm4, fm5, fm6, fm7, fm8⟩) (tabs_mk x11 (PySem.W.mg_of X G x1) x2 x3 x4 x5 x6 x7 x8 x9 x10) (PySem.W.mg_of X G x12) x13
  exact build B D1 D2 D3 D4 D5 D6 D7 D8 D9 D10 D11 D12 D13 D14 D15 D16 D17 D18 D19 D20 D21 D22 D23 D24 D25 D26 D27 D28 D29 D30 D31 D32 D33 D34 T (PySem.W.mg_of X G y1) (PySem.W.mg_of X G y2) (PySem.W.mg_none_of X G y3) (PySem.W.mg_of X G y4)
end Kc_k13
open PySem PySem.W PyProof.Rows
set_option maxRecDepth 100000 in
set_option maxHeartbeats 0 in
theorem PySem.Challenge.cw_knowcards_k13_whole_one_text_each_holds : PySem.Challenge.rw_knowcards_k13_whole_one_text_each.Holds := by
  w_on; o_law; k_head; (case hw => w_witness2)
  k_fill
  refine L2.walk_ofB (l := PySem.Challenge.rw_knowcards_k13_whole_one_text_each) (k := 67) (x := "_law_script") rfl rfl ⟨rfl, by decide, by decide⟩ (fun w h Y => PySem.W.kIn_of Y) ?F
  case F =>
    intro w mg fa h KX G hmg
    refine' Kc_k13.all_mk KX G hmg ?a1 ?l1 ?c1 ?k1 ?a2 ?l2 ?c2 ?k2 ?a3 ?l3 ?c3 ?k3 ?a4 ?l4 ?c4 ?k4 ?a5 ?l5 ?c5 ?k5 ?a6 ?l6 ?c6 ?k6 ?a7 ?l7 ?c7 ?k7 ?a8 ?l8 ?c8 ?k8 ?a9 ?l9 ?c9 ?k9 ?a10 ?l10 ?c10 ?k10 ?a11 ?l11 ?c11 ?k11 ?a12 ?l12 ?c12 ?k12 ?a13 ?l13 ?c13 ?k13 ?a14 ?l14 ?c14 ?k14 ?a15 ?l15 ?c15 ?k15 ?a16 ?l16 ?c16 ?k16 ?a17 ?l17 ?c17 ?k17 ?a18 ?l18 ?c18 ?k18 ?a19 ?l19 ?c19 ?k19 ?a20 ?l20 ?c20 ?k20 ?a21 ?l21 ?c21 ?k21 ?a22 ?l22 ?c22 ?k22 ?a23 ?l23 ?c23 ?k23 ?a24 ?l24 ?c24 ?k24 ?a25 ?l25 ?c25 ?k25 ?a26 ?l26 ?c26 ?k26 ?a27 ?l27 ?c27 ?k27 ?a28 ?l28 ?c28 ?k28 ?a29 ?l29 ?c29 ?k29 ?a30 ?l30 ?c30 ?k30 ?a31 ?l31 ?c31 ?k31 ?a32 ?l32 ?c32 ?k32 ?a33 ?l33 ?c33 ?k33 ?a34 ?l34 ?c34 ?k34 ?y1 ?y2 ?y3 ?y4 ?x1 ?x2 ?x3 ?x4 ?x5 ?x6 ?x7 ?x8 ?x9 ?x10 ?x11 ?x12 ?x13 ?z1 ?z2 ?z3 ?z4 ?z5 ?z6 ?z7 ?z8 ?z9 ?z10 ?z11 ?z12 ?z13 ?z14 ?z15 ?z16
    (case a1 => k_is); (case l1 => k_is); (case c1 => k_is); (case k1 => k_is)
    (case a2 => k_is); (case l2 => k_is); (case c2 => k_is); (case k2 => k_is)
    (case a3 => k_is); (case l3 => k_is); (case c3 => k_is); (case k3 => k_is)
    (case a4 => k_is); (case l4 => k_is); (case c4 => k_is); (case k4 => k_is)
    (case a5 => k_is); (case l5 => k_is); (case c5 => k_is); (case k5 => k_is)
    (case a6 => k_is); (case l6 => k_is); (case c6 => k_is); (case k6 => k_is)
    (case a7 => k_is); (case l7 => k_is); (case c7 => k_is); (case k7 => k_is)
    (case a8 => k_is); (case l8 => k_is); (case c8 => k_is); (case k8 => k_is)
    (case a9 => k_is); (case l9 => k_is); (case c9 => k_is); (case k9 => k_is)
    (case a10 => k_is); (case l10 => k_is); (case c10 => k_is); (case k10 => k_is)
    (case a11 => k_is); (case l11 => k_is); (case c11 => k_is); (case k11 => k_is)
    (case a12 => k_is); (case l12 => k_is); (case c12 => k_is); (case k12 => k_is)
    (case a13 => k_is); (case l13 => k_is); (case c13 => k_is); (case k13 => k_is)
    (case a14 => k_is); (case l14 => k_is); (case c14 => k_is); (case k14 => k_is)
    (case a15 => k_is); (case l15 => k_is); (case c15 => k_is); (case k15 => k_is)
    (case a16 => k_is); (case l16 => k_is); (case c16 => k_is); (case k16 => k_is)
    (case a17 => k_is); (case l17 => k_is); (case c17 => k_is); (case k17 => k_is)
    (case a18 => k_is); (case l18 => k_is); (case c18 => k_is); (case k18 => k_is)
    (case a19 => k_is); (case l19 => k_is); (case c19 => k_is); (case k19 => k_is)
    (case a20 => k_is); (case l20 => k_is); (case c20 => k_is); (case k20 => k_is)
    (case a21 => k_is); (case l21 => k_is); (case c21 => k_is); (case k21 => k_is)
    (case a22 => k_is); (case l22 => k_is); (case c22 => k_is); (case k22 => k_is)
    (case a23 => k_is); (case l23 => k_is); (case c23 => k_is); (case k23 => k_is)
    (case a24 => k_is); (case l24 => k_is); (case c24 => k_is); (case k24 => k_is)
    (case a25 => k_is); (case l25 => k_is); (case c25 => k_is); (case k25 => k_is)
    (case a26 => k_is); (case l26 => k_is); (case c26 => k_is); (case k26 => k_is)
    (case a27 => k_is); (case l27 => k_is); (case c27 => k_is); (case k27 => k_is)
    (case a28 => k_is); (case l28 => k_is); (case c28 => k_is); (case k28 => k_is)
    (case a29 => k_is); (case l29 => k_is); (case c29 => k_is); (case k29 => k_is)
    (case a30 => k_is); (case l30 => k_is); (case c30 => k_is); (case k30 => k_is)
    (case a31 => k_is); (case l31 => k_is); (case c31 => k_is); (case k31 => k_is)
    (case a32 => k_is); (case l32 => k_is); (case c32 => k_is); (case k32 => k_is)
    (case a33 => k_is); (case l33 => k_is); (case c33 => k_is); (case k33 => k_is)
    (case a34 => k_is); (case l34 => k_is); (case c34 => k_is); (case k34 => k_is)
    (case y1 => k_is)
    (case y2 => k_is)
    (case y3 => k_is)
    (case y4 => k_is)
    (case x1 => k_is)
    (case x2 => k_is)
    (case x3 => k_is)
    (case x4 => k_is)
    (case x5 => k_is)
    (case x6 => k_is)
    (case x7 => k_is)
    (case x8 => k_is)
    (case x9 => k_is)
    (case x10 => k_is)
    (case x11 => rfl)
    (case x12 => k_is)
    (case x13 => k_is)
    (case z1 => k_is); (case z2 => k_is); (case z3 => k_is); (case z4 => k_is); (case z5 => k_is); (case z6 => k_is); (case z7 => k_is); (case z8 => k_is); (case z9 => k_is); (case z10 => k_is); (case z11 => k_is); (case z12 => k_is); (case z13 => k_is); (case z14 => k_is); (case z15 => k_is); (case z16 => k_is)
