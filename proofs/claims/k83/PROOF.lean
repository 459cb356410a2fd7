import PyProof.Rows.All
import Wide.All
import OpenK.AllK
import Wide.FinOn
import Lean
import PyProof.EqAt
import PyProof.EqKinds
import PyProof.TupleCall
import PyProof.NeData
import PyProof.P3Eq
import PyProof.EnumMake
import PyProof.EnumFor
import PyProof.ConsumeWalk
import PyProof.ListRange
import PyProof.ZipIter
import KE.IntBitsLaws
import KE.RegMulBits
import PyProof.ExcArgs
import PyProof.DictWalks
import KE.KRevSl
import PyProof.DictItems
import PyProof.DictDisplay
import PyProof.SeqI3
import PyProof.NsDelKeeps
import PyProof.StrWalks
import PyProof.StrBlockH
import PyProof.StrBlock2
import KE.KMinKey
import PyProof.Rows.CallKwBuiltin
import KE.KIntText
import PyProof.StrCalls2
import PyProof.StrLawsTight
import PyProof.Rows.StrItems
import PyProof.FactsAll.tuple_1
import PyProof.FactsAll.tuple_2
import PyProof.FString5
import PyProof.Rows.RuleC_int
import PyProof.StrReplace2
import KE.KUnpack
import PyProof.CollectIter
import PyProof.Rows.ReprOcc
import PyProof.StrLawsFirst
import PySem.Challenge.RW_foreverrows_k83_texts_of_moves

set_option Elab.async false
set_option linter.all false
set_option maxRecDepth 100000
/-! THE HAND LAYER, for ints, bools, texts, own classes, LISTS and tuples (index, slices, in, append, pop ..), calls, loops. Paste it whole ahead of your own text; what your proof does not reach may be deleted. -/
namespace L2
open PySem PySem.Spec PyProof.Rows

/-- a key: an int or a str -/
abbrev Key := Sum Int Str
def keyIs : Key → Value → Bool
  | .inl k, v => Value.isInt k v
  | .inr x, v => Value.isStrOf x v
def keyH (w : World) : Key → Int
  | .inl k => hashInt k
  | .inr x => hashStr w x
theorem keyIs_shape : ∀ {k : Key} {v : Value}, keyIs k v = true → (∃ i t, k = Sum.inl i ∧ v = Value.int i t) ∨ (∃ x t, k = Sum.inr x ∧ v = Value.str x t)
  | .inl i, v, h => by
    obtain ⟨t, e⟩ := Value.isInt_shape (k := i) (v := v) h
    exact .inl ⟨i, t, rfl, e⟩
  | .inr x, v, h => by
    obtain ⟨t, e⟩ := Value.isStrOf_shape (x := x) (v := v) h
    exact .inr ⟨x, t, rfl, e⟩
theorem keyIs_int (i : Int) (t : Tok) : keyIs (.inl i) (.int i t) = true := by simp [keyIs, Value.isInt]
theorem keyIs_str (x : Str) (t : Tok) : keyIs (.inr x) (.str x t) = true := by simp [keyIs, Value.isStrOf]
theorem key_ll (a b : Int) : decide ((Sum.inl a : Key) = Sum.inl b) = (a == b) := by
  by_cases e : a = b
  · subst e; simp
  · have h : ¬ (Sum.inl a : Key) = Sum.inl b := fun q => e (Sum.inl.inj q)
    rw [decide_eq_false h]
    exact (beq_eq_false_iff_ne.mpr e).symm
theorem key_rr (a b : Str) : decide ((Sum.inr a : Key) = Sum.inr b) = decide (a = b) := by
  by_cases e : a = b
  · subst e; simp
  · have h : ¬ (Sum.inr a : Key) = Sum.inr b := fun q => e (Sum.inr.inj q)
    rw [decide_eq_false h, decide_eq_false e]
theorem key_lr (a : Int) (b : Str) : decide ((Sum.inl a : Key) = Sum.inr b) = false := decide_eq_false (fun q => nomatch q)
theorem key_rl (a : Str) (b : Int) : decide ((Sum.inr a : Key) = Sum.inl b) = false := decide_eq_false (fun q => nomatch q)

def mixKind (prog : Program) (w : World) : PySem.KeyKind prog w Key where
  is := keyIs
  hash := keyH w
  inj := fun v a b ha hb => by
    rcases keyIs_shape ha with ⟨i, t, rfl, rfl⟩ | ⟨x, t, rfl, rfl⟩
    · rcases keyIs_shape hb with ⟨j, u, rfl, e⟩ | ⟨y, u, rfl, e⟩
      · injection e with e1 _; rw [e1]
      · exact nomatch e
    · rcases keyIs_shape hb with ⟨j, u, rfl, e⟩ | ⟨y, u, rfl, e⟩
      · exact nomatch e
      · injection e with e1 _; rw [e1]
  byValue := fun k v h => by
    rcases keyIs_shape h with ⟨i, t, rfl, rfl⟩ | ⟨x, t, rfl, rfl⟩ <;> rfl
  pyHash := fun hv h => by
    rcases keyIs_shape hv with ⟨i, t, rfl, rfl⟩ | ⟨x, t, rfl, rfl⟩
    · exact wpAny_pyHash_int h
    · exact wpAny_pyHash_str h
  eqBool := fun hu hv h => by
    rcases keyIs_shape hu with ⟨i, t, rfl, rfl⟩ | ⟨x, t, rfl, rfl⟩
    · rcases keyIs_shape hv with ⟨j, u, rfl, rfl⟩ | ⟨y, u, rfl, rfl⟩
      · rw [key_ll] at h; exact wpAny_eqBool_int h
      · rw [key_lr] at h; exact SeqAt.EqAt.int_str i t y u _ _ _ _ h
    · rcases keyIs_shape hv with ⟨j, u, rfl, rfl⟩ | ⟨y, u, rfl, rfl⟩
      · rw [key_rl] at h; exact SeqAt.EqAt.str_int x t j u _ _ _ _ h
      · rw [key_rr] at h; exact wpAny_eqBool_str h
  «strs» := fun k x t v h => by
    rcases keyIs_shape h with ⟨i, u, rfl, e⟩ | ⟨y, u, rfl, e⟩
    · exact nomatch e
    · injection e with e1 _
      subst e1
      cases v <;> rfl

theorem mixKind_int (prog : Program) (w : World) (i : Int) (t : Tok) : (mixKind prog w).is (.inl i) (.int i t) = true := keyIs_int i t
theorem mixKind_str (prog : Program) (w : World) (x : Str) (t : Tok) : (mixKind prog w).is (.inr x) (.str x t) = true := keyIs_str x t
end L2

namespace L2
open PySem PySem.Spec PyProof.Rows

/-- a value, without the heap -/
inductive V where
  | non | bl (b : Bool) | int (i : Int) | str (x : Str) | byt (b : Array UInt8) | flt (b : UInt64) | ref (a : Addr) | ty (n : String)
  deriving DecidableEq

def RelV : V → Value → Prop
  | .non, u => u = Value.none
  | .bl b, u => u = Value.bool b
  | .int i, u => ∃ t, u = Value.int i t
  | .str x, u => ∃ t, u = Value.str x t
  | .byt b, u => ∃ t, u = Value.bytes b t
  | .flt b, u => ∃ t, u = Value.float b t
  | .ref a, u => u = Value.ref a
  | .ty n, u => u = Value.type n

abbrev Vals : List V → List Value → Prop := Paired RelV
theorem Vals.length {xs : List V} {us : List Value} (r : Vals xs us) : xs.length = us.length := Paired.length r
theorem Vals.get : ∀ {xs : List V} {us : List Value} {i : Nat} {x : V}, Vals xs us → xs[i]? = some x → ∃ u, us[i]? = some u ∧ RelV x u
  | _, _, _, _, .nil, e => by simp at e
  | _, _, 0, _, .cons r _, e => by simp at e; subst e; exact ⟨_, rfl, r⟩
  | _, _, i + 1, x, .cons _ t, e => by
    obtain ⟨u, h1, h2⟩ := Vals.get (i := i) (x := x) t (by simpa using e)
    exact ⟨u, by simpa using h1, h2⟩
theorem Vals.set {x : V} {u : Value} (r : RelV x u) : ∀ {xs : List V} {us : List Value} (i : Nat), Vals xs us → Vals (xs.set i x) (us.set i u)
  | _, _, _, .nil => .nil
  | _, _, 0, .cons _ t => .cons r t
  | _, _, i + 1, .cons q t => .cons q (Vals.set r i t)
theorem Vals.append : ∀ {xs ys : List V} {us ws : List Value}, Vals xs us → Vals ys ws → Vals (xs ++ ys) (us ++ ws)
  | _, _, _, _, .nil, s => s
  | _, _, _, _, .cons r t, s => .cons r (Vals.append t s)
theorem Vals.take : ∀ {xs : List V} {us : List Value} (n : Nat), Vals xs us → Vals (xs.take n) (us.take n)
  | _, _, 0, _ => .nil
  | _, _, _ + 1, .nil => .nil
  | _, _, n + 1, .cons r t => .cons r (Vals.take n t)
theorem Vals.drop : ∀ {xs : List V} {us : List Value} (n : Nat), Vals xs us → Vals (xs.drop n) (us.drop n)
  | _, _, 0, r => r
  | _, _, _ + 1, .nil => .nil
  | _, _, n + 1, .cons _ t => Vals.drop n t
def RelO : Option V → Option Value → Prop
  | some v, some u => RelV v u
  | none, none => True
  | _, _ => False
def KV {κ : Type} : List (κ × V) → List (κ × Value) → Prop := Paired fun (p : κ × V) (q : κ × Value) => p.1 = q.1 ∧ RelV p.2 q.2

/-- a key of a dict (00_mix): an int or a text -/
def kV : Key → V
  | .inl i => .int i
  | .inr x => .str x

/-- what stands at a tracked address -/
inductive HO where
  /-- a list -/
  | lst (xs : List V)
  /-- a tuple (never changes) -/
  | tup (xs : List V)
  /-- a dict whose keys are ints and texts; one whose keys are tuples of ints and texts (the empty one is both) -/
  | dK (kvs : List (Key × V)) | dT (kvs : List (List Key × V))
  /-- a set of ints: its members, its size -/
  | set (S : Int → Bool) (n : Nat)
  /-- an instance of the class at C, its dict at dx, its attributes -/
  | ins (C dx : Addr) (fs : List (Str × V))
  /-- the dict of the instance at x -/
  | own (x : Addr)
  /-- the dict of an exception -/
  | xd (fs : List (Str × V))
  /-- a bound method, f of x -/
  | met (f x : Addr)
  /-- a range object lo, lo + 1, .. below hi -/
  | rng (lo hi : Int)
  /-- a thing that is known to the object (the script; a dict while a loop walks it): read, never written while it is so -/
  | frz (o : Obj) (u : HO)
  /-- a code object's table -/
  | tbl (ps : Array Value)
  /-- any other thing, by what is true of its one object (a def of one's own: SetO a S n := HO.ext fun h => ..) -/
  | ext (φ : Heap → Prop)

abbrev Hp := Addr → Option HO
def upd (H : Hp) (a : Addr) (o : HO) : Hp := fun b => if b = a then some o else H b
theorem upd_same {H : Hp} {a : Addr} {o : HO} : upd H a o a = some o := by unfold upd; rw [if_pos rfl]
theorem upd_ne {H : Hp} {a b : Addr} {o : HO} (h : b ≠ a) : upd H a o b = H b := by unfold upd; rw [if_neg h]
theorem ne_of_none {H : Hp} {a b : Addr} {o : HO} (h : H a = some o) (h' : H b = none) : a ≠ b := by
  intro e; subst e; rw [h] at h'; cases h'

section
variable (P : Program) (w : World)
def ObjOk (H : Hp) (h : Heap) (a : Addr) : HO → Prop
  | .lst xs => xs.length ≤ sizeLine ∧ ∃ (its : List Value) (n : Nat), Vals xs its ∧ h.get? a = some { cls := .type "list", data := .seq its.toArray n }
  | .tup xs => xs.length ≤ sizeLine ∧ ∃ its : List Value, Vals xs its ∧ IsTup h a its.toArray
  | .dK kvs => kvs.length ≤ sizeLine ∧ (a == sysModules) = false ∧ ∃ vs, KV kvs vs ∧ h.DictOf (mixKind P w) a vs
  | .dT kvs => kvs.length ≤ sizeLine ∧ (a == sysModules) = false ∧ ∃ xs : List (List Key × Addr × Value),
      Paired (fun (p : List Key × V) (q : List Key × Addr × Value) => p.1 = q.1 ∧ H q.2.1 = some (.tup (p.1.map kV)) ∧ RelV p.2 q.2.2) kvs xs ∧
      ∃ o es ep, h.get? a = some o ∧ o.ExactDict ∧ o.data = .dict es ep ∧ es.toList = xs.map (entryOfKey (tupleKind (mixKind P w))) ∧ (xs.map (·.1)).Nodup
  | .set S n => h.SetOf (intKind P w) a S n
  | .ins C dx fs => H dx = some (.own a) ∧ fs.length ≤ 1000 ∧ dx ≠ a ∧ h.get? a = some (PySem.W.instObj C dx) ∧
      ∃ mA, h.Ns1 dx mA ∧ (∀ f, RelO (fs.lookup f) (mA f)) ∧ PySem.Within mA (fs.map (·.1))
  | .own _ => ∃ o, h.get? a = some o
  | .xd fs => ∃ mA, h.Ns1 a mA ∧ ∀ f, RelO (fs.lookup f) (mA f)
  | .rng lo hi => ∃ t u v, h.get? a = some { cls := .type "range", data := .fields #[.int lo t, .int hi u, .int 1 v] }
  | .frz o u => h.get? a = some o ∧ ObjOk H h a u
  | .tbl ps => h.get? a = some { cls := .none, data := .fields ps }
  | .met f x => h.get? a = some (PySem.W.methodObj (.ref f) (.ref x))
  | .ext φ => φ h ∧ (∃ o, h.get? a = some o) ∧ ∀ h1 h2 : Heap, φ h1 → (∀ o, h1.get? a = some o → h2.get? a = some o) → φ h2
/-- the abstract heap is held -/
def HOk (H : Hp) (h : Heap) : Prop := ∀ a o, H a = some o → ObjOk P w H h a o
end

section
variable {P : Program} {w : World} {H H' : Hp} {h h' : Heap} {a : Addr} {o : HO}
theorem ObjOk.lt (x : ObjOk P w H h a o) : a < h.objs.size := by
  cases o with
  | lst xs => obtain ⟨_, _, _, _, e⟩ := x; exact Heap.lt_size e
  | tup xs => obtain ⟨_, _, _, p⟩ := x; exact p.lt
  | dK kvs => obtain ⟨_, _, _, _, o, _, _, e, _⟩ := x; exact Heap.lt_size e
  | dT kvs => obtain ⟨_, _, _, _, o, _, _, e, _⟩ := x; exact Heap.lt_size e
  | set S n => obtain ⟨o, _, _, _, e, _⟩ := x; exact Heap.lt_size e
  | ins C dx fs => obtain ⟨_, _, _, e, _⟩ := x; exact Heap.lt_size e
  | own y => obtain ⟨_, e⟩ := x; exact Heap.lt_size e
  | xd fs => obtain ⟨_, ⟨_, _, _, e, _⟩, _⟩ := x; exact Heap.lt_size e
  | rng lo hi => obtain ⟨_, _, _, e⟩ := x; exact Heap.lt_size e
  | frz ob u => obtain ⟨e, _⟩ := x; exact Heap.lt_size e
  | tbl ps => exact Heap.lt_size (show h.get? a = some _ from x)
  | met f y => exact Heap.lt_size (show h.get? a = some _ from x)
  | ext φ => obtain ⟨_, ⟨_, e⟩, _⟩ := x; exact Heap.lt_size e
theorem Paired.mapP {α β : Type} {F G : α → β → Prop} : ∀ {l₁ : List α} {l₂ : List β}, Paired F l₁ l₂ → (∀ a b, F a b → G a b) → Paired G l₁ l₂
  | _, _, .nil, _ => .nil
  | _, _, .cons r t, f => .cons (f _ _ r) (Paired.mapP t f)
/-- what an object's description leans on: its own object, its own dict, the tuples -/
theorem ObjOk.stay (x : ObjOk P w H h a o) (k : ∀ b u, (b = a ∨ H b = some (.own a)) → h.get? b = some u → h'.get? b = some u)
    (ho : ∀ b, H b = some (.own a) → H' b = some (.own a)) (ht : ∀ b xs, H b = some (.tup xs) → H' b = some (.tup xs)) : ObjOk P w H' h' a o := by
  induction o with
  | lst xs => obtain ⟨z, its, n, r, e⟩ := x; exact ⟨z, its, n, r, k _ _ (.inl rfl) e⟩
  | tup xs => obtain ⟨z, its, r, ob, e, c⟩ := x; exact ⟨z, its, r, ob, k _ _ (.inl rfl) e, c⟩
  | dK kvs => obtain ⟨z, y, vs, r, ob, es, ep, e, c⟩ := x; exact ⟨z, y, vs, r, ob, es, ep, k _ _ (.inl rfl) e, c⟩
  | dT kvs =>
    obtain ⟨z, y, xs, r, ob, es, ep, e, c⟩ := x
    exact ⟨z, y, xs, Paired.mapP r fun p q z => ⟨z.1, ht _ _ z.2.1, z.2.2⟩, ob, es, ep, k _ _ (.inl rfl) e, c⟩
  | set S n => obtain ⟨ob, es, ep, t, e, c⟩ := x; exact ⟨ob, es, ep, t, k _ _ (.inl rfl) e, c⟩
  | ins C dx fs =>
    obtain ⟨d, z, ne, e, mA, ⟨od, es, ep, e2, c⟩, r⟩ := x
    exact ⟨ho _ d, z, ne, k _ _ (.inl rfl) e, mA, ⟨od, es, ep, k _ _ (.inr d) e2, c⟩, r⟩
  | own y => obtain ⟨ob, e⟩ := x; exact ⟨ob, k _ _ (.inl rfl) e⟩
  | xd fs => obtain ⟨mA, ⟨od, es, ep, e, c⟩, r⟩ := x; exact ⟨mA, ⟨od, es, ep, k _ _ (.inl rfl) e, c⟩, r⟩
  | rng lo hi => obtain ⟨t, u, v, e⟩ := x; exact ⟨t, u, v, k _ _ (.inl rfl) e⟩
  | frz ob u ih => obtain ⟨e, q⟩ := x; exact ⟨k _ _ (.inl rfl) e, ih q⟩
  | tbl ps =>
    have e : h.get? a = some { cls := .none, data := .fields ps } := x
    show h'.get? a = some { cls := .none, data := .fields ps }
    exact k a _ (.inl rfl) e
  | met f y =>
    have e : h.get? a = some (PySem.W.methodObj (.ref f) (.ref y)) := x
    show h'.get? a = some (PySem.W.methodObj (.ref f) (.ref y))
    exact k a _ (.inl rfl) e
  | ext φ => obtain ⟨p, ⟨o, e⟩, st⟩ := x; exact ⟨st _ _ p fun o q => k _ _ (.inl rfl) q, ⟨o, k _ _ (.inl rfl) e⟩, st⟩
theorem HOk.lt (x : HOk P w H h) (e : H a = some o) : a < h.objs.size := (x a o e).lt
theorem HOk.fresh (x : HOk P w H h) (e : h.objs.size ≤ a) : H a = none := by
  cases q : H a with
  | none => rfl
  | some u => exact absurd (Nat.lt_of_lt_of_le (x.lt q) e) (Nat.lt_irrefl _)
/-- every object of the heap is kept -/
theorem HOk.kept (x : HOk P w H h) (k : ∀ b u, h.get? b = some u → h'.get? b = some u) : HOk P w H h' := fun a o e =>
  (x a o e).stay (fun b u _ q => k b u q) (fun _ q => q) fun _ _ q => q
/-- a new object is laid and tracked -/
theorem HOk.laid (x : HOk P w H h) (k : ∀ b u, h.get? b = some u → h'.get? b = some u) (hp : h.objs.size ≤ a) (new : ObjOk P w (upd H a o) h' a o) : HOk P w (upd H a o) h' := fun b u e => by
  have hn := x.fresh hp
  by_cases hb : b = a
  · subst hb; rw [upd_same] at e; cases e; exact new
  · rw [upd_ne hb] at e
    exact (x b u e).stay (fun c v _ q => k c v q) (fun c q => by rw [upd_ne (ne_of_none q hn)]; exact q) fun c xs q => by rw [upd_ne (ne_of_none q hn)]; exact q
end

/-- what may be read as u: it is u, or a known u -/
def Rd (H : Hp) (a : Addr) (u : HO) : Prop := H a = some u ∨ ∃ o, H a = some (.frz o u)
theorem Rd.of {H : Hp} {a : Addr} {u : HO} (h : H a = some u) : Rd H a u := .inl h
theorem Rd.ok {P : Program} {w : World} {H : Hp} {h : Heap} {a : Addr} {u : HO} (r : Rd H a u) (x : HOk P w H h) : ObjOk P w H h a u := by
  rcases r with r | ⟨o, r⟩
  · exact x a u r
  · obtain ⟨_, q⟩ := x a _ r
    exact q
/-- what may be written -/
def Mut : Option HO → Prop
  | some (.lst _) => True
  | some (.dK _) => True
  | some (.dT _) => True
  | some (.set _ _) => True
  | some (.ins _ _ _) => True
  | some (.ext _) => True
  | _ => False
section
variable {P : Program} {w : World} {H : Hp} {h h' : Heap} {x e : Addr} {o' : HO}
/-- the object at e is changed: x itself, or the dict of the instance x -/
theorem HOk.write (ok : HOk P w H h) (mu : Mut (H x)) (he : e = x ∨ H e = some (.own x)) (k : ∀ b u, b ≠ e → h.get? b = some u → h'.get? b = some u) (heo : ∃ u, h'.get? e = some u)
    (new : ObjOk P w (upd H x o') h' x o') : HOk P w (upd H x o') h' := fun b u q => by
  have nown : ∀ c y, H c = some (.own y) → c ≠ x := fun c y r z => by subst z; rw [r] at mu; exact mu
  have ntup : ∀ c xs, H c = some (.tup xs) → c ≠ x := fun c xs r z => by subst z; rw [r] at mu; exact mu
  by_cases hb : b = x
  · subst hb; rw [upd_same] at q; cases q; exact new
  · rw [upd_ne hb] at q
    by_cases hbe : b = e
    · have q' : H b = some (.own x) := by
        rcases he with z | z
        · exact absurd (hbe.trans z) hb
        · rw [hbe]; exact z
      rw [q] at q'; cases q'
      obtain ⟨v, hv⟩ := heo
      exact ⟨v, by rw [hbe]; exact hv⟩
    · refine (ok b u q).stay (fun c v hc r => k c v ?_ r) (fun c r => by rw [upd_ne (nown c b r)]; exact r) fun c xs r => by rw [upd_ne (ntup c xs r)]; exact r
      rcases hc with rfl | hc
      · exact hbe
      · rintro rfl
        rcases he with z | z
        · exact nown c b hc z
        · rw [hc] at z; cases z; exact hb rfl
end

/-! ### kept unless tracked; of the frames at fs (the callers') the slots may change (an exception that passes writes there); of the records at ex (iterators) nothing is said -/
structure Un (fs ex : List Addr) (H H' : Hp) (h h' : Heap) : Prop where
  keep : ∀ b o, h.get? b = some o → H b = none → b ∉ fs → b ∉ ex → h'.get? b = some o
  slot : ∀ b o, h.get? b = some o → H b = none → b ∈ fs → b ∉ ex → ∃ sl, h'.get? b = some { o with slots := sl }
  free : ∀ b o, h.get? b = some o → H b = none → b ∉ ex → H' b = none
  there : ∀ b o, h.get? b = some o → b ∉ ex → ∃ o', h'.get? b = some o'
  tups : ∀ b xs, H b = some (.tup xs) → H' b = some (.tup xs)
  frzs : ∀ b o u, H b = some (.frz o u) → H' b = some (.frz o u)
  tbls : ∀ b ps, H b = some (.tbl ps) → ∃ more, H' b = some (.tbl (ps ++ more))
section
variable {fs fs' ex ex' : List Addr} {H H1 H2 : Hp} {h h1 h2 h' : Heap} {a x e : Addr} {o : HO}
theorem Un.any (u : Un fs ex H H1 h h1) {b : Addr} {ob : Obj} (q : h.get? b = some ob) (n : H b = none) (hx : b ∉ ex) : ∃ sl, h1.get? b = some { ob with slots := sl } := by
  by_cases hb : b ∈ fs
  · exact u.slot b ob q n hb hx
  · exact ⟨ob.slots, u.keep b ob q n hb hx⟩
theorem Un.trans (a : Un fs ex H H1 h h1) (b : Un fs ex H1 H2 h1 h2) : Un fs ex H H2 h h2 where
  keep := fun c ob q n hc hx => b.keep c ob (a.keep c ob q n hc hx) (a.free c ob q n hx) hc hx
  slot := fun c ob q n hc hx => by
    obtain ⟨sl, e1⟩ := a.slot c ob q n hc hx
    obtain ⟨sl', e2⟩ := b.slot c _ e1 (a.free c ob q n hx) hc hx
    exact ⟨sl', e2⟩
  free := fun c ob q n hx => by
    obtain ⟨o', e1⟩ := a.there c ob q hx
    exact b.free c o' e1 (a.free c ob q n hx) hx
  there := fun c ob q hx => by
    obtain ⟨o', e1⟩ := a.there c ob q hx
    exact b.there c o' e1 hx
  tups := fun c xs q => b.tups c xs (a.tups c xs q)
  frzs := fun c ob xs q => b.frzs c ob xs (a.frzs c ob xs q)
  tbls := fun c ps q => by
    obtain ⟨m1, e1⟩ := a.tbls c ps q
    obtain ⟨m2, e2⟩ := b.tbls c _ e1
    exact ⟨m1 ++ m2, by rw [e2, Array.append_assoc]⟩
theorem Un.kept (k : ∀ b u, h.get? b = some u → h'.get? b = some u) : Un fs ex H H h h' :=
  ⟨fun b ob q _ _ _ => k b ob q, fun b ob q _ _ _ => ⟨ob.slots, k b ob q⟩, fun _ _ _ n _ => n, fun b ob q _ => ⟨ob, k b ob q⟩, fun _ _ q => q, fun _ _ _ q => q, fun _ ps q => ⟨#[], by rw [q]; simp⟩⟩
theorem Un.refl : Un fs ex H H h h := Un.kept fun _ _ q => q
theorem Un.laid (k : ∀ b u, h.get? b = some u → h'.get? b = some u) (hp : h.objs.size ≤ a) (hn : H a = none) : Un fs ex H (upd H a o) h h' where
  keep := fun b u q _ _ _ => k b u q
  slot := fun b u q _ _ _ => ⟨u.slots, k b u q⟩
  free := fun b u q n _ => by rw [upd_ne (Nat.ne_of_lt (Nat.lt_of_lt_of_le (Heap.lt_size q) hp))]; exact n
  there := fun b u q _ => ⟨u, k b u q⟩
  tups := fun b xs q => by rw [upd_ne (ne_of_none q hn)]; exact q
  frzs := fun b u xs q => by rw [upd_ne (ne_of_none q hn)]; exact q
  tbls := fun b ps q => ⟨#[], by rw [upd_ne (ne_of_none q hn), q]; simp⟩
theorem Un.write (mu : Mut (H x)) (he : e = x ∨ H e = some (.own x)) (k : ∀ b u, b ≠ e → h.get? b = some u → h'.get? b = some u) (heo : ∃ u, h'.get? e = some u) : Un fs ex H (upd H x o) h h' := by
  have hx : ∀ b, H b = none → b ≠ x := fun b n z => by subst z; rw [n] at mu; exact mu
  have hb : ∀ b, H b = none → b ≠ e := fun b n z => by
    subst z
    rcases he with r | r
    · exact hx b n r
    · rw [n] at r; cases r
  have hm : ∀ b u, H b = some u → ¬ Mut (some u) → b ≠ x := fun b u q nm z => by subst z; rw [q] at mu; exact nm mu
  refine ⟨fun b u q n _ _ => k b u (hb b n) q, fun b u q n _ _ => ⟨u.slots, k b u (hb b n) q⟩, fun b u q n _ => by rw [upd_ne (hx b n)]; exact n, fun b u q _ => ?_,
    fun b xs q => by rw [upd_ne (hm b _ q fun z => z)]; exact q, fun b u xs q => by rw [upd_ne (hm b _ q fun z => z)]; exact q, fun b ps q => ⟨#[], by rw [upd_ne (hm b _ q fun z => z), q]; simp⟩⟩
  by_cases hbe : b = e
  · subst hbe; exact heo
  · exact ⟨u, k b u hbe q⟩
end

/-! ### the heap without what is tracked -/
def trk (h : Heap) (H : Hp) : List Addr := (List.range h.objs.size).filter fun a => (H a).isSome
def hidT (h : Heap) (H : Hp) : Heap := PySem.W.hideAll h (trk h H)
theorem hidT_size (h : Heap) (H : Hp) : (hidT h H).objs.size = h.objs.size := PySem.W.hideAll_size _ _
theorem hidT_get {h : Heap} {H : Hp} {b : Addr} {o : Obj} (e : h.get? b = some o) (n : H b = none) : (hidT h H).get? b = some o :=
  PySem.W.hideAll_get _ e fun hm => by
    have q : (H b).isSome = true := (List.mem_filter.mp hm).2
    rw [n] at q; simp at q
theorem of_hidT {h : Heap} {H : Hp} {b : Addr} {o : Obj} (e : (hidT h H).get? b = some o) : h.get? b = some o ∧ H b = none := by
  have e' : h.get? b = some o := PySem.W.of_hideAll (trk h H) e
  refine ⟨e', ?_⟩
  cases q : H b with
  | none => rfl
  | some x =>
    have hm : b ∈ trk h H := List.mem_filter.mpr ⟨List.mem_range.mpr (Heap.lt_size e'), by simp [q]⟩
    have z : (hidT h H).get? b = none := PySem.W.hideAll_none (trk h H) hm
    rw [z] at e; cases e

/-! ### OpenK's ledger, filled with every new object but one -/
def allNews (g h : Heap) (L : Addr) : List (Addr × Obj) := (List.range h.objs.size).filterMap fun a => if a = L ∨ (g.get? a).isSome = true then none else (h.get? a).map fun o => (a, o)
def rest (g h : Heap) (L d : Addr) : List (Addr × Obj) := (allNews g h L).filter fun p => decide (p.1 ≠ d)
end L2

namespace L2
open PySem PySem.Spec PyProof.Rows

/-- the module's facts, over the base: the heap at the law's entry without what is tracked there -/
structure Mod (K : PySem.W.Frag) (mg : Str → Option Value) (base : Heap) : Prop where
  kin : K.In base
  glob : base.Ns mainGlobals mg
  blt : ∃ mb, base.Ns builtinsNs mb ∧ ∀ x : Str, x ≠ "__name__" → mb x = bootBuiltins x
  nolimit : base.NoLimit

/-- the context: a def's body (or a comprehension's block) running. base: fixed through the whole law; s₀, H₀: the entry; outer: the frames whose slots others may change (a def's callers); stack: all frames that run;
   ex: iterators that were made ahead of the entry and are walked here (a comprehension's); fn: the names whose cells were made at the entry (a def: all; a comprehension's block: its own); calm: not within an except suite; pn: pins that every state bears; xe: what is wanted of an exception that leaves the code -/
structure Cx where
  prog : Program
  w : World
  K : PySem.W.Frag
  mg : Str → Option Value
  base : Heap
  A : Around
  N : List Str
  s₀ : Shared
  H₀ : Hp
  env : Env
  outer : List Env
  stack : List Env
  ex : List Addr
  fn : Str → Bool
  calm : Bool
  pn : List (Addr × Obj)
  xe : Value → Shared → Prop
/-- the callers' frames -/
def frs (l : List Env) : List Addr := l.filterMap (·.frame)
abbrev Cx.fs (X : Cx) : List Addr := frs X.outer

def Vis (sc : Scope) (x : Str) : Prop := sc.names.lookup x = some .local ∨ sc.names.lookup x = some .cell ∨ sc.names.lookup x = some .free
def Loc (sc : Scope) (x : Str) : Prop := sc.names.lookup x = some .local ∨ sc.names.lookup x = some .cell
def Look (env : Env) (h : Heap) (m : Str → Option Value) (x : Str) (u : Value) : Prop :=
  (env.kindOf x = some .local ∧ m x = some u) ∨ ((env.kindOf x = some .cell ∨ env.kindOf x = some .free) ∧ ∃ c, env.cells.lookup x = some c ∧ h.IsCell c (some u))

structure Cx.Ok (X : Cx) : Prop where
  mod : Mod X.K X.mg X.base
  kind : X.env.scope.kind = .function
  glob : X.env.globals = mainGlobals
  blt : X.env.builtins = builtinsNs
  above : X.s₀.heap.objs.size ≤ X.env.locals
  inj : ∀ x y c, X.env.cells.lookup x = some c → X.env.cells.lookup y = some c → x = y
  has : ∀ x, (X.env.kindOf x = some .cell ∨ X.env.kindOf x = some .free) → ∃ c, X.env.cells.lookup x = some c
  cab : ∀ x c, X.fn x = true → X.env.cells.lookup x = some c → X.s₀.heap.objs.size ≤ c
  hd : X.calm = true → X.A.handled = none
  frames : X.A.frames = some X.stack
  stk : X.stack = X.outer ∨ (X.stack = X.env :: X.outer ∧ X.env.frame = some X.env.locals)
  exf : ∀ b ∈ X.ex, b ≠ X.env.locals ∧ ∀ x c, X.env.cells.lookup x = some c → c ≠ b
  bs : ∀ b o, X.base.get? b = some o → X.s₀.heap.get? b = some o ∧ X.H₀ b = none
  bsz : X.base.objs.size ≤ X.s₀.heap.objs.size
  noex : ∀ b o, X.base.get? b = some o → b ∉ X.ex
  exfs : ∀ b ∈ X.ex, b ∉ X.fs
  funs : X.s₀.heap.FunFrames X.base X.outer
  frf : ∀ b ∈ X.fs, X.H₀ b = none

structure Inv (X : Cx) (pins : List (Addr × Obj)) (σ : List (Option V)) (H : Hp) (s : Shared) : Prop where
  ok : X.Ok
  os : s.os = X.s₀.os
  bare : AllBare s.gens
  base : Un X.fs X.ex X.H₀ H X.s₀.heap s.heap
  loc : ∃ m, s.heap.Ns X.env.locals m ∧ ∀ (i : Nat) (x : Str) (v : V), X.N[i]? = some x → σ[i]? = some (some v) → Vis X.env.scope x → ∃ u, RelV v u ∧ Look X.env s.heap m x u
  cell : ∀ x c, X.env.cells.lookup x = some c → ∃ v, s.heap.IsCell c v
  free : H X.env.locals = none
  freeC : ∀ x c, X.env.cells.lookup x = some c → H c = none
  pin : ∀ p ∈ X.pn ++ pins, s.heap.get? p.1 = some p.2 ∧ H p.1 = none ∧ p.1 ≠ X.env.locals ∧ p.1 ∉ X.fs ∧ ∀ v, p.2.data ≠ .cell v
  hok : HOk X.prog X.w H s.heap
  len : σ.length = X.N.length

section
variable {X : Cx} {pins : List (Addr × Obj)} {σ : List (Option V)} {H H' : Hp} {s : Shared} {h' : Heap}

theorem Cx.Ok.nofr (ok : X.Ok) {b : Addr} {o : Obj} (e : X.base.get? b = some o) : b ∉ X.fs := fun hb => by
  have := (ok.funs.mem hb).1
  rw [e] at this; cases this
theorem Inv.bs (I : Inv X pins σ H s) : ∀ b o, X.base.get? b = some o → s.heap.get? b = some o ∧ H b = none := fun b o e =>
  ⟨I.base.keep b o (I.ok.bs b o e).1 (I.ok.bs b o e).2 (I.ok.nofr e) (I.ok.noex b o e), I.base.free b o (I.ok.bs b o e).1 (I.ok.bs b o e).2 (I.ok.noex b o e)⟩
theorem Inv.bk (I : Inv X pins σ H s) : ∀ b o, X.base.get? b = some o → s.heap.get? b = some o := fun b o e => (I.bs b o e).1
theorem Inv.mod (I : Inv X pins σ H s) : Mod X.K X.mg X.base := I.ok.mod
theorem Inv.kIn (I : Inv X pins σ H s) : X.K.In s.heap := I.ok.mod.kin.keeps I.bk
/-- the frame over the base: for OpenK's rules (K.In X.base is I.mod.kin) -/
theorem Inv.fr (I : Inv X pins σ H s) : ∃ m, Fr X.base X.env.locals s.heap m :=
  let ⟨m, hn, _⟩ := I.loc
  ⟨m, hn, I.bk, Nat.le_trans I.ok.bsz I.ok.above⟩
theorem Inv.lt (I : Inv X pins σ H s) : X.env.locals < s.heap.objs.size := let ⟨_, hn, _⟩ := I.loc; hn.lt
theorem Inv.sz (I : Inv X pins σ H s) : X.s₀.heap.objs.size ≤ s.heap.objs.size := Nat.le_trans I.ok.above (Nat.le_of_lt I.lt)
theorem Inv.nofs (I : Inv X pins σ H s) {a : Addr} (h : s.heap.objs.size ≤ a) : a ∉ X.fs := fun hb => by
  obtain ⟨_, o, ho, _⟩ := I.ok.funs.mem hb
  exact absurd (Nat.lt_of_lt_of_le (Heap.lt_size ho) (Nat.le_trans I.sz h)) (Nat.lt_irrefl _)
theorem Inv.cne (I : Inv X pins σ H s) : ∀ x c, X.env.cells.lookup x = some c → c ≠ X.env.locals := fun x c e z => by
  obtain ⟨v, o, ho, hd⟩ := I.cell x c e
  obtain ⟨m, ⟨o', es, ep, ho', hd', _⟩, _⟩ := I.loc
  rw [z, ho'] at ho; cases ho; rw [hd'] at hd; cases hd
theorem Inv.funs (I : Inv X pins σ H s) : s.heap.FunFrames X.base X.outer := by
  have all : ∀ (l : List Env), (∀ b ∈ frs l, b ∈ X.fs) → X.s₀.heap.FunFrames X.base l → s.heap.FunFrames X.base l := by
    intro l
    induction l with
    | nil => intro _ _; trivial
    | cons env r ih =>
      intro hs hl
      obtain ⟨hk, ⟨L, o, hf, hn, ho, hd⟩, hr⟩ := hl
      have hL : L ∈ X.fs := hs L (by unfold frs; rw [List.filterMap_cons, hf]; exact List.mem_cons_self)
      obtain ⟨sl, e⟩ := I.base.slot L o ho (I.ok.frf L hL) hL fun z => I.ok.exfs L z hL
      exact ⟨hk, ⟨L, _, hf, hn, e, hd⟩, ih (fun b hb => hs b (by unfold frs; rw [List.filterMap_cons, hf]; exact List.mem_cons_of_mem _ hb)) hr⟩
  exact all X.outer (fun _ hb => hb) I.ok.funs

/-- the frames that run, for a call -/
theorem Inv.stack (I : Inv X pins σ H s) : s.heap.FunFrames X.base X.stack := by
  rcases I.ok.stk with e | ⟨e, hf⟩
  · rw [e]; exact I.funs
  · rw [e]
    obtain ⟨m, hn, _⟩ := I.loc
    refine .cons (by rw [I.ok.kind]; decide) hf hn ?_ I.funs
    exact Heap.get?_none_of_le (Nat.le_trans I.ok.bsz I.ok.above)
theorem Inv.stkSub (I : Inv X pins σ H s) : ∀ b ∈ frs X.stack, b ∈ X.env.locals :: X.fs := fun b hb => by
  rcases I.ok.stk with e | ⟨e, hf⟩
  · rw [e] at hb; exact List.mem_cons_of_mem _ hb
  · rw [e] at hb
    unfold frs at hb
    rw [List.filterMap_cons, hf] at hb
    exact hb
theorem Inv.stkFree (I : Inv X pins σ H s) : ∀ b ∈ frs X.stack, H b = none := fun b hb => by
  rcases List.mem_cons.mp (I.stkSub b hb) with e | hb
  · rw [e]; exact I.free
  · obtain ⟨_, o, ho, _⟩ := I.ok.funs.mem hb
    exact I.base.free b o ho (I.ok.frf b hb) fun z => I.ok.exfs b z hb

/-- THE STEP: the untracked objects but the frame and the records at ch are kept (the callers' frames up to slots), the frame's map is kept, the new abstract heap is held -/
theorem Inv.step {g' : Array GenState} {t' : Nat} {d' : Drawn} {ch : List Addr} (I : Inv X pins σ H s)
    (hch : ∀ b ∈ ch, (b ∈ X.ex ∨ X.s₀.heap.objs.size ≤ b) ∧ b ≠ X.env.locals ∧ (∀ x c, X.env.cells.lookup x = some c → c ≠ b) ∧ ∀ p ∈ X.pn ++ pins, p.1 ≠ b)
    (keep : ∀ b o, b ≠ X.env.locals → b ∉ X.fs → b ∉ ch → s.heap.get? b = some o → H b = none → h'.get? b = some o)
    (slot : ∀ b o, b ≠ X.env.locals → b ∈ X.fs → b ∉ ch → s.heap.get? b = some o → H b = none → ∃ sl, h'.get? b = some { o with slots := sl }) (free : ∀ b o, b ∉ ch → s.heap.get? b = some o → H b = none → H' b = none)
    (there : ∀ b o, b ∉ ch → s.heap.get? b = some o → ∃ o', h'.get? b = some o')
    (tups : ∀ b xs, H b = some (.tup xs) → H' b = some (.tup xs)) (frzs : ∀ b o u, H b = some (.frz o u) → H' b = some (.frz o u)) (tbls : ∀ b ps, H b = some (.tbl ps) → ∃ more, H' b = some (.tbl (ps ++ more)))
    (ns : ∀ m, s.heap.Ns X.env.locals m → h'.Ns X.env.locals m) (hok : HOk X.prog X.w H' h') (hg : AllBare g') :
    Inv X pins σ H' { s with heap := h', gens := g', drawn := d', toks := t' } := by
  have neL : ∀ b o, X.s₀.heap.get? b = some o → b ≠ X.env.locals := fun b o e => Nat.ne_of_lt (Nat.lt_of_lt_of_le (Heap.lt_size e) I.ok.above)
  have neC : ∀ b o, X.s₀.heap.get? b = some o → b ∉ X.ex → b ∉ ch := fun b o e hx hb => by
    rcases (hch b hb).1 with z | z
    · exact hx z
    · exact absurd (Nat.lt_of_lt_of_le (Heap.lt_size e) z) (Nat.lt_irrefl _)
  have cellK : ∀ x c, X.env.cells.lookup x = some c → ∀ v, s.heap.IsCell c v → h'.IsCell c v := fun x c e v ⟨o, ho, hd⟩ => by
    have nch : c ∉ ch := fun z => (hch c z).2.2.1 x c e rfl
    by_cases hc : c ∈ X.fs
    · obtain ⟨sl, q⟩ := slot c o (I.cne x c e) hc nch ho (I.freeC x c e)
      exact ⟨_, q, hd⟩
    · exact ⟨o, keep c o (I.cne x c e) hc nch ho (I.freeC x c e), hd⟩
  refine ⟨I.ok, I.os, hg, ⟨fun b o e n hb hx => ?_, fun b o e n hb hx => ?_, fun b o e n hx => ?_, fun b o e hx => ?_, fun b xs e => tups b xs (I.base.tups b xs e), fun b o xs e => frzs b o xs (I.base.frzs b o xs e), fun b ps e => ?_⟩, ?_, fun x c e => ?_, ?_, fun x c e => ?_, fun p hp => ?_, hok, I.len⟩
  · exact keep b o (neL b o e) hb (neC b o e hx) (I.base.keep b o e n hb hx) (I.base.free b o e n hx)
  · obtain ⟨sl, e1⟩ := I.base.slot b o e n hb hx
    obtain ⟨sl', e2⟩ := slot b _ (neL b o e) hb (neC b o e hx) e1 (I.base.free b o e n hx)
    exact ⟨sl', e2⟩
  · obtain ⟨o', e1⟩ := I.base.there b o e hx
    exact free b o' (neC b o e hx) e1 (I.base.free b o e n hx)
  · obtain ⟨o', e1⟩ := I.base.there b o e hx
    exact there b o' (neC b o e hx) e1
  · obtain ⟨m1, e1⟩ := I.base.tbls b ps e
    obtain ⟨m2, e2⟩ := tbls b _ e1
    exact ⟨m1 ++ m2, by rw [e2, Array.append_assoc]⟩
  · obtain ⟨m, hn, hl⟩ := I.loc
    refine ⟨m, ns m hn, fun i x v e1 e2 e3 => ?_⟩
    obtain ⟨u, r, l⟩ := hl i x v e1 e2 e3
    refine ⟨u, r, ?_⟩
    rcases l with l | ⟨k, c, e, z⟩
    · exact .inl l
    · exact .inr ⟨k, c, e, cellK x c e _ z⟩
  · obtain ⟨v, z⟩ := I.cell x c e
    exact ⟨v, cellK x c e v z⟩
  · obtain ⟨m, ⟨o, _, _, ho, _⟩, _⟩ := I.loc
    exact free _ o (fun z => (hch _ z).2.1 rfl) ho I.free
  · obtain ⟨v, o, ho, hd⟩ := I.cell x c e
    exact free c o (fun z => (hch c z).2.2.1 x c e rfl) ho (I.freeC x c e)
  · obtain ⟨e, n, ne, nf, d⟩ := I.pin p hp
    have nch : p.1 ∉ ch := fun z => (hch p.1 z).2.2.2 p hp rfl
    exact ⟨keep p.1 p.2 ne nf nch e n, free p.1 p.2 nch e n, ne, nf, d⟩
/-- .. where the frame's own object is kept too -/
theorem Inv.un {t' : Nat} (I : Inv X pins σ H s) (u : Un X.fs [] H H' s.heap h') (hok : HOk X.prog X.w H' h') : Inv X pins σ H' { s with heap := h', toks := t' } := by
  obtain ⟨m, ⟨o, es, ep, ho, r⟩, _⟩ := id I.loc
  obtain ⟨sl, hL⟩ := u.any ho I.free (by simp)
  exact I.step (g' := s.gens) (d' := s.drawn) (ch := []) (fun _ z => nomatch z) (fun b o _ hb _ e n => u.keep b o e n hb (by simp)) (fun b o _ hb _ e n => u.slot b o e n hb (by simp)) (fun b o _ e n => u.free b o e n (by simp)) (fun b o _ e => u.there b o e (by simp)) u.tups u.frzs u.tbls (fun m' hm => by
    obtain ⟨o', es', ep', ho', r'⟩ := hm
    rw [ho] at ho'; cases ho'
    exact ⟨_, es', ep', hL, r'⟩) hok I.bare
/-- behind a call (or a comprehension's block): the slots of this frame may have changed too, the records at ch may have turned -/
theorem Inv.call {g' : Array GenState} {t' : Nat} {d' : Drawn} {ch : List Addr} (I : Inv X pins σ H s) (u : Un (frs X.stack) ch H H' s.heap h') (hok : HOk X.prog X.w H' h') (hg : AllBare g')
    (hch : ∀ b ∈ ch, (b ∈ X.ex ∨ X.s₀.heap.objs.size ≤ b) ∧ b ≠ X.env.locals ∧ (∀ x c, X.env.cells.lookup x = some c → c ≠ b) ∧ ∀ p ∈ X.pn ++ pins, p.1 ≠ b) :
    Inv X pins σ H' { s with heap := h', gens := g', drawn := d', toks := t' } := by
  obtain ⟨m, ⟨o, es, ep, ho, r⟩, _⟩ := id I.loc
  obtain ⟨sl, hL⟩ := u.any ho I.free fun z => (hch _ z).2.1 rfl
  exact I.step (ch := ch) hch (fun b o hL hb hc e n => u.keep b o e n (fun z => (List.mem_cons.mp (I.stkSub b z)).elim hL hb) hc) (fun b o _ _ hc e n => u.any e n hc) (fun b o hc e n => u.free b o e n hc) (fun b o hc e => u.there b o e hc) u.tups u.frzs u.tbls (fun m' hm => by
    obtain ⟨o', es', ep', ho', r'⟩ := hm
    rw [ho] at ho'; cases ho'
    exact ⟨_, es', ep', hL, r'⟩) hok hg
/-- an untracked record of ours (an iterator) has turned -/
theorem Inv.turned {t' : Nat} {it : Addr} (I : Inv X pins σ H s) (k : ∀ b o, b ≠ it → s.heap.get? b = some o → h'.get? b = some o) (hn : H it = none) (hL : it ≠ X.env.locals)
    (h1 : it ∈ X.ex ∨ X.s₀.heap.objs.size ≤ it) (h2 : ∀ x c, X.env.cells.lookup x = some c → c ≠ it) (h3 : ∀ p ∈ X.pn ++ pins, p.1 ≠ it) : Inv X pins σ H { s with heap := h', toks := t' } := by
  have nit : ∀ b u, H b = some u → b ≠ it := fun b u e z => by rw [z, hn] at e; cases e
  refine I.step (g' := s.gens) (d' := s.drawn) (ch := [it]) (fun b hb => ?_) (fun b o _ _ hc e _ => k b o (fun z => hc (by simp [z])) e) (fun b o _ _ hc e _ => ⟨o.slots, k b o (fun z => hc (by simp [z])) e⟩) (fun _ _ _ _ n => n)
    (fun b o hc e => ⟨o, k b o (fun z => hc (by simp [z])) e⟩) (fun _ _ e => e) (fun _ _ _ e => e) (fun b ps e => ⟨#[], by rw [e]; simp⟩) (fun m hm => ?_) (fun b u e => ?_) I.bare
  · have e : b = it := by simpa using hb
    subst e
    exact ⟨h1, hL, h2, h3⟩
  · obtain ⟨o, es, ep, ho, r⟩ := hm
    exact ⟨o, es, ep, k _ o (Ne.symm hL) ho, r⟩
  · refine (I.hok b u e).stay (fun c v hc q => k c v ?_ q) (fun _ q => q) fun _ _ q => q
    rcases hc with z | z
    · rw [z]; exact nit b u e
    · exact nit c _ z
theorem Inv.tok (I : Inv X pins σ H s) (t : Nat) : Inv X pins σ H { s with toks := t } := I.un (h' := s.heap) (t' := t) Un.refl I.hok
/-- all objects kept -/
theorem Inv.kept {t' : Nat} (I : Inv X pins σ H s) (k : ∀ b u, s.heap.get? b = some u → h'.get? b = some u) : Inv X pins σ H { s with heap := h', toks := t' } := I.un (Un.kept k) (I.hok.kept k)
/-- a new object laid and tracked -/
theorem Inv.laid {a : Addr} {o : HO} {t' : Nat} (I : Inv X pins σ H s) (k : ∀ b u, s.heap.get? b = some u → h'.get? b = some u) (hp : s.heap.objs.size ≤ a) (new : ObjOk X.prog X.w (upd H a o) h' a o) :
    Inv X pins σ (upd H a o) { s with heap := h', toks := t' } := I.un (Un.laid k hp (I.hok.fresh hp)) (I.hok.laid k hp new)
/-- an object written -/
theorem Inv.write {x e : Addr} {o : HO} {t' : Nat} (I : Inv X pins σ H s) (mu : Mut (H x)) (he : e = x ∨ H e = some (.own x)) (k : ∀ b u, b ≠ e → s.heap.get? b = some u → h'.get? b = some u) (heo : ∃ u, h'.get? e = some u)
    (new : ObjOk X.prog X.w (upd H x o) h' x o) : Inv X pins σ (upd H x o) { s with heap := h', toks := t' } := I.un (Un.write mu he k heo) (I.hok.write mu he k heo new)
theorem Inv.pins_of {pins' : List (Addr × Obj)} (I : Inv X pins σ H s) (h : ∀ p ∈ pins', s.heap.get? p.1 = some p.2 ∧ H p.1 = none ∧ p.1 ≠ X.env.locals ∧ p.1 ∉ X.fs ∧ ∀ v, p.2.data ≠ .cell v) : Inv X pins' σ H s :=
  ⟨I.ok, I.os, I.bare, I.base, I.loc, I.cell, I.free, I.freeC, fun p hp => (List.mem_append.mp hp).elim (fun z => I.pin p (List.mem_append_left _ z)) (h p), I.hok, I.len⟩

theorem nodup_ix {N : List Str} (hN : N.Nodup) {i j : Nat} {x : Str} (a : N[i]? = some x) (b : N[j]? = some x) : i = j := by
  obtain ⟨h1, e1⟩ := List.getElem?_eq_some_iff.mp a
  obtain ⟨h2, e2⟩ := List.getElem?_eq_some_iff.mp b
  exact (List.getElem_inj hN).mp (e1.trans e2.symm)

/-- a name is stored; what changed -/
theorem store_ok2 {M : Model} {A : Around} {E : Value → Shared → Prop} {i : Nat} {x : Str} {v : V} {u : Value} {Q : Unit → Shared → Prop} (I : Inv X pins σ H s) (hN : X.N.Nodup) (hi : X.N[i]? = some x) (hx : Loc X.env.scope x) (r : RelV v u)
    (h : ∀ s', Inv X pins (σ.set i (some v)) H s' → (∃ a, Heap.SameBut a s.heap s'.heap ∧ (a = X.env.locals ∨ X.env.cells.lookup x = some a)) → Q () s') (hf : X.fn x = true ∨ X.env.scope.names.lookup x = some .local := by first | exact .inl rfl | exact .inr rfl | assumption) : wpAny M A (storeName X.env x u) Q E s := by
  obtain ⟨m, hn, hl⟩ := id I.loc
  have hcls : (X.env.scope.kind == .class || (X.env.scope.kind == .module && X.env.locals != X.env.globals)) = false := by rw [I.ok.kind]; rfl
  have hiσ : i < σ.length := by rw [I.len]; exact (List.getElem?_eq_some_iff.mp hi).1
  have cne := I.cne
  have tracked : ∀ {a : Addr} {h' : Heap}, (∃ o, s.heap.get? a = some o ∧ H a = none) → Heap.SameBut a s.heap h' → HOk X.prog X.w H h' := fun {a h'} ha hs b ob e => by
    obtain ⟨_, _, hfree⟩ := ha
    refine (I.hok b ob e).stay (fun c w' hc q => (hs.2 c ?_).trans q) (fun _ q => q) fun _ _ q => q
    rintro rfl
    rcases hc with rfl | hc
    · rw [hfree] at e; cases e
    · rw [hfree] at hc; cases hc
  rcases hx with hk | hk
  · refine wpAny_storeName_local hk hn (fun h' hn' hs => ?_) hcls
    obtain ⟨oL, _, _, hoL, _⟩ := id hn
    refine h _ ⟨I.ok, I.os, I.bare, ⟨fun b o e n hb hx => ?_, fun b o e n hb hx => ?_, I.base.free, fun b o e hx => ?_, I.base.tups, I.base.frzs, I.base.tbls⟩, ⟨_, hn', fun j y v' e1 e2 e3 => ?_⟩, fun y c e => ?_, I.free, I.freeC, fun p hp => ?_, tracked ⟨oL, hoL, I.free⟩ hs, by simpa using I.len⟩ ⟨_, hs, .inl rfl⟩
    · exact (hs.2 b (Nat.ne_of_lt (Nat.lt_of_lt_of_le (Heap.lt_size e) I.ok.above))).trans (I.base.keep b o e n hb hx)
    · obtain ⟨sl, e1⟩ := I.base.slot b o e n hb hx
      exact ⟨sl, (hs.2 b (Nat.ne_of_lt (Nat.lt_of_lt_of_le (Heap.lt_size e) I.ok.above))).trans e1⟩
    · obtain ⟨o', e1⟩ := I.base.there b o e hx
      exact ⟨o', (hs.2 b (Nat.ne_of_lt (Nat.lt_of_lt_of_le (Heap.lt_size e) I.ok.above))).trans e1⟩
    · by_cases hj : j = i
      · subst hj
        rw [hi] at e1; cases e1
        rw [List.getElem?_set_self hiσ] at e2
        cases e2
        exact ⟨u, r, .inl ⟨hk, by simp⟩⟩
      · rw [List.getElem?_set_ne (Ne.symm hj)] at e2
        obtain ⟨u', r', q⟩ := hl j y v' e1 e2 e3
        refine ⟨u', r', ?_⟩
        rcases q with ⟨k, e⟩ | ⟨k, c, e, z⟩
        · refine .inl ⟨k, ?_⟩
          have : y ≠ x := fun e => hj (nodup_ix hN e1 (e ▸ hi))
          simp [this, e]
        · exact .inr ⟨k, c, e, z.sameBut hs (cne y c e)⟩
    · obtain ⟨w', z⟩ := I.cell y c e
      exact ⟨w', z.sameBut hs (cne y c e)⟩
    · obtain ⟨e, n, ne, nf, d⟩ := I.pin p hp
      exact ⟨(hs.2 p.1 ne).trans e, n, ne, nf, d⟩
  · have hfn : X.fn x = true := by
      rcases hf with z | z
      · exact z
      · rw [z] at hk; cases hk
    obtain ⟨c, hc⟩ := I.ok.has x (.inl hk)
    obtain ⟨w', z⟩ := I.cell x c hc
    refine wpAny_storeName_cell I.ok.kind hk hc z (fun h' hc' hs => ?_)
    obtain ⟨oc, hoc, hocd⟩ := id z
    refine h { s with heap := h' } ⟨I.ok, I.os, I.bare, ⟨fun b o e n hb hx => ?_, fun b o e n hb hx => ?_, I.base.free, fun b o e hx => ?_, I.base.tups, I.base.frzs, I.base.tbls⟩, ⟨m, hn.sameBut hs (Ne.symm (cne x c hc)), fun j y v' e1 e2 e3 => ?_⟩, fun y c' e => ?_, I.free, I.freeC, fun p hp => ?_, tracked ⟨oc, hoc, I.freeC x c hc⟩ hs, by simpa using I.len⟩ ⟨c, hs, .inr hc⟩
    · exact (hs.2 b (Nat.ne_of_lt (Nat.lt_of_lt_of_le (Heap.lt_size e) (I.ok.cab x c hfn hc)))).trans (I.base.keep b o e n hb hx)
    · obtain ⟨sl, e1⟩ := I.base.slot b o e n hb hx
      exact ⟨sl, (hs.2 b (Nat.ne_of_lt (Nat.lt_of_lt_of_le (Heap.lt_size e) (I.ok.cab x c hfn hc)))).trans e1⟩
    · obtain ⟨o', e1⟩ := I.base.there b o e hx
      exact ⟨o', (hs.2 b (Nat.ne_of_lt (Nat.lt_of_lt_of_le (Heap.lt_size e) (I.ok.cab x c hfn hc)))).trans e1⟩
    · by_cases hj : j = i
      · subst hj
        rw [hi] at e1; cases e1
        rw [List.getElem?_set_self hiσ] at e2
        cases e2
        exact ⟨u, r, .inr ⟨.inl hk, c, hc, hc'⟩⟩
      · rw [List.getElem?_set_ne (Ne.symm hj)] at e2
        obtain ⟨u', r', q⟩ := hl j y v' e1 e2 e3
        refine ⟨u', r', ?_⟩
        rcases q with q | ⟨k, c', e, z'⟩
        · exact .inl q
        · refine .inr ⟨k, c', e, z'.sameBut hs ?_⟩
          rintro rfl
          exact hj (nodup_ix hN e1 (I.ok.inj _ _ _ e hc ▸ hi))
    · by_cases hcc : c' = c
      · subst hcc; exact ⟨_, hc'⟩
      · obtain ⟨w2, z2⟩ := I.cell y c' e
        exact ⟨w2, z2.sameBut hs hcc⟩
    · obtain ⟨e, n, ne, nf, d⟩ := I.pin p hp
      refine ⟨(hs.2 p.1 ?_).trans e, n, ne, nf, d⟩
      intro q
      rw [q, hoc] at e
      have q' : oc = p.2 := Option.some.inj e
      exact d w' (by rw [← q']; exact hocd)
theorem store_ok {M : Model} {A : Around} {E : Value → Shared → Prop} {i : Nat} {x : Str} {v : V} {u : Value} {Q : Unit → Shared → Prop} (I : Inv X pins σ H s) (hN : X.N.Nodup) (hi : X.N[i]? = some x) (hx : Loc X.env.scope x) (r : RelV v u)
    (h : ∀ s', Inv X pins (σ.set i (some v)) H s' → Q () s') (hf : X.fn x = true ∨ X.env.scope.names.lookup x = some .local := by first | exact .inl rfl | exact .inr rfl | assumption) : wpAny M A (storeName X.env x u) Q E s :=
  store_ok2 I hN hi hx r (fun s' I' _ => h s' I') hf
/-- behind a call or a block, the state as it is -/
theorem Inv.call' {s' : Shared} {ch : List Addr} (I : Inv X pins σ H s) (ho : s'.os = s.os) (u : Un (frs X.stack) ch H H' s.heap s'.heap) (hok : HOk X.prog X.w H' s'.heap) (hg : AllBare s'.gens)
    (hch : ∀ b ∈ ch, (b ∈ X.ex ∨ X.s₀.heap.objs.size ≤ b) ∧ b ≠ X.env.locals ∧ (∀ x c, X.env.cells.lookup x = some c → c ≠ b) ∧ ∀ p ∈ X.pn ++ pins, p.1 ≠ b) : Inv X pins σ H' s' := by
  obtain ⟨h', g', d', t', o'⟩ := s'
  have e : o' = s.os := ho
  subst e
  exact I.call (g' := g') (t' := t') (d' := d') u hok hg hch
end

/-! ### the judgements -/
/-- an exception: its class, its own dict's address (where it has one), the abstract heap behind it -/
abbrev XK := Value → Option Addr → Hp → Prop
abbrev St := List (Option V)
abbrev VK := V → Hp → Prop
/-- an expression's reading; a test's; an argument list's -/
abbrev TE := St → Hp → VK → Prop
abbrev TT := St → Hp → (Bool → Hp → Prop) → Prop
abbrev TA := St → Hp → (List V → Hp → Prop) → Prop
/-- what is wanted behind a statement -/
structure Ends where
  nx : St → Hp → Prop
  rt : VK
  bk : St → Hp → Prop := fun _ _ => False
  ct : St → Hp → Prop := fun _ _ => False
abbrev TS := Ends → St → Hp → Prop

def EP (X : Cx) (pins : List (Addr × Obj)) (σ : St) (Q : VK) (u : Value) (s' : Shared) : Prop := ∃ v H', Inv X pins σ H' s' ∧ RelV v u ∧ Q v H'
def TP (X : Cx) (pins : List (Addr × Obj)) (σ : St) (Q : Bool → Hp → Prop) (b : Bool) (s' : Shared) : Prop := ∃ H', Inv X pins σ H' s' ∧ Q b H'
def AP (X : Cx) (pins : List (Addr × Obj)) (σ : St) (Q : List V → Hp → Prop) (us : List Value) (s' : Shared) : Prop := ∃ vs H', Inv X pins σ H' s' ∧ Vals vs us ∧ Q vs H'
def SP (X : Cx) (pins : List (Addr × Obj)) (D : Ends) (f : Flow) (s' : Shared) : Prop :=
  match f with
  | .next => ∃ σ' H', Inv X pins σ' H' s' ∧ D.nx σ' H'
  | .brk => ∃ σ' H', Inv X pins σ' H' s' ∧ D.bk σ' H'
  | .cont => ∃ σ' H', Inv X pins σ' H' s' ∧ D.ct σ' H'
  | .ret u => ∃ v σ' H', Inv X pins σ' H' s' ∧ RelV v u ∧ D.rt v H'

def PE (X : Cx) (e : Expr) (t : TE) : Prop :=
  ∀ (pins : List (Addr × Obj)) (s : Shared) (σ : St) (H : Hp) (Q : VK), Inv X pins σ H s → t σ H Q → wpAny (model X.prog X.w) X.A (eval e X.env) (EP X pins σ Q) X.xe s
def PT (X : Cx) (e : Expr) (t : TT) : Prop :=
  ∀ (pins : List (Addr × Obj)) (s : Shared) (σ : St) (H : Hp) (Q : Bool → Hp → Prop), Inv X pins σ H s → t σ H Q → wpAny (model X.prog X.w) X.A (isTrue e X.env (eval e X.env)) (TP X pins σ Q) X.xe s
/-- a test whatever its 'whole' is (and, or) -/
def PW (X : Cx) (e : Expr) (t : TT) : Prop :=
  ∀ (whole : Sem Value) (pins : List (Addr × Obj)) (s : Shared) (σ : St) (H : Hp) (Q : Bool → Hp → Prop), Inv X pins σ H s → t σ H Q → wpAny (model X.prog X.w) X.A (isTrue e X.env whole) (TP X pins σ Q) X.xe s
theorem PW.pt {X : Cx} {e : Expr} {t : TT} (h : PW X e t) : PT X e t := h _
/-- an argument list (no star), from the left -/
def PA (X : Cx) (es : List Expr) (t : TA) : Prop :=
  ∀ (pos : Pos) (pins : List (Addr × Obj)) (s : Shared) (σ : St) (H : Hp) (Q : List V → Hp → Prop), Inv X pins σ H s → t σ H Q → wpAny (model X.prog X.w) X.A (spliced (backTo pos (starEach es X.env))) (AP X pins σ Q) X.xe s
def PS (X : Cx) (st : Stmt) (t : TS) : Prop :=
  ∀ (pins : List (Addr × Obj)) (s : Shared) (σ : St) (H : Hp) (D : Ends), Inv X pins σ H s → t D σ H → wpAny (model X.prog X.w) X.A (exec st X.env) (SP X pins D) X.xe s
def PSs (X : Cx) (st : List Stmt) (t : TS) : Prop :=
  ∀ (pins : List (Addr × Obj)) (s : Shared) (σ : St) (H : Hp) (D : Ends), Inv X pins σ H s → t D σ H → wpAny (model X.prog X.w) X.A (execs st X.env) (SP X pins D) X.xe s
/-- weaken the end -/
theorem thn {α : Type} {t : Sem α} {Q Q' : α → Shared → Prop} {M : Model} {A : Around} {E : Value → Shared → Prop} {s : Shared} (h : wpAny M A t Q E s) (hQ : ∀ a s, Q a s → Q' a s) : wpAny M A t Q' E s := wpAny_mono h hQ fun _ _ x => x
end L2

namespace L2
open PySem PySem.Spec PyProof.Rows
section
variable {X : Cx}

/-- two expressions in a row -/
theorem bin {a b : Expr} {ta tb : TE} (ha : PE X a ta) (hb : PE X b tb) {pins : List (Addr × Obj)} {s : Shared} {σ : St} {H : Hp} {R : V → V → Hp → Prop} (I : Inv X pins σ H s) (h : ta σ H fun x H1 => tb σ H1 fun y H2 => R x y H2)
    {α : Type} {Q : α → Shared → Prop} {f : Value → Value → Sem α}
    (hf : ∀ v u s2 x y H2, Inv X pins σ H2 s2 → RelV x v → RelV y u → R x y H2 → wpAny (model X.prog X.w) X.A (f v u) Q X.xe s2) :
    wpAny (model X.prog X.w) X.A (eval a X.env) (fun v s₁ => wpAny (model X.prog X.w) X.A (eval b X.env) (fun u s₂ => wpAny (model X.prog X.w) X.A (f v u) Q X.xe s₂) X.xe s₁) X.xe s := by
  refine thn (ha pins s σ H _ I h) fun v s1 ⟨x, H1, I1, r1, q1⟩ => ?_
  refine thn (hb pins s1 σ H1 _ I1 q1) fun u s2 ⟨y, H2, I2, r2, q2⟩ => ?_
  exact hf v u s2 x y H2 I2 r1 r2 q2

/-! ### names and constants -/
def tVar (i : Nat) : TE := fun σ H Q => ∃ v, σ[i]? = some (some v) ∧ Q v H
def tC (v : V) : TE := fun _ H Q => Q v H
theorem pe_var {i : Nat} {x : Str} {pos : Pos} (hN : X.N[i]? = some x) (hv : Vis X.env.scope x) (hd : (x == ("__debug__" : Str)) = false := by decide) (hcd : (x == ("__classdict__" : Str)) = false := by decide) : PE X (.Name x pos) (tVar i) := by
  intro pins s σ H Q I h
  obtain ⟨v, e, h⟩ := h
  obtain ⟨m, hn, hl⟩ := I.loc
  obtain ⟨u, r, l⟩ := hl i x v hN e hv
  have fin : EP X pins σ Q u s := ⟨v, H, I, r, h⟩
  rcases l with ⟨hk, hm⟩ | ⟨hk, c, hc, hcell⟩
  · exact wpAny_Name (wpAny_loadName_local I.ok.kind hk hn hm fin) hd
  · rcases hk with hk | hk
    · exact wpAny_Name (wpAny_loadName_cell I.ok.kind hk hc hcell fin) hd
    · exact wpAny_Name (wpAny_loadName_free I.ok.kind hk hc hcell fin hcd) hd
theorem pe_int {i j pos} : PE X (.Constant (.int i) j pos) (tC (.int i)) := fun _ _ _ H _ I h => wpAny_Constant_int ⟨.int i, H, I.tok _, ⟨_, rfl⟩, h⟩
theorem pe_bl {b j pos} : PE X (.Constant (.bool b) j pos) (tC (.bl b)) := fun _ _ _ H _ I h => Constant_bool ⟨.bl b, H, I, rfl, h⟩
theorem pe_non {j pos} : PE X (.Constant .none j pos) (tC .non) := fun _ _ _ H _ I h => Constant_none ⟨.non, H, I, rfl, h⟩
theorem pe_str {x j pos} : PE X (.Constant (.str x) j pos) (tC (.str x)) := fun _ _ _ H _ I h => Calls.Constant_str ⟨.str x, H, I.tok _, ⟨_, rfl⟩, h⟩

/-- a global name of the def -/
def Gl (X : Cx) (x : Str) : Prop := X.env.kindOf x = some .globalImplicit
theorem ld_glob {E : Value → Shared → Prop} {pins : List (Addr × Obj)} {s : Shared} {σ : St} {H : Hp} {x : Str} {u : Value} {pos : Pos} {Q : Value → Shared → Prop} (I : Inv X pins σ H s) (hg : Gl X x) (hm : X.mg x = some u) (h : Q u s)
    (hd : (x == ("__debug__" : Str)) = false := by decide) : wpAny (model X.prog X.w) X.A (eval (.Name x pos) X.env) Q E s :=
  Calls.Name_function_global I.ok.kind hg (Calls.loadGlobal_global (by rw [I.ok.glob]; exact I.mod.glob.keeps I.bk) hm h) hd
theorem ld_blt {E : Value → Shared → Prop} {pins : List (Addr × Obj)} {s : Shared} {σ : St} {H : Hp} {x : Str} {u : Value} {pos : Pos} {Q : Value → Shared → Prop} (I : Inv X pins σ H s) (hg : Gl X x) (hm : X.mg x = none) (hv : bootBuiltins x = some u) (h : Q u s)
    (hn : x ≠ "__name__" := by decide) (hd : (x == ("__debug__" : Str)) = false := by decide) : wpAny (model X.prog X.w) X.A (eval (.Name x pos) X.env) Q E s := by
  obtain ⟨mb, h1, h2⟩ := I.mod.blt
  exact Calls.Name_function_global I.ok.kind hg (Calls.loadGlobal_builtin (by rw [I.ok.glob]; exact I.mod.glob.keeps I.bk) hm (by rw [I.ok.blt]; exact h1.keeps I.bk) ((h2 x hn).trans hv) h) hd
/-- a module's constant, a class, a function, as a value -/
theorem pe_glob {x : Str} {v : V} {u : Value} {pos : Pos} (hg : Gl X x) (hm : X.mg x = some u) (r : RelV v u) (hd : (x == ("__debug__" : Str)) = false := by decide) : PE X (.Name x pos) (tC v) :=
  fun _ _ _ H _ I h => ld_glob I hg hm ⟨v, H, I, r, h⟩ hd
theorem pe_bltn {x : Str} {v : V} {u : Value} {pos : Pos} (hg : Gl X x) (hm : X.mg x = none) (hv : bootBuiltins x = some u) (r : RelV v u) (hn : x ≠ "__name__" := by decide) (hd : (x == ("__debug__" : Str)) = false := by decide) : PE X (.Name x pos) (tC v) :=
  fun _ _ _ H _ I h => ld_blt I hg hm hv ⟨v, H, I, r, h⟩ hn hd

/-! ### arithmetic -/
/-- two ints -/
def t2I (ta tb : TE) (k : Int → Int → Hp → Prop) : St → Hp → Prop := fun σ H => ta σ H fun x H1 => tb σ H1 fun y H2 => ∃ i j, x = .int i ∧ y = .int j ∧ k i j H2
def tAdd (ta tb : TE) : TE := fun σ H Q => t2I ta tb (fun i j H2 => Q (.int (i + j)) H2) σ H
def tSub (ta tb : TE) : TE := fun σ H Q => t2I ta tb (fun i j H2 => Q (.int (i - j)) H2) σ H
/-- the left factor below 2^64 -/
def tMul (ta tb : TE) : TE := fun σ H Q => t2I ta tb (fun i j H2 => (-(2 ^ 64) < i ∧ i < 2 ^ 64) ∧ Q (.int (i * j)) H2) σ H
variable {a b : Expr} {ta tb : TE} {pos : Pos}
/-! ### comparisons -/
def PC (X : Cx) (op : CmpOp) (a b : Expr) (t : TE) : Prop :=
  ∀ (pins : List (Addr × Obj)) (s : Shared) (σ : St) (H : Hp) (Q : VK), Inv X pins σ H s → t σ H Q →
    wpAny (model X.prog X.w) X.A (eval a X.env) (fun v s₁ => wpAny (model X.prog X.w) X.A (eval b X.env) (fun u s₂ => wpAny (model X.prog X.w) X.A (compareOp op v u) (EP X pins σ Q) X.xe s₂) X.xe s₁) X.xe s
def tCmp (p : Int → Int → Bool) (ta tb : TE) : TE := fun σ H Q => t2I ta tb (fun i j H2 => Q (.bl (p i j)) H2) σ H
abbrev tLt : TE → TE → TE := tCmp fun i j => decide (i < j)
abbrev tLe : TE → TE → TE := tCmp fun i j => decide (i ≤ j)
abbrev tGt : TE → TE → TE := tCmp fun i j => decide (j < i)
abbrev tGe : TE → TE → TE := tCmp fun i j => decide (j ≤ i)
abbrev tEqI : TE → TE → TE := tCmp fun i j => decide (i = j)
abbrev tNeI : TE → TE → TE := tCmp fun i j => !decide (i = j)
/-- is None -/
def tIsN (ta : TE) : TE := fun σ H Q => ta σ H fun x H1 => Q (.bl (decide (x = .non))) H1
def tNotN (ta : TE) : TE := fun σ H Q => ta σ H fun x H1 => Q (.bl (!decide (x = .non))) H1
/-- a comparison as a value, as a test -/
def tB (t : TE) : TT := fun σ H Q => t σ H fun x H1 => ∃ c, x = .bl c ∧ Q c H1
theorem pt_cmp {op : CmpOp} {t : TE} (h : PC X op a b t) (h1 : behindInMarks op b = false := by first | exact nobehind _ (by decide) (by decide) | rfl) : PT X (.Compare a [op] [b] pos) (tB t) := by
  intro pins s σ H Q I hw
  refine wpAny_isTrue_Compare1 (thn (h pins s σ H _ I hw) fun v s1 h1 => thn h1 fun u s2 h2 => thn h2 fun c s3 ⟨x, H1, I1, r1, q1⟩ => ?_) h1
  obtain ⟨d, rfl, q⟩ := q1
  cases r1
  exact wpAny_truthy_bool ⟨H1, I1, q⟩
/-- an expression whose value is a bool, as a test -/
theorem pt_val {e : Expr} {t : TE} (h : PE X e t) (he : ∀ whole, isTrue e X.env whole = (do let v ← whole; standAt e.pos; holding [v] (truthy v)) := by intro _; rfl) : PT X e (tB t) := by
  intro pins s σ H Q I hw
  refine isTrue_plain (thn (h pins s σ H _ I hw) fun v s1 ⟨x, H1, I1, r1, q1⟩ => ?_) (he _)
  obtain ⟨d, rfl, q⟩ := q1
  cases r1
  exact wpAny_truthy_bool ⟨H1, I1, q⟩

/-! ### and, or, not -/
variable {tA tB' : TT} {rest : List Expr}
def tAnd (t u : TT) : TT := fun σ H Q => t σ H fun c H1 => if c = true then u σ H1 Q else Q false H1
def tOr (t u : TT) : TT := fun σ H Q => t σ H fun c H1 => if c = true then Q true H1 else u σ H1 Q
def tNot (t : TT) : TT := fun σ H Q => t σ H fun c H1 => Q (!c) H1
theorem pw_and1 (ha : PT X a tA) : PW X (.BoolOp .And [a] pos) tA := by
  intro wh pins s σ H Q I h
  refine isTrue_and (thn (ha pins s σ H Q I h) fun c s1 e => ?_)
  cases c with
  | true => exact isTrue_and_nil e
  | false => exact e
theorem pw_or1 (ha : PT X a tA) : PW X (.BoolOp .Or [a] pos) tA := by
  intro wh pins s σ H Q I h
  refine isTrue_or (thn (ha pins s σ H Q I h) fun c s1 e => ?_)
  cases c with
  | false => exact isTrue_or_nil e
  | true => exact e
theorem pw_and (ha : PT X a tA) (hb : PW X (.BoolOp .And (b :: rest) pos) tB') : PW X (.BoolOp .And (a :: b :: rest) pos) (tAnd tA tB') := by
  intro wh pins s σ H Q I h
  refine isTrue_and (thn (ha pins s σ H _ I h) fun c s1 ⟨H1, I1, q1⟩ => ?_)
  cases c with
  | true => exact hb wh pins s1 σ H1 Q I1 q1
  | false => exact ⟨H1, I1, q1⟩
theorem pw_or (ha : PT X a tA) (hb : PW X (.BoolOp .Or (b :: rest) pos) tB') : PW X (.BoolOp .Or (a :: b :: rest) pos) (tOr tA tB') := by
  intro wh pins s σ H Q I h
  refine isTrue_or (thn (ha pins s σ H _ I h) fun c s1 ⟨H1, I1, q1⟩ => ?_)
  cases c with
  | true => exact ⟨H1, I1, q1⟩
  | false => exact hb wh pins s1 σ H1 Q I1 q1
theorem pt_not (ha : PT X a tA) : PT X (.UnaryOp .Not a pos) (tNot tA) := by
  intro pins s σ H Q I h
  exact isTrue_not (ha pins s σ H (fun c H1 => Q (!c) H1) I h)
/-- .. as values (bools) -/
def tAndV (ta tb : TE) : TE := fun σ H Q => ta σ H fun x H1 => ∃ c, x = .bl c ∧ if c = true then tb σ H1 Q else Q (.bl false) H1
def tOrV (ta tb : TE) : TE := fun σ H Q => ta σ H fun x H1 => ∃ c, x = .bl c ∧ if c = true then Q (.bl true) H1 else tb σ H1 Q
def tNotV (ta : TE) : TE := fun σ H Q => ta σ H fun x H1 => ∃ c, x = .bl c ∧ Q (.bl (!c)) H1
theorem pe_one {op} {t : TE} (h : PE X a t) : PE X (.BoolOp op [a] pos) t := fun pins s σ H Q I hw => BoolOp_one (h pins s σ H Q I hw)
theorem pe_and (ha : PE X a ta) (hb : PE X (.BoolOp .And (b :: rest) pos) tb) : PE X (.BoolOp .And (a :: b :: rest) pos) (tAndV ta tb) := by
  intro pins s σ H Q I h
  refine BoolOp_and (thn (ha pins s σ H _ I h) fun v s1 ⟨x, H1, I1, r1, q1⟩ => ?_)
  obtain ⟨c, rfl, q1⟩ := q1
  cases r1
  refine wpAny_truthy_bool ?_
  cases c with
  | true => exact hb pins s1 σ H1 Q I1 q1
  | false => exact ⟨.bl false, H1, I1, rfl, q1⟩
/-- a if t else b -/
def tIf (t : TT) (ta tb : TE) : TE := fun σ H Q => t σ H fun c H1 => if c = true then ta σ H1 Q else tb σ H1 Q
theorem pe_ifExp {c : Expr} (hc : PT X c tA) (ha : PE X a ta) (hb : PE X b tb) : PE X (.IfExp c a b pos) (tIf tA ta tb) := by
  intro pins s σ H Q I h
  refine wpAny_IfExp (thn (hc pins s σ H _ I h) fun d s1 ⟨H1, I1, q1⟩ => ?_)
  cases d with
  | true => exact ha pins s1 σ H1 Q I1 q1
  | false => exact hb pins s1 σ H1 Q I1 q1
end
end L2

namespace L2
open PySem PySem.Spec PyProof.Rows

/-! ### a list, a tuple that is read: tracked, frozen, or an object of the module -/
def SqL (K : PySem.W.Frag) (H : Hp) (a : Addr) (xs : List V) : Prop :=
  Rd H a (.lst xs) ∨
    ∃ (o : Obj) (its : Array Value) (n : Nat), K.lookup a = some o ∧ o.cls = .type "list" ∧ o.dict = none ∧ o.data = .seq its n ∧ its.size ≤ sizeLine ∧ Vals xs its.toList
def SqT (K : PySem.W.Frag) (H : Hp) (a : Addr) (xs : List V) : Prop :=
  Rd H a (.tup xs) ∨
    ∃ (o : Obj) (its : Array Value) (n : Nat), K.lookup a = some o ∧ o.cls = .type "tuple" ∧ o.data = .seq its n ∧ its.size ≤ sizeLine ∧ Vals xs its.toList
def absV : Value → Option V
  | .none => some .non
  | .bool b => some (.bl b)
  | .int i _ => some (.int i)
  | .str x _ => some (.str x)
  | .bytes b _ => some (.byt b)
  | .float b _ => some (.flt b)
  | .ref a => some (.ref a)
  | .type n => some (.ty n)
  | _ => none
theorem RelV.abs {x : V} {u : Value} (r : RelV x u) : absV u = some x := by
  cases x with
  | non => cases r; rfl
  | bl _ => cases r; rfl
  | int _ => obtain ⟨t, rfl⟩ := r; rfl
  | str _ => obtain ⟨t, rfl⟩ := r; rfl
  | byt _ => obtain ⟨t, rfl⟩ := r; rfl
  | flt _ => obtain ⟨t, rfl⟩ := r; rfl
  | ref _ => cases r; rfl
  | ty _ => cases r; rfl
theorem RelV.inj {x y : V} {u : Value} (r : RelV x u) (q : RelV y u) : x = y := Option.some.inj (r.abs.symm.trans q.abs)
theorem Vals.inj : ∀ {xs ys : List V} {us : List Value}, Vals xs us → Vals ys us → xs = ys
  | _, _, _, .nil, .nil => rfl
  | _, _, _, .cons r t, .cons r' t' => by rw [r.inj r', Vals.inj t t']
section
variable {X : Cx} {pins : List (Addr × Obj)} {σ : St} {H : Hp} {s : Shared} {a : Addr} {xs ys : List V}
theorem SqL.of {K : PySem.W.Frag} (h : H a = some (.lst xs)) : SqL K H a xs := .inl (.inl h)
theorem SqT.of {K : PySem.W.Frag} (h : H a = some (.tup xs)) : SqT K H a xs := .inl (.inl h)
theorem Inv.list (I : Inv X pins σ H s) (h : SqL X.K H a xs) : ∃ its : List Value, Vals xs its ∧ PlainL s.heap a its.toArray ∧ xs.length ≤ sizeLine := by
  rcases h with h | ⟨o, its, n, hk, hc, hd, hs, hz, r⟩
  · obtain ⟨z, its, n, r, e⟩ := h.ok I.hok
    exact ⟨its, r, ⟨_, n, e, rfl, rfl, rfl⟩, z⟩
  · refine ⟨its.toList, r, ⟨o, n, I.kIn a o hk, hc, hd, by simpa using hs⟩, ?_⟩
    have e := r.length
    simp only [Array.length_toList] at e
    omega
theorem Inv.tuple (I : Inv X pins σ H s) (h : SqT X.K H a xs) : ∃ its : List Value, Vals xs its ∧ IsTup s.heap a its.toArray ∧ xs.length ≤ sizeLine := by
  rcases h with h | ⟨o, its, n, hk, hc, hs, hz, r⟩
  · obtain ⟨z, its, r, p⟩ := h.ok I.hok
    exact ⟨its, r, p, z⟩
  · refine ⟨its.toList, r, ⟨o, I.kIn a o hk, hc, n, by simpa using hs⟩, ?_⟩
    have e := r.length
    simp only [Array.length_toList] at e
    omega
theorem Inv.list_inj (I : Inv X pins σ H s) (h : SqL X.K H a xs) (h' : SqL X.K H a ys) : xs = ys := by
  obtain ⟨its, r, ⟨o, n, e, _, _, d⟩, _⟩ := I.list h
  obtain ⟨its', r', ⟨o', n', e', _, _, d'⟩, _⟩ := I.list h'
  rw [e] at e'; cases e'
  rw [d] at d'
  injection d' with d1 _
  have : its = its' := by simpa using congrArg Array.toList d1
  subst this
  exact r.inj r'
theorem Inv.tuple_inj (I : Inv X pins σ H s) (h : SqT X.K H a xs) (h' : SqT X.K H a ys) : xs = ys := by
  obtain ⟨its, r, ⟨o, e, _, n, d⟩, _⟩ := I.tuple h
  obtain ⟨its', r', ⟨o', e', _, n', d'⟩, _⟩ := I.tuple h'
  rw [e] at e'; cases e'
  rw [d] at d'
  injection d' with d1 _
  have : its = its' := by simpa using congrArg Array.toList d1
  subst this
  exact r.inj r'
end

/-! ### another wish about exceptions -/
abbrev Cx.wish (X : Cx) (E : Value → Shared → Prop) : Cx := { X with xe := E }
/-- no exception leaves -/
abbrev Cx.nox (X : Cx) : Cx := X.wish fun _ _ => False
theorem Cx.Ok.wish {X : Cx} (ok : X.Ok) (E : Value → Shared → Prop) : (X.wish E).Ok :=
  ⟨ok.mod, ok.kind, ok.glob, ok.blt, ok.above, ok.inj, ok.has, ok.cab, ok.hd, ok.frames, ok.stk, ok.exf, ok.bs, ok.bsz, ok.noex, ok.exfs, ok.funs, ok.frf⟩
theorem Cx.Ok.unwish {X : Cx} {E : Value → Shared → Prop} (ok : (X.wish E).Ok) : X.Ok :=
  ⟨ok.mod, ok.kind, ok.glob, ok.blt, ok.above, ok.inj, ok.has, ok.cab, ok.hd, ok.frames, ok.stk, ok.exf, ok.bs, ok.bsz, ok.noex, ok.exfs, ok.funs, ok.frf⟩
section
variable {X : Cx} {pins : List (Addr × Obj)} {σ : St} {H : Hp} {s : Shared} {E : Value → Shared → Prop}
theorem Inv.wish (I : Inv X pins σ H s) (E : Value → Shared → Prop) : Inv (X.wish E) pins σ H s := ⟨I.ok.wish E, I.os, I.bare, I.base, I.loc, I.cell, I.free, I.freeC, I.pin, I.hok, I.len⟩
theorem Inv.unwish (I : Inv (X.wish E) pins σ H s) : Inv X pins σ H s := ⟨I.ok.unwish, I.os, I.bare, I.base, I.loc, I.cell, I.free, I.freeC, I.pin, I.hok, I.len⟩
theorem SP.unwish {D : Ends} {f : Flow} {s' : Shared} (h : SP (X.wish E) pins D f s') : SP X pins D f s' := by
  cases f with
  | next => obtain ⟨σ', H', I, q⟩ := h; exact ⟨σ', H', I.unwish, q⟩
  | brk => obtain ⟨σ', H', I, q⟩ := h; exact ⟨σ', H', I.unwish, q⟩
  | cont => obtain ⟨σ', H', I, q⟩ := h; exact ⟨σ', H', I.unwish, q⟩
  | ret u => obtain ⟨v, σ', H', I, r, q⟩ := h; exact ⟨v, σ', H', I.unwish, r, q⟩
theorem PSs.nox {st : List Stmt} {t : TS} (h : PSs X.nox st t) : PSs X st t := fun pins s σ H D I hw =>
  wpAny_mono (h pins s σ H D (I.wish _) hw) (fun _ _ q => q.unwish) fun _ _ z => False.elim z
end

/-! ### blocks and small statements -/
section
variable {X : Cx} {st : Stmt} {rest : List Stmt} {t u : TS} {e : Expr} {te : TE} {pos : Pos}
def tNext : TS := fun D σ H => D.nx σ H
def tSeq (t u : TS) : TS := fun D σ H => t { D with nx := u D } σ H
theorem pss_nil : PSs X [] tNext := fun _ _ σ H _ I h => wpAny_execs_nil ⟨σ, H, I, h⟩
theorem pss_cons (h1 : PS X st t) (h2 : PSs X rest u) : PSs X (st :: rest) (tSeq t u) := by
  intro pins s σ H D I h
  refine wpAny_execs_cons (thn (h1 pins s σ H { D with nx := u D } I h) fun f s1 q => ?_)
  cases f with
  | next =>
    obtain ⟨σ', H', I', q⟩ := q
    exact h2 pins s1 σ' H' D I' q
  | ret v => exact q
  | brk => exact q
  | cont => exact q
theorem pss_one (h1 : PS X st t) : PSs X [st] t := by
  intro pins s σ H D I h
  refine wpAny_execs_cons (thn (h1 pins s σ H D I h) fun f s1 q => ?_)
  cases f with
  | next => exact wpAny_execs_nil q
  | ret v => exact q
  | brk => exact q
  | cont => exact q
def tBreak : TS := fun D σ H => D.bk σ H
def tCont : TS := fun D σ H => D.ct σ H
/-- in a def's body nothing is shown -/
theorem Inv.quiet {pins : List (Addr × Obj)} {σ : St} {H : Hp} {s : Shared} (I : Inv X pins σ H s) : interactive X.env = false := by simp [interactive, I.ok.kind]
/-- an expression whose value is dropped -/
def tDrop (te : TE) : TS := fun D σ H => te σ H fun _ H1 => D.nx σ H1
theorem ps_expr (he : PE X e te) (hs : swapsWith e none pos.line X.env = pure false := by rfl) : PS X (.Expr e pos) (tDrop te) := by
  intro pins s σ H D I h
  exact wpAny_Expr_any (thn (he pins s σ H _ I h) fun v s1 ⟨x, H1, I1, r1, q1⟩ => ⟨σ, H1, I1, q1⟩) I.quiet hs
def tRet (te : TE) : TS := fun D σ H => te σ H D.rt
theorem ps_ret (he : PE X e te) : PS X (.Return (some e) pos) (tRet te) := by
  intro pins s σ H D I h
  exact wpAny_Return_some (thn (he pins s σ H _ I h) fun v s1 ⟨x, H1, I1, r1, q1⟩ => ⟨x, σ, H1, I1, r1, q1⟩)
def tRetN : TS := fun D _ H => D.rt .non H
def tIfS (c : TT) (t u : TS) : TS := fun D σ H => c σ H fun b H1 => if b = true then t D σ H1 else u D σ H1
theorem ps_if {c : Expr} {a b : List Stmt} {tc : TT} (hc : PT X c tc) (ha : PSs X a t) (hb : PSs X b u) : PS X (.If c a b pos) (tIfS tc t u) := by
  intro pins s σ H D I h
  refine wpAny_If (thn (hc pins s σ H _ I h) fun d s1 ⟨H1, I1, q1⟩ => ?_)
  cases d with
  | true => exact ha pins s1 σ H1 D I1 q1
  | false => exact hb pins s1 σ H1 D I1 q1
/-- code that the proof never comes to -/
def tNever : TS := fun _ _ _ => False
end

/-! ### targets -/
abbrev TG := V → St → Hp → (St → Hp → Prop) → Prop
abbrev TGs := List V → St → Hp → (St → Hp → Prop) → Prop
def PG (X : Cx) (target : Expr) (t : TG) : Prop :=
  ∀ (pins : List (Addr × Obj)) (s : Shared) (σ : St) (H : Hp) (v : V) (u : Value) (Q : St → Hp → Prop), Inv X pins σ H s → RelV v u → t v σ H Q →
    wpAny (model X.prog X.w) X.A (assign target X.env u) (fun _ s' => ∃ σ' H', Inv X pins σ' H' s' ∧ Q σ' H') X.xe s
/-- several targets, one after another -/
def PGs (X : Cx) (ts : List Expr) (t : TGs) : Prop :=
  ∀ (pins : List (Addr × Obj)) (s : Shared) (σ : St) (H : Hp) (vs : List V) (us : List Value) (Q : St → Hp → Prop), Inv X pins σ H s → Vals vs us → t vs σ H Q →
    wpAny (model X.prog X.w) X.A (assignInOrder ((assignEach ts X.env).map (·.2)) us) (fun _ s' => ∃ σ' H', Inv X pins σ' H' s' ∧ Q σ' H') X.xe s
/-- o[i] = v, by values -/
abbrev TSet := V → V → V → Hp → (Hp → Prop) → Prop
def PSet (X : Cx) (t : TSet) : Prop :=
  ∀ (pins : List (Addr × Obj)) (s : Shared) (σ : St) (H : Hp) (o i v : V) (ov iv u : Value) (Q : Hp → Prop), Inv X pins σ H s → RelV o ov → RelV i iv → RelV v u → t o i v H Q →
    wpAny (model X.prog X.w) X.A (setItem ov iv u) (fun _ s' => ∃ H', Inv X pins σ H' s' ∧ Q H') X.xe s
/-- a op= b, by values -/
abbrev TIp := V → V → Hp → VK → Prop
def PIp (X : Cx) (op : Operator) (t : TIp) : Prop :=
  ∀ (pins : List (Addr × Obj)) (s : Shared) (σ : St) (H : Hp) (x y : V) (v u : Value) (Q : VK), Inv X pins σ H s → RelV x v → RelV y u → t x y H Q →
    wpAny (model X.prog X.w) X.A (inplaceOp op v u) (EP X pins σ Q) X.xe s
section
variable {X : Cx} {pos : Pos}
def gName (i : Nat) : TG := fun v σ H Q => Q (σ.set i (some v)) H
theorem pg_name {i : Nat} {x : Str} (hN : X.N.Nodup) (hi : X.N[i]? = some x) (hx : Loc X.env.scope x) (hf : X.fn x = true ∨ X.env.scope.names.lookup x = some .local := by first | exact .inl rfl | exact .inr rfl | assumption) : PG X (.Name x pos) (gName i) := by
  intro pins s σ H v u Q I r h
  exact wpAny_assign_Name (store_ok I hN hi hx r (fun s' I' => ⟨_, H, I', h⟩) hf)
def gNil : TGs := fun vs σ H Q => vs = [] ∧ Q σ H
def gCons (t : TG) (u : TGs) : TGs := fun vs σ H Q => ∃ v r, vs = v :: r ∧ t v σ H fun σ' H' => u r σ' H' Q
theorem pgs_nil : PGs X [] gNil := by
  intro pins s σ H vs us Q I r h
  obtain ⟨e, h⟩ := h
  subst e
  cases r
  exact assignInOrder_nil ⟨σ, H, I, h⟩
theorem pgs_cons {e : Expr} {es : List Expr} {t : TG} {u : TGs} (h1 : PG X e t) (h2 : PGs X es u)
    (hs : (assignEach (e :: es) X.env).map (·.2) = assign e X.env :: (assignEach es X.env).map (·.2) := by rfl) : PGs X (e :: es) (gCons t u) := by
  intro pins s σ H vs us Q I r h
  obtain ⟨v, vr, e1, h⟩ := h
  subst e1
  cases r with
  | cons r rr =>
    rw [hs]
    refine assignInOrder_cons (thn (h1 pins s σ H _ _ _ I r h) fun _ s1 ⟨σ1, H1, I1, q1⟩ => ?_)
    exact h2 pins s1 σ1 H1 _ _ Q I1 rr q1
/-- (a, b, ..) = a tuple of that length -/
def gTup (K : PySem.W.Frag) (n : Nat) (t : TGs) : TG := fun v σ H Q => ∃ a xs, v = .ref a ∧ SqT K H a xs ∧ xs.length = n ∧ t xs σ H Q
theorem pg_tup {es : List Expr} {k : Nat} {t : TGs} {n : Nat} (hc : X.calm = true) (h : PGs X es t)
    (hn : (assignEach es X.env).length = n := by rfl) (hst : (assignEach es X.env).findIdx? (·.1) = none := by rfl) : PG X (.Tuple es k pos) (gTup X.K n t) := by
  intro pins s σ H v u Q I r hw
  obtain ⟨a, xs, e1, hq, hl, hw⟩ := hw
  subst e1
  cases r
  obtain ⟨its, rv, ht, hz⟩ := I.tuple hq
  refine assign_Tuple_tuple (I.ok.hd hc) ht (by simp [hn, ← hl, rv.length]) hst fun h' hx => ?_
  have I1 : Inv X pins σ H { s with heap := h' } := I.kept (t' := s.toks) fun b o e => hx b o (Nat.ne_of_lt (Heap.lt_size e)) e
  exact h pins _ σ H xs _ Q I1 (by simpa using rv) hw
/-- o[i] = .. -/
def gSub (to ti : TE) (t : TSet) : TG := fun v σ H Q => to σ H fun o H1 => ti σ H1 fun i H2 => t o i v H2 fun H3 => Q σ H3
/-- target = value -/
def tAsg (te : TE) (g : TG) : TS := fun D σ H => te σ H fun x H1 => g x σ H1 D.nx
theorem ps_asg {tg e : Expr} {te : TE} {g : TG} (he : PE X e te) (hg : PG X tg g) (hs : swapsWithSole [tg] e pos.line X.env = pure false := by rfl) (hw : swappedStores [tg] e X.env = pure none := by rfl)
    (h1 : (assignEach [tg] X.env).map (·.2) = [assign tg X.env] := by rfl) : PS X (.Assign [tg] e pos) (tAsg te g) := by
  intro pins s σ H D I h
  refine wpAny_Assign_stores (thn (he pins s σ H _ I h) fun v s1 ⟨x, H1, I1, r1, q1⟩ => ?_) hs hw
  rw [h1]
  exact thn (hg pins s1 σ H1 x v _ I1 r1 q1) fun _ s2 q => q
/-- name = value -/
theorem ps_set {i : Nat} {x : Str} {e : Expr} {te : TE} {pos' : Pos} (hN : X.N.Nodup) (hi : X.N[i]? = some x) (hx : Loc X.env.scope x) (he : PE X e te) (hs : swapsWith e (some (.Name x pos')) pos.line X.env = pure false := by rfl) (hf : X.fn x = true ∨ X.env.scope.names.lookup x = some .local := by first | exact .inl rfl | exact .inr rfl | assumption) :
    PS X (.Assign [.Name x pos'] e pos) (tAsg te (gName i)) := by
  intro pins s σ H D I h
  refine wpAny_Assign_Name (thn (he pins s σ H _ I h) fun v s1 ⟨y, H1, I1, r1, q1⟩ => ?_) hs
  exact store_ok I1 hN hi hx r1 (fun s2 I2 => ⟨_, H1, I2, q1⟩) hf
/-- a, b = x, y with plain local names: stored from the right; the pair itself is not tracked (the opening rows as in PyProof/Rows/TupAssign.lean:23) -/
def tPar (i j : Nat) (ta : TA) : TS := fun D σ H => ta σ H fun vs H1 => ∃ v w, vs = [v, w] ∧ D.nx ((σ.set i (some v)).set j (some w)) H1
/-- name op= e -/
def tAug (i : Nat) (te : TE) (ti : TIp) : TS := fun D σ H => ∃ x, σ[i]? = some (some x) ∧ te σ H fun y H1 => ti x y H1 fun z H2 => D.nx (σ.set i (some z)) H2
/-- o[i] op= e -/
def tAugS (to ti te : TE) (tget : V → V → Hp → VK → Prop) (tip : TIp) (tset : TSet) : TS := fun D σ H => to σ H fun o H1 => ti σ H1 fun i H2 => tget o i H2 fun x H3 => te σ H3 fun y H4 => tip x y H4 fun z H5 => tset o i z H5 fun H6 => D.nx σ H6
/-- o[i], by values -/
def PGet (X : Cx) (t : V → V → Hp → VK → Prop) : Prop :=
  ∀ (pins : List (Addr × Obj)) (s : Shared) (σ : St) (H : Hp) (o i : V) (ov iv : Value) (Q : VK), Inv X pins σ H s → RelV o ov → RelV i iv → t o i H Q →
    wpAny (model X.prog X.w) X.A (getItem ov iv) (EP X pins σ Q) X.xe s
/-- ints -/
def ipI (f : Int → Int → Int) : TIp := fun x y H Q => ∃ i j, x = .int i ∧ y = .int j ∧ Q (.int (f i j)) H
end

/-! ### while -/
section
variable {X : Cx} {pos : Pos}
/-- the invariant W with its measure -/
def tWhile (c : TT) (tb : TS) : TS := fun D σ H => ∃ W : Nat → St → Hp → Prop, (∃ m, W m σ H) ∧ ∀ m σ H, W m σ H →
  c σ H fun b H1 => if b = true then ∃ N : St → Hp → Prop, (∀ σ' H', N σ' H' → ∃ m', m' < m ∧ W m' σ' H') ∧ tb { D with nx := N, ct := N, bk := D.nx } σ H1 else D.nx σ H1
theorem ps_while {c : Expr} {body : List Stmt} {tc : TT} {tb : TS} (hp : PassesOwn (model X.prog X.w) X.A X.env X.xe) (hc : PT X c tc) (hb : PSs X body tb) : PS X (.While c body [] pos) (tWhile tc tb) := by
  intro pins s σ H D I h
  obtain ⟨W, ⟨m0, w0⟩, turn⟩ := h
  refine wpAny_While (codeAny_whileLoop (fun n s' => ∃ σ' H', Inv X pins σ' H' s' ∧ W n σ' H') ?_ m0 ⟨σ, H, I, w0⟩)
  rintro n s1 ⟨σ1, H1, I1, w1⟩
  refine wpAny_passesOwn hp (thn (hc pins s1 σ1 H1 _ I1 (turn n σ1 H1 w1)) fun b s2 ⟨H2, I2, q2⟩ => ?_)
  cases b with
  | true =>
    obtain ⟨N, hN, q2⟩ := q2
    rw [if_pos rfl]
    refine wpAny_passesOwn hp (thn (hb pins s2 σ1 H2 _ I2 q2) fun f s3 q3 => ?_)
    cases f with
    | next =>
      obtain ⟨σ3, H3, I3, n3⟩ := q3
      obtain ⟨m', hm, w3⟩ := hN σ3 H3 n3
      exact ⟨m', hm, σ3, H3, I3, w3⟩
    | cont =>
      obtain ⟨σ3, H3, I3, n3⟩ := q3
      obtain ⟨m', hm, w3⟩ := hN σ3 H3 n3
      exact ⟨m', hm, σ3, H3, I3, w3⟩
    | brk => exact q3
    | ret v => exact q3
  | false =>
    rw [if_neg Bool.false_ne_true]
    exact wpAny_execs_nil ⟨σ1, H2, I2, q2⟩
end

/-! ### what a loop or a comprehension walks -/
/-- at turn i: it yields x (the heap may grow), or it stops -/
structure It where
  go : Nat → Hp → Prop
  yld : Nat → Hp → V → Hp → Prop
  stop : Nat → Hp → Prop
/-- the iterator's own objects may turn: they are not the frame's, not pinned, younger than the entry (or a comprehension's own) -/
def FpOk (X : Cx) (pins : List (Addr × Obj)) (H : Hp) (b : Addr) : Prop :=
  H b = none ∧ b ≠ X.env.locals ∧ b ∉ X.fs ∧ (b ∈ X.ex ∨ X.s₀.heap.objs.size ≤ b) ∧ (∀ x c, X.env.cells.lookup x = some c → c ≠ b) ∧ ∀ p ∈ X.pn ++ pins, p.1 ≠ b
theorem Inv.fpOk {X : Cx} {pins : List (Addr × Obj)} {σ : St} {H H' : Hp} {s : Shared} {b : Addr} (I : Inv X pins σ H s) (hb : s.heap.objs.size ≤ b) (hn : H' b = none) : FpOk X pins H' b := by
  refine ⟨hn, Nat.ne_of_gt (Nat.lt_of_lt_of_le I.lt hb), I.nofs hb, .inr (Nat.le_trans I.sz hb), fun x c e z => ?_, fun p hp z => ?_⟩
  · obtain ⟨v, q⟩ := I.cell x c e
    exact absurd (Nat.lt_of_lt_of_le q.lt (by rw [z]; exact hb)) (Nat.lt_irrefl _)
  · exact absurd (Nat.lt_of_lt_of_le (Heap.lt_size (I.pin p hp).1) (by rw [z]; exact hb)) (Nat.lt_irrefl _)
structure Turn (P : Program) (w : World) (K : PySem.W.Frag) (tg : Expr) (J : It) (fp : List Addr) (it : Addr) (tn : Nat → Heap → Prop) : Prop where
  mem : it ∈ fp
  obj : ∀ i h, tn i h → ∀ b ∈ fp, ∃ o, h.get? b = some o ∧ ∀ v, o.data ≠ .cell v
  keep : ∀ i h h', tn i h → (∀ b ∈ fp, ∀ o, h.get? b = some o → h'.get? b = some o) → tn i h'
  item : ∀ (X : Cx), X.prog = P → X.w = w → X.K = K → X.calm = true → ∀ (i : Nat) (pins : List (Addr × Obj)) (s : Shared) (σ : St) (H : Hp) (E : Value → Shared → Prop), Inv X pins σ H s → (∀ b ∈ fp, FpOk X pins H b) → tn i s.heap → J.go i H →
    wpAny (model P w) X.A (pyNext (.ref it)) (fun r s1 => ∃ u, r = some u ∧
      wpAny (model P w) X.A (letOwnedTupleGo tg (.ref it) u) (fun _ s2 => ∃ x H', Inv X pins σ H' s2 ∧ RelV x u ∧ J.yld i H x H' ∧ tn (i + 1) s2.heap ∧ ∀ b ∈ fp, H' b = none) E s1) E s
  done : ∀ (X : Cx), X.prog = P → X.w = w → X.K = K → X.calm = true → ∀ (i : Nat) (pins : List (Addr × Obj)) (s : Shared) (σ : St) (H : Hp) (E : Value → Shared → Prop), Inv X pins σ H s → (∀ b ∈ fp, FpOk X pins H b) → tn i s.heap → J.stop i H →
    wpAny (model P w) X.A (pyNext (.ref it)) (fun r s1 => r = none ∧ Inv X pins σ H s1) E s
  self : ∀ (A : Around) (i : Nat) (s : Shared) (Q : Value → Shared → Prop) (E : Value → Shared → Prop), tn i s.heap → Q (.ref it) s → wpAny (model P w) A (pyIter (.ref it)) Q E s
abbrev TI := St → Hp → (It → Hp → Prop) → Prop
/-- an iterator has come -/
def PIE (X : Cx) (pins : List (Addr × Obj)) (σ : St) (tg : Expr) (R : It → Hp → Prop) (itv : Value) (s2 : Shared) : Prop :=
  ∃ (it : Addr) (fp : List Addr) (tn : Nat → Heap → Prop) (J : It) (H' : Hp), itv = .ref it ∧ Inv X pins σ H' s2 ∧ Turn X.prog X.w X.K tg J fp it tn ∧ tn 0 s2.heap ∧ (∀ b ∈ fp, FpOk X pins H' b) ∧ R J H'
def PI (X : Cx) (tg iter : Expr) (wi : TI) : Prop :=
  ∀ (pins : List (Addr × Obj)) (s : Shared) (σ : St) (H : Hp) (R : It → Hp → Prop), Inv X pins σ H s → wi σ H R →
    wpAny (model X.prog X.w) X.A (eval iter X.env) (fun v s1 => wpAny (model X.prog X.w) X.A (pyIter v) (PIE X pins σ tg R) X.xe s1) X.xe s

/-- the step ahead of the store is nothing for an iterator that keeps no tuple -/
theorem go_of {M : Model} {A : Around} {E : Value → Shared → Prop} {s : Shared} {tg : Expr} {it : Addr} {u : Value} {o : Obj} {n : String} {vs : Array Value} {Q : Unit → Shared → Prop} (ho : s.heap.get? it = some o) (hc : o.cls = .type n) (hd : o.data = .fields vs)
    (hn : ["enumerate", "zip", "dict_itemiterator", "dict_reverseitemiterator", "odict_iterator", "itertools.zip_longest", "itertools.pairwise"].contains n = false) (hQ : Q () s) : wpAny M A (letOwnedTupleGo tg (.ref it) u) Q E s := by
  unfold letOwnedTupleGo
  cases tg <;> first
    | exact wpAny_pure hQ
    | (cases u <;> first
        | exact wpAny_pure hQ
        | (refine wpAny_bind (wpAny_load ho ?_)
           rw [hc, hd]
           show wpAny M A (if (["enumerate", "zip", "dict_itemiterator", "dict_reverseitemiterator", "odict_iterator", "itertools.zip_longest", "itertools.pairwise"].contains n && vs[0]? == some (rawInt _)) = true then _ else _) Q E s
           rw [if_neg (by intro h; rw [hn, Bool.false_and] at h; cases h)]
           exact wpAny_pure hQ))

/-- the list at a, as it stands at each turn (a loop may append to it) -/
def Itl (K : PySem.W.Frag) (a : Addr) : It :=
  ⟨fun i H => ∃ xs x, SqL K H a xs ∧ xs[i]? = some x, fun i H x H' => H' = H ∧ ∀ xs, SqL K H a xs → xs[i]? = some x, fun i H => ∃ xs, SqL K H a xs ∧ xs.length ≤ i⟩
def Itt (K : PySem.W.Frag) (a : Addr) : It :=
  ⟨fun i H => ∃ xs x, SqT K H a xs ∧ xs[i]? = some x, fun i H x H' => H' = H ∧ ∀ xs, SqT K H a xs → xs[i]? = some x, fun i H => ∃ xs, SqT K H a xs ∧ xs.length ≤ i⟩
/-- lo, lo + 1, .. (n of them) -/
def Itr (lo : Int) (n : Nat) : It := ⟨fun i _ => i < n, fun i H x H' => H' = H ∧ x = .int (lo + i), fun i _ => n ≤ i⟩
theorem turn_list {P : Program} {w : World} {K : PySem.W.Frag} {tg : Expr} (a it : Addr) : Turn P w K tg (Itl K a) [it] it (fun i h => h.IsListIter it a i) where
  mem := by simp
  obj := fun i h st b hb => by
    have e : b = it := by simpa using hb
    subst e
    obtain ⟨o, e, c, d⟩ := st
    exact ⟨o, e, fun v z => by rw [d] at z; cases z⟩
  keep := fun i h h' st k => st.at fun o e => k it (by simp) o e
  item := by
    intro X hP hw hK hc i pins s σ H E I hf st hg
    subst hP hw hK
    obtain ⟨xs, x, hq, hx⟩ := hg
    obtain ⟨its, rv, p, hz⟩ := I.list hq
    obtain ⟨u, hu, ru⟩ := rv.get hx
    obtain ⟨f0, f1, f2, f3, f4, f5⟩ := hf it (by simp)
    refine wpAny_pyNext_list_item st p.isList (x := u) (by simpa using hu) fun h' st' sb => ?_
    have I1 : Inv X pins σ H { s with heap := h' } := I.turned (t' := s.toks) (fun b o hb e => (sb.2 b hb).trans e) f0 f1 f3 f4 f5
    obtain ⟨o, e, c, d⟩ := id st'
    exact ⟨u, rfl, go_of (s := { s with heap := h' }) e c d (by decide) ⟨x, H, I1, ru, ⟨rfl, fun ys hy => by rw [I.list_inj hy hq]; exact hx⟩, st', fun b hb => (hf b hb).1⟩⟩
  done := by
    intro X hP hw hK hc i pins s σ H E I hf st hg
    subst hP hw hK
    obtain ⟨xs, hq, hx⟩ := hg
    obtain ⟨its, rv, p, hz⟩ := I.list hq
    obtain ⟨f0, f1, f2, f3, f4, f5⟩ := hf it (by simp)
    have hl := rv.length
    exact wpAny_pyNext_list_end (I.ok.hd hc) st p.isList (by simp; omega) fun h' eb => ⟨rfl, I.turned (t' := s.toks) (fun b o hb e => eb b o hb e) f0 f1 f3 f4 f5⟩
  self := fun _ _ _ _ _ st h => wpAny_pyIter_listiter st h
theorem turn_tuple {P : Program} {w : World} {K : PySem.W.Frag} {tg : Expr} (a it : Addr) : Turn P w K tg (Itt K a) [it] it (fun i h => h.IsTupleIter it a i) where
  mem := by simp
  obj := fun i h st b hb => by
    have e : b = it := by simpa using hb
    subst e
    obtain ⟨o, e, c, d⟩ := st
    exact ⟨o, e, fun v z => by rw [d] at z; cases z⟩
  keep := fun i h h' st k => st.at fun o e => k it (by simp) o e
  item := by
    intro X hP hw hK hc i pins s σ H E I hf st hg
    subst hP hw hK
    obtain ⟨xs, x, hq, hx⟩ := hg
    obtain ⟨its, rv, p, hz⟩ := I.tuple hq
    obtain ⟨u, hu, ru⟩ := rv.get hx
    obtain ⟨f0, f1, f2, f3, f4, f5⟩ := hf it (by simp)
    refine wpAny_pyNext_tuple_item st (show s.heap.IsTuple a its.toArray from p) (x := u) (by simpa using hu) fun h' st' sb => ?_
    have I1 : Inv X pins σ H { s with heap := h' } := I.turned (t' := s.toks) (fun b o hb e => (sb.2 b hb).trans e) f0 f1 f3 f4 f5
    obtain ⟨o, e, c, d⟩ := id st'
    exact ⟨u, rfl, go_of (s := { s with heap := h' }) e c d (by decide) ⟨x, H, I1, ru, ⟨rfl, fun ys hy => by rw [I.tuple_inj hy hq]; exact hx⟩, st', fun b hb => (hf b hb).1⟩⟩
  done := by
    intro X hP hw hK hc i pins s σ H E I hf st hg
    subst hP hw hK
    obtain ⟨xs, hq, hx⟩ := hg
    obtain ⟨its, rv, p, hz⟩ := I.tuple hq
    obtain ⟨f0, f1, f2, f3, f4, f5⟩ := hf it (by simp)
    have hl := rv.length
    exact wpAny_pyNext_tuple_end (I.ok.hd hc) st (show s.heap.IsTuple a its.toArray from p) (by simp; omega) fun h' eb => ⟨rfl, I.turned (t' := s.toks) (fun b o hb e => eb b o hb e) f0 f1 f3 f4 f5⟩
  self := fun _ _ _ _ _ st h => wpAny_pyIter_tupleiter st h
theorem turn_range {P : Program} {w : World} {K : PySem.W.Frag} {tg : Expr} (it : Addr) (lo : Int) (n : Nat) : Turn P w K tg (Itr lo n) [it] it (fun i h => IsRangeIter h it (lo + (i : Nat) * 1) ((n : Int) - (i : Nat)) 1) where
  mem := by simp
  obj := fun i h st b hb => by
    have e : b = it := by simpa using hb
    subst e
    exact ⟨_, st, fun v z => by
      have z' : Data.fields _ = Data.cell v := z
      cases z'⟩
  keep := fun i h h' st k => k it (by simp) _ st
  item := by
    intro X hP hw hK hc i pins s σ H E I hf st hg
    subst hP hw hK
    obtain ⟨f0, f1, f2, f3, f4, f5⟩ := hf it (by simp)
    have W := Walks.range (prog := X.prog) (w := X.w) (I.ok.hd hc) it lo 1 n
    refine W.item i s _ _ hg st fun v h' tk hv st' kk => ?_
    obtain ⟨t, rfl⟩ := hv
    have I1 : Inv X pins σ H { s with heap := h', toks := tk } := I.turned (fun b o hb e => kk b o (by simpa using hb) e) f0 f1 f3 f4 f5
    refine ⟨_, rfl, go_of (s := { s with heap := h', toks := tk }) (n := "range_iterator") st' rfl rfl (by decide) ⟨.int (lo + i), H, I1, ⟨t, ?_⟩, ⟨rfl, rfl⟩, st', fun b hb => (hf b hb).1⟩⟩
    rw [Int.mul_one]
  done := by
    intro X hP hw hK hc i pins s σ H E I hf st hg
    subst hP hw hK
    obtain ⟨f0, f1, f2, f3, f4, f5⟩ := hf it (by simp)
    exact wpAny_pyNext_range_end (I.ok.hd hc) st (by have : n ≤ i := hg; omega) fun h' eb => ⟨rfl, I.turned (t' := s.toks) (fun b o hb e => eb b o hb e) f0 f1 f3 f4 f5⟩
  self := fun _ _ _ _ _ st h => wpAny_pyIter_rangeiter st h
end L2

namespace L2
open PySem PySem.Spec PyProof.Rows
section
variable {X : Cx} {tg : Expr}
def iList (K : PySem.W.Frag) (tl : TE) : TI := fun σ H R => tl σ H fun x H1 => ∃ a, x = .ref a ∧ (∃ xs, SqL K H1 a xs) ∧ R (Itl K a) H1
def iTup (K : PySem.W.Frag) (tl : TE) : TI := fun σ H R => tl σ H fun x H1 => ∃ a, x = .ref a ∧ (∃ xs, SqT K H1 a xs) ∧ R (Itt K a) H1
theorem pi_list {l : Expr} {tl : TE} (hl : PE X l tl) : PI X tg l (iList X.K tl) := by
  intro pins s σ H R I h
  refine thn (hl pins s σ H _ I h) fun v s1 ⟨x, H1, I1, r1, q1⟩ => ?_
  obtain ⟨a, e, ⟨xs, hq⟩, q⟩ := q1
  subst e
  cases r1
  obtain ⟨its, rv, p, hz⟩ := I1.list hq
  refine wpAny_pyIter_list p.isList ?_
  refine ⟨s1.heap.objs.size, [s1.heap.objs.size], _, _, H1, rfl, I1.kept (t' := s1.toks) fun b o e => Heap.get?_push_of_some _ e, turn_list a _, ⟨_, Heap.get?_push_size _ rfl, rfl, rfl⟩, fun b hb => ?_, q⟩
  have e : b = s1.heap.objs.size := by simpa using hb
  subst e
  exact I1.fpOk (Nat.le_refl _) (I1.hok.fresh (Nat.le_refl _))
theorem pi_tup {l : Expr} {tl : TE} (hl : PE X l tl) : PI X tg l (iTup X.K tl) := by
  intro pins s σ H R I h
  refine thn (hl pins s σ H _ I h) fun v s1 ⟨x, H1, I1, r1, q1⟩ => ?_
  obtain ⟨a, e, ⟨xs, hq⟩, q⟩ := q1
  subst e
  cases r1
  obtain ⟨its, rv, p, hz⟩ := I1.tuple hq
  refine wpAny_pyIter_tuple (show s1.heap.IsTuple a its.toArray from p) ?_
  refine ⟨s1.heap.objs.size, [s1.heap.objs.size], _, _, H1, rfl, I1.kept (t' := s1.toks) fun b o e => Heap.get?_push_of_some _ e, turn_tuple a _, ⟨_, Heap.get?_push_size _ rfl, rfl, rfl⟩, fun b hb => ?_, q⟩
  have e : b = s1.heap.objs.size := by simpa using hb
  subst e
  exact I1.fpOk (Nat.le_refl _) (I1.hok.fresh (Nat.le_refl _))
/-- a range object just made, walked -/
theorem range_it {pins : List (Addr × Obj)} {σ : St} {H : Hp} {s : Shared} {R : It → Hp → Prop} {E : Value → Shared → Prop} {lo hi : Int} {t u v : Tok} {tk : Nat} (I : Inv X pins σ H s) (h1 : -(2 ^ 62) ≤ lo) (h2 : lo < 2 ^ 62) (h3 : -(2 ^ 62) ≤ hi) (h4 : hi < 2 ^ 62)
    (q : R (Itr lo (hi - lo).toNat) H) : wpAny (model X.prog X.w) X.A (pyIter (.ref s.heap.objs.size)) (PIE X pins σ tg R) E { s with heap := s.heap.push { cls := .type "range", data := .fields #[.int lo t, .int hi u, .int 1 v] }, toks := tk } := by
  refine wpAny_pyIter_range (IsRange.new ..) (small_one h1 h2 h3 h4) ?_
  have I1 : Inv X pins σ H { s with heap := s.heap.push { cls := .type "range", data := .fields #[.int lo t, .int hi u, .int 1 v] }, toks := tk } := I.kept fun b o e => Heap.get?_push_of_some _ e
  refine ⟨(s.heap.push { cls := .type "range", data := .fields #[.int lo t, .int hi u, .int 1 v] }).objs.size, [(s.heap.push { cls := .type "range", data := .fields #[.int lo t, .int hi u, .int 1 v] }).objs.size], _, _, H, rfl,
    I1.kept (t' := tk) fun b o e => Heap.get?_push_of_some _ e, turn_range _ lo (hi - lo).toNat, ?_, fun b hb => ?_, q⟩
  · have e1 : lo + ((0 : Nat) : Int) * 1 = lo := by simp
    have e2 : (((hi - lo).toNat : Nat) : Int) - ((0 : Nat) : Int) = Builtin.Range.rangeSize lo hi 1 := by rw [rangeSize_one]; split <;> omega
    show IsRangeIter _ _ (lo + ((0 : Nat) : Int) * 1) ((((hi - lo).toNat : Nat) : Int) - ((0 : Nat) : Int)) 1
    rw [e1, e2]
    exact Heap.get?_push_size _ rfl
  · have e : b = (s.heap.push { cls := .type "range", data := .fields #[.int lo t, .int hi u, .int 1 v] }).objs.size := by simpa using hb
    subst e
    exact I1.fpOk (Nat.le_refl _) (I1.hok.fresh (Nat.le_refl _))
def iRng1 (ta : TA) : TI := fun σ H R => ta σ H fun vs H1 => ∃ j : Int, vs = [.int j] ∧ -(2 ^ 62) ≤ j ∧ j < 2 ^ 62 ∧ R (Itr 0 j.toNat) H1
def iRng2 (ta : TA) : TI := fun σ H R => ta σ H fun vs H1 => ∃ i j : Int, vs = [.int i, .int j] ∧ (-(2 ^ 62) ≤ i ∧ i < 2 ^ 62 ∧ -(2 ^ 62) ≤ j ∧ j < 2 ^ 62) ∧ R (Itr i (j - i).toNat) H1
theorem pi_range1 {a : Expr} {ta : TA} {p pos : Pos} (hg : Gl X "range") (hm : X.mg "range" = none) (ha : PA X [a] ta) (hs : starEach [a] X.env = [(false, eval a X.env)] := by rfl) : PI X tg (.Call (.Name "range" p) [a] [] pos) (iRng1 ta) := by
  intro pins s σ H R I h
  refine Call_ (ld_blt I hg hm boot_range (PyProof.Rows.callWith_type1 (thn (ha pos pins s σ H _ I h) fun us s1 ⟨vs, H1, I1, r1, q1⟩ => ?_) hs rfl))
  obtain ⟨j, e, q1, q2, q⟩ := q1
  subst e
  cases r1 with
  | cons r rr =>
    cases rr
    obtain ⟨t, rfl⟩ := r
    exact call_range_1 (range_it I1 (by omega) (by omega) q1 q2 (by simpa using q))
/-! ### for -/
/-- W: the invariant by the turn and a measure; N: what the body is to reach -/
def tFor (wi : TI) (g : TG) (tb : TS) : TS := fun D σ H => wi σ H fun J H1 => ∃ W : Nat → Nat → St → Hp → Prop, (∃ m, W 0 m σ H1) ∧ ∀ i m σ H, W i m σ H →
  (J.stop i H ∧ D.nx σ H) ∨ (J.go i H ∧ ∃ N : St → Hp → Prop, (∀ σ' H', N σ' H' → ∃ m', m' < m ∧ W (i + 1) m' σ' H') ∧ ∀ x H', J.yld i H x H' → g x σ H' fun σ2 H2 => tb { D with nx := N, ct := N, bk := D.nx } σ2 H2)
/-- the records at fp as they stand -/
def pinsAt (fp : List Addr) (h : Heap) : List (Addr × Obj) := fp.filterMap fun b => (h.get? b).map fun o => (b, o)
theorem mem_pinsAt {fp : List Addr} {h : Heap} {b : Addr} {o : Obj} (hb : b ∈ fp) (e : h.get? b = some o) : (b, o) ∈ pinsAt fp h := List.mem_filterMap.mpr ⟨b, hb, by rw [e]; rfl⟩
theorem of_pinsAt {fp : List Addr} {h : Heap} {p : Addr × Obj} (hp : p ∈ pinsAt fp h) : p.1 ∈ fp ∧ h.get? p.1 = some p.2 := by
  obtain ⟨b, hb, e⟩ := List.mem_filterMap.mp hp
  cases q : h.get? b with
  | none => rw [q] at e; cases e
  | some o =>
    rw [q] at e
    have e' : (b, o) = p := Option.some.inj e
    subst e'
    exact ⟨hb, q⟩
theorem Inv.pinned {pins : List (Addr × Obj)} {σ : St} {H : Hp} {s : Shared} {fp : List Addr} (I : Inv X pins σ H s) (hf : ∀ b ∈ fp, FpOk X pins H b) (ho : ∀ b ∈ fp, ∃ o, s.heap.get? b = some o ∧ ∀ v, o.data ≠ .cell v) : Inv X (pins ++ pinsAt fp s.heap) σ H s :=
  I.pins_of fun p hp => (List.mem_append.mp hp).elim (fun z => I.pin p (List.mem_append_right _ z)) fun z => by
    obtain ⟨hb, e⟩ := of_pinsAt z
    obtain ⟨f0, f1, f2, _⟩ := hf p.1 hb
    obtain ⟨o, e', d⟩ := ho p.1 hb
    rw [e] at e'; cases e'
    exact ⟨e, f0, f1, f2, d⟩
theorem Inv.unpinned {pins pl : List (Addr × Obj)} {σ : St} {H : Hp} {s : Shared} (I : Inv X (pins ++ pl) σ H s) : Inv X pins σ H s := I.pins_of fun p hp => I.pin p (List.mem_append_right _ (List.mem_append_left _ hp))
theorem ps_for {iter : Expr} {body : List Stmt} {wi : TI} {g : TG} {tb : TS} {pos : Pos} (hp : PassesOwn (model X.prog X.w) X.A X.env X.xe) (hc : X.calm = true) (hi : PI X tg iter wi) (hg : PG X tg g) (hb : PSs X body tb)
    (hs : ∀ x, foldedSetIterable iter X.env x = pure x := by intro _; rfl) : PS X (.For tg iter body [] pos) (tFor wi g tb) := by
  intro pins s σ H D I h
  refine wpAny_For (thn (hi pins s σ H _ I h) fun v s1 h1 => thn h1 fun itv s2 h2 => ?_) hs
  obtain ⟨it, fp, tn, J, H2, e, I2, T, st2, f2, W, ⟨m0, w0⟩, turn⟩ := h2
  subst e
  -- what stays true of the iterator's objects through the loop
  have stat : ∀ {H' : Hp}, (∀ b ∈ fp, H' b = none) → ∀ b ∈ fp, FpOk X pins H' b := fun hn b hb => ⟨hn b hb, (f2 b hb).2⟩
  refine codeAny_forLoop_any (fun n s' => ∃ i σ' H', Inv X pins σ' H' s' ∧ tn i s'.heap ∧ (∀ b ∈ fp, H' b = none) ∧ W i n σ' H') ?_ m0 ⟨0, σ, H2, I2, st2, fun b hb => (f2 b hb).1, w0⟩
  rintro n s3 ⟨i, σ3, H3, I3, st3, fr3, w3⟩
  rcases turn i n σ3 H3 w3 with ⟨stop, qn⟩ | ⟨go, N, hN, step⟩
  · refine wpAny_passesOwn hp (thn (T.done X rfl rfl rfl hc i pins s3 σ3 H3 X.xe I3 (stat fr3) st3 stop) fun r s4 ⟨hr, I4⟩ => ?_)
    subst hr
    exact wpAny_execs_nil ⟨σ3, H3, I4, qn⟩
  · refine wpAny_passesOwn hp (thn (T.item X rfl rfl rfl hc i pins s3 σ3 H3 X.xe I3 (stat fr3) st3 go) fun r s4 ⟨u, hr, h4⟩ => ?_)
    subst hr
    refine wpAny_passesOwn hp (thn h4 fun _ s5 ⟨x, H5, I5, r5, y5, st5, fr5⟩ => ?_)
    have I5' := I5.pinned (stat fr5) (T.obj _ _ st5)
    refine wpAny_passesOwn hp (thn (hg _ s5 σ3 H5 x u _ I5' r5 (step x H5 y5)) fun _ s6 ⟨σ6, H6, I6, q6⟩ => ?_)
    refine wpAny_passesOwn hp (thn (hb _ s6 σ6 H6 _ I6 q6) fun f s7 q7 => ?_)
    have again : ∀ {σ7 : St} {H7 : Hp}, Inv X (pins ++ pinsAt fp s5.heap) σ7 H7 s7 → N σ7 H7 → ∃ m, m < n ∧ ∃ i σ' H', Inv X pins σ' H' s7 ∧ tn i s7.heap ∧ (∀ b ∈ fp, H' b = none) ∧ W i m σ' H' := fun {σ7 H7} I7 n7 => by
      obtain ⟨m', hm, w7⟩ := hN σ7 H7 n7
      refine ⟨m', hm, i + 1, σ7, H7, I7.unpinned, T.keep _ _ _ st5 fun b hb o e => (I7.pin (b, o) (List.mem_append_right _ (List.mem_append_right _ (mem_pinsAt hb e)))).1, fun b hb => ?_, w7⟩
      obtain ⟨o, e, d⟩ := T.obj _ _ st5 b hb
      exact (I7.pin (b, o) (List.mem_append_right _ (List.mem_append_right _ (mem_pinsAt hb e)))).2.1
    cases f with
    | next => obtain ⟨σ7, H7, I7, n7⟩ := q7; exact again I7 n7
    | cont => obtain ⟨σ7, H7, I7, n7⟩ := q7; exact again I7 n7
    | brk => obtain ⟨σ7, H7, I7, q7⟩ := q7; exact ⟨σ7, H7, I7.unpinned, q7⟩
    | ret v => obtain ⟨x7, σ7, H7, I7, r7, q7⟩ := q7; exact ⟨x7, σ7, H7, I7.unpinned, r7, q7⟩
end

/-! ### the forms one uses -/
/-- over a list that the body leaves as it is -/
theorem for_list {K : PySem.W.Frag} {a : Addr} {xs : List V} {g : TG} {tb : TS} {D : Ends} {σ : St} {H : Hp} (Pv : Nat → St → Hp → Prop) (h0 : Pv 0 σ H) (hl : ∀ i σ H, i ≤ xs.length → Pv i σ H → SqL K H a xs)
    (hs : ∀ i x σ H, xs[i]? = some x → Pv i σ H → g x σ H fun σ2 H2 => tb { D with nx := Pv (i + 1), ct := Pv (i + 1), bk := D.nx } σ2 H2) (hd : ∀ σ H, Pv xs.length σ H → D.nx σ H) :
    ∃ W : Nat → Nat → St → Hp → Prop, (∃ m, W 0 m σ H) ∧ ∀ i m σ H, W i m σ H →
      ((Itl K a).stop i H ∧ D.nx σ H) ∨ ((Itl K a).go i H ∧ ∃ N : St → Hp → Prop, (∀ σ' H', N σ' H' → ∃ m', m' < m ∧ W (i + 1) m' σ' H') ∧ ∀ x H', (Itl K a).yld i H x H' → g x σ H' fun σ2 H2 => tb { D with nx := N, ct := N, bk := D.nx } σ2 H2) := by
  refine ⟨fun i m σ H => m = xs.length - i ∧ i ≤ xs.length ∧ Pv i σ H, ⟨xs.length, by simp, Nat.zero_le _, h0⟩, ?_⟩
  rintro i m σ H ⟨rfl, hi, p⟩
  have q := hl i σ H hi p
  by_cases hlt : i < xs.length
  · refine .inr ⟨⟨xs, xs[i], q, by simp [hlt]⟩, Pv (i + 1), fun σ' H' p' => ⟨xs.length - (i + 1), by omega, rfl, hlt, p'⟩, fun x H' y => ?_⟩
    obtain ⟨e, y⟩ := y
    subst e
    exact hs i x σ _ (y xs q) p
  · have e : i = xs.length := by omega
    subst e
    exact .inl ⟨⟨xs, q, Nat.le_refl _⟩, hd σ H p⟩
theorem for_tup {K : PySem.W.Frag} {a : Addr} {xs : List V} {g : TG} {tb : TS} {D : Ends} {σ : St} {H : Hp} (Pv : Nat → St → Hp → Prop) (h0 : Pv 0 σ H) (hl : ∀ i σ H, i ≤ xs.length → Pv i σ H → SqT K H a xs)
    (hs : ∀ i x σ H, xs[i]? = some x → Pv i σ H → g x σ H fun σ2 H2 => tb { D with nx := Pv (i + 1), ct := Pv (i + 1), bk := D.nx } σ2 H2) (hd : ∀ σ H, Pv xs.length σ H → D.nx σ H) :
    ∃ W : Nat → Nat → St → Hp → Prop, (∃ m, W 0 m σ H) ∧ ∀ i m σ H, W i m σ H →
      ((Itt K a).stop i H ∧ D.nx σ H) ∨ ((Itt K a).go i H ∧ ∃ N : St → Hp → Prop, (∀ σ' H', N σ' H' → ∃ m', m' < m ∧ W (i + 1) m' σ' H') ∧ ∀ x H', (Itt K a).yld i H x H' → g x σ H' fun σ2 H2 => tb { D with nx := N, ct := N, bk := D.nx } σ2 H2) := by
  refine ⟨fun i m σ H => m = xs.length - i ∧ i ≤ xs.length ∧ Pv i σ H, ⟨xs.length, by simp, Nat.zero_le _, h0⟩, ?_⟩
  rintro i m σ H ⟨rfl, hi, p⟩
  have q := hl i σ H hi p
  by_cases hlt : i < xs.length
  · refine .inr ⟨⟨xs, xs[i], q, by simp [hlt]⟩, Pv (i + 1), fun σ' H' p' => ⟨xs.length - (i + 1), by omega, rfl, hlt, p'⟩, fun x H' y => ?_⟩
    obtain ⟨e, y⟩ := y
    subst e
    exact hs i x σ _ (y xs q) p
  · have e : i = xs.length := by omega
    subst e
    exact .inl ⟨⟨xs, q, Nat.le_refl _⟩, hd σ H p⟩
end L2

namespace L2
open PySem PySem.Spec PyProof.Rows

abbrev R2 := V → V → Hp → VK → Prop
/-- a two-place operation on values: f is binaryOp op, inplaceOp op or compareOp op -/
def OpR (X : Cx) (f : Value → Value → Sem Value) (r : R2) : Prop :=
  ∀ (pins : List (Addr × Obj)) (s : Shared) (σ : St) (H : Hp) (x y : V) (v u : Value) (Q : VK), Inv X pins σ H s → RelV x v → RelV y u → r x y H Q →
    wpAny (model X.prog X.w) X.A (f v u) (EP X pins σ Q) X.xe s
/-- a one-place operation -/
def UnR (X : Cx) (f : Value → Sem Value) (r : V → Hp → VK → Prop) : Prop :=
  ∀ (pins : List (Addr × Obj)) (s : Shared) (σ : St) (H : Hp) (x : V) (v : Value) (Q : VK), Inv X pins σ H s → RelV x v → r x H Q →
    wpAny (model X.prog X.w) X.A (f v) (EP X pins σ Q) X.xe s
/-- a call of a value that is known (a builtin, a type) with values -/
def CallR (X : Cx) (f : Value) (r : List V → Hp → VK → Prop) : Prop :=
  ∀ (pins : List (Addr × Obj)) (s : Shared) (σ : St) (H : Hp) (xs : List V) (us : List Value) (Q : VK), Inv X pins σ H s → Vals xs us → r xs H Q →
    wpAny (model X.prog X.w) X.A (call f us) (EP X pins σ Q) X.xe s
/-- a value's truth -/
def TruR (X : Cx) (r : V → Hp → (Bool → Hp → Prop) → Prop) : Prop :=
  ∀ (pins : List (Addr × Obj)) (s : Shared) (σ : St) (H : Hp) (x : V) (v : Value) (Q : Bool → Hp → Prop), Inv X pins σ H s → RelV x v → r x H Q →
    wpAny (model X.prog X.w) X.A (truthy v) (TP X pins σ Q) X.xe s

def tOp (r : R2) (ta tb : TE) : TE := fun σ H Q => ta σ H fun x H1 => tb σ H1 fun y H2 => r x y H2 Q
def tUn (r : V → Hp → VK → Prop) (ta : TE) : TE := fun σ H Q => ta σ H fun x H1 => r x H1 Q
/-- ints in, under C, and a value out -/
def rI (C : Int → Int → Prop) (g : Int → Int → V) : R2 := fun x y H Q => ∃ i j, x = .int i ∧ y = .int j ∧ C i j ∧ Q (g i j) H
def rI0 (g : Int → Int → V) : R2 := fun x y H Q => ∃ i j, x = .int i ∧ y = .int j ∧ Q (g i j) H
def rU (g : Int → V) : V → Hp → VK → Prop := fun x H Q => ∃ i, x = .int i ∧ Q (g i) H

section
variable {X : Cx} {a b c : Expr} {ta tb tc : TE} {pos : Pos}

theorem binT (ha : PE X a ta) (hb : PE X b tb) {pins : List (Addr × Obj)} {s : Shared} {σ : St} {H : Hp} {R : V → V → Hp → Prop} (I : Inv X pins σ H s)
    (h : ta σ H fun x H1 => tb σ H1 fun y H2 => R x y H2) {Q : Value → Shared → Prop} {f : Value → Value → Sem Value}
    (hf : ∀ v u s2 x y H2, Inv X pins σ H2 s2 → RelV x v → RelV y u → R x y H2 → wpAny (model X.prog X.w) X.A (f v u) Q X.xe s2) :
    wpAny (model X.prog X.w) X.A (eval a X.env) (fun v s₁ => wpAny (model X.prog X.w) X.A (eval b X.env) (fun u s₂ => wpAny (model X.prog X.w) X.A (f v u) Q X.xe s₂) X.xe s₁) X.xe s := by
  refine thn (ha pins s σ H _ I h) fun v s1 ⟨x, H1, I1, r1, q1⟩ => ?_
  refine thn (hb pins s1 σ H1 _ I1 q1) fun u s2 ⟨y, H2, I2, r2, q2⟩ => ?_
  exact hf v u s2 x y H2 I2 r1 r2 q2

theorem pe_op {op : Operator} {r : R2} (ho : OpR X (binaryOp op) r) (ha : PE X a ta) (hb : PE X b tb) : PE X (.BinOp a op b pos) (tOp r ta tb) := by
  intro pins s σ H Q I h
  exact wpAny_BinOp (binT ha hb I h fun v u s2 x y H2 I2 rx ry q => ho pins s2 σ H2 x y v u Q I2 rx ry q)
theorem pe_un {op : UnaryOp} {r : V → Hp → VK → Prop} (ho : UnR X (unaryOp op) r) (ha : PE X a ta) : PE X (.UnaryOp op a pos) (tUn r ta) := by
  intro pins s σ H Q I h
  exact UnaryOp_ (thn (ha pins s σ H _ I h) fun v s1 ⟨x, H1, I1, r1, q1⟩ => ho pins s1 σ H1 x v Q I1 r1 q1)
/-! ### ints -/
theorem opI {f : Value → Value → Sem Value} {C : Int → Int → Prop} {g : Int → Int → Int}
    (rule : ∀ (i j : Int) (t u : Tok) (s : Shared) (Q : Value → Shared → Prop) (E : Value → Shared → Prop), C i j → Q (.int (g i j) s.toks) { s with toks := s.toks + 1 } → wpAny (model X.prog X.w) X.A (f (.int i t) (.int j u)) Q E s) :
    OpR X f (rI C fun i j => .int (g i j)) := by
  intro pins s σ H x y v u Q I rx ry h
  obtain ⟨i, j, rfl, rfl, hc, q⟩ := h
  obtain ⟨t, rfl⟩ := rx
  obtain ⟨t', rfl⟩ := ry
  exact rule i j t t' s _ _ hc ⟨.int (g i j), H, I.tok _, ⟨_, rfl⟩, q⟩
theorem opI0 {f : Value → Value → Sem Value} {g : Int → Int → Int}
    (rule : ∀ (i j : Int) (t u : Tok) (s : Shared) (Q : Value → Shared → Prop) (E : Value → Shared → Prop), Q (.int (g i j) s.toks) { s with toks := s.toks + 1 } → wpAny (model X.prog X.w) X.A (f (.int i t) (.int j u)) Q E s) :
    OpR X f (rI0 fun i j => .int (g i j)) := by
  intro pins s σ H x y v u Q I rx ry h
  obtain ⟨i, j, rfl, rfl, q⟩ := h
  obtain ⟨t, rfl⟩ := rx
  obtain ⟨t', rfl⟩ := ry
  exact rule i j t t' s _ _ ⟨.int (g i j), H, I.tok _, ⟨_, rfl⟩, q⟩
theorem opB0 {f : Value → Value → Sem Value} {g : Int → Int → Bool}
    (rule : ∀ (i j : Int) (t u : Tok) (s : Shared) (Q : Value → Shared → Prop) (E : Value → Shared → Prop), Q (.bool (g i j)) s → wpAny (model X.prog X.w) X.A (f (.int i t) (.int j u)) Q E s) :
    OpR X f (rI0 fun i j => .bl (g i j)) := by
  intro pins s σ H x y v u Q I rx ry h
  obtain ⟨i, j, rfl, rfl, q⟩ := h
  obtain ⟨t, rfl⟩ := rx
  obtain ⟨t', rfl⟩ := ry
  exact rule i j t t' s _ _ ⟨.bl (g i j), H, I, rfl, q⟩

def CDiv (i j : Int) : Prop := 0 < j ∧ j < 1073741824
def CDivN (i j : Int) : Prop := j ≠ 0 ∧ j.natAbs < 1073741824
def CPow (i j : Int) : Prop := 0 ≤ j ∧ j ≤ 1000000 ∧ i.natAbs < 2 ^ 64
def CMul (i j : Int) : Prop := (-(2 ^ 64) < i ∧ i < 2 ^ 64) ∨ (-(2 ^ 64) < j ∧ j < 2 ^ 64)
theorem CMul.ok {i j : Int} (h : CMul i j) : IntMulOk i j := by
  rcases h with ⟨h1, h2⟩ | ⟨h1, h2⟩
  · exact .of_left (intBits_le_64 h1 h2)
  · exact .of_right (intBits_le_64 h1 h2)
theorem op_add : OpR X (binaryOp .Add) (rI0 fun i j => .int (i + j)) := opI0 fun _ _ _ _ _ _ _ q => add_int q
theorem op_sub : OpR X (binaryOp .Sub) (rI0 fun i j => .int (i - j)) := opI0 fun _ _ _ _ _ _ _ q => sub_int q
/-- // by a positive divisor -/
theorem op_fdiv : OpR X (binaryOp .FloorDiv) (rI CDiv fun i j => .int (i / j)) := opI fun i j _ _ _ _ _ hc q => by
  have h1 : (0 : Int) < j := hc.1
  have h2 : j < 1073741824 := hc.2
  exact floordiv_int (by omega) (by rw [Int.fdiv_eq_ediv_of_nonneg i (by omega)]; exact q) (.inl (PyProof.noPylong_small (by omega)))
/-- % by a positive divisor of any size -/
theorem op_mod : OpR X (binaryOp .Mod) (rI (fun _ j => 0 < j) fun i j => .int (i % j)) := opI fun i j _ _ _ _ _ hc q => by
  have h1 : (0 : Int) < j := hc
  exact mod_int' (by omega) (by rw [Int.fmod_eq_emod_of_nonneg i (by omega)]; exact q)
theorem op_pow : OpR X (binaryOp .Pow) (rI CPow fun i j => .int (i ^ j.toNat)) := opI fun _ _ _ _ _ _ _ hc q => pow_int_small hc.1 hc.2.1 hc.2.2 q
theorem unI {f : Value → Sem Value} {g : Int → Int}
    (rule : ∀ (i : Int) (t : Tok) (s : Shared) (Q : Value → Shared → Prop) (E : Value → Shared → Prop), Q (.int (g i) s.toks) { s with toks := s.toks + 1 } → wpAny (model X.prog X.w) X.A (f (.int i t)) Q E s) :
    UnR X f (rU fun i => .int (g i)) := by
  intro pins s σ H x v Q I rx h
  obtain ⟨i, rfl, q⟩ := h
  obtain ⟨t, rfl⟩ := rx
  exact rule i t s _ _ ⟨.int (g i), H, I.tok _, ⟨_, rfl⟩, q⟩
theorem un_neg : UnR X (unaryOp .USub) (rU fun i => .int (-i)) := unI fun _ _ _ _ _ q => neg_int q
/-! ### bools among ints: n += (a < b) -/
end

/-! ### comparisons -/
/-- the scalars that == tells apart as data does -/
def scal : V → V → Bool
  | .non, .non => true | .non, .int _ => true | .int _, .non => true | .non, .bl _ => true | .bl _, .non => true | .non, .str _ => true | .str _, .non => true
  | .int _, .int _ => true | .bl _, .bl _ => true | .str _, .str _ => true | .byt _, .byt _ => true
  | .int _, .str _ => true | .str _, .int _ => true | .bl _, .str _ => true | .str _, .bl _ => true
  | _, _ => false
def rEq : R2 := fun x y H Q => scal x y = true ∧ Q (.bl (decide (x = y))) H
def rNe : R2 := fun x y H Q => scal x y = true ∧ Q (.bl (!decide (x = y))) H

section
variable {X : Cx} {a b c : Expr} {ta tb tc : TE} {pos : Pos}
theorem fin_bl {pins : List (Addr × Obj)} {σ : St} {H : Hp} {s : Shared} {Q : VK} {k k' : Bool} (I : Inv X pins σ H s) (q : Q (.bl k) H) (e : k = k') : EP X pins σ Q (.bool k') s := by
  subst e
  exact ⟨.bl k, H, I, rfl, q⟩
theorem op_lt : OpR X (compareOp .Lt) (rI0 fun i j => .bl (decide (i < j))) := opB0 fun _ _ _ _ _ _ _ q => lt_int q
theorem op_gt : OpR X (compareOp .Gt) (rI0 fun i j => .bl (decide (j < i))) := opB0 fun _ _ _ _ _ _ _ q => gt_int q
theorem op_ge : OpR X (compareOp .GtE) (rI0 fun i j => .bl (decide (j ≤ i))) := opB0 fun _ _ _ _ _ _ _ q => ge_int q
theorem op_notin_str : OpR X (compareOp .NotIn) (fun x y H Q => ∃ i j, x = .str i ∧ y = .str j ∧ Q (.bl (!(!(Builtin.Str.occurrences j i 0 j.length 1).isEmpty))) H) := by
  intro pins s σ H x y v u Q I rx ry h
  obtain ⟨i, j, rfl, rfl, q⟩ := h
  obtain ⟨t, rfl⟩ := rx
  obtain ⟨t', rfl⟩ := ry
  exact notIn_str (fin_bl I q rfl)
/-- is, is not of two objects that are tracked lists or instances -/
def isObj : HO → Bool
  | .lst _ => true
  | .ins _ _ _ => true
  | _ => false
/-- two rules for one operation: by cases -/
theorem OpR.or {f : Value → Value → Sem Value} {r r' : R2} (h : OpR X f r) (h' : OpR X f r') : OpR X f (fun x y H Q => r x y H Q ∨ r' x y H Q) := by
  intro pins s σ H x y v u Q I rx ry q
  rcases q with q | q
  · exact h pins s σ H x y v u Q I rx ry q
  · exact h' pins s σ H x y v u Q I rx ry q

theorem nomark (b : Expr) {op : CmpOp} (h : op ≠ .In := by decide) (h2 : op ≠ .NotIn := by decide) : behindInMarks op b = false := by
  have e1 : (op == CmpOp.In) = false := by cases op <;> first | rfl | exact absurd rfl h
  have e2 : (op == CmpOp.NotIn) = false := by cases op <;> first | rfl | exact absurd rfl h2
  cases b <;> simp [behindInMarks, e1, e2]
/-- a comparison as a value; hm: nomark b, or (for in, not in) by with_unfolding_all rfl -/
theorem pe_cmpR {op : CmpOp} {r : R2} (ho : OpR X (compareOp op) r) (ha : PE X a ta) (hb : PE X b tb) (hm : behindInMarks op b = false) : PE X (.Compare a [op] [b] pos) (tOp r ta tb) := by
  intro pins s σ H Q I h
  exact wpAny_Compare1 (binT ha hb I h fun v u s2 x y H2 I2 rx ry q => ho pins s2 σ H2 x y v u Q I2 rx ry q) hm
/-- a reading of a value as a test -/
def tTest (t : TE) : TT := fun σ H Q => t σ H fun x H' => ∃ k, x = .bl k ∧ Q k H'
theorem pt_cmpR {op : CmpOp} {r : R2} (ho : OpR X (compareOp op) r) (ha : PE X a ta) (hb : PE X b tb) (hm : behindInMarks op b = false) : PT X (.Compare a [op] [b] pos) (tTest (tOp r ta tb)) := by
  intro pins s σ H Q I h
  refine wpAny_isTrue_Compare1 (thn (ha pins s σ H _ I h) fun v s1 ⟨x, H1, I1, r1, q1⟩ => thn (hb pins s1 σ H1 _ I1 q1) fun u s2 ⟨y, H2, I2, r2, q2⟩ =>
    thn (ho pins s2 σ H2 x y v u _ I2 r1 r2 q2) fun c s3 ⟨z, H3, I3, r3, k, e, q3⟩ => ?_) hm
  subst e
  cases r3
  exact wpAny_truthy_bool ⟨H3, I3, q3⟩
/-- a op1 b op2 c -/
def tChain (r r' : R2) (ta tb tc : TE) : TE := fun σ H Q => ta σ H fun x H1 => tb σ H1 fun y H2 => r x y H2 fun z H3 => ∃ k, z = .bl k ∧
  (if k = true then tc σ H3 fun w' H4 => r' y w' H4 Q else Q (.bl false) H3)
/-! ### truth -/
/-- a value's truth by the abstract heap -/
def TruV (K : PySem.W.Frag) (x : V) (H : Hp) (k : Bool) : Prop :=
  match x with
  | .non => k = false
  | .bl b => k = b
  | .int i => k = (i != 0)
  | .str y => y.length ≤ sizeLine ∧ k = ((y.length : Int) != 0)
  | .byt y => y.size ≤ sizeLine ∧ k = ((y.size : Int) != 0)
  | .ref p => (∃ xs, SqL K H p xs ∧ k = !xs.isEmpty) ∨ (∃ xs, SqT K H p xs ∧ k = !xs.isEmpty) ∨ ∃ kvs, H p = some (.dK kvs) ∧ k = !kvs.isEmpty
  | _ => False
theorem line63 : (sizeLine : Nat) < 2 ^ 63 := by rw [sizeLine_eq]; decide
/-! ### strs and bytes -/
theorem op_add_str : OpR X (binaryOp .Add) (fun x y H Q => ∃ i j, x = .str i ∧ y = .str j ∧ i.length + j.length ≤ sizeLine ∧ Q (.str (i ++ j)) H) := by
  intro pins s σ H x y v u Q I rx ry h
  obtain ⟨i, j, rfl, rfl, hz, q⟩ := h
  obtain ⟨t, rfl⟩ := rx
  obtain ⟨t', rfl⟩ := ry
  exact add_str (fun t' tk => ⟨.str (i ++ j), H, I.tok _, ⟨_, rfl⟩, q⟩) hz
def PlainIxT (b : Expr) : Prop := ∀ o i, subscripted b false o i = operate [o, i] (getItem o i)
/-! ### scalar builtins, by CallR -/
theorem vals1 {x : V} {us : List Value} (r : Vals [x] us) : ∃ u, us = [u] ∧ RelV x u := by
  cases r with
  | cons r1 r2 => cases r2; exact ⟨_, rfl, r1⟩
theorem vals2 {x y : V} {us : List Value} (r : Vals [x, y] us) : ∃ u w', us = [u, w'] ∧ RelV x u ∧ RelV y w' := by
  cases r with
  | cons r1 r2 =>
    cases r2 with
    | cons r3 r4 => cases r4; exact ⟨_, _, rfl, r1, r3⟩
theorem call_abs : CallR X (.builtin "abs") (fun xs H Q => ∃ i, xs = [.int i] ∧ Q (.int (if i < 0 then -i else i)) H) := by
  intro pins s σ H xs us Q I r h
  obtain ⟨i, rfl, q⟩ := h
  obtain ⟨u, rfl, t, rfl⟩ := vals1 r
  exact call_abs_int fun u tk => ⟨.int (if i < 0 then -i else i), H, I.tok _, ⟨_, rfl⟩, q⟩
theorem call_str_int : CallR X (.type "str") (fun xs H Q => ∃ i, xs = [.int i] ∧ i.natAbs.log2 < 1920 ∧ Q (.str (toString i)) H) := by
  intro pins s σ H xs us Q I r h
  obtain ⟨i, rfl, hz, q⟩ := h
  obtain ⟨u, rfl, t, rfl⟩ := vals1 r
  exact PySem.P.str_of_int hz ⟨.str _, H, I.tok _, ⟨_, rfl⟩, q⟩
/-- len of a str, a bytes, a list, a tuple -/
def LenV (K : PySem.W.Frag) (x : V) (H : Hp) (n : Nat) : Prop :=
  match x with
  | .str y => y.length ≤ sizeLine ∧ n = y.length
  | .byt y => y.size ≤ sizeLine ∧ n = y.size
  | .ref p => (∃ xs, SqL K H p xs ∧ n = xs.length) ∨ ∃ xs, SqT K H p xs ∧ n = xs.length
  | _ => False
end
end L2

namespace L2
open PySem PySem.Spec PyProof.Rows

/-! ### an instance, its attributes a map -/
structure ObjM (h : Heap) (x dx C : Addr) (mA : Str → Option Value) : Prop where
  obj : h.get? x = some (PySem.W.instObj C dx)
  ns : h.Ns1 dx mA
  ne : dx ≠ x

theorem lookIn_ns {h : Heap} {dx : Addr} {mA : Str → Option Value} (n : h.Ns1 dx mA) : ∃ od, h.get? dx = some od ∧ ∀ name, PySem.W.lookIn name od = some (mA name) := by
  obtain ⟨o, es, ep, ho, hd, hk, _, hm⟩ := n
  refine ⟨o, ho, fun name => ?_⟩
  have e := hm name
  unfold nsFind findBy at e
  rw [← Array.find?_toList] at e
  unfold PySem.W.lookIn
  rw [hd]
  dsimp only
  split
  · rename_i y q
    rw [q] at e
    exact congrArg some e
  · rename_i q
    rw [q] at e
    have a : es.toList.any (·.refKey) = false := by
      rw [List.any_eq_false]
      intro y hy
      obtain ⟨z, t, hkey⟩ := hk y (Array.mem_toList_iff.mp hy)
      simp [DictEntry.refKey, hkey]
    have a' : ¬ es.toList.any (·.refKey) = true := by rw [a]; exact Bool.false_ne_true
    rw [if_neg a']
    exact congrArg some e

theorem ObjM.look {h : Heap} {x dx C : Addr} {mA : Str → Option Value} (I : ObjM h x dx C mA) : ∃ od, PySem.W.InstAt h x (PySem.W.instObj C dx) C (some od) ∧ ∀ name, PySem.W.lookIn name od = some (mA name) :=
  let ⟨od, ho, hl⟩ := lookIn_ns I.ns
  ⟨od, ⟨I.obj, rfl, rfl, ho⟩, hl⟩

section
variable {prog : Program} {w : World} {A : Around} {E : Value → Shared → Prop} {s : Shared} {K : PySem.W.Frag} {x dx C f : Addr} {mA : Str → Option Value} {name : Str} {v : Value}

end

/-! ### the attributes as a list of pairs -/
def putF (f : Str) (v : V) : List (Str × V) → List (Str × V)
  | [] => [(f, v)]
  | (g, x) :: r => if g = f then (g, v) :: r else (g, x) :: putF f v r
section
variable {P : Program} {w : World} {H H' : Hp} {h h' : Heap} {a C dx : Addr} {fs fs' : List (Str × V)}
theorem ins_get (hok : HOk P w H h) (e : H a = some (.ins C dx fs)) : ∃ mA, ObjM h a dx C mA ∧ (∀ f, RelO (fs.lookup f) (mA f)) ∧ PySem.Within mA (fs.map (·.1)) ∧ fs.length ≤ 1000 ∧ H dx = some (.own a) := by
  obtain ⟨d, z, ne, ob, mA, n, r, q⟩ := (show ObjOk P w H h a (.ins C dx fs) from hok a _ e)
  exact ⟨mA, ⟨ob, n, ne⟩, r, q, z, d⟩
end

/-! ### what of the text a class must have -/
structure Cls (K : PySem.W.Frag) (C : Addr) : Prop where
  pg : PySem.W.plainGet K C Str.empty = true
  hd : PySem.W.hasDictIn K C = true
  po : PySem.W.plainOver K C = true
  sa : PySem.W.findIn K (.ref C) "__setattr__" = some (some (.builtin "object.__setattr__"))
theorem Cls.get {K : PySem.W.Frag} {C : Addr} (c : Cls K C) (f : Str) : PySem.W.plainGet K C f = true := c.pg
/-- no class of it has the name -/
def NoAttr (K : PySem.W.Frag) (C : Addr) (f : Str) : Prop := PySem.W.findIn K (.ref C) f = some none
/-- a constant of the class -/
structure Con (K : PySem.W.Frag) (C : Addr) (f : Str) (v : V) (u : Value) : Prop where
  at_ : PySem.W.findIn K (.ref C) f = some (some u)
  rel : RelV v u
  get : PySem.W.specialIn K u "__get__" = some none
  cp : PySem.W.copiedNames.contains f = false
/-- a method: a plain def of the class or of one above it -/
structure Meth (K : PySem.W.Frag) (C : Addr) (m : Str) (f : Addr) : Prop where
  at_ : PySem.W.findIn K (.ref C) m = some (some (.ref f))
  fn : PySem.W.isFn K (.ref f) = true
  kp : PySem.W.keepIn K (.ref f) = true

section
variable {X : Cx} {pins : List (Addr × Obj)} {σ : St} {H : Hp} {s : Shared} {a C dx : Addr} {fs : List (Str × V)} {f : Str} {v : V} {A : Around} {E : Value → Shared → Prop}

end

/-! ### readings and rules -/
/-- e.f, an attribute of the instance -/
def tFld (K : PySem.W.Frag) (ta : TE) (f : Str) : TE := fun σ H Q => ta σ H fun x H1 => ∃ a C dx fs v, x = .ref a ∧ H1 a = some (.ins C dx fs) ∧ Cls K C ∧ NoAttr K C f ∧ fs.lookup f = some v ∧ Q v H1
/-- e.f, a constant of the class -/
def tCon (K : PySem.W.Frag) (ta : TE) (f : Str) : TE := fun σ H Q => ta σ H fun x H1 => ∃ a C dx fs v u, x = .ref a ∧ H1 a = some (.ins C dx fs) ∧ Cls K C ∧ Con K C f v u ∧ fs.lookup f = none ∧ Q v H1
/-- e.f = value -/
def sFld (K : PySem.W.Frag) (ta tv : TE) (f : Str) : TS := fun D σ H => tv σ H fun y H1 => ta σ H1 fun x H2 => ∃ a C dx fs, x = .ref a ∧ H2 a = some (.ins C dx fs) ∧ Cls K C ∧ NoAttr K C f ∧ fs.length < 1000 ∧
  D.nx σ (upd H2 a (.ins C dx (putF f y fs)))
/-- an augmented operator on two values -/
def InOp (X : Cx) (op : Operator) (rd : V → V → Hp → VK → Prop) : Prop :=
  ∀ (pins : List (Addr × Obj)) (s : Shared) (σ : St) (H : Hp) (x y : V) (u v : Value) (Q : VK), Inv X pins σ H s → RelV x u → RelV y v → rd x y H Q → wpAny (model X.prog X.w) X.A (inplaceOp op u v) (EP X pins σ Q) X.xe s
/-- e.f op= value -/
def sFldAug (K : PySem.W.Frag) (ta tv : TE) (rd : V → V → Hp → VK → Prop) (f : Str) : TS := fun D σ H => ta σ H fun x H1 => ∃ a C dx fs v, x = .ref a ∧ H1 a = some (.ins C dx fs) ∧ Cls K C ∧ NoAttr K C f ∧ fs.lookup f = some v ∧
  tv σ H1 fun y H2 => rd v y H2 fun z H3 => ∃ dx' fs', H3 a = some (.ins C dx' fs') ∧ fs'.length < 1000 ∧ D.nx σ (upd H3 a (.ins C dx' (putF f z fs')))

section
variable {X : Cx} {o e value : Expr} {f : Str} {pos pos' tpos : Pos} {ta tv : TE}
def rAdd : V → V → Hp → VK → Prop := fun x y H Q => ∃ i j, x = .int i ∧ y = .int j ∧ Q (.int (i + j)) H
def rSub : V → V → Hp → VK → Prop := fun x y H Q => ∃ i j, x = .int i ∧ y = .int j ∧ Q (.int (i - j)) H
end

/-! ### isinstance -/
section
variable {X : Cx} {pins : List (Addr × Obj)} {σ : St} {H : Hp} {s : Shared} {A : Around} {E : Value → Shared → Prop} {Q : Value → Shared → Prop} {c : Value} {b : Bool}
/-- the type of a value, as the fragment's deciders take it; for an instance its class -/
inductive TyOf (K : PySem.W.Frag) (H : Hp) : V → Value → Prop where
  | non : TyOf K H .non (.type "NoneType")
  | bl (x : Bool) : TyOf K H (.bl x) (.type "bool")
  | int (i : Int) : TyOf K H (.int i) (.type "int")
  | str (x : Str) : TyOf K H (.str x) (.type "str")
  | flt (x : UInt64) : TyOf K H (.flt x) (.type "float")
  | lst {a : Addr} {xs : List V} (e : H a = some (.lst xs)) : TyOf K H (.ref a) (.type "list")
  | frz {a : Addr} {o : Obj} {xs : List V} (e : H a = some (.frz o (.lst xs))) : TyOf K H (.ref a) (.type "list")
  | tup {a : Addr} {xs : List V} (e : H a = some (.tup xs)) : TyOf K H (.ref a) (.type "tuple")
  | dK {a : Addr} {kvs : List (Key × V)} (e : H a = some (.dK kvs)) : TyOf K H (.ref a) (.type "dict")
  | dT {a : Addr} {kvs : List (List Key × V)} (e : H a = some (.dT kvs)) : TyOf K H (.ref a) (.type "dict")
  | ins {a C dx : Addr} {fs : List (Str × V)} (e : H a = some (.ins C dx fs)) (cl : Cls K C) (ha : PySem.W.findIn K (.ref C) "__class__" = some (some (.builtin "object.__class__")))
      (hn : PySem.W.specialIn K (.builtin "object.__class__") "__get__" = some (some (.builtin "getset_descriptor.__get__"))) (htk : PySem.W.takesIn K (.builtin "object.__class__") = some true)
      (hm : PySem.W.mroIn K C (.type "object") = some true) : TyOf K H (.ref a) (.ref C)
/-- isinstance(x, c) for one class c, a built-in or an own one: kitOne's answer -/
theorem isinst_ok {x : V} {u t : Value} (I : Inv X pins σ H s) (rx : RelV x u) (ty : TyOf X.K H x t) (e : PySem.W.kitOne X.K t c = some b) (h : ∀ tk, Q (.bool b) { s with toks := tk }) :
    wpAny (model X.prog X.w) A (call (.builtin "isinstance") [u, c]) Q E s := by
  cases ty with
  | non => cases (show u = Value.none from rx); exact PySem.W.kia_one PySem.W.kitx_none I.kIn True.intro e (fun z => nomatch z) h
  | bl y => cases (show u = Value.bool y from rx); exact PySem.W.kia_one PySem.W.kitx_bool I.kIn True.intro e (fun z => nomatch z) h
  | int i => obtain ⟨t, q⟩ := (show ∃ t, u = Value.int i t from rx); cases q; exact PySem.W.kia_one PySem.W.kitx_int I.kIn True.intro e (fun z => nomatch z) h
  | str y => obtain ⟨t, q⟩ := (show ∃ t, u = Value.str y t from rx); cases q; exact PySem.W.kia_one PySem.W.kitx_str I.kIn True.intro e (fun z => nomatch z) h
  | flt y => obtain ⟨t, q⟩ := (show ∃ t, u = Value.float y t from rx); cases q; exact PySem.W.kia_one PySem.W.kitx_float I.kIn True.intro e (fun z => nomatch z) h
  | @lst a xs ea =>
    cases (show u = Value.ref a from rx)
    obtain ⟨_, _, n, _, h1⟩ := (show ObjOk X.prog X.w H s.heap a (.lst xs) from I.hok a _ ea)
    exact PySem.W.kia_one PySem.W.kitx_list I.kIn ⟨_, h1, rfl⟩ e (fun z => nomatch z) h
  | @frz a ob xs ea =>
    cases (show u = Value.ref a from rx)
    obtain ⟨_, _, _, n, _, h1⟩ := (show ObjOk X.prog X.w H s.heap a (.frz ob (.lst xs)) from I.hok a _ ea)
    exact PySem.W.kia_one PySem.W.kitx_list I.kIn ⟨_, h1, rfl⟩ e (fun z => nomatch z) h
  | @tup a xs ea =>
    cases (show u = Value.ref a from rx)
    obtain ⟨_, _, _, p⟩ := (show ObjOk X.prog X.w H s.heap a (.tup xs) from I.hok a _ ea)
    obtain ⟨o, h1, h2, _⟩ := p
    exact PySem.W.kia_one PySem.W.kitx_tuple I.kIn ⟨o, h1, h2⟩ e (fun z => nomatch z) h
  | @dK a kvs ea =>
    cases (show u = Value.ref a from rx)
    obtain ⟨_, _, vs, _, p⟩ := (show ObjOk X.prog X.w H s.heap a (.dK kvs) from I.hok a _ ea)
    obtain ⟨o, es, ep, h1, h2, _⟩ := p
    exact PySem.W.kia_one PySem.W.kitx_dict I.kIn ⟨o, h1, h2.1⟩ e (fun z => nomatch z) h
  | @dT a kvs ea =>
    cases (show u = Value.ref a from rx)
    obtain ⟨_, _, xs, _, o, es, ep, h1, h2, _⟩ := (show ObjOk X.prog X.w H s.heap a (.dT kvs) from I.hok a _ ea)
    exact PySem.W.kia_one PySem.W.kitx_dict I.kIn ⟨o, h1, h2.1⟩ e (fun z => nomatch z) h
  | @ins a C dx fs ea cl ha hn htk hm =>
    cases (show u = Value.ref a from rx)
    obtain ⟨mA, O, _⟩ := ins_get I.hok ea
    obtain ⟨od, J, _⟩ := O.look
    exact PySem.W.kia_one (PySem.W.kitx_own (cl.get _) cl.hd ha hn htk hm) I.kIn J e (fun z => nomatch z) h
end
end L2

namespace L2
open PySem PySem.Spec PyProof.Rows

/-! ### room -/
structure Room (k : Nat) (A : Around) : Prop where
  hd : A.handled = none
  dp : A.depth + 3 * k + 5 < recursionLimit
  un : A.units + 16 * k + 200 < cLine
theorem Room.mono {j k : Nat} {A : Around} (r : Room k A) (h : j ≤ k) : Room j A := ⟨r.hd, by have := r.dp; omega, by have := r.un; omega⟩
theorem Room.deeper {k : Nat} {A : Around} (r : Room (k + 1) A) (env : Env) : Room k (A.deeper env) :=
  ⟨r.hd, by have := r.dp; show A.depth + 1 + 3 * k + 5 < _; omega, by have := r.un; show A.units + 3 + 16 * k + 200 < _; omega⟩
theorem Room.depth {k : Nat} {A : Around} (r : Room k A) : A.depth < recursionLimit := by have := r.dp; omega
theorem Room.units {k : Nat} {A : Around} (r : Room k A) : A.units + 64 < cLine := by have := r.un; omega
/-! ### argument lists and displays -/
def tNil : TA := fun _ H Q => Q [] H
def tCons (ta : TE) (tr : TA) : TA := fun σ H Q => ta σ H fun x H1 => tr σ H1 fun xs H2 => Q (x :: xs) H2
section
variable {X : Cx} {e : Expr} {es : List Expr} {te : TE} {t : TA} {pos : Pos}
theorem pa_nil : PA X [] tNil := fun _ _ _ _ H Q I h => Calls.spliced_nil ⟨[], H, I, .nil, h⟩
theorem pa_cons (ha : PE X e te) (hr : PA X es t) (hs : starEach (e :: es) X.env = (false, eval e X.env) :: starEach es X.env := by rfl) : PA X (e :: es) (tCons te t) := by
  intro pos pins s σ H Q I h
  rw [hs]
  show wpAny _ _ (spliced ((false, eval e X.env) :: backTo pos (starEach es X.env))) _ _ s
  refine Calls.spliced_cons (thn (ha pins s σ H _ I h) fun u s1 ⟨x, H1, I1, r1, q1⟩ => ?_)
  exact thn (hr pos pins s1 σ H1 _ I1 q1) fun us s2 ⟨xs, H2, I2, r2, q2⟩ => ⟨x :: xs, H2, I2, .cons r1 r2, q2⟩

/-- a tuple, a list of written items -/
def tTup (t : TA) : TE := fun σ H Q => t σ H fun xs H1 => xs.length ≤ sizeLine ∧ ∀ p, H1 p = none → Q (.ref p) (upd H1 p (.tup xs))
def tLst (t : TA) : TE := fun σ H Q => t σ H fun xs H1 => xs.length ≤ sizeLine ∧ ∀ p, H1 p = none → Q (.ref p) (upd H1 p (.lst xs))
theorem pe_tup {x1} (h : PA X es t) : PE X (.Tuple es x1 pos) (tTup t) := by
  intro pins s σ H Q I hq
  refine wpAny_Tuple_spliced (thn (h pos pins s σ H _ I hq) fun us s1 ⟨xs, H1, I1, r, z, q⟩ => ⟨by rw [← r.length]; exact z, ?_⟩)
  have hf : H1 s1.heap.objs.size = none := I1.hok.fresh (Nat.le_refl _)
  refine ⟨.ref s1.heap.objs.size, upd H1 s1.heap.objs.size (.tup xs), I1.laid (t' := s1.toks) (fun b u e => Heap.get?_push_of_some _ e) (Nat.le_refl _) ?_, rfl, q _ hf⟩
  exact ⟨z, us, r, ⟨_, Heap.get?_push_size _ rfl, rfl, _, rfl⟩⟩
theorem pe_lst (h : PA X es t) : PE X (.List es pos) (tLst t) := by
  intro pins s σ H Q I hq
  refine wpAny_List_spliced (thn (h pos pins s σ H _ I hq) fun us s1 ⟨xs, H1, I1, r, z, q⟩ => ⟨by rw [← r.length]; exact z, ?_⟩)
  have hf : H1 s1.heap.objs.size = none := I1.hok.fresh (Nat.le_refl _)
  refine ⟨.ref s1.heap.objs.size, upd H1 s1.heap.objs.size (.lst xs), I1.laid (t' := s1.toks) (fun b u e => Heap.get?_push_of_some _ e) (Nat.le_refl _) ?_, rfl, q _ hf⟩
  exact ⟨z, us, 0, r, Heap.get?_push_size _ rfl⟩
end

/-! ### what a def promises -/
/-- a def's promise: the bound arguments in the parameters' order, the heap, the wanted end, the wanted exception -/
abbrev Sp := List V → Hp → VK → XK → Prop
/-- how an exception lies behind a call (file 08 gives it): the callers' frames, abstract heap and state ahead of the call, the wish, the exception, the state -/
abbrev CXT := List Env → Hp → Shared → XK → Value → Shared → Prop

/-- the state at a call -/
structure Env0 (P : Program) (w : World) (K : PySem.W.Frag) (mg : Str → Option Value) (base : Heap) (A : Around) (outer : List Env) (s : Shared) (H : Hp) : Prop where
  frames : A.frames = some outer
  mod : Mod K mg base
  bs : ∀ b o, base.get? b = some o → s.heap.get? b = some o ∧ H b = none
  bsz : base.objs.size ≤ s.heap.objs.size
  funs : s.heap.FunFrames base outer
  frf : ∀ b ∈ frs outer, H b = none
  hok : HOk P w H s.heap
  bare : AllBare s.gens
/-- a call's end -/
def CE (outer : List Env) (P : Program) (w : World) (H : Hp) (s : Shared) (Q : VK) (u : Value) (s' : Shared) : Prop :=
  ∃ v H', s'.os = s.os ∧ AllBare s'.gens ∧ Un (frs outer) [] H H' s.heap s'.heap ∧ HOk P w H' s'.heap ∧ RelV v u ∧ Q v H'
def CR (CX : CXT) (outer : List Env) (P : Program) (w : World) (H : Hp) (s : Shared) (Q : VK) (E : XK) (r : Result) (s' : Shared) : Prop :=
  match r with
  | .ok (.ret u) => CE outer P w H s Q u s'
  | .ok _ => False
  | .error e => CX outer H s E e s'
structure FnOk (P : Program) (w : World) (K : PySem.W.Frag) (mg : Str → Option Value) (base : Heap) (CX : CXT) (k : Nat) (f : Addr) (fd : FuncData) (ps : List Str) (sp : Sp) : Prop where
  len : ∀ vs H Q E, sp vs H Q E → vs.length = ps.length
  run : ∀ (A : Around) (outer : List Env) (s : Shared) (H : Hp) (args : Args) (us : List Value) (vs : List V) (Q : VK) (E : XK), Room k A → Env0 P w K mg base A outer s H → BindsTo s fd args (ps.zip us) → Vals vs us → sp vs H Q E →
    codeAny (model P w) A (.call (.ref f) args) (CR CX outer P w H s Q E) s
/-- a weaker promise -/
theorem FnOk.imp {P : Program} {w : World} {K : PySem.W.Frag} {mg : Str → Option Value} {base : Heap} {CX : CXT} {k : Nat} {f : Addr} {fd : FuncData} {ps : List Str} {sp sp' : Sp} (F : FnOk P w K mg base CX k f fd ps sp)
    (h : ∀ vs H Q E, sp' vs H Q E → sp vs H Q E) : FnOk P w K mg base CX k f fd ps sp' :=
  ⟨fun vs H Q E q => F.len vs H Q E (h _ _ _ _ q), fun A outer s H args us vs Q E hr he hb hv hs => F.run A outer s H args us vs Q E hr he hb hv (h _ _ _ _ hs)⟩

section
variable {X : Cx} {pins : List (Addr × Obj)} {σ : St} {H : Hp} {s s' : Shared}
/-- from a body: what a callee wants -/
theorem Inv.env0 (I : Inv X pins σ H s) : Env0 X.prog X.w X.K X.mg X.base X.A X.stack s H :=
  ⟨I.ok.frames, I.ok.mod, I.bs, Nat.le_trans I.ok.bsz I.sz, I.stack, I.stkFree, I.hok, I.bare⟩
/-- behind a call -/
theorem Inv.after {Q : VK} {u : Value} (I : Inv X pins σ H s) (h : CE X.stack X.prog X.w H s Q u s') : EP X pins σ Q u s' := by
  obtain ⟨v, H', os, bare, un, hok, r, q⟩ := h
  obtain ⟨hh, g, d, t, os'⟩ := s'
  obtain rfl : os' = s.os := os
  exact ⟨v, H', I.call (h' := hh) (g' := g) (d' := d) (t' := t) (ch := []) un hok bare (fun b z => absurd z (by simp)), r, q⟩
end

/-! ### calls -/
/-- f(..): the written arguments, then the defaults dvs; E: what is wanted of an exception -/
def tCall (sp : Sp) (dvs : List V) (E : XK) (t : TA) : TE := fun σ H Q => t σ H fun vs H1 => sp (vs ++ dvs) H1 Q E
/-- o.m(..) of an instance of the class at C -/
def tMeth (C : Addr) (m : Str) (sp : Sp) (dvs : List V) (E : XK) (ta : TE) (t : TA) : TE := fun σ H Q => ta σ H fun x H1 => ∃ a dx fs, x = .ref a ∧ H1 a = some (.ins C dx fs) ∧ fs.lookup m = none ∧
  t σ H1 fun vs H2 => sp (x :: (vs ++ dvs)) H2 Q E
/-- C(..): a new instance and its dict, then __init__ -/
def tMake (C : Addr) (sp : Sp) (dvs : List V) (E : XK) (t : TA) : TE := fun σ H Q => t σ H fun vs H1 => ∀ x dx, H1 x = none → H1 dx = none → dx ≠ x →
  sp (.ref x :: (vs ++ dvs)) (upd (upd H1 dx (.own x)) x (.ins C dx [])) (fun v H2 => v = .non ∧ Q (.ref x) H2) E

/-- how the parameters are bound: us the positional arguments, kw the keywords' values by name, ds the defaults that fill up -/
def Binds (K : PySem.W.Frag) (fd : FuncData) (ps : List Str) (ds : List Value) : Prop :=
  ∀ (s : Shared) (us : List Value), K.In s.heap → (us ++ ds).length = ps.length → BindsTo s fd ⟨us, []⟩ (ps.zip (us ++ ds))
/-- every parameter is given -/
theorem Binds.all {K : PySem.W.Frag} {fd : FuncData} {ps : List Str} (h : ∀ us : List Value, us.length = ps.length → bindArgs fd ⟨us, []⟩ = pure (ps.zip us)) : Binds K fd ps [] := fun s us _ hl => by
  rw [List.append_nil] at hl ⊢
  exact .of_eq (h us hl)

/-- an exception of a callee reaches what this body wants of exceptions -/
def Passes (CX : CXT) (X : Cx) (E : XK) : Prop := ∀ (pins : List (Addr × Obj)) (σ : St) (H : Hp) (s : Shared) (e : Value) (s' : Shared), Inv X pins σ H s → CX X.stack H s E e s' → X.xe e s'

section
variable {X : Cx} {CX : CXT} {k : Nat} {f C : Addr} {fd : FuncData} {ps : List Str} {sp : Sp} {dvs : List V} {ds : List Value} {E : XK} {x m : Str} {p pos apos : Pos} {e o : Expr} {es : List Expr} {ta : TE} {t : TA}

/-- the callee runs -/
theorem run_fn {pins : List (Addr × Obj)} {σ : St} {H : Hp} {s : Shared} {Q : VK} {us : List Value} {vs : List V} (F : FnOk X.prog X.w X.K X.mg X.base CX k f fd ps sp) (hr : Room k X.A) (hb : Binds X.K fd ps ds) (hd : Vals dvs ds) (hx : Passes CX X E)
    (I : Inv X pins σ H s) (r : Vals vs us) (h : sp (vs ++ dvs) H Q E) : wpAny (model X.prog X.w) X.A (call (.ref f) us) (EP X pins σ Q) X.xe s := by
  have r2 : Vals (vs ++ dvs) (us ++ ds) := r.append hd
  have hl : (us ++ ds).length = ps.length := by rw [← r2.length]; exact F.len _ _ _ _ h
  refine wpAny_call (codeAny_mono (F.run X.A X.stack s H ⟨us, []⟩ (us ++ ds) (vs ++ dvs) Q E hr I.env0 (hb s us I.kIn hl) r2 h) fun r s' hq => ?_)
  cases r with
  | error e => exact hx pins σ H s e s' I hq
  | ok fl =>
    cases fl with
    | ret u => exact I.after hq
    | next => exact False.elim hq
    | brk => exact False.elim hq
    | cont => exact False.elim hq

theorem pe_call (F : FnOk X.prog X.w X.K X.mg X.base CX k f fd ps sp) (hr : Room k X.A) (hg : Gl X x) (hm : X.mg x = some (.ref f)) (hk : PySem.W.keepIn X.K (.ref f) = true) (hb : Binds X.K fd ps ds) (hd : Vals dvs ds) (hx : Passes CX X E)
    (ha : PA X (e :: es) t) (hdb : (x == ("__debug__" : Str)) = false := by decide) (he : starEach (e :: es) X.env = (false, eval e X.env) :: starEach es X.env := by rfl) (hpl : (backTo pos (starEach es X.env)).any (·.1) = false := by rfl) :
    PE X (.Call (.Name x p) (e :: es) [] pos) (tCall sp dvs E t) := by
  intro pins s σ H Q I h
  refine wpAny_Call_Name_kw (ld_glob I hg hm ?_ hdb)
  refine PySem.W.callWith_K (h₀ := X.base) I.ok.mod.kin hk (thn (ha pos pins s σ H _ I h) fun us s1 ⟨vs, H1, I1, r, q⟩ => ⟨I1.kIn, ?_⟩) he hpl
  exact run_fn F hr hb hd hx I1 r q
/-- what a class must have to be made -/
structure Mk (K : PySem.W.Frag) (C f : Addr) : Prop where
  makes : PySem.W.makesIn K C = true
  init : PySem.W.findIn K (.ref C) "__init__" = some (some (.ref f))
  fn : PySem.W.isFn K (.ref f) = true
  kp : PySem.W.keepIn K (.ref C) = true

end

/-! ### keywords -/
/-- the values of the keywords, from the left -/
def PK (X : Cx) (kws : List Keyword) (t : TA) : Prop :=
  ∀ (pos : Pos) (pins : List (Addr × Obj)) (s : Shared) (σ : St) (H : Hp) (Q : List V → Hp → Prop), Inv X pins σ H s → t σ H Q → wpAny (model X.prog X.w) X.A (evalAll ((backToKw pos (keywordEach kws X.env)).map (·.2))) (AP X pins σ Q) X.xe s
section
variable {X : Cx} {CX : CXT} {k : Nat} {f C : Addr} {fd : FuncData} {ps ks : List Str} {sp : Sp} {E : XK} {x m : Str} {p pos apos kpos : Pos} {e o : Expr} {es : List Expr} {kws : List Keyword} {te ta : TE} {t tk : TA} {nm : Option Str}
/-- how a call with keywords binds: g puts the positional values us and the keywords' values ws (names ks) in the parameters' order, defaults among them -/
structure KBinds (K : PySem.W.Frag) (fd : FuncData) (ps ks : List Str) (g : List Value → List Value → List Value) (gV : List V → List V → List V) : Prop where
  to : ∀ (s : Shared) (us ws : List Value), K.In s.heap → (g us ws).length = ps.length → BindsTo s fd ⟨us, ks.zip ws⟩ (ps.zip (g us ws))
  rel : ∀ {vs : List V} {us : List Value} {zs : List V} {ws : List Value}, Vals vs us → Vals zs ws → Vals (gV vs zs) (g us ws)
def tCallK (sp : Sp) (gV : List V → List V → List V) (E : XK) (t tk : TA) : TE := fun σ H Q => t σ H fun vs H1 => tk σ H1 fun zs H2 => sp (gV vs zs) H2 Q E
variable {g : List Value → List Value → List Value} {gV : List V → List V → List V}
end

/-! ### a def's body keeps its promise -/
/-- names: the parameters first -/
structure FnScope (N P : List Str) (sc : Scope) : Prop where
  kind : sc.kind = .function
  co : sc.isCoroutine = false
  gen : sc.isGenerator = false
  nd : N.Nodup
  pre : N.take P.length = P
  par : ∀ x ∈ P, sc.names.lookup x = some .local ∨ sc.names.lookup x = some .cell
  nofree : ∀ y ∈ sc.names, y.2 ≠ .free

theorem bindL_out {kindOf : Str → Option NameKind} {x : Str} : ∀ {binds : List (Str × Value)} {m : Str → Option Value}, (∀ v, (x, v) ∉ binds) → bindL kindOf binds m x = m x
  | [], _, _ => rfl
  | (n, v) :: r, m, h => by
    unfold bindL
    rw [bindL_out fun w hw => h w (List.mem_cons_of_mem _ hw)]
    split
    · have : x ≠ n := by rintro rfl; exact h v List.mem_cons_self
      simp [this]
    · rfl
theorem bindC_out {kindOf : Str → Option NameKind} {x : Str} : ∀ {binds : List (Str × Value)} {m : Str → Option Value}, (∀ v, (x, v) ∉ binds) → bindC kindOf binds m x = m x
  | [], _, _ => rfl
  | (n, v) :: r, m, h => by
    unfold bindC
    rw [bindC_out fun w hw => h w (List.mem_cons_of_mem _ hw)]
    split
    · rfl
    · have : x ≠ n := by rintro rfl; exact h v List.mem_cons_self
      simp [this]
theorem bindL_get {kindOf : Str → Option NameKind} {x : Str} {v : Value} : ∀ {P : List Str} {vs : List Value} {i : Nat} {m : Str → Option Value}, P.Nodup → P[i]? = some x → vs[i]? = some v → kindOf x = some .local →
    bindL kindOf (P.zip vs) m x = some v
  | [], _, _, _, _, h, _, _ => by simp at h
  | _ :: _, [], _, _, _, _, h, _ => by simp at h
  | p :: P, w :: vs, 0, m, nd, h1, h2, hk => by
    simp at h1 h2; subst h1; subst h2
    show bindL kindOf ((p, w) :: P.zip vs) m p = _
    unfold bindL
    rw [bindL_out fun v hv => (List.nodup_cons.mp nd).1 (List.of_mem_zip hv).1, if_pos hk]
    simp
  | p :: P, w :: vs, i + 1, m, nd, h1, h2, hk => by
    show bindL kindOf ((p, w) :: P.zip vs) m x = _
    unfold bindL
    exact bindL_get (i := i) (List.nodup_cons.mp nd).2 (by simpa using h1) (by simpa using h2) hk
theorem bindC_get {kindOf : Str → Option NameKind} {x : Str} {v : Value} : ∀ {P : List Str} {vs : List Value} {i : Nat} {m : Str → Option Value}, P.Nodup → P[i]? = some x → vs[i]? = some v → kindOf x ≠ some .local →
    bindC kindOf (P.zip vs) m x = some v
  | [], _, _, _, _, h, _, _ => by simp at h
  | _ :: _, [], _, _, _, _, h, _ => by simp at h
  | p :: P, w :: vs, 0, m, nd, h1, h2, hk => by
    simp at h1 h2; subst h1; subst h2
    show bindC kindOf ((p, w) :: P.zip vs) m p = _
    unfold bindC
    rw [bindC_out fun v hv => (List.nodup_cons.mp nd).1 (List.of_mem_zip hv).1, if_neg hk]
    simp
  | p :: P, w :: vs, i + 1, m, nd, h1, h2, hk => by
    show bindC kindOf ((p, w) :: P.zip vs) m x = _
    unfold bindC
    exact bindC_get (i := i) (List.nodup_cons.mp nd).2 (by simpa using h1) (by simpa using h2) hk

/-- the names' values at the entry -/
def start (N : List Str) (vs : List V) : St := vs.map some ++ List.replicate (N.length - vs.length) none

/-- the context of a def's body, at its entry; an exception leaves the frame, then lies as CX says -/
def cxOf (CX : CXT) (P : Program) (w : World) (K : PySem.W.Frag) (mg : Str → Option Value) (base : Heap) (N : List Str) (qual : Str) (scope : Scope) (f : Addr) (cd : Value) (A : Around) (outer : List Env) (s : Shared) (H : Hp) (E : XK) : Cx where
  prog := P
  w := w
  K := K
  mg := mg
  base := base
  A := A.deeper (envOfC qual scope s.heap.objs.size f cd)
  N := N
  s₀ := s
  H₀ := H
  env := envOfC qual scope s.heap.objs.size f cd
  outer := outer
  stack := envOfC qual scope s.heap.objs.size f cd :: outer
  ex := []
  calm := true
  fn := fun _ => true
  pn := []
  xe := fun e s' => wpAny (model P w) (A.deeper (envOfC qual scope s.heap.objs.size f cd)) (leaving (envOfC qual scope s.heap.objs.size f cd) e) (fun _ s'' => CX outer H s E e s'') (fun e' s'' => CX outer H s E e' s'') s'

theorem cell_has {sc : Scope} {n : Nat} {x : Str} (h : sc.names.lookup x = some .cell) : ∃ c, (cellsFrom n sc.names []).lookup x = some c := by
  have q := PySem.W.cellsFrom_some sc.names n [] (.inl h)
  exact Option.isSome_iff_exists.mp q

theorem inv_start {CX : CXT} {P : Program} {w : World} {K : PySem.W.Frag} {mg : Str → Option Value} {base : Heap} {N ps : List Str} {qual : Str} {scope : Scope} {f : Addr} {cd : Value} {A : Around} {outer : List Env} {s s1 : Shared} {H : Hp} {E : XK} {us : List Value} {vs : List V}
    (S : FnScope N ps scope) (hd : A.handled = none) (e0 : Env0 P w K mg base A outer s H) (hl : vs.length = ps.length) (r : Vals vs us)
    (x : InCallC s s.heap.objs.size (bindL (envOfC qual scope s.heap.objs.size f cd).kindOf (ps.zip us) fun _ => none) (cellsFrom (s.heap.objs.size + 1) scope.names []) (bindC (envOfC qual scope s.heap.objs.size f cd).kindOf (ps.zip us) fun _ => none) s1) :
    Inv (cxOf CX P w K mg base N qual scope f cd A outer s H E) [] (start N vs) H s1 := by
  have hpl : ps.length ≤ N.length := by have := congrArg List.length S.pre; rw [List.length_take] at this; omega
  obtain ⟨h1, tk, rfl, hk⟩ := x.done
  have noA : ∀ b : Addr, b ∉ (cxOf CX P w K mg base N qual scope f cd A outer s H E).ex := fun b z => absurd (show b ∈ ([] : List Addr) from z) (by simp)
  refine ⟨⟨e0.mod, S.kind, rfl, rfl, Nat.le_refl _, fun y z c h1 h2 => ?_, fun y hy => ?_, fun y c _ h => ?_, fun _ => hd, Around.frames_deeper e0.frames, .inr ⟨rfl, rfl⟩, fun b z => absurd z (noA b), e0.bs, e0.bsz, fun b _ _ => noA b, fun b z => absurd z (noA b), e0.funs, e0.frf⟩,
    rfl, e0.bare, Un.kept hk, ⟨_, x.toInCall.ns, fun i y v h1 h2 h3 => ?_⟩, fun y c h => ⟨_, x.cell y c h⟩, e0.hok.fresh (Nat.le_refl _), fun y c h => ?_, fun p hp => absurd (show p ∈ ([] : List (Addr × Obj)) from hp) (by simp), e0.hok.kept hk, ?_⟩
  · exact name_of_addr x.apart (PySem.mem_of_lookup h1) (PySem.mem_of_lookup h2)
  · have hy : scope.names.lookup y = some .cell ∨ scope.names.lookup y = some .free := hy
    rcases hy with hy | hy
    · exact cell_has hy
    · exact absurd rfl (S.nofree _ (PySem.mem_of_lookup hy))
  · exact Nat.le_of_lt (x.above y c (PySem.mem_of_lookup h))
  · have hi : i < vs.length := by
      unfold start at h2
      by_cases hi : i < vs.length
      · exact hi
      · rw [List.getElem?_append_right (by simpa using hi)] at h2
        rw [List.getElem?_replicate] at h2
        split at h2 <;> cases h2
    have ha : vs[i]? = some v := by
      unfold start at h2
      rw [List.getElem?_append_left (by simpa using hi), List.getElem?_map] at h2
      cases e : vs[i]? with
      | none => rw [e] at h2; cases h2
      | some a => rw [e] at h2; cases h2; rfl
    obtain ⟨u, hu, rv⟩ := r.get ha
    have hp : ps[i]? = some y := by
      rw [← S.pre, List.getElem?_take_of_lt (by omega)]; exact h1
    have ndP : ps.Nodup := by rw [← S.pre]; exact S.nd.sublist (List.take_sublist _ _)
    refine ⟨u, rv, ?_⟩
    rcases S.par y (List.mem_of_getElem? hp) with k | k
    · exact .inl ⟨k, bindL_get ndP hp hu k⟩
    · obtain ⟨c, e⟩ := cell_has (n := s.heap.objs.size + 1) k
      refine .inr ⟨.inl k, c, e, ?_⟩
      have q := x.cell y c e
      rw [bindC_get ndP hp hu (by show scope.names.lookup y ≠ _; rw [k]; decide)] at q
      exact q
  · exact e0.hok.fresh (Nat.le_of_lt (x.above y c (PySem.mem_of_lookup h)))
  · unfold start
    show _ = N.length
    rw [List.length_append, List.length_map, List.length_replicate]
    omega

/-- THE RULE: a def (or a method) of the text, by its body. The body's reading t is chosen for each entry; it is run at the parameters' values -/
theorem fn_of {CX : CXT} {P : Program} {w : World} {K : PySem.W.Frag} {mg : Str → Option Value} {base : Heap} {k : Nat} {f : Addr} {name qual : Str} {params : Arguments} {body : List Stmt} {scope : Scope} {dV kV doc pm cdv ct oc : Value} {an od : Option Addr}
    {osl : Array (Option Value)} {N ps : List Str} {sp : Sp} (lk : K.lookup f = some ⟨oc, od, .func (PySem.W.fnOf name qual params body scope dV kV doc pm an cdv ct), osl⟩) (hcd : PySem.W.codeIn K cdv qual = true) (S : FnScope N ps scope)
    (len : ∀ vs H Q E, sp vs H Q E → vs.length = ps.length)
    (hbody : ∀ (A : Around) (outer : List Env) (s : Shared) (H : Hp) (vs : List V) (Q : VK) (E : XK), Room k (A.deeper (envOfC qual scope s.heap.objs.size f cdv)) → sp vs H Q E →
      ∃ t, PSs (cxOf CX P w K mg base N qual scope f cdv A outer s H E) body t ∧ t { nx := fun _ H' => Q .non H', rt := Q } (start N vs) H) :
    FnOk P w K mg base CX (k + 1) f (PySem.W.fnOf name qual params body scope dV kV doc pm an cdv ct) ps sp := by
  refine ⟨len, fun A outer s H args us vs Q E hr e0 hb r hsp => ?_⟩
  have hl := len _ _ _ _ hsp
  have KX : K.In s.heap := e0.mod.kin.keeps fun b o e => (e0.bs b o e).1
  have lim : s.heap.NoLimit := e0.mod.nolimit.keeps fun b o e => (e0.bs b o e).1
  have hkind : ∀ y ∈ ps.zip us, scope.names.lookup y.1 = some .local ∨ (scope.names.lookup y.1 = some .cell ∧ ((cellsFrom (s.heap.objs.size + 1) scope.names []).lookup y.1).isSome = true) := fun ⟨n, v⟩ hy => by
    rcases S.par n (List.of_mem_zip hy).1 with q | q
    · exact .inl q
    · exact .inr ⟨q, PySem.W.cellsFrom_some _ _ _ (.inl q)⟩
  refine codeAny_call_function hr.depth (KX _ _ lk) rfl S.co S.gen rfl (PySem.W.codeRec_of KX hcd) (hb _ _ _ _ ?_)
  refine wpAny_newFunctionEnv_cells S.kind hkind fun env he s1 x => ?_
  subst he
  refine ⟨lim.keeps x.toInCall.keep, codeAny_func ?_⟩
  obtain ⟨t, ht, hq⟩ := hbody A outer s H vs Q E (hr.deeper _) hsp
  have I : Inv (cxOf CX P w K mg base N qual scope f cdv A outer s H E) [] (start N vs) H s1 := inv_start S hr.hd e0 hl r x
  refine wpAny_mono (ht [] s1 (start N vs) H _ I hq) (fun fl s' hs => ?_) fun e s' hs => hs
  have fin : ∀ {σ' : St} {H' : Hp} {v : V} {u : Value}, Inv (cxOf CX P w K mg base N qual scope f cdv A outer s H E) [] σ' H' s' → RelV v u → Q v H' → CE outer P w H s Q u s' :=
    fun {σ' H' v u} J rv q => ⟨v, H', J.os, J.bare, J.base, J.hok, rv, q⟩
  cases fl with
  | ret u =>
    obtain ⟨v, σ', H', J, rv, q⟩ := hs
    exact fin J rv q
  | next =>
    obtain ⟨σ', H', J, q⟩ := hs
    exact fin (v := V.non) (u := Value.none) J rfl q
  | brk =>
    obtain ⟨_, _, _, q⟩ := hs
    exact False.elim q
  | cont =>
    obtain ⟨_, _, _, q⟩ := hs
    exact False.elim q
end L2

namespace L2
open PySem PySem.Spec PyProof.Rows
section
variable {X : Cx} {x : Str} {p pos : Pos} {e : Expr} {es : List Expr} {t : TA} {id T : String} {r : List V → Hp → VK → Prop}

def tCB (r : List V → Hp → VK → Prop) (t : TA) : TE := fun σ H Q => t σ H fun vs H1 => r vs H1 Q
/-- f(e, ..), f a built-in function -/
theorem pe_callB (hc : CallR X (.builtin id) r) (hg : Gl X x) (hm : X.mg x = none) (hv : bootBuiltins x = some (.builtin id)) (ha : PA X (e :: es) t) (hn : x ≠ "__name__" := by decide) (hdb : (x == ("__debug__" : Str)) = false := by decide)
    (he : starEach (e :: es) X.env = (false, eval e X.env) :: starEach es X.env := by rfl) (hpl : (backTo pos (starEach es X.env)).any (·.1) = false := by rfl) : PE X (.Call (.Name x p) (e :: es) [] pos) (tCB r t) := by
  intro pins s σ H Q I h
  refine wpAny_Call_Name_kw (ld_blt I hg hm hv ?_ hn hdb)
  exact PyProof.Rows.callWith_builtin1 (thn (ha pos pins s σ H _ I h) fun us s1 ⟨vs, H1, I1, r1, q1⟩ => hc pins s1 σ H1 vs us Q I1 r1 q1) he hpl
/-- T(e, ..), T a built-in type -/
theorem pe_callTy (hc : CallR X (.type T) r) (hg : Gl X x) (hm : X.mg x = none) (hv : bootBuiltins x = some (.type T)) (ha : PA X (e :: es) t) (hn : x ≠ "__name__" := by decide) (hdb : (x == ("__debug__" : Str)) = false := by decide)
    (he : starEach (e :: es) X.env = (false, eval e X.env) :: starEach es X.env := by rfl) (hpl : (backTo pos (starEach es X.env)).any (·.1) = false := by rfl) : PE X (.Call (.Name x p) (e :: es) [] pos) (tCB r t) := by
  intro pins s σ H Q I h
  refine wpAny_Call_Name_kw (ld_blt I hg hm hv ?_ hn hdb)
  exact PyProof.Rows.callWith_type1 (thn (ha pos pins s σ H _ I h) fun us s1 ⟨vs, H1, I1, r1, q1⟩ => hc pins s1 σ H1 vs us Q I1 r1 q1) he hpl
end
end L2

namespace HT
open PySem PyProof.Rows

/-- t < u of tuples of ints -/
def lexLt : List Int → List Int → Bool
  | [], [] => false
  | [], _ :: _ => true
  | _ :: _, [] => false
  | x :: xs, y :: ys => if x = y then lexLt xs ys else decide (x < y)
section
open PySem.SeqAt
open PySem.AutoSeq1 (wpAny_loadPart')
open PySem.MeetsSeq PySem.MeetsSeq2 PySem.MeetsSeq3

end

section
variable {prog : Program} {w : World} {A : Around} {E : Value → Shared → Prop} {s : Shared}

/-! ### t[a:b], not the whole -/
/-- a slice's bound as a place among n (d where it is left out) -/
def sIx (n d : Nat) : Option Int → Nat
  | none => d
  | some v => if v < 0 then (v + (n : Int)).toNat else min v.toNat n
theorem sIx_none (n d : Nat) : sIx n d none = d := rfl
theorem sIx_le (n d : Nat) (hd : d ≤ n) (o : Option Int) : sIx n d o ≤ n := by
  cases o with
  | none => exact hd
  | some v =>
    show (if v < 0 then (v + (n : Int)).toNat else min v.toNat n) ≤ n
    by_cases hv : v < 0
    · rw [if_pos hv]; omega
    · rw [if_neg hv]; exact Nat.min_le_right _ _
theorem clip_eq (v : Int) (n d : Nat) : (if v < 0 then max (v + (n : Int)) 0 else min v (n : Int)) = ((sIx n d (some v) : Nat) : Int) := by
  show (if v < 0 then max (v + (n : Int)) 0 else min v (n : Int)) = (((if v < 0 then (v + (n : Int)).toNat else min v.toNat n) : Nat) : Int)
  by_cases hv : v < 0
  · simp only [if_pos hv]; omega
  · simp only [if_neg hv]; omega
theorem adjust_gen (lo hi : Option Int) (n : Nat) : Builtin.Slice.sliceAdjust lo hi 1 (n : Int) = (((sIx n 0 lo : Nat) : Int), ((sIx n n hi : Nat) : Int)) := by
  have h1 : ¬ ((1 : Int) < 0) := by omega
  unfold Builtin.Slice.sliceAdjust
  simp only [h1, if_false]
  refine Prod.ext ?_ ?_
  · cases lo with
    | none => rfl
    | some v => exact clip_eq v n 0
  · cases hi with
    | none => rfl
    | some v => exact clip_eq v n n
theorem places_gen (i j : Nat) : Builtin.Slice.slicePlaces (i : Int) (j : Int) 1 = j - i := by
  unfold Builtin.Slice.slicePlaces
  have h1 : (1 : Int) > 0 := by omega
  simp only [h1, if_true, Int.ediv_one]
  split <;> omega
theorem slicePart_ {v : Value} {o : Option Int} {Q : Option Int → Shared → Prop} (p : IsPart v o) (h : Q o s) : wpAny (model prog w) A (Builtin.Slice.slicePartIndex v) Q E s := by
  cases p with
  | none => exact slicePart_none h
  | int i t => exact slicePart_int h
theorem sliceApplied_gen {sl : Addr} {vl vu : Value} {lo hi : Option Int} {n : Nat} {Q : Int × Int × Nat → Shared → Prop} (hs : s.heap.IsSliceOf sl vl vu .none) (pl : IsPart vl lo) (pu : IsPart vu hi)
    (h : Q (((sIx n 0 lo : Nat) : Int), 1, sIx n n hi - sIx n 0 lo) s) : wpAny (model prog w) A (Builtin.Slice.sliceApplied (.ref sl) (pure (n : Int))) Q E s := by
  obtain ⟨os, hos, hcs, hds⟩ := id hs
  unfold Builtin.Slice.sliceApplied Builtin.Slice.sliceFields
  refine wpAny_bind (wpAny_bind (wpAny_field hos hds (x := vl) rfl (wpAny_bind (wpAny_field hos hds (x := vu) rfl (wpAny_bind (wpAny_field hos hds (x := .none) rfl (wpAny_pure ?_)))))))
  refine wpAny_bind (slicePart_none ?_)
  show wpAny _ _ (if ((1 : Int) == 0) = true then _ else _) _ _ s
  rw [if_neg (by decide)]
  refine wpAny_bind (slicePart_ pl (wpAny_bind (slicePart_ pu (wpAny_bind (wpAny_pure ?_)))))
  show wpAny _ _ (match Builtin.Slice.sliceAdjust lo hi 1 (n : Int) with | (lo, hi) => pure (lo, (1 : Int), Builtin.Slice.slicePlaces lo hi 1)) _ _ s
  rw [adjust_gen lo hi n]
  show wpAny _ _ (pure (((sIx n 0 lo : Nat) : Int), (1 : Int), Builtin.Slice.slicePlaces ((sIx n 0 lo : Nat) : Int) ((sIx n n hi : Nat) : Int) 1)) _ _ s
  rw [places_gen]
  exact wpAny_pure h
theorem pick_gen (xs : Array Value) (i k : Nat) : ((List.range k).filterMap fun (m : Nat) => xs[((i : Int) + (m : Int) * 1).toNat]?).toArray = ((xs.toList.drop i).take k).toArray := by
  have e : (fun (m : Nat) => xs[((i : Int) + (m : Int) * 1).toNat]?) = fun m => xs[i + m]? := by
    funext m
    have : ((i : Int) + (m : Int) * 1).toNat = i + m := by omega
    rw [this]
  rw [e]
  have := pick_run xs i k
  rw [List.filterMap_map] at this
  have e2 : ((fun x => xs[x]?) ∘ fun x => i + x) = fun m => xs[i + m]? := rfl
  rw [e2] at this
  rw [this]

theorem getItem_tuple_cut {t sl : Addr} {items : Array Value} {vl vu : Value} {lo hi : Option Int} {Q : Value → Shared → Prop} (ht : IsTup s.heap t items) (hs : s.heap.IsSliceOf sl vl vu .none) (pl : IsPart vl lo) (pu : IsPart vu hi)
    (hw : ¬ (sIx items.size 0 lo = 0 ∧ sIx items.size items.size hi = items.size))
    (h : Q (.ref s.heap.objs.size) { s with heap := s.heap.push { cls := .type "tuple", data := .seq ((items.toList.drop (sIx items.size 0 lo)).take (sIx items.size items.size hi - sIx items.size 0 lo)).toArray } })
    (hsz : items.size ≤ sizeLine) : wpAny (model prog w) A (getItem (.ref t) (.ref sl)) Q E s := by
  have htake : sizeOk (.seq ((items.toList.drop (sIx items.size 0 lo)).take (sIx items.size items.size hi - sIx items.size 0 lo)).toArray) := by
    show ((items.toList.drop (sIx items.size 0 lo)).take (sIx items.size items.size hi - sIx items.size 0 lo)).toArray.size ≤ sizeLine
    rw [List.size_toArray, List.length_take, List.length_drop, Array.length_toList]
    omega
  have hj : sIx items.size items.size hi ≤ items.size := sIx_le _ _ (Nat.le_refl _) hi
  obtain ⟨os, hos, hcs, hds⟩ := id hs
  have hTs : s.TypeIs (.ref sl) "slice" := ⟨os, hos, hcs⟩
  unfold getItem
  try with_reducible refine wpAny_holding ?_
  first | refine wpAny_bind (wpAny_pure ?_) | skip
  refine wpAny_bind (wpAny_sequenceKey ht.typeIs (by decide) ?_)
  refine wpAny_bind (wpAny_callSpecial?_slot (name := Str.ofString "__getitem__") ht.typeIs PyProof.Rows.slot_tuple_getitem
    (wpAny_call_entry PyProof.Rows.slot_tuple_getitem ht.typeIs entry_tuple_getitem ?_ (args_tuple_getitem _ _)))
  show wpAny _ _ (Builtin.Tuple.tupleItemsOf (.ref t) >>= _) _ _ s
  refine wpAny_bind (tupleItemsOf_ ht ?_)
  refine wpAny_bind (wpAny_typeOf hTs ?_)
  rw [if_pos (by decide)]
  refine wpAny_bind (sliceApplied_gen hs pl pu ?_)
  have hno : ¬ ((((sIx items.size 0 lo : Nat) : Int) == 0 && (1 : Int) == 1 && (sIx items.size items.size hi - sIx items.size 0 lo) == items.size) = true) := by
    intro q
    rw [Bool.and_eq_true, Bool.and_eq_true] at q
    have q1 : ((sIx items.size 0 lo : Nat) : Int) = 0 := eq_of_beq q.1.1
    have q2 : sIx items.size items.size hi - sIx items.size 0 lo = items.size := eq_of_beq q.2
    exact hw ⟨by omega, by omega⟩
  show wpAny _ _ (if (((sIx items.size 0 lo : Nat) : Int) == 0 && (1 : Int) == 1 && (sIx items.size items.size hi - sIx items.size 0 lo) == items.size) = true then _ else _) _ _ s
  rw [if_neg hno, pick_gen]
  first
    | exact wpAny_bind (m := Builtin.Tuple.tupleExact _) (wpAny_newObj_type (wpAny_pure ⟨_, rfl, wpAny_pure h⟩) htake)
    | exact wpAny_bind (m := Builtin.Tuple.tupleExact _) (wpAny_newObj_type (wpAny_bind (wpAny_pure (wpAny_pure ⟨_, rfl, wpAny_pure h⟩))) htake)
    | exact wpAny_bind (wpAny_bind (m := Builtin.Tuple.tupleExact _) (wpAny_newObj_type (wpAny_pure (wpAny_pure ⟨_, rfl, wpAny_pure h⟩)) htake))
    | exact wpAny_bind (wpAny_bind (m := Builtin.Tuple.tupleExact _) (wpAny_newObj_type (wpAny_pure ⟨_, rfl, wpAny_pure h⟩) htake))
end
end HT

namespace L2
open PySem PySem.Spec PyProof.Rows

/-! ### the parts of a slice -/
abbrev TO := St → Hp → (Option Int → Hp → Prop) → Prop
/-- a slice's part (left out, or an int) -/
def PO (X : Cx) (e : Option Expr) (t : TO) : Prop :=
  ∀ (pins : List (Addr × Obj)) (s : Shared) (σ : St) (H : Hp) (Q : Option Int → Hp → Prop), Inv X pins σ H s → t σ H Q →
    wpAny (model X.prog X.w) X.A (evalPart e X.env) (fun u s' => ∃ o H', Inv X pins σ H' s' ∧ IsPart u o ∧ Q o H') X.xe s
def tNoPart : TO := fun _ H Q => Q none H
def tPart (t : TE) : TO := fun σ H Q => t σ H fun x H1 => ∃ i, x = .int i ∧ Q (some i) H1

section
variable {X : Cx} {e : Expr} {te : TE} {lo hi : Option Expr} {tl th : TO} {pos p2 : Pos}

theorem po_none : PO X none tNoPart := by
  intro pins s σ H Q I h
  rw [evalPart_none]
  exact wpAny_pure ⟨none, H, I, .none, h⟩
theorem po_some (h : PE X e te) : PO X (some e) (tPart te) := by
  intro pins s σ H Q I hw
  rw [evalPart_some]
  refine thn (h pins s σ H _ I hw) fun u s1 ⟨x, H1, I1, r1, q1⟩ => ?_
  obtain ⟨i, rfl, q⟩ := q1
  obtain ⟨t, rfl⟩ := r1
  exact ⟨some i, H1, I1, .int i t, q⟩

/-- what a slice of a value is, by values: the slice object stands at sl -/
def SlR (X : Cx) (r : V → Option Int → Option Int → Hp → VK → Prop) : Prop :=
  ∀ (pins : List (Addr × Obj)) (s : Shared) (σ : St) (H : Hp) (x : V) (v vl vu : Value) (lo hi : Option Int) (sl : Addr) (Q : VK), Inv X pins σ H s → RelV x v → s.heap.IsSliceOf sl vl vu .none → IsPart vl lo → IsPart vu hi → r x lo hi H Q →
    ∃ T id, typeLookup (.type T) "__getitem__" = pure (some (.builtin id)) ∧ s.TypeIs v T ∧ wpAny (model X.prog X.w) X.A (getItem v (.ref sl)) (EP X pins σ Q) X.xe s
theorem SlR.or {r r' : V → Option Int → Option Int → Hp → VK → Prop} (h : SlR X r) (h' : SlR X r') : SlR X (fun x lo hi H Q => r x lo hi H Q ∨ r' x lo hi H Q) := by
  intro pins s σ H x v vl vu lo hi sl Q I rx hs pl pu q
  rcases q with q | q
  · exact h pins s σ H x v vl vu lo hi sl Q I rx hs pl pu q
  · exact h' pins s σ H x v vl vu lo hi sl Q I rx hs pl pu q
def tSl (r : V → Option Int → Option Int → Hp → VK → Prop) (te : TE) (tl th : TO) : TE := fun σ H Q => te σ H fun x H1 => tl σ H1 fun l H2 => th σ H2 fun u H3 => r x l u H3 Q
/-- a[lo:hi], any a -/
theorem pe_slice {r : V → Option Int → Option Int → Hp → VK → Prop} (hr : SlR X r) (he : PE X e te) (hl : PO X lo tl) (hu : PO X hi th) : PE X (.Subscript e (.Slice lo hi none p2) pos) (tSl r te tl th) := by
  intro pins s σ H Q I h
  refine Subscript_ (thn (he pins s σ H _ I h) fun v s1 ⟨x, H1, I1, r1, q1⟩ => ?_)
  refine wpAny_Slice (thn (hl pins s1 σ H1 _ I1 q1) fun vl s2 ⟨l, H2, I2, pl, q2⟩ => thn (hu pins s2 σ H2 _ I2 q2) fun vu s3 ⟨u, H3, I3, pu, q3⟩ => ?_)
  rw [evalPart_none]
  refine wpAny_pure ?_
  have I4 : Inv X pins σ H3 { s3 with heap := s3.heap.push { cls := .type "slice", data := .fields #[vl, vu, .none] } } := I3.kept (t' := s3.toks) fun b ob q => Heap.get?_push_of_some _ q
  obtain ⟨T, id, hT, ht, hg⟩ := hr pins { s3 with heap := s3.heap.push { cls := .type "slice", data := .fields #[vl, vu, .none] } } σ H3 x v vl vu l u s3.heap.objs.size Q I4 r1 (Heap.IsSliceOf.new ..) pl pu q3
  show wpAny (model X.prog X.w) X.A (subscriptTail e (.Slice lo hi none p2) v (.ref s3.heap.objs.size)) (EP X pins σ Q) X.xe { s3 with heap := s3.heap.push { cls := .type "slice", data := .fields #[vl, vu, .none] } }
  exact tail_any (ops := [.ref s3.heap.objs.size, v]) ht hT hg (by with_unfolding_all rfl)

/-- the items of xs[lo:hi] -/
def cutV (xs : List V) (lo hi : Option Int) : List V := (xs.drop (HT.sIx xs.length 0 lo)).take (HT.sIx xs.length xs.length hi - HT.sIx xs.length 0 lo)
theorem cutV_length (xs : List V) (lo hi : Option Int) : (cutV xs lo hi).length ≤ xs.length := by
  unfold cutV
  rw [List.length_take, List.length_drop]
  omega
/-- t[lo:hi], not the whole of it (the whole would be t itself) -/
def rSlT (K : PySem.W.Frag) : V → Option Int → Option Int → Hp → VK → Prop := fun x lo hi H Q => ∃ a xs, x = .ref a ∧ SqT K H a xs ∧
  ¬ (HT.sIx xs.length 0 lo = 0 ∧ HT.sIx xs.length xs.length hi = xs.length) ∧ ∀ p, H p = none → Q (.ref p) (upd H p (.tup (cutV xs lo hi)))
theorem sl_tup : SlR X (rSlT X.K) := by
  intro pins s σ H x v vl vu lo hi sl Q I rx hs pl pu h
  obtain ⟨a, xs, rfl, hx, hw, q⟩ := h
  cases rx
  obtain ⟨its, r, ht, hz⟩ := I.tuple hx
  have hlen : its.toArray.size = xs.length := by rw [List.size_toArray]; exact r.length.symm
  refine ⟨"tuple", _, PyProof.Rows.slot_tuple_getitem.lookup, ht.typeIs, ?_⟩
  refine HT.getItem_tuple_cut ht hs pl pu (by rw [hlen]; exact hw) ?_ (by rw [hlen]; exact hz)
  rw [hlen]
  refine ⟨.ref s.heap.objs.size, _, I.laid (t' := s.toks) (o := .tup (cutV xs lo hi)) (fun b ob q => Heap.get?_push_of_some _ q) (Nat.le_refl _) ?_, rfl, q _ (I.hok.fresh (Nat.le_refl _))⟩
  exact ⟨Nat.le_trans (cutV_length xs lo hi) hz, _, (r.drop (HT.sIx xs.length 0 lo)).take (HT.sIx xs.length xs.length hi - HT.sIx xs.length 0 lo), IsTup.new _ _⟩

/-! ### t < u, t + u -/
def rLtT (K : PySem.W.Frag) : R2 := fun x y H Q => ∃ a b ns ms, x = .ref a ∧ y = .ref b ∧ SqT K H a (ns.map V.int) ∧ SqT K H b (ms.map V.int) ∧ Q (.bl (HT.lexLt ns ms)) H
/-- t + u, t not empty: u empty gives t itself -/
def rCatT (K : PySem.W.Frag) : R2 := fun x y H Q => ∃ a b xs ys, x = .ref a ∧ y = .ref b ∧ SqT K H a xs ∧ SqT K H b ys ∧ xs ≠ [] ∧ xs.length + ys.length ≤ sizeLine ∧
  (ys = [] → Q (.ref a) H) ∧ (ys ≠ [] → ∀ p, H p = none → Q (.ref p) (upd H p (.tup (xs ++ ys))))
end
end L2

namespace L2
open PySem PySem.Spec PyProof.Rows

/-! ### places -/
/-- the place that an index of any sign means -/
def ixN (n : Nat) (i : Int) : Option Nat := if 0 ≤ i then (if i < n then some i.toNat else none) else if -(n : Int) ≤ i then some (i + n).toNat else none
def atI {α : Type} (xs : List α) (i : Int) : Option α := (ixN xs.length i).bind fun j => xs[j]?
theorem ixN_seq {n : Nat} {i : Int} {j : Nat} (h : ixN n i = some j) : seqIndex? i n = some j ∧ j < n ∧ -(n : Int) ≤ i ∧ i < n := by
  unfold ixN at h
  by_cases h0 : 0 ≤ i
  · rw [if_pos h0] at h
    by_cases h1 : i < n
    · rw [if_pos h1] at h
      have e : i.toNat = j := Option.some.inj h
      exact ⟨by rw [seqIndex_of h0 h1, e], by omega, by omega, h1⟩
    · rw [if_neg h1] at h; cases h
  · rw [if_neg h0] at h
    by_cases h1 : -(n : Int) ≤ i
    · rw [if_pos h1] at h
      have e : (i + n).toNat = j := Option.some.inj h
      exact ⟨by rw [seqIndex_neg (by omega) h1, e], by omega, h1, by omega⟩
    · rw [if_neg h1] at h; cases h
theorem atI_get {α : Type} {xs : List α} {i : Int} {v : α} (h : atI xs i = some v) : ∃ j, seqIndex? i xs.length = some j ∧ xs[j]? = some v ∧ j < xs.length ∧ -(xs.length : Int) ≤ i ∧ i < xs.length := by
  unfold atI at h
  cases e : ixN xs.length i with
  | none => rw [e] at h; cases h
  | some j =>
    rw [e] at h
    obtain ⟨h1, h2, h3, h4⟩ := ixN_seq e
    exact ⟨j, h1, h, h2, h3, h4⟩
theorem atI_nat {α : Type} {xs : List α} {j : Nat} {v : α} (h : xs[j]? = some v) : atI xs (j : Int) = some v := by
  have hj : j < xs.length := (List.getElem?_eq_some_iff.mp h).1
  have e : ixN xs.length (j : Int) = some j := by
    unfold ixN
    rw [if_pos (by omega), if_pos (by omega)]; simp
  unfold atI; rw [e]; exact h
/-! ### what may be subscripted -/
/-- what stands as an index of a plain subscript -/
def PlainIx (b : Expr) : Prop := ∀ o i, subscripted b false o i = operate [o, i] (getItem o i)
/-- a subscript by values -/
def IxR (X : Cx) (r : R2) : Prop :=
  ∀ (value slice : Expr) (pins : List (Addr × Obj)) (s : Shared) (σ : St) (H : Hp) (x y : V) (v u : Value) (Q : VK), Inv X pins σ H s → RelV x v → RelV y u → r x y H Q →
    subscripted slice false v u = operate [v, u] (getItem v u) → wpAny (model X.prog X.w) X.A (subscriptTail value slice v u) (EP X pins σ Q) X.xe s
/-- a call of a builtin's method by values: the receiver, the arguments -/
def MtR (X : Cx) (id : String) (r : V → List V → Hp → VK → Prop) : Prop :=
  ∀ (pins : List (Addr × Obj)) (s : Shared) (σ : St) (H : Hp) (x : V) (xs : List V) (v : Value) (us : List Value) (Q : VK), Inv X pins σ H s → RelV x v → Vals xs us → r x xs H Q →
    wpAny (model X.prog X.w) X.A (call (.builtin id) (v :: us)) (EP X pins σ Q) X.xe s
section
variable {X : Cx} {a b : Expr} {ta tb : TE} {pos : Pos}
theorem IxR.or {r r' : R2} (h : IxR X r) (h' : IxR X r') : IxR X (fun x y H Q => r x y H Q ∨ r' x y H Q) := by
  intro value slice pins s σ H x y v u Q I rx ry q hs
  rcases q with q | q
  · exact h value slice pins s σ H x y v u Q I rx ry q hs
  · exact h' value slice pins s σ H x y v u Q I rx ry q hs
/-- a[b] -/
theorem pe_ix {r : R2} (hr : IxR X r) (ha : PE X a ta) (hb : PE X b tb) (hs : PlainIx b) : PE X (.Subscript a b pos) (tOp r ta tb) := by
  intro pins s σ H Q I h
  exact Subscript_ (binT ha hb I h fun v u s2 x y H2 I2 rx ry q => hr a b pins s2 σ H2 x y v u Q I2 rx ry q (hs _ _))

def rIxL (K : PySem.W.Frag) : R2 := fun x y H Q => ∃ p xs i v, x = .ref p ∧ y = .int i ∧ SqL K H p xs ∧ atI xs i = some v ∧ Q v H
def rIxT (K : PySem.W.Frag) : R2 := fun x y H Q => ∃ p xs i v, x = .ref p ∧ y = .int i ∧ SqT K H p xs ∧ atI xs i = some v ∧ Q v H
def rIxS : R2 := fun x y H Q => ∃ z i c, x = .str z ∧ y = .int i ∧ z.length ≤ sizeLine ∧ atI z.cps.toList i = some c ∧ Q (.str ⟨#[c]⟩) H
theorem ix_list : IxR X (rIxL X.K) := by
  intro value slice pins s σ H x y v u Q I rx ry h hs
  obtain ⟨p, xs, i, z, rfl, rfl, hq, he, q⟩ := h
  cases rx
  obtain ⟨t, rfl⟩ := ry
  obtain ⟨its, r, pl, hz⟩ := I.list hq
  obtain ⟨j, h1, h2, h3, h4, h5⟩ := atI_get he
  obtain ⟨w, ew, rw'⟩ := r.get h2
  have hl := r.length
  have hn := line63
  have fin : EP X pins σ Q w s := ⟨z, H, I, rw', q⟩
  by_cases h0 : 0 ≤ i
  · have hj : i.toNat = j := by
      rw [seqIndex_of h0 h5] at h1
      exact Option.some.inj h1
    exact item_listR pl.isList h0 (by omega) (by rw [hj]; simpa using ew) fin hs
  · have hj : (i + (its.toArray.size : Int)).toNat = j := by
      rw [seqIndex_neg (by omega) h4] at h1
      rw [List.size_toArray, ← hl]
      exact Option.some.inj h1
    exact subscriptTail_builtinR (x := w) pl.isList.typeIs slot_list_getitem.lookup
      (wpAny_getItem_list_neg (Q := fun r s' => r = w ∧ EP X pins σ Q r s') pl.isList (by omega) (by rw [List.size_toArray] <;> omega) (by omega) (by rw [hj]; simpa using ew) ⟨rfl, fin⟩) hs
theorem ix_tup : IxR X (rIxT X.K) := by
  intro value slice pins s σ H x y v u Q I rx ry h hs
  obtain ⟨p, xs, i, z, rfl, rfl, hq, he, q⟩ := h
  cases rx
  obtain ⟨t, rfl⟩ := ry
  obtain ⟨its, r, pl, hz⟩ := I.tuple hq
  obtain ⟨j, h1, h2, h3, h4, h5⟩ := atI_get he
  obtain ⟨w, ew, rw'⟩ := r.get h2
  have hl := r.length
  have hn := line63
  have fin : EP X pins σ Q w s := ⟨z, H, I, rw', q⟩
  exact subscriptTail_builtinR (x := w) pl.typeIs slot_tuple_getitem.lookup
    (getItem_tuple (j := j) (Q := fun r s' => r = w ∧ EP X pins σ Q r s') pl (by omega) (by omega) (by rw [List.size_toArray, ← hl]; exact h1) (by simpa using ew) ⟨rfl, fin⟩) hs
theorem ix_str : IxR X rIxS := by
  intro value slice pins s σ H x y v u Q I rx ry h hs
  obtain ⟨z, i, c, rfl, rfl, hz, he, q⟩ := h
  obtain ⟨t, rfl⟩ := rx
  obtain ⟨t', rfl⟩ := ry
  obtain ⟨j, h1, h2, h3, h4, h5⟩ := atI_get he
  have hl : z.cps.toList.length = z.length := by simp [Str.length]
  rw [hl] at h1 h4 h5
  have hn := line63
  exact tail_any (typeIs_str s z t) slot_str_getitem.lookup (getItem_str (c := c) (by
    have e1 : decide (i < -(2 ^ 63 : Int)) = false := decide_eq_false (by omega)
    have e2 : decide (i ≥ 2 ^ 63) = false := decide_eq_false (by omega)
    rw [e1, e2, Bool.or_false]) (by rw [h1]; simpa using h2) ⟨.str ⟨#[c]⟩, H, I.tok _, ⟨_, rfl⟩, q⟩) hs
/-- list, tuple or str -/
def rIx (K : PySem.W.Frag) : R2 := fun x y H Q => rIxL K x y H Q ∨ rIxT K x y H Q ∨ rIxS x y H Q
theorem ix_seq : IxR X (rIx X.K) := ix_list.or (ix_tup.or ix_str)

/-! ### xs[i] = v, any sign -/
theorem Inv.lst {pins : List (Addr × Obj)} {σ : St} {H : Hp} {s : Shared} {p : Addr} {xs : List V} (I : Inv X pins σ H s) (h : H p = some (.lst xs)) :
    ∃ (its : List Value) (n : Nat), Vals xs its ∧ s.heap.get? p = some { cls := .type "list", data := .seq its.toArray n } ∧ xs.length ≤ sizeLine := by
  obtain ⟨z, its, n, r, e⟩ := I.hok p _ h
  exact ⟨its, n, r, e, z⟩
def rSetL : V → V → V → Hp → (Hp → Prop) → Prop := fun o i v H Q => ∃ p xs k j, o = .ref p ∧ i = .int k ∧ H p = some (.lst xs) ∧ ixN xs.length k = some j ∧ Q (upd H p (.lst (xs.set j v)))
/-! ### slices -/
theorem slice_bounds (lo hi : Option Int) (n : Nat) : (sliceBounds lo hi none n).1 = ((HT.sIx n 0 lo : Nat) : Int) ∧ (sliceBounds lo hi none n).2.1 = ((HT.sIx n n hi : Nat) : Int) ∧ (sliceBounds lo hi none n).2.2 = 1 := by
  refine ⟨?_, ?_, rfl⟩
  · cases lo with
    | none => simp [sliceBounds, HT.sIx]
    | some i =>
      simp only [sliceBounds, HT.sIx, Option.getD_none, show (1 : Int) > 0 by decide, if_true]
      by_cases h : i < 0
      · simp only [h, if_true] <;> omega
      · simp only [h, if_false] <;> omega
  · cases hi with
    | none => simp [sliceBounds, HT.sIx]
    | some i =>
      simp only [sliceBounds, HT.sIx, Option.getD_none, show (1 : Int) > 0 by decide, if_true]
      by_cases h : i < 0
      · simp only [h, if_true] <;> omega
      · simp only [h, if_false] <;> omega
theorem slicePick_cut (its : List Value) (lo hi : Option Int) : slicePick its.toArray lo hi none = ((its.drop (HT.sIx its.length 0 lo)).take (HT.sIx its.length its.length hi - HT.sIx its.length 0 lo)).toArray := by
  obtain ⟨h1, h2, h3⟩ := slice_bounds lo hi its.toArray.size
  unfold slicePick
  rw [h1, h2, h3]
  simp only [sliceRange_one, pick_run, List.size_toArray] <;> rfl
/-- xs[lo:hi] of a list: a new list -/
def rSlL (K : PySem.W.Frag) : V → Option Int → Option Int → Hp → VK → Prop := fun x lo hi H Q => ∃ a xs, x = .ref a ∧ SqL K H a xs ∧ ∀ p, H p = none → Q (.ref p) (upd H p (.lst (cutV xs lo hi)))
theorem sl_list : SlR X (rSlL X.K) := by
  intro pins s σ H x v vl vu lo hi sl Q I rx hs pl pu h
  obtain ⟨a, xs, rfl, hx, q⟩ := h
  cases rx
  obtain ⟨its, r, ht, hz⟩ := I.list hx
  have hlen := r.length
  refine ⟨"list", _, slot_list_getitem.lookup, ht.isList.typeIs, ?_⟩
  refine wpAny_getItem_list_slice ht.isList hs pl pu .none (by simp) ?_ (by rw [List.size_toArray] <;> omega)
  rw [slicePick_cut, ← hlen]
  refine ⟨.ref s.heap.objs.size, _, I.laid (t' := s.toks) (o := .lst (cutV xs lo hi)) (fun b ob q => Heap.get?_push_of_some _ q) (Nat.le_refl _) ?_, rfl, q _ (I.hok.fresh (Nat.le_refl _))⟩
  exact ⟨Nat.le_trans (cutV_length xs lo hi) hz, _, 0, (r.drop (HT.sIx xs.length 0 lo)).take (HT.sIx xs.length xs.length hi - HT.sIx xs.length 0 lo), Heap.get?_push_size _ rfl⟩

/-! ### in, not in: flat items -/
def flatV : V → Bool
  | .non => true
  | .bl _ => true
  | .int _ => true
  | .str _ => true
  | _ => false
/-- == of flat values -/
def eqV : V → V → Bool
  | .non, .non => true
  | .bl a, .bl b => a == b
  | .bl a, .int b => (if a then 1 else 0) == b
  | .int a, .bl b => a == (if b then 1 else 0)
  | .int a, .int b => a == b
  | .str a, .str b => a == b
  | _, _ => false
theorem eqAt_V {A : Around} {s : Shared} {y x : V} {u v : Value} (ry : RelV y u) (rx : RelV x v) (fy : flatV y = true) (fx : flatV x = true) : SeqAt.EqAt A s u v (eqV y x) := by
  cases y with
  | non =>
    cases ry
    cases x with
    | non => cases rx; exact SeqAt.EqAt.same _
    | bl b => cases rx; exact SeqAt.EqAt.none_bool b
    | int b => obtain ⟨t, rfl⟩ := rx; exact SeqAt.EqAt.none_int b t
    | str b => obtain ⟨t, rfl⟩ := rx; exact SeqAt.EqAt.none_str b t
    | _ => exact absurd (show false = true from fx) Bool.false_ne_true
  | bl a =>
    cases ry
    cases x with
    | non => cases rx; exact SeqAt.EqAt.bool_none a
    | bl b => cases rx; exact SeqAt.EqAt.bool_bool a b
    | int b => obtain ⟨t, rfl⟩ := rx; exact SeqAt.EqAt.bool_int a b t
    | str b => obtain ⟨t, rfl⟩ := rx; exact SeqAt.EqAt.bool_str a b t
    | _ => exact absurd (show false = true from fx) Bool.false_ne_true
  | int a =>
    obtain ⟨t', rfl⟩ := ry
    cases x with
    | non => cases rx; exact SeqAt.EqAt.int_none a t'
    | bl b => cases rx; exact SeqAt.EqAt.int_bool a t' b
    | int b => obtain ⟨t, rfl⟩ := rx; exact SeqAt.EqAt.int_int a t' b t
    | str b => obtain ⟨t, rfl⟩ := rx; exact SeqAt.EqAt.int_str a t' b t
    | _ => exact absurd (show false = true from fx) Bool.false_ne_true
  | str a =>
    obtain ⟨t', rfl⟩ := ry
    cases x with
    | non => cases rx; exact SeqAt.EqAt.str_none a t'
    | bl b => cases rx; exact SeqAt.EqAt.str_bool a t' b
    | int b => obtain ⟨t, rfl⟩ := rx; exact SeqAt.EqAt.str_int a t' b t
    | str b => obtain ⟨t, rfl⟩ := rx; exact SeqAt.EqAt.str_str a t' b t
    | _ => exact absurd (show false = true from fx) Bool.false_ne_true
  | _ => exact absurd (show false = true from fy) Bool.false_ne_true
/-- the items' answers, read off the values (a value's own answer does not lean on its token) -/
def eqU (x : V) (u : Value) : Bool := match u with
  | .none => eqV .non x
  | .bool b => eqV (.bl b) x
  | .int i _ => eqV (.int i) x
  | .str z _ => eqV (.str z) x
  | _ => false
theorem eqU_of {x y : V} {u : Value} (r : RelV y u) (f : flatV y = true) : eqU x u = eqV y x := by
  cases y with
  | non => cases r; rfl
  | bl b => cases r; rfl
  | int i => obtain ⟨t, rfl⟩ := r; rfl
  | str z => obtain ⟨t, rfl⟩ := r; rfl
  | _ => exact absurd (show false = true from f) Bool.false_ne_true
theorem any_eqU {x : V} : ∀ {xs : List V} {us : List Value}, Vals xs us → xs.all flatV = true → us.any (eqU x) = xs.any fun y => eqV y x
  | _, _, .nil, _ => rfl
  | y :: xs, u :: us, .cons r t, f => by
    rw [List.all_cons, Bool.and_eq_true] at f
    rw [List.any_cons, List.any_cons, eqU_of r f.1, any_eqU t f.2]
theorem mem_eqAt {A : Around} {s : Shared} {x : V} {v : Value} (rx : RelV x v) (fx : flatV x = true) : ∀ {xs : List V} {us : List Value}, Vals xs us → xs.all flatV = true → ∀ u ∈ us, SeqAt.EqAt A s u v (eqU x u)
  | _, _, .nil, _ => fun u hu => by cases hu
  | y :: xs, u :: us, .cons r t, f => fun u' hu => by
    rw [List.all_cons, Bool.and_eq_true] at f
    rcases List.mem_cons.mp hu with rfl | hu
    · rw [eqU_of r f.1]; exact eqAt_V r rx f.1 fx
    · exact mem_eqAt rx fx t f.2 u' hu
def inV (x : V) (xs : List V) : Bool := xs.any fun y => eqV y x
/-- x in a list or tuple of flat items -/
def rIn (K : PySem.W.Frag) (neg : Bool) : R2 := fun x y H Q => ∃ p xs, y = .ref p ∧ (SqL K H p xs ∨ SqT K H p xs) ∧ flatV x = true ∧ xs.all flatV = true ∧ Q (.bl (if neg then !inV x xs else inV x xs)) H
theorem op_in_seq : OpR X (compareOp .In) (rIn X.K false) := by
  intro pins s σ H x y v u Q I rx ry h
  obtain ⟨p, xs, rfl, hq, fx, fs, q⟩ := h
  cases ry
  rcases hq with hq | hq
  · obtain ⟨its, r, pl, hz⟩ := I.list hq
    refine SeqAt.in_listAt (eqU x) pl.isList (fun w hw => mem_eqAt rx fx r fs w (by simpa using hw)) ⟨.bl _, H, I, rfl, ?_⟩
    rw [show its.toArray.any (eqU x) = its.any (eqU x) by simp, any_eqU r fs]
    exact q
  · obtain ⟨its, r, pl, hz⟩ := I.tuple hq
    refine SeqAt.in_tupleAt (eqU x) pl (fun w hw => mem_eqAt rx fx r fs w (by simpa using hw)) ⟨.bl _, H, I, rfl, ?_⟩
    rw [show its.toArray.any (eqU x) = its.any (eqU x) by simp, any_eqU r fs]
    exact q
theorem op_notIn_seq : OpR X (compareOp .NotIn) (rIn X.K true) := by
  intro pins s σ H x y v u Q I rx ry h
  obtain ⟨p, xs, rfl, hq, fx, fs, q⟩ := h
  cases ry
  rcases hq with hq | hq
  · obtain ⟨its, r, pl, hz⟩ := I.list hq
    refine SeqAt.notIn_listAt (eqU x) pl.isList (fun w hw => mem_eqAt rx fx r fs w (by simpa using hw)) ⟨.bl _, H, I, rfl, ?_⟩
    rw [show its.toArray.any (eqU x) = its.any (eqU x) by simp, any_eqU r fs]
    exact q
  · obtain ⟨its, r, pl, hz⟩ := I.tuple hq
    refine SeqAt.notIn_tupleAt (eqU x) pl (fun w hw => mem_eqAt rx fx r fs w (by simpa using hw)) ⟨.bl _, H, I, rfl, ?_⟩
    rw [show its.toArray.any (eqU x) = its.any (eqU x) by simp, any_eqU r fs]
    exact q
/-! ### len, list(x), tuple(x) of any list or tuple that is read -/
theorem call_len_seq : CallR X (.builtin "len") (fun xs H Q => ∃ p ys, xs = [.ref p] ∧ (SqL X.K H p ys ∨ SqT X.K H p ys) ∧ Q (.int ys.length) H) := by
  intro pins s σ H xs us Q I r h
  obtain ⟨p, ys, rfl, hq, q⟩ := h
  obtain ⟨u, rfl, rx⟩ := vals1 r
  cases rx
  have hn := line63
  rcases hq with hq | hq
  · obtain ⟨its, r', pl, hz⟩ := I.list hq
    have hlen := r'.length
    exact Calls.call_len_list pl.isList (by simp only [List.size_toArray] <;> omega) ⟨.int ys.length, H, I.tok _, ⟨s.toks + 1, by rw [List.size_toArray, hlen]⟩, q⟩
  · obtain ⟨its, r', pl, hz⟩ := I.tuple hq
    have hlen := r'.length
    exact len_tuple pl (by simp only [List.size_toArray] <;> omega) ⟨.int ys.length, H, I.tok _, ⟨s.toks + 1, by rw [List.size_toArray, hlen]⟩, q⟩
theorem call_list_of : CallR X (.type "list") (fun xs H Q => ∃ p ys, xs = [.ref p] ∧ (SqL X.K H p ys ∨ SqT X.K H p ys) ∧ ∀ l, H l = none → Q (.ref l) (upd H l (.lst ys))) := by
  intro pins s σ H xs us Q I r h
  obtain ⟨p, ys, rfl, hq, q⟩ := h
  obtain ⟨u, rfl, rx⟩ := vals1 r
  cases rx
  have fin : ∀ (its : List Value), Vals ys its → ys.length ≤ sizeLine → ∀ (h' : Heap) (c' : Nat), (∀ b o', s.heap.get? b = some o' → h'.get? b = some o') →
      h'.get? s.heap.objs.size = some { cls := .type "list", dict := none, data := .seq its.toArray c', slots := #[] } → EP X pins σ Q (.ref s.heap.objs.size) { s with heap := h' } := fun its r' hz h' c' kp e =>
    ⟨.ref s.heap.objs.size, _, I.laid (t' := s.toks) kp (Nat.le_refl _) (show ObjOk X.prog X.w _ h' _ (.lst ys) from ⟨hz, its, c', r', e⟩), rfl, q _ (I.hok.fresh (Nat.le_refl _))⟩
  rcases hq with hq | hq
  · obtain ⟨its, r', pl, hz⟩ := I.list hq
    have hlen := r'.length
    obtain ⟨o, ho, hc, n, hd⟩ := pl.isList
    exact call_list_seq p (.inl rfl) ho hc hd (fun h' c' kp e => fin its r' hz h' c' kp e) (by simp only [List.size_toArray] <;> omega)
  · obtain ⟨its, r', pl, hz⟩ := I.tuple hq
    have hlen := r'.length
    obtain ⟨o, ho, hc, n, hd⟩ := pl
    exact call_list_seq p (.inr rfl) ho hc hd (fun h' c' kp e => fin its r' hz h' c' kp e) (by simp only [List.size_toArray] <;> omega)
theorem call_tuple_of : CallR X (.type "tuple") (fun xs H Q => ∃ p ys, xs = [.ref p] ∧ ((SqL X.K H p ys ∧ ∀ l, H l = none → Q (.ref l) (upd H l (.tup ys))) ∨ (SqT X.K H p ys ∧ Q (.ref p) H))) := by
  intro pins s σ H xs us Q I r h
  obtain ⟨p, ys, rfl, h⟩ := h
  obtain ⟨u, rfl, rx⟩ := vals1 r
  cases rx
  rcases h with ⟨hq, q⟩ | ⟨hq, q⟩
  · obtain ⟨its, r', pl, hz⟩ := I.list hq
    have hlen := r'.length
    refine call_tuple_list pl.isList (fun h' kp => ?_) (by simp only [List.size_toArray] <;> omega)
    have I1 : Inv X pins σ H { s with heap := h' } := I.kept (t' := s.toks) kp
    have I2 : Inv X pins σ (upd H h'.objs.size (.tup ys)) { s with heap := h'.push { cls := .type "tuple", data := .seq its.toArray } } :=
      I1.laid (t' := s.toks) (fun b o e => Heap.get?_push_of_some _ e) (Nat.le_refl _) (show ObjOk X.prog X.w _ _ _ (.tup ys) from ⟨hz, its, r', IsTup.new _ _⟩)
    exact ⟨.ref h'.objs.size, _, I2, rfl, q _ (I1.hok.fresh (Nat.le_refl _))⟩
  · obtain ⟨its, r', pl, hz⟩ := I.tuple hq
    exact call_tuple_same pl ⟨.ref p, H, I, rfl, q⟩

/-! ### the call of a builtin's method: o.m(..) -/
/-- the value is of that builtin type -/
def tyV (K : PySem.W.Frag) (T : String) (x : V) (H : Hp) : Prop := match x with
  | .str _ => T = "str"
  | .int _ => T = "int"
  | .ref p => (T = "list" ∧ ∃ xs, SqL K H p xs) ∨ (T = "tuple" ∧ ∃ o, K.lookup p = some o ∧ o.cls = .type "tuple" ∧ o.dict = none) ∨
      (T = "dict" ∧ ((∃ kvs, H p = some (.dK kvs)) ∨ ∃ kvs, H p = some (.dT kvs))) ∨ (T = "set" ∧ ∃ S n, H p = some (.set S n))
  | _ => False
theorem tyV_is {pins : List (Addr × Obj)} {σ : St} {H : Hp} {s : Shared} {T : String} {x : V} {v : Value} (I : Inv X pins σ H s) (r : RelV x v) (ty : tyV X.K T x H) :
    s.TypeIs v T ∧ ∀ a, v = .ref a → ∃ ob, s.heap.get? a = some ob ∧ ob.dict = none := by
  cases x with
  | str z =>
    obtain ⟨t, rfl⟩ := r
    cases (show T = "str" from ty)
    exact ⟨typeIs_str s z t, fun _ e => nomatch e⟩
  | int i =>
    obtain ⟨t, rfl⟩ := r
    cases (show T = "int" from ty)
    exact ⟨typeIs_int s i t, fun _ e => nomatch e⟩
  | ref p =>
    cases r
    rcases ty with ⟨rfl, xs, hq⟩ | ⟨rfl, o, hk, hc, hd⟩ | ⟨rfl, hk⟩ | ⟨rfl, S, n, hk⟩
    · obtain ⟨its, _, pl, _⟩ := I.list hq
      refine ⟨pl.isList.typeIs, fun a e => ?_⟩
      cases e
      obtain ⟨o, n, e, c, hd, _⟩ := pl
      exact ⟨o, e, hd⟩
    · refine ⟨⟨o, I.kIn p o hk, hc⟩, fun a e => ?_⟩
      cases e
      exact ⟨o, I.kIn _ o hk, hd⟩
    · have z : ∃ o, s.heap.get? p = some o ∧ o.ExactDict := by
        rcases hk with ⟨kvs, hk⟩ | ⟨kvs, hk⟩
        · obtain ⟨_, _, _, _, o, _, _, e, ex, _⟩ := I.hok p _ hk
          exact ⟨o, e, ex⟩
        · obtain ⟨_, _, _, _, o, _, _, e, ex, _⟩ := I.hok p _ hk
          exact ⟨o, e, ex⟩
      obtain ⟨o, e, ex⟩ := z
      refine ⟨⟨o, e, ex.1⟩, fun a e2 => ?_⟩
      cases e2
      exact ⟨o, e, ex.2.1⟩
    · obtain ⟨o, _, _, _, e, ex, _⟩ := I.hok p _ hk
      refine ⟨⟨o, e, ex.1⟩, fun a e2 => ?_⟩
      cases e2
      exact ⟨o, e, ex.2.1⟩
  | _ => exact False.elim ty
def tBM0 (K : PySem.W.Frag) (T : String) (r : V → List V → Hp → VK → Prop) (to : TE) : TE := fun σ H Q => to σ H fun x H1 => tyV K T x H1 ∧ r x [] H1 Q
def tBM (K : PySem.W.Frag) (T : String) (r : V → List V → Hp → VK → Prop) (to : TE) (t : TA) : TE := fun σ H Q => to σ H fun x H1 => tyV K T x H1 ∧ t σ H1 fun xs H2 => r x xs H2 Q
variable {o e : Expr} {es : List Expr} {to : TE} {t : TA} {name : Str} {apos cpos : Pos} {T id : String} {r : V → List V → Hp → VK → Prop}
theorem pe_bm (pa : PlainAttrs T) (slot : Slot T name id) (hty : typeOf (.builtin id) = pure (.type "method_descriptor")) (hm : MtR X id r) (ho : PE X o to) (ha : PA X (e :: es) t)
    (hbase : attributeBase o name X.env (eval o X.env) = eval o X.env := by rfl)
    (hfew : ((backTo cpos (starEach (e :: es) X.env)).all (fun x => !x.1) && (backToKw cpos (keywordEach [] X.env)).all (fun x => x.1.isSome)
      && decide ((e :: es).length + ([] : List Keyword).length + (if ([] : List Keyword).isEmpty then 0 else 1) < 30)) = true := by rfl)
    (hline : (apos.endLine == cpos.line) = true := by rfl) (hs : starEach (e :: es) X.env = (false, eval e X.env) :: starEach es X.env := by rfl) (hplain : (backTo cpos (starEach es X.env)).any (·.1) = false := by rfl) :
    PE X (.Call (.Attribute o name apos) (e :: es) [] cpos) (tBM X.K T r to t) := by
  intro pins s σ H Q I h
  refine wpAny_Call_method_late hbase hfew hline rfl (thn (ho pins s σ H _ I h) fun v s1 ⟨x, H1, I1, r1, ty, q1⟩ => ?_)
  obtain ⟨h1, h2⟩ := tyV_is I1 r1 ty
  refine ⟨T, id, pa, slot, hty, h1, h2, ?_⟩
  have hA := ha cpos pins s1 σ H1 _ I1 q1
  rw [hs] at hA ⊢
  refine Calls.callWith_builtin (by show (false || (backTo cpos (starEach es X.env)).any (·.1)) = false; rw [hplain] <;> rfl) (Calls.evalArgs_plain ?_)
  exact thn hA fun us s2 ⟨vs, H2, I2, r2, q2⟩ => hm pins s2 σ H2 x vs v us Q I2 r1 r2 q2
/- xs.append(e), list.index on a module's tuple .. are MtR facts of 06m -/
end
end L2

namespace L2
open PySem PySem.Spec PyProof.Rows

def MtM (X : Cx) (id : String) (r : V → List V → Hp → VK → Prop) : Prop :=
  ∀ (pins : List (Addr × Obj)) (s : Shared) (σ : St) (H : Hp) (x : V) (xs : List V) (v : Value) (us : List Value) (Q : VK), Inv X pins σ H s → RelV x v → Vals xs us → r x xs H Q →
    wpAny (model X.prog X.w) X.A (call (.builtin id) (v :: us)) (EP X pins σ Q) X.xe s

/-! ### lists of values -/
theorem Vals.one {x : V} {us : List Value} (h : Vals [x] us) : ∃ u, us = [u] ∧ RelV x u := by
  cases h with
  | cons r q => cases q; exact ⟨_, rfl, r⟩
theorem Vals.zero : ∀ {us : List Value}, Vals [] us → us = []
  | _, .nil => rfl
theorem Vals.eraseIdx : ∀ {xs : List V} {us : List Value} (i : Nat), Vals xs us → Vals (xs.eraseIdx i) (us.eraseIdx i)
  | _, _, _, .nil => .nil
  | _, _, 0, .cons _ t => t
  | _, _, i + 1, .cons r t => .cons r (Vals.eraseIdx i t)
section
variable {X : Cx} {pins : List (Addr × Obj)} {σ : St} {H : Hp} {s : Shared} {l b : Addr} {xs ys zs : List V}

/-! ### the two steps: a tracked list is rewritten, a new list is laid -/
theorem Inv.lset {its its' : List Value} {n : Nat} {f : Array Value → Array Value} {t' : Nat} (I : Inv X pins σ H s) (hH : H l = some (.lst xs))
    (e : s.heap.get? l = some { cls := .type "list", data := .seq its.toArray n }) (hf : f its.toArray = its'.toArray) (hv : Vals ys its') (hz : ys.length ≤ sizeLine) :
    Inv X pins σ (upd H l (.lst ys)) { s with heap := s.heap.update l (Obj.mapSeq f), toks := t' } := by
  have q := PySem.IsL.update e f
  rw [hf] at q
  refine I.write (x := l) (e := l) (by rw [hH]; exact trivial) (.inl rfl) (fun b' u hb hu => (Heap.get?_update_other s.heap (Obj.mapSeq f) (Ne.symm hb)).trans hu) ⟨_, q⟩ ?_
  exact ⟨hz, its', _, hv, q⟩
theorem Inv.lnew {its : List Value} {t' : Nat} (I : Inv X pins σ H s) (hv : Vals ys its) (hz : ys.length ≤ sizeLine) :
    Inv X pins σ (upd H s.heap.objs.size (.lst ys)) { s with heap := s.heap.push { cls := .type "list", data := .seq its.toArray }, toks := t' } :=
  I.laid (fun _ _ q => Heap.get?_push_of_some _ q) (Nat.le_refl _) ⟨hz, its, 0, hv, Heap.get?_push_size _ rfl⟩
theorem Inv.fresh (I : Inv X pins σ H s) : H s.heap.objs.size = none := I.hok.fresh (Nat.le_refl _)
theorem Inv.lstM (I : Inv X pins σ H s) (hH : H l = some (.lst xs)) : xs.length ≤ sizeLine ∧ ∃ (its : List Value) (n : Nat), Vals xs its ∧ xs.length = its.length ∧ s.heap.get? l = some { cls := .type "list", data := .seq its.toArray n } := by
  obtain ⟨z, its, n, r, e⟩ := I.hok l _ hH
  exact ⟨z, its, n, r, r.length, e⟩

theorem notLongL {n : Nat} (h : n ≤ sizeLine) : Builtin.List.listTooLong n = false := by
  unfold Builtin.List.listTooLong
  exact decide_eq_false (by omega)
end

section
variable {X : Cx}

/-! ### methods -/
def rAppend : V → List V → Hp → VK → Prop := fun x vs H Q => ∃ l xs y, x = .ref l ∧ vs = [y] ∧ H l = some (.lst xs) ∧ xs.length < sizeLine ∧ Q .non (upd H l (.lst (xs ++ [y])))
theorem mt_append : MtM X "list.append" rAppend := by
  intro pins s σ H x vs v us Q I rx rv h
  obtain ⟨l, xs, y, rfl, rfl, hH, hz, q⟩ := h
  cases rx
  obtain ⟨u, rfl, ru⟩ := rv.one
  obtain ⟨z, its, n, r, hl, e⟩ := I.lstM hH
  refine call_meets F.slot_list_append ⟨_, e, rfl⟩ F.entry_list_append (F.args_list_append_2 _ _) (PySem.list_append l its.toArray n u (by rw [List.size_toArray]; omega)) ⟨e, ?_⟩
  refine ⟨.non, _, I.lset (its' := its ++ [u]) hH e (by simp) (r.append (.cons ru .nil)) ?_, rfl, q⟩
  rw [List.length_append, List.length_singleton]
  omega

def rExtend : V → List V → Hp → VK → Prop := fun x vs H Q => ∃ l b xs zs, x = .ref l ∧ vs = [.ref b] ∧ H l = some (.lst xs) ∧ H b = some (.lst zs) ∧ xs.length + zs.length ≤ sizeLine ∧ Q .non (upd H l (.lst (xs ++ zs)))
theorem mt_extend : MtM X "list.extend" rExtend := by
  intro pins s σ H x vs v us Q I rx rv h
  obtain ⟨l, b, xs, zs, rfl, rfl, hH, hB, hz, q⟩ := h
  cases rx
  obtain ⟨u, rfl, ru⟩ := rv.one
  cases ru
  obtain ⟨z, its, n, r, hl, e⟩ := I.lstM hH
  obtain ⟨z2, its2, n2, r2, hl2, e2⟩ := I.lstM hB
  have hsz : its.toArray.size + its2.toArray.size ≤ sizeLine := by rw [List.size_toArray, List.size_toArray]; omega
  have hlong : ¬ (!its.toArray.isEmpty && Builtin.List.listTooLong (its.toArray.size + its2.toArray.size)) = true := by
    rw [notLongL hsz, Bool.and_false]
    exact Bool.false_ne_true
  refine call_meets F.slot_list_extend ⟨_, e, rfl⟩ F.entry_list_extend (F.args_list_extend_2 _ _)
    (AutoSeq1.list_extend_list_list_0 l its.toArray n b its2.toArray n2 hlong (by rw [List.size_toArray]; omega) (by omega)) ⟨e, e2, ?_⟩
  refine ⟨.non, _, I.lset (its' := its ++ its2) hH e (by simp) (r.append r2) ?_, rfl, q⟩
  rw [List.length_append]
  omega

def rPop : V → List V → Hp → VK → Prop := fun x vs H Q => ∃ l xs y, x = .ref l ∧ vs = [] ∧ H l = some (.lst xs) ∧ xs[xs.length - 1]? = some y ∧ Q y (upd H l (.lst xs.dropLast))
def rPopAt : V → List V → Hp → VK → Prop := fun x vs H Q => ∃ l xs i k y, x = .ref l ∧ vs = [.int i] ∧ H l = some (.lst xs) ∧ -(2 ^ 63) ≤ i ∧ i < 2 ^ 63 ∧ seqIndex? i xs.length = some k ∧ xs[k]? = some y ∧ Q y (upd H l (.lst (xs.eraseIdx k)))
def rReverse : V → List V → Hp → VK → Prop := fun x vs H Q => ∃ l xs, x = .ref l ∧ vs = [] ∧ H l = some (.lst xs) ∧ Q .non (upd H l (.lst xs.reverse))
def rClear : V → List V → Hp → VK → Prop := fun x vs H Q => ∃ l xs, x = .ref l ∧ vs = [] ∧ H l = some (.lst xs) ∧ Q .non (upd H l (.lst []))
/-! ### list + list, list += list, list * int -/
def rCat : R2 := fun x y H Q => ∃ l b xs zs, x = .ref l ∧ y = .ref b ∧ H l = some (.lst xs) ∧ H b = some (.lst zs) ∧ xs.length + zs.length ≤ sizeLine ∧ ∀ p, H p = none → Q (.ref p) (upd H p (.lst (xs ++ zs)))
theorem op_cat : OpR X (binaryOp .Add) rCat := by
  intro pins s σ H x y v u Q I rx ry h
  obtain ⟨l, b, xs, zs, rfl, rfl, hH, hB, hz, q⟩ := h
  cases rx
  cases ry
  obtain ⟨z, its, n, r, hl, e⟩ := I.lstM hH
  obtain ⟨z2, its2, n2, r2, hl2, e2⟩ := I.lstM hB
  refine PySem.P.add_list e e2 ?_ (by rw [List.size_toArray, List.size_toArray]; omega)
  have ea : its.toArray ++ its2.toArray = (its ++ its2).toArray := by simp
  rw [ea]
  exact ⟨.ref _, _, I.lnew (t' := s.toks) (r.append r2) (by rw [List.length_append]; omega), rfl, q _ I.fresh⟩
/-- a list times an int (a negative one is nothing) -/
def rRep : R2 := fun x y H Q => ∃ l k xs, x = .ref l ∧ y = .int k ∧ H l = some (.lst xs) ∧ -(2 ^ 63) ≤ k ∧ k < 2 ^ 63 ∧ xs.length * k.toNat ≤ sizeLine ∧
  ∀ p, H p = none → Q (.ref p) (upd H p (.lst (List.replicate k.toNat xs).flatten))
/-! ### del xs[i] -/
end

/-! ### xs[a:b] = ys -/
section
variable {prog : Program} {w : World} {A : Around} {E : Value → Shared → Prop} {s : Shared}
end

section
variable {X : Cx}
end
end L2

namespace Att
open PySem PySem.W PySem.Calls PyProof.Rows

/-! ### the script -/
theorem ints_of_wellAll {P : Params} {h : Heap} : ∀ (ns : List Int) (vs : List Value), WellAll P h vs (ns.map WData.int) → IntsAre vs ns := by
  intro ns
  induction ns with
  | nil =>
    intro vs w
    rw [List.map_nil] at w
    cases w
    exact .nil
  | cons n ns ih =>
    intro vs w
    rw [List.map_cons] at w
    cases w with
    | cons a b =>
      cases a
      exact .cons _ _ (ih _ b)

theorem script_of {l : OpenLaw} {n : Nat} (hn : l.most = some n) {P : Params} {h : Heap} {args : List WData} {vals : List Value}
    (hpre : l.row.toRowW.claim.pre args = true) (hwl : WellAll P h vals args) :
    ∃ a vs ns, vals = [Value.ref a] ∧ args = [WData.list (ns.map WData.int)] ∧ h.get? a = some { cls := .type "list", data := .seq vs.toArray } ∧ IntsAre vs ns ∧ ns.length ≤ n := by
  have hsh : WShape.hasAll [] args [.list .int] = true := (pre_splitW hpre).1
  have hc : l.pre.holds [] { args := args } = true := (pre_splitW hpre).2
  obtain ⟨d, r, rfl, h1, h2⟩ := hasAllW_cons hsh
  obtain rfl := hasAllW_nil h2
  obtain ⟨xs, rfl, h3⟩ := hasW_list h1
  obtain ⟨ns, rfl⟩ := items_int h3
  have hlen : ns.length ≤ n := by
    unfold OpenLaw.pre at hc
    have h4 : (WTm.not (.lt (.lit (.int (n : Int))) (.len (.arg 0)))).holds [] { args := [.list (ns.map .int)] } = true := by
      have h4 := (holds_andW hc).1
      rw [hn] at h4
      exact h4
    have h5 := condW_of h4 (w_not (w_lt w_lit (w_len_list (w_arg rfl))))
    rw [List.length_map] at h5
    refine Nat.le_of_not_lt fun q => ?_
    have q' : (n : Int) < ((ns.length : Nat) : Int) := by omega
    first
      | (rw [decide_eq_true q'] at h5; exact absurd h5 (by decide))
      | (simp at h5; omega)
  cases hwl with
  | cons w1 w2 =>
    cases w2
    cases w1 with
    | list ho hall => exact ⟨_, _, ns, rfl, rfl, ho, ints_of_wellAll ns _ hall, hlen⟩

theorem post_true (l : OpenLaw) (args : List WData) : l.row.toRowW.claim.post args (.bool true) args = true :=
  postW_of (r := l.row.toRowW) (X := (true == true))
    (show WShape.has [] (.bool true) .bool = true by first | rfl | decide | simp [WShape.has, WShape.arms, WShape.armsAll])
    (show (WTm.eq .res (.lit (.bool true))).value [] { args := args, res := some (.bool true), after := args } = some (.bool (true == true)) from w_eq_bool (w_res rfl) w_lit) rfl

/-! ### the attachment: holds_open's last premise (the goal 'hc' behind k_head) from a wpAny of the law's body -/
/-- the same from a codeAny of the CALL (for a layer whose function contracts speak of calls) -/
theorem attach_call {l : OpenLaw} {n : Nat} {q : Program} {loose : List Str} {XP : (Str → Option Value) → Heap → Prop} {YP : World → Heap → Prop} {d : DefRec}
    (hn : l.most = some n) (hdf : d.params.defaults = [])
    (call : ∀ (w : World) (s₀ s₁ : Shared) (mg mb : Str → Option Value) (fa : Addr) (o : Obj) (pm cd doc : Value) (a : Addr) (vs : List Value) (ns : List Int),
      Ground q loose [] XP w s₀ mg mb s₁.heap → YP w s₁.heap →
      s₁.heap.get? fa = some o → o.data = .func (docDef d.name d.params d.body d.scope pm cd doc) → s₁.heap.CodeRec cd d.name → mg d.name = some (.ref fa) →
      s₁.heap.get? a = some { cls := .type "list", data := .seq vs.toArray } → IntsAre vs ns → ns.length ≤ n → s₁.gens = #[] →
      codeAny (model l.prog w) callerA (.call (.ref fa) ⟨[.ref a], []⟩) (fun r s' => r = .ok (.ret (.bool true)) ∧ OldK s₁.heap s'.heap ∧ s'.os = s₁.os ∧ AllBare s'.gens) s₁) :
    WalkO q loose XP YP l.row.toRowW d [] (fun f vs => PySem.call f vs) := by
  intro w s₀ s₁ mg mb G Y fa o pm cd doc dV kV ho hd hcd hD hmg hg args vals as hpre hlay hrd hwl hlo
  obtain rfl : dV = .none := Dflts.none hD hdf
  obtain rfl : kV = .none := Dflts.noKw hD
  obtain ⟨a, vs, ns, rfl, rfl, hobj, hints, hlen⟩ := script_of hn hpre hwl
  refine enter_call (codeAny_mono (call w s₀ s₁ mg mb fa o pm cd doc a vs ns G Y ho (fd_plain hd) hcd hmg hobj hints hlen hg) fun r s' hq => ?_)
  obtain ⟨rfl, h2, h3, h4⟩ := hq
  exact ⟨.inl ⟨.bool true, .bool true, [], rfl, fun _ => rfl, .bool true, post_true l _, fun _ => ⟨List.Pairwise.nil, fun _ hm => (nomatch hm)⟩⟩, h2, h3, h4⟩

/-! ### rules over ANY heap (no ledger) from facts about the written part K: the library's own take a ledger (News) for what they write -/
section
variable {prog : Program} {w : World} {A : Around} {E : Value → Shared → Prop} {s : Shared} {K : Frag}

/-! the whole heap as the ledger: makes every rule that writes through a ledger a rule over any heap -/
def noObjs (h : Heap) : Heap := { h with objs := #[] }
def ledger (h : Heap) (L d : Addr) : List (Addr × Obj) := (List.range h.objs.size).filterMap fun a => if a = L ∨ a = d then none else (h.get? a).map fun o => (a, o)
end
end Att

namespace L2
open PySem PySem.Spec PyProof.Rows

theorem vals_ints : ∀ {vs : List Value} {ns : List Int}, IntsAre vs ns → Vals (ns.map V.int) vs
  | _, _, .nil => .nil
  | _, _, .cons n t h => .cons ⟨t, rfl⟩ (vals_ints h)

/-- nothing is tracked but the script, known to the object (or it is an object of the module) -/
def Only (H : Hp) : Prop := ∀ b, H b = none ∨ ∃ o xs, H b = some (.frz o (.lst xs))

/-- THE HEAD: the law's promise, at the heap behind the top. F, the promise of the law's def, may use that base is part of the heap (so K.In base, base.Ns mainGlobals mg stand in Mod) -/
theorem law_call {P : Program} {w : World} {K : PySem.W.Frag} {mg mb : Str → Option Value} {CX : CXT} {k : Nat} {fa a : Addr} {fd : FuncData} {x : Str} {sp : Sp} {s₁ : Shared} {vs : List Value} {ns : List Int}
    (KX : K.In s₁.heap) (hns : s₁.heap.Ns mainGlobals mg) (hb : s₁.heap.Ns builtinsNs mb) (hbb : ∀ x : Str, x ≠ "__name__" → mb x = bootBuiltins x) (hlim : s₁.heap.NoLimit) (hg : s₁.gens = #[])
    (ha : s₁.heap.get? a = some { cls := .type "list", data := .seq vs.toArray }) (hi : IntsAre vs ns) (hl : ns.length ≤ sizeLine) (hr : Room k callerA)
    (F : ∀ base : Heap, K.In base → base.Ns mainGlobals mg → FnOk P w K mg base CX k fa fd [x] sp) (hbind : ∀ (s : Shared) (u : Value), BindsTo s fd ⟨[u], []⟩ [(x, u)])
    (hsp : ∀ H : Hp, Only H → SqL K H a (ns.map V.int) → sp [.ref a] H (fun v _ => v = .bl true) fun _ _ _ => False)
    (hCX : ∀ H e s', CX [] H s₁ (fun _ _ _ => False) e s' → False) :
    codeAny (model P w) callerA (.call (.ref fa) ⟨[.ref a], []⟩) (fun r s' => r = .ok (.ret (.bool true)) ∧ OldK s₁.heap s'.heap ∧ s'.os = s₁.os ∧ AllBare s'.gens) s₁ := by
  have rv := vals_ints hi
  have lenV := hi.length
  -- from an abstract heap in which nothing but the script may be tracked
  have core : ∀ H : Hp, Only H → SqL K H a (ns.map V.int) → HOk P w H s₁.heap → (∀ b, H b ≠ none → b = a) → (H a ≠ none → K.lookup a = none) →
      codeAny (model P w) callerA (.call (.ref fa) ⟨[.ref a], []⟩) (fun r s' => r = .ok (.ret (.bool true)) ∧ OldK s₁.heap s'.heap ∧ s'.os = s₁.os ∧ AllBare s'.gens) s₁ := by
    intro H hO hS hok hA hK
    have base_of : ∀ {b : Addr} {o : Obj}, s₁.heap.get? b = some o → H b = none → (hidT s₁.heap H).get? b = some o := fun e n => hidT_get e n
    have noA : ∀ {b : Addr} {o : Obj} {es : Array DictEntry} {ep : Nat}, s₁.heap.get? b = some o → o.data = .dict es ep → H b = none := fun {b o es ep} e d => by
      cases q : H b with
      | none => rfl
      | some u =>
        have e' : b = a := hA b (by rw [q]; simp)
        subst e'
        rw [ha] at e; cases e
        have d' : Data.seq vs.toArray _ = Data.dict es ep := d
        cases d'
    have nsK : ∀ {b : Addr} {m : Str → Option Value}, s₁.heap.Ns b m → (hidT s₁.heap H).Ns b m := fun {b m} ⟨o, es, ep, e, d, r⟩ => ⟨o, es, ep, base_of e (noA e d), d, r⟩
    have hKb : K.In (hidT s₁.heap H) := fun b o e => base_of (KX b o e) (by
      cases q : H b with
      | none => rfl
      | some u =>
        have e' : b = a := hA b (by rw [q]; simp)
        subst e'
        rw [hK (by rw [q]; simp)] at e; cases e)
    have hM : Mod K mg (hidT s₁.heap H) := ⟨hKb, nsK hns, ⟨mb, nsK hb, hbb⟩, let ⟨mc, h1, h2⟩ := hlim; ⟨mc, nsK h1, h2⟩⟩
    have e0 : Env0 P w K mg (hidT s₁.heap H) callerA [] s₁ H := ⟨rfl, hM, fun b o e => of_hidT e, Nat.le_of_eq (hidT_size _ _), trivial, fun b hb => absurd (show b ∈ ([] : List Addr) from hb) (by simp), hok, .of_eq hg⟩
    refine codeAny_mono ((F _ hKb (nsK hns)).run callerA [] s₁ H ⟨[.ref a], []⟩ [.ref a] [.ref a] _ _ hr e0 (hbind s₁ (.ref a)) (.cons rfl .nil) (hsp H hO hS)) fun r s' h => ?_
    cases r with
    | error e => exact (hCX H e s' h).elim
    | ok fl =>
      cases fl with
      | next => exact False.elim h
      | brk => exact False.elim h
      | cont => exact False.elim h
      | ret u =>
        obtain ⟨v, H', os, bare, un, hok', r', q⟩ := h
        have q' : v = .bl true := q
        subst q'
        obtain rfl : u = Value.bool true := r'
        refine ⟨rfl, OldK.of_keep fun b o e => ?_, os, bare⟩
        cases q : H b with
        | none => exact un.keep b o e q (by intro z; exact absurd (show b ∈ ([] : List Addr) from z) (by simp)) (by simp)
        | some u =>
          rcases hO b with z | ⟨ob, xs, z⟩
          · rw [q] at z; cases z
          · have z2 := un.frzs b ob _ z
            obtain ⟨e1, _⟩ := hok b _ z
            obtain ⟨e2, _⟩ := hok' b _ z2
            rw [e] at e1; cases e1
            exact e2
  cases hk : K.lookup a with
  | some o =>
    -- the script is one of the module's own objects
    have e := KX a o hk
    rw [ha] at e
    cases e
    refine core (fun _ => none) (fun _ => .inl rfl) (.inr ⟨_, vs.toArray, _, hk, rfl, rfl, rfl, by rw [List.size_toArray, lenV]; exact hl, by simpa using rv⟩) (fun b u z => by have z' : (none : Option HO) = some u := z; cases z') (fun b z => absurd rfl z) fun z => absurd rfl z
  | none =>
    refine core (fun b => if b = a then some (.frz { cls := .type "list", data := .seq vs.toArray } (.lst (ns.map V.int))) else none) (fun b => ?_) (.inl (.inr ⟨{ cls := .type "list", data := .seq vs.toArray }, if_pos rfl⟩)) (fun b u z => ?_) (fun b z => ?_) fun _ => hk
    · by_cases hb : b = a
      · exact .inr ⟨_, _, if_pos hb⟩
      · exact .inl (if_neg hb)
    · by_cases hb : b = a
      · have z' := (if_pos hb).symm.trans z
        cases z'
        subst hb
        exact ⟨ha, by rw [List.length_map]; exact hl, vs, _, rv, ha⟩
      · have z' := (if_neg hb).symm.trans z
        cases z'
    · by_cases hb : b = a
      · exact hb
      · exact absurd (if_neg hb) z
end L2

namespace L2
open PySem PySem.Spec PyProof.Rows

abbrev KOf {K : PySem.W.Frag} {h : Heap} (_ : K.In h) : PySem.W.Frag := K

/-- the goal that k_head leaves (case hc), from the law's promise. F gives the function object fd (K's own) once, then the promise over every base -/
theorem walk_of {l : PySem.W.OpenLaw} {n k : Nat} {q : Program} {loose : List Str} {XP : (Str → Option Value) → Heap → Prop} {YP : World → Heap → Prop} {d : DefRec} {K : Params → PySem.W.Frag} {CX : World → CXT} {sp : World → Sp} {x : Str}
    (hn : l.most = some n) (hn2 : n ≤ sizeLine) (hdf : d.params.defaults = []) (hr : Room k callerA)
    (hY : ∀ (w : World) (h : Heap), YP w h → (K w.params).In h)
    (F : ∀ (w : World) (mg : Str → Option Value) (fa : Addr) (h : Heap), (K w.params).In h → h.Ns mainGlobals mg → mg d.name = some (.ref fa) →
      ∃ fd : FuncData, (∀ (s : Shared) (u : Value), BindsTo s fd ⟨[u], []⟩ [(x, u)]) ∧
        ∀ base : Heap, (K w.params).In base → base.Ns mainGlobals mg → FnOk l.prog w (K w.params) mg base (CX w) k fa fd [x] (sp w))
    (hsp : ∀ (w : World) (H : Hp) (a : Addr) (ns : List Int), ns.length ≤ n → Only H → SqL (K w.params) H a (ns.map V.int) → sp w [.ref a] H (fun v _ => v = .bl true) fun _ _ _ => False)
    (hCX : ∀ (w : World) (H : Hp) (s : Shared) (e : Value) (s' : Shared), CX w [] H s (fun _ _ _ => False) e s' → False) :
    PySem.W.WalkO q loose XP YP l.row.toRowW d [] (fun f vs => PySem.call f vs) := by
  refine Att.attach_call hn hdf fun w s₀ s₁ mg mb fa o pm cd doc a vs ns G Y ho hd hcd hmg hobj hints hlen hg => ?_
  have KX := hY w _ Y
  obtain ⟨fd, hb, hF⟩ := F w mg fa _ KX G.T.g hmg
  exact law_call KX G.T.g G.T.b G.T.builtins G.T.nolimit hg hobj hints (Nat.le_trans hlen hn2) hr hF hb (fun H hO hS => hsp w H a ns hlen hO hS) fun H e s' => hCX w H s₁ e s'
end L2


/-! SHORT WORDS over the layer: a def of the text, its body, what a loop and a test want. -/
namespace L2
open PySem PySem.Spec PyProof.Rows

/-! ### the text by places -/
/-- the j-th statement of a class's body -/
def inClass (s : Stmt) (j : Nat) : Stmt := match s with
  | .ClassDef _ _ _ body _ _ _ _ _ _ _ => body.getD j (.Pass ⟨0, 0, 0, 0⟩)
  | _ => .Pass ⟨0, 0, 0, 0⟩
def defArgs (s : Stmt) : Arguments := match s with
  | .FunctionDef _ a _ _ _ _ _ _ _ _ => a
  | _ => { posonlyargs := [], args := [], vararg := none, kwonlyargs := [], kw_defaults := [], kwarg := none, defaults := [] }
def defBody (s : Stmt) : List Stmt := match s with
  | .FunctionDef _ _ b _ _ _ _ _ _ _ => b
  | _ => []
def defScope (s : Stmt) : Scope := match s with
  | .FunctionDef _ _ _ _ _ _ sc _ _ _ => sc
  | _ => { kind := .function, names := [], isGenerator := false, isCoroutine := false }

/-! ### no exception leaves a def -/
abbrev CX0 : CXT := fun _ _ _ _ _ _ => False
abbrev E0 : XK := fun _ _ _ => False
theorem pass0 {X : Cx} : Passes CX0 X E0 := fun _ _ _ _ _ _ _ h => h.elim

/-! ### a def (or method) of the text as it stands behind the top -/
structure Fun (K : PySem.W.Frag) (x qual : Str) (st : Stmt) (f : Addr) (fd : FuncData) : Prop where
  ex : ∃ (oc : Value) (od : Option Addr) (kV doc pm : Value) (an : Option Addr) (cdv ct : Value) (osl : Array (Option Value)),
    fd = PySem.W.fnOf x qual (defArgs st) (defBody st) (defScope st) .none kV doc pm an cdv ct ∧ K.lookup f = some ⟨oc, od, .func fd, osl⟩ ∧ PySem.W.codeIn K cdv qual = true
  kp : PySem.W.keepIn K (.ref f) = true
section
variable {P : Program} {w : World} {K : PySem.W.Frag} {mg : Str → Option Value} {base : Heap}
/-- THE RULE for a def: its body as a term of rules, and the reading of that term -/
theorem Fun.ok {x qual : Str} {st : Stmt} {f : Addr} {fd : FuncData} {N ps : List Str} {k : Nat} {sp : Sp} (F : Fun K x qual st f fd) (S : FnScope N ps (defScope st)) (len : ∀ vs H Q E, sp vs H Q E → vs.length = ps.length)
    (hbody : ∀ (cdv : Value) (A : Around) (outer : List Env) (s : Shared) (H : Hp) (vs : List V) (Q : VK) (E : XK), Room k (A.deeper (envOfC qual (defScope st) s.heap.objs.size f cdv)) → sp vs H Q E →
      ∃ t, PSs (cxOf CX0 P w K mg base N qual (defScope st) f cdv A outer s H E).nox (defBody st) t ∧ t { nx := fun _ H' => Q .non H', rt := Q } (start N vs) H) : FnOk P w K mg base CX0 (k + 1) f fd ps sp := by
  obtain ⟨oc, od, kV, doc, pm, an, cdv, ct, osl, rfl, lk, hcd⟩ := F.ex
  refine fn_of lk hcd S len fun A outer s H vs Q E hr hsp => ?_
  obtain ⟨t, h, q⟩ := hbody cdv A outer s H vs Q E hr hsp
  exact ⟨t, h.nox, q⟩
/-- how its arguments bind (no defaults): h is «fun _ _ _ _ _ _ us hl => match us, hl with | [_, _], _ => rfl», one _ a parameter -/
theorem Fun.binds {x qual : Str} {st : Stmt} {f : Addr} {fd : FuncData} {ps : List Str} (F : Fun K x qual st f fd)
    (h : ∀ (kV doc pm : Value) (an : Option Addr) (cdv ct : Value) (us : List Value), us.length = ps.length → bindArgs (PySem.W.fnOf x qual (defArgs st) (defBody st) (defScope st) .none kV doc pm an cdv ct) ⟨us, []⟩ = pure (ps.zip us)) : Binds K fd ps [] := by
  obtain ⟨oc, od, kV, doc, pm, an, cdv, ct, osl, rfl, lk, hcd⟩ := F.ex
  exact .all (h kV doc pm an cdv ct)
theorem fun_mk {x qual : Str} {st : Stmt} {f : Addr} {oc : Value} {od an : Option Addr} {osl : Array (Option Value)} {kV doc pm cdv ct : Value} (l : K.lookup f = some ⟨oc, od, .func (PySem.W.fnOf x qual (defArgs st) (defBody st) (defScope st) .none kV doc pm an cdv ct), osl⟩)
    (c : PySem.W.codeIn K cdv qual = true) (k : PySem.W.keepIn K (.ref f) = true) : Fun K x qual st f (PySem.W.fnOf x qual (defArgs st) (defBody st) (defScope st) .none kV doc pm an cdv ct) := ⟨⟨oc, od, kV, doc, pm, an, cdv, ct, osl, rfl, l, c⟩, k⟩
end
/-! ### expressions in short: the name that stands in the i-th slot -/
section
variable {X : Cx}
theorem pv (i : Nat) {x : Str} {pos : Pos} (hN : X.N[i]? = some x := by rfl) (hv : Vis X.env.scope x := by first | exact Or.inl rfl | exact Or.inr (Or.inl rfl) | exact Or.inr (Or.inr rfl)) (hd : (x == ("__debug__" : Str)) = false := by decide)
    (hcd : (x == ("__classdict__" : Str)) = false := by decide) : PE X (.Name x pos) (tVar i) := pe_var hN hv hd hcd
end

/-! ### tests -/
theorem ite2 {c A B : Prop} [Decidable c] (h1 : c → A) (h2 : ¬ c → B) : if c then A else B := by
  by_cases h : c
  · rw [if_pos h]
    exact h1 h
  · rw [if_neg h]
    exact h2 h
/-! ### heaps -/
/-- all that was tracked is as it was -/
def Same (H H' : Hp) : Prop := ∀ b o, H b = some o → H' b = some o
theorem Same.refl (H : Hp) : Same H H := fun _ _ h => h
theorem Same.trans {H H1 H2 : Hp} (a : Same H H1) (b : Same H1 H2) : Same H H2 := fun c o h => b c o (a c o h)
theorem Same.free {H H' : Hp} (e : Same H H') {l : Addr} (h : H' l = Option.none) : H l = Option.none := by
  cases q : H l with
  | none => rfl
  | some o =>
    rw [e l o q] at h
    cases h
theorem Same.seq {K : PySem.W.Frag} {H H' : Hp} {a : Addr} {xs : List V} (e : Same H H') (h : SqL K H a xs) : SqL K H' a xs := by
  rcases h with (h | ⟨o, h⟩) | h
  · exact .inl (.inl (e _ _ h))
  · exact .inl (.inr ⟨o, e _ _ h⟩)
  · exact .inr h

end L2

namespace L2
open PySem PySem.Spec PyProof.Rows

/-! ### lists of pairs as tables -/
section
variable {κ : Type} [DecidableEq κ]
def valV (kvs : List (κ × V)) (k : κ) : Option V := (kvs.find? fun kv => decide (kv.1 = k)).map (·.2)
/-- in its place, or at the end -/
def putK (kvs : List (κ × V)) (k : κ) (v : V) : List (κ × V) :=
  if (kvs.any fun kv => decide (kv.1 = k)) = true then kvs.map (fun kv => if kv.1 = k then (kv.1, v) else kv) else kvs ++ [(k, v)]
def dropK (kvs : List (κ × V)) (k : κ) : List (κ × V) := kvs.filter fun kv => decide (kv.1 ≠ k)

theorem valV_pos {p : κ × V} {r : List (κ × V)} {k : κ} (e : p.1 = k) : valV (p :: r) k = some p.2 := by simp [valV, List.find?_cons, e]
theorem valV_neg {p : κ × V} {r : List (κ × V)} {k : κ} (e : ¬ p.1 = k) : valV (p :: r) k = valV r k := by simp [valV, List.find?_cons, e]
theorem RelO.getD {o : Option V} {u : Option Value} {d : V} {d' : Value} (r : RelO o u) (rd : RelV d d') : RelV (o.getD d) (u.getD d') := by
  cases o with
  | none => cases u with
    | none => exact rd
    | some _ => exact (show False from r).elim
  | some _ => cases u with
    | none => exact (show False from r).elim
    | some _ => exact r

/-- raw tables of the same keys -/
theorem KV.val {kvs : List (κ × V)} {vs : List (κ × Value)} (r : KV kvs vs) (k : κ) : RelO (valV kvs k) (valueAt vs k) := by
  unfold KV at r
  induction r with
  | nil => exact True.intro
  | @cons p q ps qs h t ih =>
    obtain ⟨h1, h2⟩ := h
    by_cases e : p.1 = k
    · have e' : q.1 = k := h1.symm.trans e
      have b : valueAt (q :: qs) k = some q.2 := by simp [valueAt, List.find?_cons, e']
      rw [valV_pos e, b]; exact h2
    · have e' : ¬ q.1 = k := fun z => e (h1.trans z)
      have b : valueAt (q :: qs) k = valueAt qs k := by simp [valueAt, List.find?_cons, e']
      rw [valV_neg e, b]; exact ih
theorem KV.any {kvs : List (κ × V)} {vs : List (κ × Value)} (r : KV kvs vs) (k : κ) : (kvs.any fun kv => decide (kv.1 = k)) = vs.any fun kv => decide (kv.1 = k) := by
  unfold KV at r
  induction r with
  | nil => rfl
  | cons h t ih => rw [List.any_cons, List.any_cons, ih, h.1]
theorem KV.drop {kvs : List (κ × V)} {vs : List (κ × Value)} (r : KV kvs vs) (k : κ) : KV (dropK kvs k) (without vs k) := by
  unfold KV at r ⊢
  unfold dropK without
  induction r with
  | nil => exact .nil
  | @cons p q ps qs h t ih =>
    obtain ⟨h1, h2⟩ := h
    rw [List.filter_cons, List.filter_cons]
    by_cases e : p.1 = k
    · have a : ¬ decide (p.1 ≠ k) = true := by simp [e]
      have b : ¬ decide (q.1 ≠ k) = true := by simp [h1.symm.trans e]
      rw [if_neg a, if_neg b]; exact ih
    · have e' : ¬ q.1 = k := fun z => e (h1.trans z)
      have a : decide (p.1 ≠ k) = true := by simp [e]
      have b : decide (q.1 ≠ k) = true := by simp [e']
      rw [if_pos a, if_pos b]; exact .cons ⟨h1, h2⟩ ih
theorem KV.length {kvs : List (κ × V)} {vs : List (κ × Value)} (r : KV kvs vs) : kvs.length = vs.length := Paired.length r
end


/-! ### a tracked dict, its keys ints and texts or tuples of these -/
theorem kV_is {P : Program} {w : World} {k : Key} {u : Value} (r : RelV (kV k) u) : (mixKind P w).is k u = true := by
  cases k with
  | inl i => obtain ⟨t, e⟩ := (show ∃ t, u = Value.int i t from r); subst e; exact mixKind_int P w i t
  | inr x => obtain ⟨t, e⟩ := (show ∃ t, u = Value.str x t from r); subst e; exact mixKind_str P w x t
/-- raw entries of a dict with tuple keys -/
abbrev KT (H : Hp) : List (List Key × V) → List (List Key × Addr × Value) → Prop := Paired fun p q => p.1 = q.1 ∧ H q.2.1 = some (.tup (p.1.map kV)) ∧ RelV p.2 q.2.2
section
variable {P : Program} {w : World} {H : Hp} {h : Heap} {a : Addr}
theorem rd_of {u : HO} (ok : HOk P w H h) (e : Rd H a u) : ObjOk P w H h a u := e.ok ok
theorem dk_rd {kvs : List (Key × V)} (ok : HOk P w H h) (e : Rd H a (.dK kvs)) : kvs.length ≤ sizeLine ∧ (a == sysModules) = false ∧ ∃ vs, KV kvs vs ∧ h.DictOf (mixKind P w) a vs :=
  show ObjOk P w H h a (.dK kvs) from rd_of ok e
theorem dk_of {kvs : List (Key × V)} (ok : HOk P w H h) (e : H a = some (.dK kvs)) : kvs.length ≤ sizeLine ∧ (a == sysModules) = false ∧ ∃ vs, KV kvs vs ∧ h.DictOf (mixKind P w) a vs := dk_rd ok (.inl e)
end

/-- what the dict at a holds at the key y -/
def DGet (H : Hp) (a : Addr) (y : V) (r : Option V) : Prop :=
  (∃ kvs k, Rd H a (.dK kvs) ∧ y = kV k ∧ r = valV kvs k) ∨ ∃ kvs k b, Rd H a (.dT kvs) ∧ y = .ref b ∧ H b = some (.tup (k.map kV)) ∧ r = valV kvs k
/-- the heap behind a[y] = v -/
def DPut (H : Hp) (a : Addr) (y v : V) (H' : Hp) : Prop :=
  (∃ kvs k, H a = some (.dK kvs) ∧ y = kV k ∧ kvs.length < sizeLine ∧ H' = upd H a (.dK (putK kvs k v))) ∨
  ∃ kvs k b, H a = some (.dT kvs) ∧ y = .ref b ∧ H b = some (.tup (k.map kV)) ∧ kvs.length < sizeLine ∧ H' = upd H a (.dT (putK kvs k v))
theorem DGet.k {H : Hp} {a : Addr} {kvs : List (Key × V)} {k : Key} (e : H a = some (.dK kvs)) : DGet H a (kV k) (valV kvs k) := .inl ⟨kvs, k, .inl e, rfl, rfl⟩
theorem DGet.t {H : Hp} {a b : Addr} {kvs : List (List Key × V)} {k : List Key} (e : H a = some (.dT kvs)) (eb : H b = some (.tup (k.map kV))) : DGet H a (.ref b) (valV kvs k) := .inr ⟨kvs, k, b, .inl e, rfl, eb, rfl⟩
theorem DPut.k {H : Hp} {a : Addr} {kvs : List (Key × V)} {k : Key} {v : V} (e : H a = some (.dK kvs)) (hl : kvs.length < sizeLine) : DPut H a (kV k) v (upd H a (.dK (putK kvs k v))) := .inl ⟨kvs, k, e, rfl, hl, rfl⟩
theorem DPut.t {H : Hp} {a b : Addr} {kvs : List (List Key × V)} {k : List Key} {v : V} (e : H a = some (.dT kvs)) (eb : H b = some (.tup (k.map kV))) (hl : kvs.length < sizeLine) :
    DPut H a (.ref b) v (upd H a (.dT (putK kvs k v))) := .inr ⟨kvs, k, b, e, rfl, eb, hl, rfl⟩


section
variable {X : Cx} {pins : List (Addr × Obj)} {σ : St} {H : Hp} {s : Shared} {a : Addr} {y v : V} {u r : Value} {o : Option V} {A : Around} {E : Value → Shared → Prop}

theorem Inv.big (I : Inv X pins σ H s) : sysModules < s.heap.objs.size := by
  have h : mainGlobals < s.heap.objs.size := (I.mod.glob.keeps I.bk).lt
  exact Nat.lt_trans (by decide) h

end

section
variable {X : Cx} {pins : List (Addr × Obj)} {σ : St} {H : Hp} {s : Shared} {a : Addr} {kvs : List (Key × V)} {k : Key} {u : Value} {A : Around} {E : Value → Shared → Prop}
end


/-! ### readings and rules -/
/-- the element of a subscription, not a slice -/
def NoSl (i : Expr) : Prop := ∀ ov iv, subscripted i false ov iv = operate [ov, iv] (getItem ov iv)
/-- d[y] -/
def tDGet (td ty : TE) : TE := fun σ H Q => td σ H fun x H1 => ty σ H1 fun y H2 => ∃ a v, x = .ref a ∧ DGet H2 a y (some v) ∧ Q v H2
/-- y in d, y not in d -/
def tDIn (ty td : TE) : TE := fun σ H Q => ty σ H fun y H1 => td σ H1 fun x H2 => ∃ a o, x = .ref a ∧ DGet H2 a y o ∧ Q (.bl o.isSome) H2
def tDNotIn (ty td : TE) : TE := fun σ H Q => ty σ H fun y H1 => td σ H1 fun x H2 => ∃ a o, x = .ref a ∧ DGet H2 a y o ∧ Q (.bl (!o.isSome)) H2
/-- d[y] = v -/
def sDPut (td ty tv : TE) : TS := fun D σ H => tv σ H fun v H1 => td σ H1 fun x H2 => ty σ H2 fun y H3 => ∃ a H4, x = .ref a ∧ DPut H3 a y v H4 ∧ D.nx σ H4
/-- d[y] op= v -/
def sDAug (td ty tv : TE) (rd : V → V → Hp → VK → Prop) : TS := fun D σ H => td σ H fun x H1 => ty σ H1 fun y H2 => ∃ a v, x = .ref a ∧ DGet H2 a y (some v) ∧
  tv σ H2 fun y2 H3 => rd v y2 H3 fun z H4 => ∃ H5, DPut H4 a y z H5 ∧ D.nx σ H5
/-- del d[y] -/
def sDDel (td ty : TE) : TS := fun D σ H => td σ H fun x H1 => ty σ H1 fun y H2 => ∃ a kvs k, x = .ref a ∧ H2 a = some (.dK kvs) ∧ y = kV k ∧ (valV kvs k).isSome = true ∧ D.nx σ (upd H2 a (.dK (dropK kvs k)))

section
variable {X : Cx} {o i e value : Expr} {pos pos' tpos : Pos} {td ty tv : TE}
end


/-! ### displays -/
/-- {}, to be a dict of the kind that is wanted -/
def tDNewK : TE := fun _ H Q => ∀ p, H p = none → Q (.ref p) (upd H p (.dK []))
def tDNewT : TE := fun _ H Q => ∀ p, H p = none → Q (.ref p) (upd H p (.dT []))
section
variable {X : Cx} {pos : Pos}
end

section
variable {κ : Type} [DecidableEq κ]
end
section
variable {X : Cx}
end
end L2

set_option maxHeartbeats 4000000
namespace L2
open PySem PySem.Spec PyProof.Rows

/-! ### comprehensions -/
/-- what a clause's inner part does -/
def PKt (Y : Cx) (act : Sem Unit) (t : TS) : Prop :=
  ∀ (pins : List (Addr × Obj)) (s : Shared) (σ : St) (H : Hp) (D : Ends), Inv Y pins σ H s → t D σ H → wpAny (model Y.prog Y.w) Y.A act (fun _ s' => ∃ σ' H', Inv Y pins σ' H' s' ∧ D.nx σ' H') Y.xe s
/-- the tests of a clause -/
def PTs (Y : Cx) (ifs : List Expr) (t : TT) : Prop :=
  ∀ (pins : List (Addr × Obj)) (s : Shared) (σ : St) (H : Hp) (Q : Bool → Hp → Prop), Inv Y pins σ H s → t σ H Q →
    wpAny (model Y.prog Y.w) Y.A (forIn ifs true fun c r => if r = true then do let ok ← isTrue c Y.env (eval c Y.env); pure (ForInStep.yield ok) else pure (ForInStep.yield r)) (TP Y pins σ Q) Y.xe s
theorem pts_nil {Y : Cx} : PTs Y [] (fun _ H Q => Q true H) := by
  intro pins s σ H Q I h
  rw [List.forIn_nil]
  exact wpAny_pure ⟨H, I, h⟩
theorem pts_one {Y : Cx} {c : Expr} {t : TT} (hc : PT Y c t) : PTs Y [c] t := by
  intro pins s σ H Q I h
  rw [List.forIn_cons]
  refine wpAny_bind ?_
  rw [if_pos rfl]
  refine wpAny_bind (thn (hc pins s σ H Q I h) fun b s1 q => wpAny_pure ?_)
  show wpAny _ _ (forIn [] b _) _ _ _
  rw [List.forIn_nil]
  exact wpAny_pure q
/-- what a clause does with its inner part -/
def LcW (prog : Program) (w : World) (A : Around) (elt : Expr) (gens : List Comprehension) (scope : Scope) (pos : Pos) (d : Nat) (acc : Value) (env : Env) (Q : Shared → Prop) (s : Shared) : Prop :=
  match gens[d + 1]? with
  | some g' => (g'.is_async = 0 ∧ ∀ x, foldedSetIterable g'.iter env x = pure x) ∧ wpAny (model prog w) A (eval g'.iter env) (fun x s4 => wpAny (model prog w) A (pyIter x) (fun itv s5 =>
      codeAny (model prog w) A (.compStart (.ListComp elt gens scope pos) (d + 1) itv acc env) (fun r s6 => r = .ok .next ∧ Q s6) s5) (fun _ _ => False) s4) (fun _ _ => False) s
  | none => wpAny (model prog w) A (eval elt env) (fun x s4 => wpAny (model prog w) A (call (.builtin "list.append") [acc, x]) (fun _ s5 => Q s5) (fun _ _ => False) s4) (fun _ _ => False) s
section
variable {prog : Program} {w : World} {A : Around} {R : Result → Shared → Prop} {s : Shared}
theorem compLoop_any {elt target iter : Expr} {ifs : List Expr} {gens : List Comprehension} {scope : Scope} {pos : Pos} {d : Nat} {it acc : Value} {env : Env} (hg : gens[d]? = some ⟨target, iter, ifs, 0⟩) (I : Nat → Shared → Prop)
    (turn : ∀ n s, I n s → wpAny (model prog w) A (pyNext it) (fun r s₁ => match r with
      | none => R (.ok .next) s₁
      | some v => wpAny (model prog w) A (letOwnedTupleGo target it v) (fun _ s₁' => wpAny (model prog w) A (assign target env v) (fun _ s₂ =>
          wpAny (model prog w) A (forIn ifs true fun c r => if r = true then do let ok ← isTrue c env (eval c env); pure (ForInStep.yield ok) else pure (ForInStep.yield r)) (fun ok s₃ =>
            if ok = true then LcW prog w A elt gens scope pos d acc env (fun s₅ => ∃ m, m < n ∧ I m s₅) s₃
            else ∃ m, m < n ∧ I m s₃) (fun _ _ => False) s₂) (fun _ _ => False) s₁') (fun _ _ => False) s₁) (fun _ _ => False) s)
    (n : Nat) (h : I n s) :
    codeAny (model prog w) A (.compLoop (.ListComp elt gens scope pos) d it acc env) R s := by
  refine codeAny_loop rfl I (fun n s hI => ?_) n h
  show wpAny _ A ((compTurn (.ListComp elt gens scope pos) d it acc env).onRaise (fun x => do noteFrame x env; theTreesLotGoes x)) _ _ s
  refine wpAny_noted (wpAny_noRaise ?_)
  unfold compTurn
  dsimp only
  rw [hg]
  dsimp only
  refine wpAny_bind (wpAny_standAt (wpAny_bind (thn (turn n s hI) (fun r s₁ h₁ => ?_))))
  cases r with
  | none => exact wpAny_pure h₁
  | some v =>
    refine wpAny_bind (thn h₁ fun _ s₁' h₁ => wpAny_bind (thn h₁ fun _ s₂ h₂ => wpAny_bind (thn h₂ fun ok s₃ h₃ => ?_)))
    cases ok with
    | false => exact wpAny_pure ⟨rfl, h₃⟩
    | true =>
      rw [if_pos rfl] at h₃ ⊢
      unfold LcW at h₃
      cases e : gens[d + 1]? with
      | none =>
        rw [e] at h₃
        exact wpAny_bind (wpAny_bind (thn h₃ fun x s₄ h₄ => wpAny_bind (thn h₄ fun _ s₅ h₅ => wpAny_pure (wpAny_pure ⟨rfl, h₅⟩))))
      | some g' =>
        rw [e] at h₃
        dsimp only at h₃ ⊢
        obtain ⟨⟨ha, hf⟩, h₃⟩ := h₃
        refine wpAny_bind (thn h₃ fun x s₄ h₄ => wpAny_bind (wpAny_standAt ?_))
        rw [ha, if_neg (by decide)]
        refine wpAny_bind (wpAny_of_eq (hf x) (wpAny_bind (wpAny_holding ?_)))
        rw [if_neg (by decide)]
        refine thn h₄ fun itv s₅ h₅ => wpAny_bind (wpAny_runOwn (codeAny_mono h₅ fun r s₆ ⟨hr, q⟩ => ?_))
        subst hr
        exact wpAny_pure ⟨rfl, q⟩
theorem compStart_any {elt target iter : Expr} {ifs : List Expr} {gens : List Comprehension} {scope : Scope} {pos : Pos} {d : Nat} {it acc : Value} {env : Env} (hg : gens[d]? = some ⟨target, iter, ifs, 0⟩)
    (h0 : codeAny (model prog w) A (.compLoop (.ListComp elt gens scope pos) d it acc env) R s)
    (h : wpAny (model prog w) A (pyIter it) (fun it' s' => codeAny (model prog w) A (.compLoop (.ListComp elt gens scope pos) d it' acc env) R s') (fun _ _ => False) s) :
    codeAny (model prog w) A (.compStart (.ListComp elt gens scope pos) d it acc env) R s := by
  refine codeAny_of_tree ?_
  show wpAny _ _ ((compStart (.ListComp elt gens scope pos) d it acc env).onRaise (fun x => do noteFrame x env; standAt theWindowsPlace)) _ _ s
  refine wpAny_notedAt (wpAny_noRaise ?_)
  unfold compStart
  have hc : clausesOf (.ListComp elt gens scope pos) = gens := rfl
  rw [hc, hg]
  show wpAny _ _ (ask >>= _) _ _ s
  refine wpAny_bind (wpAny_askSetting (wpAny_ite ?_))
  split
  · first
      | exact wpAny_bind (wpAny_pure (wpAny_pure (And.intro rfl h0)))
      | exact wpAny_pure (And.intro rfl h0)
  · first
      | exact wpAny_bind (wpAny_rule (wpAny_bind (wpAny_standAt (wpAny_bind (wpAny_mono h (fun it' s' h' => wpAny_pure (And.intro rfl h')) fun _ _ x => x)))))
      | (refine wpAny_bind (wpAny_rule ?_); show wpAny _ _ (standAt iter.pos >>= _) _ _ s; exact wpAny_bind (wpAny_standAt (wpAny_bind (wpAny_mono h (fun it' s' h' => wpAny_pure (And.intro rfl h')) fun _ _ x => x))))
end

/-- a loop's reading, the iterator at hand -/
def loopT (J : It) (g : TG) (tb : TS) : TS := fun D σ H => ∃ W : Nat → Nat → St → Hp → Prop, (∃ m, W 0 m σ H) ∧ ∀ i m σ H, W i m σ H →
  (J.stop i H ∧ D.nx σ H) ∨ (J.go i H ∧ ∃ N : St → Hp → Prop, (∀ σ' H', N σ' H' → ∃ m', m' < m ∧ W (i + 1) m' σ' H') ∧ ∀ x H', J.yld i H x H' → g x σ H' fun σ2 H2 => tb { D with nx := N, ct := N, bk := D.nx } σ2 H2)
def tIfB (ti : TT) (tb : TS) : TS := fun D σ H => ti σ H fun b H1 => if b = true then tb D σ H1 else D.nx σ H1
def PB (Y : Cx) (elt : Expr) (gens : List Comprehension) (scope : Scope) (pos : Pos) (d : Nat) (acc : Addr) (tb : TS) : Prop :=
  ∀ (pins : List (Addr × Obj)) (s : Shared) (σ : St) (H : Hp) (D : Ends), Inv Y pins σ H s → tb D σ H → LcW Y.prog Y.w Y.A elt gens scope pos d (.ref acc) Y.env (fun s' => ∃ σ' H', Inv Y pins σ' H' s' ∧ D.nx σ' H') s
section
variable {Y : Cx} {elt : Expr} {gens : List Comprehension} {scope : Scope} {pos : Pos} {d : Nat} {acc : Addr}
def tEmit (acc : Addr) (te : TE) : TS := fun D σ H => te σ H fun v H1 => ∃ xs, H1 acc = some (.lst xs) ∧ xs.length < sizeLine ∧ D.nx σ (upd H1 acc (.lst (xs ++ [v])))
theorem pb_emit {te : TE} (hg : gens[d + 1]? = none) (hx : Y.xe = fun _ _ => False) (he : PE Y elt te) : PB Y elt gens scope pos d acc (tEmit acc te) := by
  intro pins s σ H D I h
  unfold LcW
  rw [hg]
  dsimp only
  have he' := he pins s σ H _ I h
  rw [hx] at he'
  refine thn he' fun u s1 ⟨v, H1, I1, r1, xs, e, hl, q⟩ => ?_
  have a2 := mt_append pins s1 σ H1 (.ref acc) [v] (.ref acc) [u] (fun _ H2 => D.nx σ H2) I1 rfl (.cons r1 .nil) ⟨acc, xs, v, rfl, rfl, e, hl, q⟩
  rw [hx] at a2
  exact thn a2 fun _ s2 ⟨_, H2, I2, _, q2⟩ => ⟨σ, H2, I2, q2⟩
theorem lc_loop {tg iter : Expr} {ifs : List Expr} {g : TG} {ti : TT} {tb : TS} {pins : List (Addr × Obj)} {s : Shared} {σ : St} {H : Hp} {D : Ends} {J : It} {fp : List Addr} {it : Addr} {tn : Nat → Heap → Prop}
    (hgd : gens[d]? = some ⟨tg, iter, ifs, 0⟩) (hx : Y.xe = fun _ _ => False) (hc : Y.calm = true) (hg : PG Y tg g) (ht : PTs Y ifs ti) (hb : PB Y elt gens scope pos d acc tb)
    (I : Inv Y pins σ H s) (T : Turn Y.prog Y.w Y.K tg J fp it tn) (st : tn 0 s.heap) (f2 : ∀ b ∈ fp, FpOk Y pins H b) (h : loopT J g (tIfB ti tb) D σ H) :
    codeAny (model Y.prog Y.w) Y.A (.compLoop (.ListComp elt gens scope pos) d (.ref it) (.ref acc) Y.env) (fun r s' => r = .ok .next ∧ ∃ σ' H', Inv Y pins σ' H' s' ∧ D.nx σ' H') s := by
  obtain ⟨W, ⟨m0, w0⟩, turn⟩ := h
  have stat : ∀ {H' : Hp}, (∀ b ∈ fp, H' b = none) → ∀ b ∈ fp, FpOk Y pins H' b := fun hn b hb => ⟨hn b hb, (f2 b hb).2⟩
  refine compLoop_any hgd (fun n s' => ∃ i σ' H', Inv Y pins σ' H' s' ∧ tn i s'.heap ∧ (∀ b ∈ fp, H' b = none) ∧ W i n σ' H') ?_ m0 ⟨0, σ, H, I, st, fun b hb => (f2 b hb).1, w0⟩
  rintro n s3 ⟨i, σ3, H3, I3, st3, fr3, w3⟩
  rcases turn i n σ3 H3 w3 with ⟨stop, qn⟩ | ⟨go, N, hN, step⟩
  · refine thn (T.done Y rfl rfl rfl hc i pins s3 σ3 H3 _ I3 (stat fr3) st3 stop) fun r s4 ⟨hr, I4⟩ => ?_
    subst hr
    exact ⟨rfl, σ3, H3, I4, qn⟩
  · refine thn (T.item Y rfl rfl rfl hc i pins s3 σ3 H3 _ I3 (stat fr3) st3 go) fun r s4 ⟨u, hr, h4⟩ => ?_
    subst hr
    refine thn h4 fun _ s5 ⟨x, H5, I5, r5, y5, st5, fr5⟩ => ?_
    have I5' := I5.pinned (stat fr5) (T.obj _ _ st5)
    have a1 := hg _ s5 σ3 H5 x u _ I5' r5 (step x H5 y5)
    rw [hx] at a1
    refine thn a1 fun _ s6 ⟨σ6, H6, I6, q6⟩ => ?_
    have a2 := ht _ s6 σ6 H6 _ I6 q6
    rw [hx] at a2
    refine thn a2 fun ok s7 ⟨H7, I7, q7⟩ => ?_
    have again : ∀ {s8 : Shared} {σ7 : St} {H7 : Hp}, Inv Y (pins ++ pinsAt fp s5.heap) σ7 H7 s8 → N σ7 H7 → ∃ m, m < n ∧ ∃ i σ' H', Inv Y pins σ' H' s8 ∧ tn i s8.heap ∧ (∀ b ∈ fp, H' b = none) ∧ W i m σ' H' := fun {s8 σ7 H7} I7 n7 => by
      obtain ⟨m', hm, w7⟩ := hN σ7 H7 n7
      refine ⟨m', hm, i + 1, σ7, H7, I7.unpinned, T.keep _ _ _ st5 fun b hb o e => (I7.pin (b, o) (List.mem_append_right _ (List.mem_append_right _ (mem_pinsAt hb e)))).1, fun b hb => ?_, w7⟩
      obtain ⟨o, e, d⟩ := T.obj _ _ st5 b hb
      exact (I7.pin (b, o) (List.mem_append_right _ (List.mem_append_right _ (mem_pinsAt hb e)))).2.1
    cases ok with
    | false =>
      rw [if_neg Bool.false_ne_true] at q7 ⊢
      exact again I7 q7
    | true =>
      rw [if_pos rfl] at q7 ⊢
      have a3 := hb _ s7 σ6 H7 _ I7 q7
      unfold LcW at a3 ⊢
      cases e : gens[d + 1]? with
      | none =>
        rw [e] at a3
        exact thn a3 fun x s8 h8 => thn h8 fun _ s9 ⟨σ9, H9, I9, n9⟩ => again I9 n9
      | some g' =>
        rw [e] at a3
        exact ⟨a3.1, thn a3.2 fun x s8 h8 => thn h8 fun _ s9 h9 => codeAny_mono h9 fun r s10 ⟨hr, σ9, H9, I9, n9⟩ => ⟨hr, again I9 n9⟩⟩
end
end L2

namespace L2
open PySem PySem.Spec PyProof.Rows

/-- the cells that a block takes over -/
def clFrom (env : Env) : List (Str × NameKind) → List (Str × Addr) → List (Str × Addr)
  | [], acc => acc
  | (n, k) :: r, acc => if k == .free then clFrom env r ((n, (env.cells.lookup n).getD 0) :: acc) else clFrom env r acc
theorem clFrom_go {env : Env} (f : Str × NameKind → List (Str × Addr) → Sem (ForInStep (List (Str × Addr))))
    (hf : ∀ n k cs, f (n, k) cs = if k == .free then (do let c ← cellOf env n; pure (.yield ((n, c) :: cs))) else pure (.yield cs)) :
    ∀ (names : List (Str × NameKind)) (acc : List (Str × Addr)), (∀ x ∈ names, x.2 = .free → ∃ c, env.cells.lookup x.1 = some c) → forIn names acc f = pure (clFrom env names acc)
  | [], acc, _ => by rw [List.forIn_nil]; rfl
  | (n, k) :: r, acc, h => by
    rw [List.forIn_cons, hf]
    unfold clFrom
    by_cases hk : (k == NameKind.free) = true
    · rw [if_pos hk, if_pos hk]
      obtain ⟨c, hc⟩ := h (n, k) List.mem_cons_self (by simpa using hk)
      have hc' : env.cells.lookup n = some c := hc
      have e : cellOf env n = pure c := by unfold cellOf; rw [hc']
      rw [e, hc']
      exact clFrom_go f hf r _ fun x hx => h x (List.mem_cons_of_mem _ hx)
    · rw [if_neg hk, if_neg hk]
      exact clFrom_go f hf r _ fun x hx => h x (List.mem_cons_of_mem _ hx)
theorem closureFor_cl {scope : Scope} {env : Env} (h : ∀ x ∈ scope.names, x.2 = .free → ∃ c, env.cells.lookup x.1 = some c) : closureFor scope env = pure (clFrom env scope.names []) := by
  unfold closureFor
  dsimp only
  rw [clFrom_go (env := env) _ (fun n k cs => by cases hk : k == NameKind.free <;> simp [hk]) scope.names [] h]
  rfl
theorem clFrom_look {env : Env} {x : Str} {c : Addr} : ∀ (names : List (Str × NameKind)) (acc : List (Str × Addr)), (∀ y ∈ names, y.2 = .free → ∃ c, env.cells.lookup y.1 = some c) →
    (clFrom env names acc).lookup x = some c → (((x, NameKind.free) ∈ names ∧ env.cells.lookup x = some c) ∨ acc.lookup x = some c)
  | [], acc, _, e => .inr e
  | (n, k) :: r, acc, h, e => by
    unfold clFrom at e
    have hr : ∀ y ∈ r, y.2 = .free → ∃ c, env.cells.lookup y.1 = some c := fun y hy => h y (List.mem_cons_of_mem _ hy)
    by_cases hk : (k == NameKind.free) = true
    · rw [if_pos hk] at e
      have hk' : k = .free := by simpa using hk
      subst hk'
      rcases clFrom_look r _ hr e with ⟨h1, h2⟩ | h1
      · exact .inl ⟨List.mem_cons_of_mem _ h1, h2⟩
      · rw [List.lookup_cons] at h1
        cases q : x == n with
        | true =>
          rw [q] at h1
          have : x = n := by simpa using q
          subst this
          obtain ⟨c', hc'⟩ := h (x, .free) List.mem_cons_self rfl
          have hc'' : env.cells.lookup x = some c' := hc'
          rw [hc''] at h1
          exact .inl ⟨List.mem_cons_self, by rw [hc'']; exact h1⟩
        | false =>
          rw [q] at h1
          exact .inr h1
    · rw [if_neg hk] at e
      rcases clFrom_look r _ hr e with ⟨h1, h2⟩ | h1
      · exact .inl ⟨List.mem_cons_of_mem _ h1, h2⟩
      · exact .inr h1
theorem clFrom_some {env : Env} {x : Str} : ∀ (names : List (Str × NameKind)) (acc : List (Str × Addr)), (x, NameKind.free) ∈ names ∨ (acc.lookup x).isSome = true → ((clFrom env names acc).lookup x).isSome = true
  | [], acc, h => by rcases h with h | h; cases h; exact h
  | (n, k) :: r, acc, h => by
    unfold clFrom
    by_cases hk : (k == NameKind.free) = true
    · rw [if_pos hk]
      refine clFrom_some r _ ?_
      rw [List.lookup_cons]
      cases q : x == n with
      | true => exact .inr rfl
      | false =>
        rcases h with h | h
        · rcases List.mem_cons.mp h with e | e
          · cases e; simp at q
          · exact .inl e
        · exact .inr h
    · rw [if_neg hk]
      refine clFrom_some r _ ?_
      rcases h with h | h
      · rcases List.mem_cons.mp h with e | e
        · cases e; exact absurd rfl hk
        · exact .inl e
      · exact .inr h
theorem clFrom_mem {env : Env} {x : Str} {c : Addr} : ∀ (names : List (Str × NameKind)) (acc : List (Str × Addr)), (∀ y ∈ names, y.2 = .free → ∃ c, env.cells.lookup y.1 = some c) → (x, c) ∈ clFrom env names acc → env.cells.lookup x = some c ∨ (x, c) ∈ acc
  | [], acc, _, e => .inr e
  | (n, k) :: r, acc, h, e => by
    unfold clFrom at e
    have hr : ∀ y ∈ r, y.2 = .free → ∃ c, env.cells.lookup y.1 = some c := fun y hy => h y (List.mem_cons_of_mem _ hy)
    by_cases hk : (k == NameKind.free) = true
    · rw [if_pos hk] at e
      have hk' : k = .free := by simpa using hk
      subst hk'
      rcases clFrom_mem r _ hr e with h1 | h1
      · exact .inl h1
      · rcases List.mem_cons.mp h1 with q | q
        · obtain ⟨c', hc'⟩ := h (n, .free) List.mem_cons_self rfl
          have hc'' : env.cells.lookup n = some c' := hc'
          rw [hc''] at q
          cases q
          exact .inl hc''
        · exact .inr q
    · rw [if_neg hk] at e
      exact clFrom_mem r _ hr e
/-- where a name's cell lies -/
theorem cellsFrom_look {x : Str} {c : Addr} : ∀ (names : List (Str × NameKind)) (n : Nat) (acc : List (Str × Addr)), (cellsFrom n names acc).lookup x = some c → ((x, NameKind.cell) ∈ names ∧ n ≤ c) ∨ acc.lookup x = some c
  | [], n, acc, e => .inr e
  | (y, k) :: r, n, acc, e => by
    unfold cellsFrom at e
    by_cases hk : (k == NameKind.cell) = true
    · rw [if_pos hk] at e
      have hk' : k = .cell := by simpa using hk
      subst hk'
      rcases cellsFrom_look r _ _ e with ⟨h1, h2⟩ | h1
      · exact .inl ⟨List.mem_cons_of_mem _ h1, by omega⟩
      · rw [List.lookup_cons] at h1
        cases q : x == y with
        | true =>
          rw [q] at h1
          have : x = y := by simpa using q
          subst this
          cases h1
          exact .inl ⟨List.mem_cons_self, Nat.le_refl _⟩
        | false => rw [q] at h1; exact .inr h1
    · rw [if_neg hk] at e
      rcases cellsFrom_look r _ _ e with ⟨h1, h2⟩ | h1
      · exact .inl ⟨List.mem_cons_of_mem _ h1, h2⟩
      · exact .inr h1
/-- a name that is no cell of the block keeps what was there -/
theorem cellsFrom_old {x : Str} : ∀ (names : List (Str × NameKind)) (n : Nat) (acc : List (Str × Addr)), (x, NameKind.cell) ∉ names → (cellsFrom n names acc).lookup x = acc.lookup x
  | [], n, acc, _ => rfl
  | (y, k) :: r, n, acc, h => by
    unfold cellsFrom
    have hr : (x, NameKind.cell) ∉ r := fun z => h (List.mem_cons_of_mem _ z)
    by_cases hk : (k == NameKind.cell) = true
    · rw [if_pos hk, cellsFrom_old r _ _ hr, List.lookup_cons]
      cases q : x == y with
      | true =>
        have : x = y := by simpa using q
        subst this
        have hk' : k = .cell := by simpa using hk
        subst hk'
        exact absurd List.mem_cons_self h
      | false => rfl
    · rw [if_neg hk]
      exact cellsFrom_old r _ _ hr
/-- the new cells stand in the heap, apart -/
theorem cellsFrom_new : ∀ (names : List (Str × NameKind)) (h : Heap) (acc : List (Str × Addr)) (lo : Nat), lo ≤ h.objs.size → (∀ y c, (y, c) ∈ acc → lo ≤ c → h.IsCell c none) → (acc.Pairwise fun x y => lo ≤ x.2 → x.2 ≠ y.2) → (∀ y c, (y, c) ∈ acc → c < h.objs.size) →
    (∀ y c, (y, c) ∈ cellsFrom h.objs.size names acc → lo ≤ c → (pushCells h names).IsCell c none) ∧ ((cellsFrom h.objs.size names acc).Pairwise fun x y => lo ≤ x.2 → x.2 ≠ y.2)
  | [], h, acc, lo, _, h1, h2, _ => ⟨h1, h2⟩
  | (n, k) :: r, h, acc, lo, hlo, h1, h2, h3 => by
    unfold cellsFrom pushCells
    by_cases hk : (k == NameKind.cell) = true
    · rw [if_pos hk, if_pos hk]
      have := cellsFrom_new r (h.push { cls := .type "cell", data := .cell none }) ((n, h.objs.size) :: acc) lo (by rw [Heap.size_push]; omega) (fun y c hm hc => by
        rcases List.mem_cons.mp hm with e | hm
        · cases e; exact ⟨_, Heap.get?_push_size _ rfl, rfl⟩
        · exact (h1 y c hm hc).keeps fun b o e => Heap.get?_push_of_some _ e) (List.pairwise_cons.mpr ⟨fun y hy _ e => by
          have := h3 y.1 y.2 hy
          have e' : h.objs.size = y.2 := e
          exact absurd (e' ▸ this) (Nat.lt_irrefl _), h2⟩) (fun y c hm => by
        rw [Heap.size_push]
        rcases List.mem_cons.mp hm with e | hm
        · cases e; exact Nat.lt_succ_self _
        · exact Nat.lt_succ_of_lt (h3 y c hm))
      rw [Heap.size_push] at this
      exact this
    · rw [if_neg hk, if_neg hk]
      exact cellsFrom_new r h acc lo hlo h1 h2 h3

/-- the block's own env -/
def inEnv (scope : Scope) (env : Env) (C : Addr) : Env :=
  { scope := relabel scope env, locals := C, globals := env.globals, cells := cellsFrom (C + 1) scope.names (clFrom env scope.names []), qual := env.qual, func := none, code := env.code, frame := env.frame, builtins := env.builtins }
theorem newEnv_in {M : Model} {A : Around} {E : Value → Shared → Prop} {s : Shared} {scope : Scope} {env : Env} {Q : Env → Shared → Prop}
    (h : Q (newEnv scope s.heap.objs.size env.globals (cellsFrom (s.heap.objs.size + 1) scope.names (clFrom env scope.names [])) env.qual none .none (some env) builtinsNs)
      { s with heap := pushCells (s.heap.push { cls := .type "dict", data := .dict #[] }) scope.names }) :
    wpAny M A (newFunctionEnv scope env.globals (clFrom env scope.names []) [] env.qual none .none (some env)) Q E s := by
  simp only [newFunctionEnv, Option.isSome_some, if_true]
  refine wpAny_bind (wpAny_alloc ?_)
  refine wpAny_bind (wpAny_layCells _ (fun name kind cells => by cases hkc : kind == NameKind.cell <;> simp [hkc]) _ _ _ _ ?_)
  rw [show ({ s with heap := s.heap.push { cls := .type "dict", data := .dict #[] } } : Shared).heap.objs.size = s.heap.objs.size + 1 from Heap.size_push ..]
  rw [List.forIn_nil]
  exact wpAny_bind (wpAny_pure (wpAny_pure h))
/-- the block's context -/
def Cx.inn (X : Cx) (scope : Scope) (N : List Str) (s₃ : Shared) (H₃ : Hp) (fp : List Addr) : Cx :=
  { X with N := N, s₀ := s₃, H₀ := H₃, env := inEnv scope X.env s₃.heap.objs.size, outer := X.stack, stack := X.stack, ex := fp, fn := fun x => scope.names.lookup x == some .cell, pn := [], xe := fun _ _ => False }
/-- the names of a block: its own, and those that it takes over (with their places outside) -/
def capN (own : List Str) (cap : List (Str × Nat)) : List Str := own ++ cap.map (·.1)
def capS (own : List Str) (cap : List (Str × Nat)) (σ : St) : St := own.map (fun _ => none) ++ cap.map fun p => (σ[p.2]?).join
structure LcScope (X : Cx) (scope : Scope) (own : List Str) (cap : List (Str × Nat)) : Prop where
  kind : scope.kind = .function
  nd : (scope.names.map (·.1)).Nodup
  loc : ∀ x ∈ scope.names, x.2 = .local → scope.names.lookup x.1 = some .local
  fre : ∀ x ∈ scope.names, x.2 = .free → X.env.kindOf x.1 = some .cell ∨ X.env.kindOf x.1 = some .free
  cap : ∀ p ∈ cap, X.N[p.2]? = some p.1 ∧ (p.1, NameKind.free) ∈ scope.names
theorem nodup_kind {names : List (Str × NameKind)} (nd : (names.map (·.1)).Nodup) {x : Str} {k k' : NameKind} (h : (x, k) ∈ names) (h' : (x, k') ∈ names) : k = k' := by
  induction names with
  | nil => cases h
  | cons p r ih =>
    rw [List.map_cons, List.nodup_cons] at nd
    rcases List.mem_cons.mp h with e | h <;> rcases List.mem_cons.mp h' with e' | h'
    · rw [← e] at e'; cases e'; rfl
    · exact absurd (List.mem_map.mpr ⟨_, h', by rw [← e]⟩) nd.1
    · exact absurd (List.mem_map.mpr ⟨_, h, by rw [← e']⟩) nd.1
    · exact ih nd.2 h h'
theorem nodup_look {names : List (Str × NameKind)} (nd : (names.map (·.1)).Nodup) {x : Str} {k : NameKind} (h : (x, k) ∈ names) : names.lookup x = some k := by
  cases e : names.lookup x with
  | some k' => rw [nodup_kind nd h (PySem.mem_of_lookup e)]
  | none =>
    have : ∀ p ∈ names, (x == p.1) = false := by
      have := List.lookup_eq_none_iff.mp e
      intro p hp
      have := this p hp
      simpa using this
    have := this _ h
    simp at this
theorem name_of_addr' {lo : Nat} : ∀ {cs : List (Str × Addr)}, (cs.Pairwise fun x y => lo ≤ x.2 → x.2 ≠ y.2) → ∀ {n n' : Str} {c : Addr}, (n, c) ∈ cs → (n', c) ∈ cs → lo ≤ c → n = n'
  | x :: r, hp, n, n', c, h, h', hc => by
    obtain ⟨h1, h2⟩ := List.pairwise_cons.mp hp
    rcases List.mem_cons.mp h with e | h <;> rcases List.mem_cons.mp h' with e' | h'
    · rw [← e'] at e; exact (Prod.mk.inj e).1
    · exact absurd (by rw [← e]) (h1 _ h' (by rw [← e]; exact hc))
    · exact absurd (by rw [← e']) (h1 _ h (by rw [← e']; exact hc))
    · exact name_of_addr' h2 h h' hc
theorem map_look {f : Str → NameKind → Bool} {x : Str} : ∀ {names : List (Str × NameKind)}, (names.map fun p => if f p.1 p.2 = true then (p.1, NameKind.cell) else p).lookup x = (names.lookup x).map fun k => if f x k = true then NameKind.cell else k
  | [] => rfl
  | (n, k) :: r => by
    rw [List.map_cons]
    have ih := @map_look f x r
    cases hx : x == n with
    | true =>
      have : x = n := by simpa using hx
      subst this
      cases hc : f x k <;> simp [List.lookup_cons, hc]
    | false =>
      cases hc : f n k <;> simp only [List.lookup_cons, hx, hc, if_true, if_false, Bool.false_eq_true] <;> exact ih
theorem relabel_look {scope : Scope} {env : Env} {x : Str} : (relabel scope env).names.lookup x =
    (scope.names.lookup x).map fun k => if (k == NameKind.free && env.scope.kind == .function && env.kindOf x == some .cell) = true then NameKind.cell else k := by
  have e : (relabel scope env).names = scope.names.map fun p => if (fun n k => (k == NameKind.free && env.scope.kind == .function && env.kindOf n == some .cell)) p.1 p.2 = true then (p.1, NameKind.cell) else p := by
    unfold relabel
    dsimp only
  rw [e]
  exact map_look (f := fun n k => (k == NameKind.free && env.scope.kind == .function && env.kindOf n == some .cell))
section
variable {X : Cx} {pins : List (Addr × Obj)} {σ : St} {H : Hp} {s : Shared} {scope : Scope} {own : List Str} {cap : List (Str × Nat)} {fp : List Addr}
theorem inv_in (L : LcScope X scope own cap) (I : Inv X pins σ H s) (hf : ∀ b ∈ fp, FpOk X pins H b) (ho : ∀ b ∈ fp, ∃ o, s.heap.get? b = some o) :
    Inv (X.inn scope (capN own cap) s H fp) [] (capS own cap σ) H { s with heap := pushCells (s.heap.push { cls := .type "dict", data := .dict #[] }) scope.names } := by
  have hcl : ∀ x ∈ scope.names, x.2 = .free → ∃ c, X.env.cells.lookup x.1 = some c := fun x hx hk => I.ok.has x.1 (L.fre x hx hk)
  have old : ∀ x c, (clFrom X.env scope.names []).lookup x = some c → (x, NameKind.free) ∈ scope.names ∧ X.env.cells.lookup x = some c := fun x c e => by
    rcases clFrom_look _ _ hcl e with h | h
    · exact h
    · cases h
  have keep : ∀ b o, s.heap.get? b = some o → (pushCells (s.heap.push { cls := .type "dict", data := .dict #[] }) scope.names).get? b = some o := fun b o e => pushCells_keeps _ _ b o (Heap.get?_push_of_some _ e)
  have look : ∀ x c, (X.inn scope (capN own cap) s H fp).env.cells.lookup x = some c → ((x, NameKind.cell) ∈ scope.names ∧ s.heap.objs.size + 1 ≤ c) ∨ ((x, NameKind.free) ∈ scope.names ∧ X.env.cells.lookup x = some c) := fun x c e => by
    rcases cellsFrom_look _ _ _ e with h | h
    · exact .inl h
    · exact .inr (old x c h)
  have oldlt : ∀ x c, X.env.cells.lookup x = some c → c < s.heap.objs.size := fun x c e => by
    obtain ⟨v, hv⟩ := I.cell x c e
    exact hv.lt
  have nf : ∀ x, (x, NameKind.free) ∈ scope.names → (x, NameKind.cell) ∉ scope.names := fun x h h' => by cases nodup_kind L.nd h h'
  have ml : ∀ y c, (y, c) ∈ clFrom X.env scope.names [] → c < s.heap.objs.size := fun y c hm => by
    rcases clFrom_mem _ _ hcl hm with h | h
    · exact oldlt y c h
    · cases h
  have clnd : (clFrom X.env scope.names []).Pairwise fun x y => s.heap.objs.size + 1 ≤ x.2 → x.2 ≠ y.2 := List.pairwise_iff_forall_sublist.mpr fun {a b} hs hle => by
    have : a ∈ clFrom X.env scope.names [] := hs.subset List.mem_cons_self
    have := ml a.1 a.2 this
    exact absurd (Nat.lt_of_le_of_lt hle this) (Nat.not_lt.mpr (Nat.le_succ _))
  have nst := cellsFrom_new scope.names (s.heap.push { cls := .type "dict", data := .dict #[] }) (clFrom X.env scope.names []) (s.heap.objs.size + 1) (by rw [Heap.size_push]; exact Nat.le_refl _)
    (fun y c hm hc => absurd (Nat.lt_of_le_of_lt hc (ml y c hm)) (Nat.not_lt.mpr (Nat.le_succ _))) clnd (fun y c hm => by rw [Heap.size_push]; exact Nat.lt_succ_of_lt (ml y c hm))
  rw [Heap.size_push] at nst
  have newcell : ∀ x c, (X.inn scope (capN own cap) s H fp).env.cells.lookup x = some c → s.heap.objs.size + 1 ≤ c → (pushCells (s.heap.push { cls := .type "dict", data := .dict #[] }) scope.names).IsCell c none := fun x c e hc => nst.1 x c (PySem.mem_of_lookup e) hc
  have kindY : ∀ x, (X.inn scope (capN own cap) s H fp).env.kindOf x = (scope.names.lookup x).map fun k => if (k == NameKind.free && X.env.scope.kind == .function && X.env.kindOf x == some .cell) = true then NameKind.cell else k := fun x => relabel_look
  refine ⟨⟨I.ok.mod, L.kind, I.ok.glob, I.ok.blt, Nat.le_refl _, fun x y c h1 h2 => ?inj, fun x hx => ?has, fun x c hx h => ?cab, I.ok.hd, I.ok.frames, .inl rfl, fun b hb => ⟨?ex1, fun x c h => ?ex2⟩, fun b o e => I.bs b o e, Nat.le_trans I.ok.bsz I.sz, fun b o e hb => ?noex, fun b hb hb' => ?exfs, I.stack, I.stkFree⟩,
    rfl, I.bare, Un.kept keep, ⟨fun _ => none, ?ns, fun i x v h1 h2 h3 => ?look⟩, fun x c h => ?cell, I.fresh, fun x c h => ?freeC, fun p hp => absurd (show p ∈ ([] : List (Addr × Obj)) from hp) (by simp), I.hok.kept keep, ?len⟩
  case inj =>
    rcases look x c h1 with ⟨_, g1⟩ | ⟨_, g1⟩ <;> rcases look y c h2 with ⟨_, g2⟩ | ⟨_, g2⟩
    · exact name_of_addr' nst.2 (PySem.mem_of_lookup h1) (PySem.mem_of_lookup h2) g1
    · exact absurd (Nat.lt_of_le_of_lt g1 (oldlt y c g2)) (Nat.not_lt.mpr (Nat.le_succ _))
    · exact absurd (Nat.lt_of_le_of_lt g2 (oldlt x c g1)) (Nat.not_lt.mpr (Nat.le_succ _))
    · exact I.ok.inj x y c g1 g2
  case has =>
    rw [kindY] at hx
    cases e : scope.names.lookup x with
    | none => rw [e] at hx; rcases hx with h | h <;> cases h
    | some k =>
      rw [e] at hx
      have hm := PySem.mem_of_lookup e
      have hk : k = .cell ∨ k = .free := by
        by_cases hc : (k == NameKind.free && X.env.scope.kind == .function && X.env.kindOf x == some .cell) = true
        · simp only [Bool.and_eq_true, beq_iff_eq] at hc
          exact .inr hc.1.1
        · rw [Option.map_some, if_neg hc] at hx
          rcases hx with h | h
          · exact .inl (Option.some.inj h)
          · exact .inr (Option.some.inj h)
      rcases hk with rfl | rfl
      · exact Option.isSome_iff_exists.mp (PySem.W.cellsFrom_some scope.names _ _ (.inl e))
      · exact Option.isSome_iff_exists.mp (PySem.W.cellsFrom_some scope.names _ _ (.inr (clFrom_some _ _ (.inl hm))))
  case cab =>
    have hx' : scope.names.lookup x = some .cell := by simpa [Cx.inn] using hx
    rcases look x c h with ⟨_, g⟩ | ⟨g, _⟩
    · exact Nat.le_of_succ_le g
    · exact absurd (PySem.mem_of_lookup hx') (nf x g)
  case ex1 =>
    obtain ⟨o, e⟩ := ho b hb
    exact Nat.ne_of_lt (Heap.lt_size e)
  case ex2 =>
    obtain ⟨o, e⟩ := ho b hb
    rcases look x c h with ⟨_, g⟩ | ⟨_, g⟩
    · rintro rfl
      exact absurd (Nat.lt_of_le_of_lt g (Heap.lt_size e)) (Nat.not_lt.mpr (Nat.le_succ _))
    · exact (hf b hb).2.2.2.2.1 x c g
  case noex =>
    rcases (hf b hb).2.2.2.1 with g | g
    · exact I.ok.noex b o e g
    · exact absurd (Nat.lt_of_lt_of_le (Heap.lt_size e) I.ok.bsz) (Nat.not_lt.mpr g)
  case exfs =>
    rcases List.mem_cons.mp (I.stkSub b hb') with g | g
    · exact (hf b hb).2.1 g
    · exact (hf b hb).2.2.1 g
  case ns => exact (Heap.Ns.new s.heap (.type "dict")).keeps (pushCells_keeps _ _)
  case look =>
    obtain ⟨j, p, hp, rfl, hv⟩ : ∃ (j : Nat) (p : Str × Nat), cap[j]? = some p ∧ p.1 = x ∧ σ[p.2]? = some (some v) := by
      have h1 : (own ++ cap.map (·.1))[i]? = some x := h1
      unfold capS at h2
      by_cases hi : i < own.length
      · rw [List.getElem?_append_left (by simpa using hi), List.getElem?_map] at h2
        cases e : own[i]? with
        | none => rw [e] at h2; cases h2
        | some y => rw [e] at h2; cases h2
      · rw [List.getElem?_append_right (by omega)] at h1
        rw [List.getElem?_append_right (by simpa using hi)] at h2
        rw [List.length_map] at h2
        rw [List.getElem?_map] at h1 h2
        cases e : cap[i - own.length]? with
        | none => rw [e] at h1; cases h1
        | some p =>
          rw [e] at h1 h2
          refine ⟨_, p, e, Option.some.inj h1, ?_⟩
          have h2 : (σ[p.2]?).join = some v := Option.some.inj h2
          cases q : σ[p.2]? with
          | none => rw [q] at h2; cases h2
          | some z => rw [q] at h2; exact congrArg some h2
    obtain ⟨c1, c2⟩ := L.cap p (List.mem_of_getElem? hp)
    have hk := L.fre _ c2 rfl
    obtain ⟨m, hn, hl⟩ := I.loc
    obtain ⟨u, ru, lk⟩ := hl p.2 p.1 v c1 hv (.inr hk)
    refine ⟨u, ru, .inr ?_⟩
    rcases lk with ⟨lk, _⟩ | ⟨_, c, e, hc⟩
    · rcases hk with hk | hk
      · have : X.env.kindOf p.1 = some .cell := hk
        rw [lk] at this; cases this
      · have : X.env.kindOf p.1 = some .free := hk
        rw [lk] at this; cases this
    · have hlk := nodup_look L.nd c2
      refine ⟨?_, c, ?_, hc.keeps keep⟩
      · rw [kindY, hlk, Option.map_some]
        split
        · exact .inl rfl
        · exact .inr rfl
      · show (cellsFrom _ scope.names _).lookup p.1 = some c
        rw [cellsFrom_old _ _ _ (nf _ c2)]
        obtain ⟨c', e'⟩ := Option.isSome_iff_exists.mp (clFrom_some (env := X.env) scope.names [] (.inl c2))
        rw [e', ← e]
        exact (old _ _ e').2.symm
  case cell =>
    rcases look x c h with ⟨_, g⟩ | ⟨_, g⟩
    · exact ⟨_, newcell x c h g⟩
    · obtain ⟨v, hv⟩ := I.cell x c g
      exact ⟨v, hv.keeps keep⟩
  case freeC =>
    rcases look x c h with ⟨_, g⟩ | ⟨_, g⟩
    · exact I.hok.fresh (Nat.le_of_succ_le g)
    · exact I.freeC x c g
  case len =>
    show (capS own cap σ).length = (capN own cap).length
    unfold capS capN
    simp
end

/-- a list comprehension: the first clause's iterator outside, the rest a loop inside -/
def tLC (wi : TI) (g : TG) (ti : TT) (tb : Addr → TS) (own : List Str) (cap : List (Str × Nat)) : TE := fun σ H Q => wi σ H fun J H1 => ∀ acc, H1 acc = none →
  loopT J g (tIfB ti (tb acc)) { nx := fun _ H' => Q (.ref acc) H', rt := fun _ _ => False } (capS own cap σ) (upd H1 acc (.lst []))
theorem pe_lc {X : Cx} {elt tg iter : Expr} {ifs : List Expr} {rest : List Comprehension} {scope : Scope} {pos : Pos} {wi : TI} {g : TG} {ti : TT} {tb : Addr → TS} (own : List Str) (cap : List (Str × Nat)) (hc : X.calm = true) (L : LcScope X scope own cap) (hi : PI X tg iter wi)
    (hin : ∀ (s₃ : Shared) (H₃ : Hp) (fp : List Addr) (acc : Addr), PG (X.inn scope (capN own cap) s₃ H₃ fp) tg g ∧ PTs (X.inn scope (capN own cap) s₃ H₃ fp) ifs ti ∧ PB (X.inn scope (capN own cap) s₃ H₃ fp) elt (⟨tg, iter, ifs, 0⟩ :: rest) scope pos 0 acc (tb acc))
    (hs : ∀ x, foldedSetIterable iter X.env x = pure x := by intro _; rfl) : PE X (.ListComp elt (⟨tg, iter, ifs, 0⟩ :: rest) scope pos) (tLC wi g ti tb own cap) := by
  intro pins s σ H Q I h
  rw [eval_ListComp]
  have hcl : ∀ x ∈ scope.names, x.2 = .free → ∃ c, X.env.cells.lookup x.1 = some c := fun x hx hk => I.ok.has x.1 (L.fre x hx hk)
  refine wpAny_comprehension_free (use := none) rfl hs (closureFor_cl hcl) L.kind L.loc (thn (hi pins s σ H _ I h) fun x s1 h1 => thn h1 fun itv s2 ⟨it, fp, tn, J, H2, e, I2, T, st2, f2, q2⟩ => ?_)
  subst e
  refine wpAny_newObj_type ?_
  have I3 := I2.lnew (t' := s2.toks) (ys := []) (its := []) .nil (Nat.zero_le _)
  have fr2 : H2 s2.heap.objs.size = none := I2.fresh
  have f3 : ∀ b ∈ fp, FpOk X pins (upd H2 s2.heap.objs.size (.lst [])) b := fun b hb => by
    obtain ⟨o, eo, _⟩ := T.obj 0 _ st2 b hb
    obtain ⟨g1, g2⟩ := f2 b hb
    exact ⟨by rw [upd_ne (Nat.ne_of_lt (Heap.lt_size eo))]; exact g1, g2⟩
  have k3 : ∀ b o, s2.heap.get? b = some o → (s2.heap.push { cls := .type "list", data := .seq ([] : List Value).toArray }).get? b = some o := fun b o e => Heap.get?_push_of_some _ e
  have st3 : tn 0 (s2.heap.push { cls := .type "list", data := .seq ([] : List Value).toArray }) := T.keep 0 _ _ st2 fun b _ o e => k3 b o e
  refine newEnv_in ?_
  have I4 := inv_in L I3 f3 fun b hb => by obtain ⟨o, eo, _⟩ := T.obj 0 _ st3 b hb; exact ⟨o, eo⟩
  obtain ⟨hg, ht, hb⟩ := hin { s2 with heap := s2.heap.push { cls := .type "list", data := .seq ([] : List Value).toArray }, toks := s2.toks } (upd H2 s2.heap.objs.size (.lst [])) fp s2.heap.objs.size
  have st4 := T.keep 0 _ (pushCells ((s2.heap.push { cls := .type "list", data := .seq ([] : List Value).toArray }).push { cls := .type "dict", data := .dict #[] }) scope.names) st3 fun b _ o e => pushCells_keeps _ _ b o (Heap.get?_push_of_some _ e)
  have f4 : ∀ b ∈ fp, FpOk (X.inn scope (capN own cap) { s2 with heap := s2.heap.push { cls := .type "list", data := .seq ([] : List Value).toArray }, toks := s2.toks } (upd H2 s2.heap.objs.size (.lst [])) fp) [] (upd H2 s2.heap.objs.size (.lst [])) b := fun b hb =>
    ⟨(f3 b hb).1, (I4.ok.exf b hb).1, I4.ok.exfs b hb, .inl hb, (I4.ok.exf b hb).2, fun p hp => absurd (show p ∈ ([] : List (Addr × Obj)) from hp) (by simp)⟩
  have lp := lc_loop (Y := X.inn scope (capN own cap) { s2 with heap := s2.heap.push { cls := .type "list", data := .seq ([] : List Value).toArray }, toks := s2.toks } (upd H2 s2.heap.objs.size (.lst [])) fp) (acc := s2.heap.objs.size) (gens := ⟨tg, iter, ifs, 0⟩ :: rest) (d := 0) rfl rfl hc hg ht hb I4 T st4 f4 (q2 _ fr2)
  have lp' := codeAny_mono lp (R' := compPost (model X.prog X.w) X.A X.xe none (EP X pins σ Q) (.ref s2.heap.objs.size) (s2.heap.push { cls := .type "list", data := .seq ([] : List Value).toArray }).objs.size) fun r s' ⟨hr, σ', H', I', q'⟩ => by
    subst hr
    obtain ⟨m', hn', _⟩ := id I'.loc
    refine ⟨m', hn', fun h' hsb => ?_⟩
    refine ⟨.ref s2.heap.objs.size, H', ?_, rfl, q'⟩
    have neC : ∀ b o, (s2.heap.push { cls := .type "list", data := .seq ([] : List Value).toArray }).get? b = some o → b ≠ (s2.heap.push { cls := .type "list", data := .seq ([] : List Value).toArray }).objs.size := fun b o e => Nat.ne_of_lt (Heap.lt_size e)
    have B := I'.base
    refine I3.call' (ch := fp) I'.os ⟨fun b o e n hb hx => (hsb.2 b (neC b o e)).trans (B.keep b o e n hb hx), fun b o e n hb hx => ?_, B.free, fun b o e hx => ?_, B.tups, B.frzs, B.tbls⟩ (fun b u e => ?_) I'.bare fun b hb => ⟨(f3 b hb).2.2.2.1, (f3 b hb).2.1, (f3 b hb).2.2.2.2.1, (f3 b hb).2.2.2.2.2⟩
    · obtain ⟨sl, e1⟩ := B.slot b o e n hb hx
      exact ⟨sl, (hsb.2 b (neC b o e)).trans e1⟩
    · obtain ⟨o', e1⟩ := B.there b o e hx
      exact ⟨o', (hsb.2 b (neC b o e)).trans e1⟩
    · have hC : H' (s2.heap.push { cls := .type "list", data := .seq ([] : List Value).toArray }).objs.size = none := I'.free
      refine (I'.hok b u e).stay (fun c v hc' q => (hsb.2 c ?_).trans q) (fun _ q => q) fun _ _ q => q
      rintro rfl
      rcases hc' with hc' | hc'
      · rw [← hc', hC] at e; cases e
      · rw [hC] at hc'; cases hc'
  exact compStart_any rfl lp' (T.self _ _ _ _ _ st4 lp')
/-- name = [..], a local name: stored ahead of the block's end -/
theorem ps_setlc {X : Cx} {i : Nat} {y : Str} {py spos : Pos} {elt tg iter : Expr} {ifs : List Expr} {rest : List Comprehension} {scope : Scope} {pos : Pos} {wi : TI} {g : TG} {ti : TT} {tb : Addr → TS} (own : List Str) (cap : List (Str × Nat)) (hN : X.N.Nodup) (hyi : X.N[i]? = some y) (hy : X.env.scope.names.lookup y = some .local) (hc : X.calm = true) (L : LcScope X scope own cap) (hi : PI X tg iter wi)
    (hin : ∀ (s₃ : Shared) (H₃ : Hp) (fp : List Addr) (acc : Addr), PG (X.inn scope (capN own cap) s₃ H₃ fp) tg g ∧ PTs (X.inn scope (capN own cap) s₃ H₃ fp) ifs ti ∧ PB (X.inn scope (capN own cap) s₃ H₃ fp) elt (⟨tg, iter, ifs, 0⟩ :: rest) scope pos 0 acc (tb acc))
    (hsw : swapsWith (.ListComp elt (⟨tg, iter, ifs, 0⟩ :: rest) scope pos) (some (.Name y py)) spos.line X.env = pure true := by rfl) (hs : ∀ x, foldedSetIterable iter X.env x = pure x := by intro _; rfl) :
    PS X (.Assign [.Name y py] (.ListComp elt (⟨tg, iter, ifs, 0⟩ :: rest) scope pos) spos) (tAsg (tLC wi g ti tb own cap) (gName i)) := by
  intro pins s σ H D I h
  rw [exec_Assign_Name_used _ _ _ _ hsw]
  refine wpAny_bind (wpAny_standAt (wpAny_bind ?_))
  show wpAny _ X.A (do let _ ← comprehension (.ListComp elt (⟨tg, iter, ifs, 0⟩ :: rest) scope pos) scope X.env _ (newList []) false (eval iter X.env) (some (assign (.Name y py) X.env))) _ _ s
  have hcl : ∀ x ∈ scope.names, x.2 = .free → ∃ c, X.env.cells.lookup x.1 = some c := fun x hx hk => I.ok.has x.1 (L.fre x hx hk)
  refine wpAny_bind (wpAny_mono (wpAny_comprehension_free (use := some (assign (.Name y py) X.env)) (Q := fun _ s' => SP X pins D .next s') rfl hs (closureFor_cl hcl) L.kind L.loc (thn (hi pins s σ H _ I h) fun x s1 h1 => thn h1 fun itv s2 ⟨it, fp, tn, J, H2, e, I2, T, st2, f2, q2⟩ => ?_)) (fun _ s' hq => wpAny_pure (wpAny_pure hq)) fun _ _ e => e)
  subst e
  refine wpAny_newObj_type ?_
  have I3 := I2.lnew (t' := s2.toks) (ys := []) (its := []) .nil (Nat.zero_le _)
  have fr2 : H2 s2.heap.objs.size = none := I2.fresh
  have f3 : ∀ b ∈ fp, FpOk X pins (upd H2 s2.heap.objs.size (.lst [])) b := fun b hb => by
    obtain ⟨o, eo, _⟩ := T.obj 0 _ st2 b hb
    obtain ⟨g1, g2⟩ := f2 b hb
    exact ⟨by rw [upd_ne (Nat.ne_of_lt (Heap.lt_size eo))]; exact g1, g2⟩
  have k3 : ∀ b o, s2.heap.get? b = some o → (s2.heap.push { cls := .type "list", data := .seq ([] : List Value).toArray }).get? b = some o := fun b o e => Heap.get?_push_of_some _ e
  have st3 : tn 0 (s2.heap.push { cls := .type "list", data := .seq ([] : List Value).toArray }) := T.keep 0 _ _ st2 fun b _ o e => k3 b o e
  refine newEnv_in ?_
  have I4 := inv_in L I3 f3 fun b hb => by obtain ⟨o, eo, _⟩ := T.obj 0 _ st3 b hb; exact ⟨o, eo⟩
  obtain ⟨hg, ht, hb⟩ := hin { s2 with heap := s2.heap.push { cls := .type "list", data := .seq ([] : List Value).toArray }, toks := s2.toks } (upd H2 s2.heap.objs.size (.lst [])) fp s2.heap.objs.size
  have st4 := T.keep 0 _ (pushCells ((s2.heap.push { cls := .type "list", data := .seq ([] : List Value).toArray }).push { cls := .type "dict", data := .dict #[] }) scope.names) st3 fun b _ o e => pushCells_keeps _ _ b o (Heap.get?_push_of_some _ e)
  have f4 : ∀ b ∈ fp, FpOk (X.inn scope (capN own cap) { s2 with heap := s2.heap.push { cls := .type "list", data := .seq ([] : List Value).toArray }, toks := s2.toks } (upd H2 s2.heap.objs.size (.lst [])) fp) [] (upd H2 s2.heap.objs.size (.lst [])) b := fun b hb =>
    ⟨(f3 b hb).1, (I4.ok.exf b hb).1, I4.ok.exfs b hb, .inl hb, (I4.ok.exf b hb).2, fun p hp => absurd (show p ∈ ([] : List (Addr × Obj)) from hp) (by simp)⟩
  have lp := lc_loop (Y := X.inn scope (capN own cap) { s2 with heap := s2.heap.push { cls := .type "list", data := .seq ([] : List Value).toArray }, toks := s2.toks } (upd H2 s2.heap.objs.size (.lst [])) fp) (acc := s2.heap.objs.size) (gens := ⟨tg, iter, ifs, 0⟩ :: rest) (d := 0) rfl rfl hc hg ht hb I4 T st4 f4 (q2 _ fr2)
  have lp' := codeAny_mono lp (R' := compPost (model X.prog X.w) X.A X.xe (some (assign (.Name y py) X.env)) (fun _ s' => SP X pins D .next s') (.ref s2.heap.objs.size) (s2.heap.push { cls := .type "list", data := .seq ([] : List Value).toArray }).objs.size) fun r s' ⟨hr, σ', H', I', q'⟩ => by
    subst hr
    obtain ⟨m', hn', _⟩ := id I'.loc
    have B := I'.base
    have I5 : Inv X pins σ H' s' := I3.call' (ch := fp) I'.os B I'.hok I'.bare fun b hb => ⟨(f3 b hb).2.2.2.1, (f3 b hb).2.1, (f3 b hb).2.2.2.2.1, (f3 b hb).2.2.2.2.2⟩
    have hC : H' (s2.heap.push { cls := .type "list", data := .seq ([] : List Value).toArray }).objs.size = none := I'.free
    show wpAny _ X.A (assign (.Name y py) X.env (.ref s2.heap.objs.size)) _ _ _
    refine wpAny_assign_Name (store_ok2 I5 hN hyi (.inl hy) (v := .ref s2.heap.objs.size) rfl (fun s6 I6 ⟨a6, sb6, ha6⟩ => ?_) (.inr hy))
    have neL : X.env.locals ≠ (s2.heap.push { cls := .type "list", data := .seq ([] : List Value).toArray }).objs.size := Nat.ne_of_lt I3.lt
    have ha : a6 ≠ (s2.heap.push { cls := .type "list", data := .seq ([] : List Value).toArray }).objs.size := by
      rcases ha6 with rfl | ha6
      · exact neL
      · obtain ⟨v, hv⟩ := I3.cell y a6 ha6
        exact Nat.ne_of_lt hv.lt
    refine ⟨m', hn'.sameBut sb6 ha.symm, fun h' hsb => ?_⟩
    refine ⟨_, H', ?_, q'⟩
    have kb : ∀ b o, b ≠ (s2.heap.push { cls := .type "list", data := .seq ([] : List Value).toArray }).objs.size → s6.heap.get? b = some o → h'.get? b = some o := fun b o hb e => (hsb.2 b hb).trans e
    refine I6.turned (t' := s6.toks) (it := (s2.heap.push { cls := .type "list", data := .seq ([] : List Value).toArray }).objs.size) kb hC neL.symm (.inr I3.sz) (fun x c e z => ?_) (fun p hp z => ?_)
    · obtain ⟨v, hv⟩ := I3.cell x c e
      exact absurd z (Nat.ne_of_lt hv.lt)
    · have := (I3.pin p hp).1
      exact absurd z (Nat.ne_of_lt (Heap.lt_size this))
  exact compStart_any rfl lp' (T.self _ _ _ _ _ st4 lp')
end L2

namespace L2
open PySem PySem.Spec PyProof.Rows

/-! ### deep data -/
mutual
inductive Den (K : PySem.W.Frag) (H : Hp) : V → PyData → Prop
  | non : Den K H .non .none
  | bl (b) : Den K H (.bl b) (.bool b)
  | int (i) : Den K H (.int i) (.int i)
  | str (x) : Den K H (.str x) (.str x)
  | lst {a us ds} : SqL K H a us → Dens K H us ds → Den K H (.ref a) (.list ds)
  | tup {a us ds} : SqT K H a us → Dens K H us ds → Den K H (.ref a) (.tuple ds)
inductive Dens (K : PySem.W.Frag) (H : Hp) : List V → List PyData → Prop
  | nil : Dens K H [] []
  | cons {v vs d ds} : Den K H v d → Dens K H vs ds → Dens K H (v :: vs) (d :: ds)
end
theorem Same.tup {K : PySem.W.Frag} {H H' : Hp} {a : Addr} {xs : List V} (e : Same H H') (h : SqT K H a xs) : SqT K H' a xs := by
  rcases h with (h | ⟨o, h⟩) | h
  · exact .inl (.inl (e _ _ h))
  · exact .inl (.inr ⟨o, e _ _ h⟩)
  · exact .inr h
mutual
theorem Den.same {K : PySem.W.Frag} {H H' : Hp} (e : Same H H') : ∀ {v d}, Den K H v d → Den K H' v d
  | _, _, .non => .non
  | _, _, .bl b => .bl b
  | _, _, .int i => .int i
  | _, _, .str x => .str x
  | _, _, .lst h r => .lst (e.seq h) (Dens.same e r)
  | _, _, .tup h r => .tup (e.tup h) (Dens.same e r)
theorem Dens.same {K : PySem.W.Frag} {H H' : Hp} (e : Same H H') : ∀ {vs ds}, Dens K H vs ds → Dens K H' vs ds
  | _, _, .nil => .nil
  | _, _, .cons h r => .cons (Den.same e h) (Dens.same e r)
end
section
variable {X : Cx} {pins : List (Addr × Obj)} {σ : St} {H : Hp} {s : Shared}
mutual
theorem Den.reads (I : Inv X pins σ H s) : ∀ {v d} {u : Value}, Den X.K H v d → RelV v u → ∃ as, Reads s.heap u d as
  | _, _, _, .non, r => by cases r; exact ⟨_, .none⟩
  | _, _, _, .bl b, r => by cases r; exact ⟨_, .bool b⟩
  | _, _, _, .int i, r => by obtain ⟨t, rfl⟩ := r; exact ⟨_, .int i t⟩
  | _, _, _, .str i, r => by obtain ⟨t, rfl⟩ := r; exact ⟨_, .str i t⟩
  | _, _, _, .lst h hr, r => by
    cases r
    obtain ⟨its, rv, ⟨o, n, e, c, _, d⟩, _⟩ := I.list h
    obtain ⟨as, q⟩ := Dens.reads I hr rv
    exact ⟨_, .list e c d (by simpa using q)⟩
  | _, _, _, .tup h hr, r => by
    cases r
    obtain ⟨its, rv, ⟨o, e, c, n, d⟩, _⟩ := I.tuple h
    obtain ⟨as, q⟩ := Dens.reads I hr rv
    exact ⟨_, .tuple e c d (by simpa using q)⟩
theorem Dens.reads (I : Inv X pins σ H s) : ∀ {vs ds} {us : List Value}, Dens X.K H vs ds → Vals vs us → ∃ as, ReadsAll s.heap us ds as
  | _, _, _, .nil, r => by cases r; exact ⟨_, .nil⟩
  | _, _, _, .cons h hr, r => by
    cases r with
    | cons r1 r2 =>
      obtain ⟨as, q⟩ := Den.reads I h r1
      obtain ⟨bs, q2⟩ := Dens.reads I hr r2
      exact ⟨_, .cons q q2⟩
end
end
def rEqD (K : PySem.W.Frag) (f : Bool → Bool) : R2 := fun x y H Q => ∃ dx dy, Den K H x dx ∧ Den K H y dy ∧ dx.canLay0 = true ∧ dy.canLay0 = true ∧ dx.depth ≤ 32 ∧ Q (.bl (f (PyData.eqv dx dy))) H
section
variable {X : Cx}
theorem op_eqD (hu : X.A.units + 64 < cLine) : OpR X (compareOp .Eq) (rEqD X.K id) := by
  intro pins s σ H x y v u Q I rx ry h
  obtain ⟨dx, dy, h1, h2, h3, h4, h5, q⟩ := h
  obtain ⟨as, r1⟩ := h1.reads I rx
  obtain ⟨bs, r2⟩ := h2.reads I ry
  exact SeqAt.compareEq_reads r1 r2 h3 h4 (by omega) ⟨.bl _, H, I, rfl, q⟩
theorem op_neD (hu : X.A.units + 64 < cLine) : OpR X (compareOp .NotEq) (rEqD X.K not) := by
  intro pins s σ H x y v u Q I rx ry h
  obtain ⟨dx, dy, h1, h2, h3, h4, h5, q⟩ := h
  obtain ⟨as, r1⟩ := h1.reads I rx
  obtain ⟨bs, r2⟩ := h2.reads I ry
  exact SeqAt.compareNe_reads r1 r2 h3 h4 (by omega) ⟨.bl _, H, I, rfl, q⟩
/-! ### isinstance of one class -/
theorem call_isinst : CallR X (.builtin "isinstance") (fun xs H Q => ∃ x T t b, xs = [x, .ty T] ∧ TyOf X.K H x t ∧ PySem.W.kitOne X.K t (.type T) = some b ∧ Q (.bl b) H) := by
  intro pins s σ H xs us Q I r h
  obtain ⟨x, T, t, b, rfl, ty, e, q⟩ := h
  obtain ⟨u, w', rfl, r1, r2⟩ := vals2 r
  cases r2
  exact isinst_ok I r1 ty e fun tk => ⟨.bl b, H, I.tok _, rfl, q⟩
/-! ### all, any over a list of bools -/
theorem vals_bools {bs : List Bool} : ∀ {us : List Value}, Vals (bs.map V.bl) us → us = bs.map Value.bool := by
  induction bs with
  | nil => intro us h; cases h; rfl
  | cons b r ih =>
    intro us h
    cases h with
    | cons h1 h2 => cases h1; rw [ih h2]; rfl
theorem range_all {bs : List Bool} : (List.range bs.length).all (fun i => bs.getD i false) = bs.all id := by
  rw [Bool.eq_iff_iff, List.all_eq_true, List.all_eq_true]
  constructor
  · intro h b hb
    obtain ⟨i, hi, rfl⟩ := List.mem_iff_getElem.mp hb
    have := h i (List.mem_range.mpr hi)
    simpa [hi] using this
  · intro h i hi
    have hi := List.mem_range.mp hi
    have := h _ (List.getElem_mem hi)
    simpa [hi] using this
theorem range_any {bs : List Bool} : (List.range bs.length).any (fun i => bs.getD i false) = bs.any id := by
  rw [Bool.eq_iff_iff, List.any_eq_true, List.any_eq_true]
  constructor
  · rintro ⟨i, hi, h⟩
    have hi := List.mem_range.mp hi
    exact ⟨_, List.getElem_mem hi, by simpa [hi] using h⟩
  · rintro ⟨b, hb, h⟩
    obtain ⟨i, hi, rfl⟩ := List.mem_iff_getElem.mp hb
    exact ⟨i, List.mem_range.mpr hi, by simpa [hi] using h⟩
theorem bools_truth {prog : Program} {w : World} {A : Around} {bs : List Bool} : TruthOf prog w A (fun i v => (bs.map Value.bool).toArray[i]? = some v) (fun i => bs.getD i false) := by
  intro i v s Q E hv hq
  simp only [List.getElem?_toArray, List.getElem?_map] at hv
  cases e : bs[i]? with
  | none => rw [e] at hv; cases hv
  | some b =>
    rw [e] at hv; cases hv
    have hq : Q (bs.getD i false) s := hq
    rw [List.getD_eq_getElem?_getD, e] at hq
    exact wpAny_truthy_bool hq
theorem call_all_bools (hc : X.calm = true) : CallR X (.builtin "all") (fun xs H Q => ∃ (a : Addr) (bs : List Bool), xs = [.ref a] ∧ SqL X.K H a (bs.map V.bl) ∧ Q (.bl (bs.all id)) H) := by
  intro pins s σ H xs us Q I r h
  obtain ⟨a, bs, rfl, hq, q⟩ := h
  obtain ⟨u, rfl, r1⟩ := vals1 r
  cases r1
  obtain ⟨its, rv, p, hz⟩ := I.list hq
  cases vals_bools rv
  refine call_all_walk (wpAny_pyIter_list p.isList ?_)
  have hne : a ≠ s.heap.objs.size := by obtain ⟨o, n, e, _⟩ := p; exact Nat.ne_of_lt (Heap.lt_size e)
  refine ⟨_, _, _, _, _, _, _, rfl, Walks.list (A := X.A.in1) (I.ok.hd hc) s.heap.objs.size a hne _, ⟨⟨_, Heap.get?_push_size _ rfl, rfl, rfl⟩, (p.keeps fun b o e => Heap.get?_push_of_some _ e).isList⟩, bools_truth, fun h' tk k => ?_⟩
  have e1 : ((bs.map Value.bool).toArray.size) = bs.length := by simp
  rw [e1, range_all]
  refine ⟨.bl _, H, I.kept fun b o e => k b o ?_ (Heap.get?_push_of_some _ e), rfl, q⟩
  simp only [List.mem_singleton]
  exact Nat.ne_of_lt (Heap.lt_size e)
theorem call_any_bools (hc : X.calm = true) : CallR X (.builtin "any") (fun xs H Q => ∃ (a : Addr) (bs : List Bool), xs = [.ref a] ∧ SqL X.K H a (bs.map V.bl) ∧ Q (.bl (bs.any id)) H) := by
  intro pins s σ H xs us Q I r h
  obtain ⟨a, bs, rfl, hq, q⟩ := h
  obtain ⟨u, rfl, r1⟩ := vals1 r
  cases r1
  obtain ⟨its, rv, p, hz⟩ := I.list hq
  cases vals_bools rv
  refine call_any_walk (wpAny_pyIter_list p.isList ?_)
  have hne : a ≠ s.heap.objs.size := by obtain ⟨o, n, e, _⟩ := p; exact Nat.ne_of_lt (Heap.lt_size e)
  refine ⟨_, _, _, _, _, _, _, rfl, Walks.list (A := X.A.in1) (I.ok.hd hc) s.heap.objs.size a hne _, ⟨⟨_, Heap.get?_push_size _ rfl, rfl, rfl⟩, (p.keeps fun b o e => Heap.get?_push_of_some _ e).isList⟩, bools_truth, fun h' tk k => ?_⟩
  have e1 : ((bs.map Value.bool).toArray.size) = bs.length := by simp
  rw [e1, range_any]
  refine ⟨.bl _, H, I.kept fun b o e => k b o ?_ (Heap.get?_push_of_some _ e), rfl, q⟩
  simp only [List.mem_singleton]
  exact Nat.ne_of_lt (Heap.lt_size e)
/-! ### sum of a list of ints, of any size -/
/-! ### list(range(n)) -/
def tLR (ta : TA) : TE := fun σ H Q => ta σ H fun vs H1 => ∃ n : Nat, vs = [.int n] ∧ n ≤ 1000000 ∧ ∀ l, H1 l = none → Q (.ref l) (upd H1 l (.lst ((List.range n).map fun (i : Nat) => V.int (i : Int))))
end
/-! ### an iterator's step that lays a new object -/
section
variable {X : Cx} {pins : List (Addr × Obj)} {σ : St} {H : Hp} {s : Shared} {h' : Heap} {t' : Nat}
end
/-! ### enumerate(xs) -/
def Ite (K : PySem.W.Frag) (a : Addr) : It :=
  ⟨fun i H => ∃ xs x, SqL K H a xs ∧ xs[i]? = some x, fun i H x H' => ∃ p y, H p = none ∧ (∀ xs, SqL K H a xs → xs[i]? = some y) ∧ x = .ref p ∧ H' = upd H p (.tup [.int i, y]), fun i H => ∃ xs, SqL K H a xs ∧ xs.length ≤ i⟩
section
variable {X : Cx}
def iEnum (K : PySem.W.Frag) (ta : TA) : TI := fun σ H R => ta σ H fun vs H1 => ∃ a, vs = [.ref a] ∧ (∃ xs, SqL K H1 a xs) ∧ R (Ite K a) H1
end
end L2

namespace L2
open PySem PySem.Spec PyProof.Rows

def lcCheck (osc : Scope) (oN : List Str) (scope : Scope) (own : List Str) (cap : List (Str × Nat)) : Bool :=
  scope.kind == .function && decide ((scope.names.map (·.1)).Nodup) && (scope.names.all fun x => x.2 != .local || scope.names.lookup x.1 == some .local)
    && (scope.names.all fun x => x.2 != .free || (osc.names.lookup x.1 == some .cell || osc.names.lookup x.1 == some .free))
    && (cap.all fun p => oN[p.2]? == some p.1 && scope.names.contains (p.1, NameKind.free))
theorem LcScope.of {X : Cx} {scope : Scope} {own : List Str} {cap : List (Str × Nat)} (h : lcCheck X.env.scope X.N scope own cap = true) : LcScope X scope own cap := by
  unfold lcCheck at h
  simp only [Bool.and_eq_true, List.all_eq_true, beq_iff_eq, decide_eq_true_eq, Bool.or_eq_true, bne_iff_ne, ne_eq] at h
  obtain ⟨⟨⟨⟨h1, h2⟩, h3⟩, h4⟩, h5⟩ := h
  refine ⟨h1, h2, fun x hx hk => ?_, fun x hx hk => ?_, fun p hp => ?_⟩
  · rcases h3 x hx with z | z
    · exact absurd hk z
    · exact z
  · rcases h4 x hx with z | z
    · exact absurd hk z
    · exact z
  · obtain ⟨a, b⟩ := h5 p hp
    exact ⟨a, by simpa using b⟩
section
variable {X : Cx} {e : Expr} {te : TE} {pos : Pos}
theorem pset (i : Nat) {x : Str} {pos' : Pos} (hN : X.N.Nodup) (he : PE X e te) (hi : X.N[i]? = some x := by rfl) (hx : Loc X.env.scope x := by first | exact Or.inl rfl | exact Or.inr rfl) (hs : swapsWith e (some (.Name x pos')) pos.line X.env = pure false := by rfl)
    (hf : X.fn x = true ∨ X.env.scope.names.lookup x = some .local := by first | exact .inl rfl | exact .inr rfl | assumption) : PS X (.Assign [.Name x pos'] e pos) (tAsg te (gName i)) := ps_set hN hi hx he hs hf
theorem pgn (i : Nat) {x : Str} (hN : X.N.Nodup) (hi : X.N[i]? = some x := by rfl) (hx : Loc X.env.scope x := by first | exact Or.inl rfl | exact Or.inr rfl) (hf : X.fn x = true ∨ X.env.scope.names.lookup x = some .local := by first | exact .inl rfl | exact .inr rfl | assumption) : PG X (.Name x pos) (gName i) := pg_name hN hi hx hf
end
/-- a def of the text that keeps its promise -/
structure Df (P : Program) (w : World) (K : PySem.W.Frag) (mg : Str → Option Value) (base : Heap) (x : Str) (ps : List Str) (k : Nat) (sp : Sp) : Prop where
  ex : ∃ f fd, FnOk P w K mg base CX0 k f fd ps sp ∧ mg x = some (.ref f) ∧ PySem.W.keepIn K (.ref f) = true ∧ Binds K fd ps []
theorem pe_df {X : Cx} {x : Str} {ps : List Str} {k : Nat} {sp : Sp} {p pos : Pos} {e : Expr} {es : List Expr} {t : TA} (D : Df X.prog X.w X.K X.mg X.base x ps k sp) (hr : Room k X.A) (ha : PA X (e :: es) t) (hg : Gl X x := by rfl) (hdb : (x == ("__debug__" : Str)) = false := by decide)
    (he : starEach (e :: es) X.env = (false, eval e X.env) :: starEach es X.env := by rfl) (hpl : (backTo pos (starEach es X.env)).any (·.1) = false := by rfl) : PE X (.Call (.Name x p) (e :: es) [] pos) (tCall sp [] E0 t) := by
  obtain ⟨f, fd, F, hm, hk, hb⟩ := D.ex
  exact pe_call F hr hg hm hk hb .nil pass0 ha hdb he hpl
section
variable {X : Cx} {o e : Expr} {to : TE} {te : TE} {apos cpos : Pos}
theorem pm_append (ho : PE X o to) (he : PE X e te) (hs : starEach [e] X.env = [(false, eval e X.env)]) (hbase : attributeBase o "append" X.env (eval o X.env) = eval o X.env := by rfl)
    (hline : (apos.endLine == cpos.line) = true := by rfl) : PE X (.Call (.Attribute o "append" apos) [e] [] cpos) (tBM X.K "list" rAppend to (tCons te tNil)) :=
  pe_bm PySem.F.plainAttrs_list PySem.F.slot_list_append PySem.F.type_list_append mt_append ho (pa_cons he pa_nil hs) hbase (by rw [hs]; rfl) hline hs rfl
end
def rGetL (K : PySem.W.Frag) : R2 := fun x y H Q => ∃ p xs j v, x = .ref p ∧ y = .int ((j : Nat) : Int) ∧ SqL K H p xs ∧ xs[j]? = some v ∧ Q v H
theorem nd_of {N : List Str} (h : decide N.Nodup = true) : N.Nodup := of_decide_eq_true h

/-! ### the same rules, the fragment written by its name -/
section
variable {X : Cx} {K : PySem.W.Frag}
theorem pg_tupK (K : PySem.W.Frag) (n : Nat) (hK : X.K = K) {es : List Expr} {k : Nat} {t : TGs} {pos : Pos} (hc : X.calm = true) (h : PGs X es t) (hn : (assignEach es X.env).length = n) (hst : (assignEach es X.env).findIdx? (·.1) = none) : PG X (.Tuple es k pos) (gTup K n t) := by
  subst hK; exact pg_tup hc h hn hst
theorem pi_listK (K : PySem.W.Frag) (hK : X.K = K) {tg l : Expr} {tl : TE} (hl : PE X l tl) : PI X tg l (iList K tl) := by subst hK; exact pi_list hl
theorem pi_tupK (K : PySem.W.Frag) (hK : X.K = K) {tg l : Expr} {tl : TE} (hl : PE X l tl) : PI X tg l (iTup K tl) := by subst hK; exact pi_tup hl
def rLen (K : PySem.W.Frag) : List V → Hp → VK → Prop := fun xs H Q => ∃ p ys, xs = [.ref p] ∧ (SqL K H p ys ∨ SqT K H p ys) ∧ Q (.int ys.length) H
theorem call_lenK (K : PySem.W.Frag) (hK : X.K = K) : CallR X (.builtin "len") (rLen K) := by subst hK; exact call_len_seq
def rAll (K : PySem.W.Frag) : List V → Hp → VK → Prop := fun xs H Q => ∃ (a : Addr) (bs : List Bool), xs = [.ref a] ∧ SqL K H a (bs.map V.bl) ∧ Q (.bl (bs.all id)) H
def rAny (K : PySem.W.Frag) : List V → Hp → VK → Prop := fun xs H Q => ∃ (a : Addr) (bs : List Bool), xs = [.ref a] ∧ SqL K H a (bs.map V.bl) ∧ Q (.bl (bs.any id)) H
def rSum (K : PySem.W.Frag) : List V → Hp → VK → Prop := fun xs H Q => ∃ (a : Addr) (ns : List Int), xs = [.ref a] ∧ SqL K H a (ns.map V.int) ∧ Q (.int ns.sum) H
def rIsi (K : PySem.W.Frag) : List V → Hp → VK → Prop := fun xs H Q => ∃ x T t b, xs = [x, .ty T] ∧ TyOf K H x t ∧ PySem.W.kitOne K t (.type T) = some b ∧ Q (.bl b) H
def rListOf (K : PySem.W.Frag) : List V → Hp → VK → Prop := fun xs H Q => ∃ p ys, xs = [.ref p] ∧ (SqL K H p ys ∨ SqT K H p ys) ∧ ∀ l, H l = none → Q (.ref l) (upd H l (.lst ys))
theorem call_anyK (K : PySem.W.Frag) (hK : X.K = K) (hc : X.calm = true) : CallR X (.builtin "any") (rAny K) := by subst hK; exact call_any_bools hc
theorem call_isiK (K : PySem.W.Frag) (hK : X.K = K) : CallR X (.builtin "isinstance") (rIsi K) := by subst hK; exact call_isinst
theorem call_listK (K : PySem.W.Frag) (hK : X.K = K) : CallR X (.type "list") (rListOf K) := by subst hK; exact call_list_of
theorem op_eqK (K : PySem.W.Frag) (hK : X.K = K) (hu : X.A.units + 64 < cLine) : OpR X (compareOp .Eq) (rEqD K id) := by subst hK; exact op_eqD hu
theorem op_neK (K : PySem.W.Frag) (hK : X.K = K) (hu : X.A.units + 64 < cLine) : OpR X (compareOp .NotEq) (rEqD K not) := by subst hK; exact op_neD hu
theorem op_inK (K : PySem.W.Frag) (hK : X.K = K) : OpR X (compareOp .In) (rIn K false) := by subst hK; exact op_in_seq
theorem op_notInK (K : PySem.W.Frag) (hK : X.K = K) : OpR X (compareOp .NotIn) (rIn K true) := by subst hK; exact op_notIn_seq
theorem pm_appendK (K : PySem.W.Frag) (hK : X.K = K) {o e : Expr} {to te : TE} {apos cpos : Pos} (ho : PE X o to) (he : PE X e te) (hs : starEach [e] X.env = [(false, eval e X.env)]) (hbase : attributeBase o "append" X.env (eval o X.env) = eval o X.env)
    (hline : (apos.endLine == cpos.line) = true) : PE X (.Call (.Attribute o "append" apos) [e] [] cpos) (tBM K "list" rAppend to (tCons te tNil)) := by subst hK; exact pm_append ho he hs hbase hline
end

/-! ### a display of written ints -/
def intE (e : Expr) : Option Int := match e with
  | .Constant (.int i) _ _ => some i
  | _ => none
theorem intE_of {e : Expr} {i : Int} (h : intE e = some i) : ∃ k p, e = .Constant (.int i) k p := by
  unfold intE at h
  split at h
  · cases h; exact ⟨_, _, rfl⟩
  · cases h
def intsOf : List Expr → Option (List Int)
  | [] => some []
  | e :: r => match intE e, intsOf r with
    | some i, some l => some (i :: l)
    | _, _ => none
theorem pa_ints {X : Cx} : ∀ {es : List Expr} {ns : List Int}, intsOf es = some ns → PA X es (fun _ H Q => Q (ns.map V.int) H)
  | [], ns, h => by
    cases h
    exact pa_nil
  | e :: r, ns, h => by
    unfold intsOf at h
    split at h
    · rename_i i ms e1 e2
      cases h
      obtain ⟨k, p, rfl⟩ := intE_of e1
      exact pa_cons pe_int (pa_ints e2) rfl
    · cases h
end L2

namespace L2
open PySem PySem.Spec PyProof.Rows

theorem tFor_eq {wi : TI} {g : TG} {tb : TS} {D : Ends} {σ : St} {H : Hp} : tFor wi g tb D σ H = wi σ H fun J H1 => loopT J g tb D σ H1 := rfl
theorem loop_tup {K : PySem.W.Frag} {a : Addr} (xs : List V) {g : TG} {tb : TS} {D : Ends} {σ : St} {H : Hp} (Pv : Nat → St → Hp → Prop) (h0 : Pv 0 σ H) (hl : ∀ i σ H, i ≤ xs.length → Pv i σ H → SqT K H a xs)
    (hs : ∀ i x σ H, xs[i]? = some x → Pv i σ H → g x σ H fun σ2 H2 => tb { D with nx := Pv (i + 1), ct := Pv (i + 1), bk := D.nx } σ2 H2) (hd : ∀ σ H, Pv xs.length σ H → D.nx σ H) : loopT (Itt K a) g tb D σ H := for_tup Pv h0 hl hs hd
theorem iteb {b : Bool} {A B : Prop} (h1 : b = true → A) (h2 : b = false → B) : if b = true then A else B := by
  cases b
  · rw [if_neg Bool.false_ne_true]; exact h2 rfl
  · rw [if_pos rfl]; exact h1 rfl
theorem Same.put {H H' : Hp} {p : Addr} {o : HO} (e : Same H H') (h : H p = none) : Same H (upd H' p o) := fun b o' hb => by rw [upd_ne (ne_of_none hb h)]; exact e b o' hb
theorem Same.new {H : Hp} {p : Addr} {o : HO} (h : H p = none) : Same H (upd H p o) := (Same.refl H).put h
theorem Same.gone {H H' : Hp} {p : Addr} (e : Same H H') (h : H' p = none) : H p = none := e.free h
theorem tyl {K : PySem.W.Frag} {H : Hp} {p : Addr} {xs : List V} (h : SqL K H p xs) : tyV K "list" (.ref p) H := .inl ⟨rfl, _, h⟩
end L2

namespace L2
open PySem PySem.Spec PyProof.Rows
structure QE (X : Cx) (e : Expr) (t : TE) : Prop where
  h : PE X e t
structure QT (X : Cx) (e : Expr) (t : TT) : Prop where
  h : PT X e t
structure QW (X : Cx) (e : Expr) (t : TT) : Prop where
  h : PW X e t
structure QA (X : Cx) (e : List Expr) (t : TA) : Prop where
  h : PA X e t
structure QS (X : Cx) (e : Stmt) (t : TS) : Prop where
  h : PS X e t
structure QSs (X : Cx) (e : List Stmt) (t : TS) : Prop where
  h : PSs X e t
structure QG (X : Cx) (e : Expr) (t : TG) : Prop where
  h : PG X e t
structure QGs (X : Cx) (e : List Expr) (t : TGs) : Prop where
  h : PGs X e t
structure QTs (X : Cx) (e : List Expr) (t : TT) : Prop where
  h : PTs X e t
structure QO (X : Cx) (e : Option Expr) (t : TO) : Prop where
  h : PO X e t
structure QI (X : Cx) (tg e : Expr) (t : TI) : Prop where
  h : PI X tg e t
structure QB (Y : Cx) (elt : Expr) (gens : List Comprehension) (scope : Scope) (pos : Pos) (d : Nat) (acc : Addr) (tb : TS) : Prop where
  h : PB Y elt gens scope pos d acc tb
theorem qpv (i : Nat) {x : Str} {pos : Pos} (hN : X.N[i]? = some x := by rfl) (hv : Vis X.env.scope x := by first | exact Or.inl rfl | exact Or.inr (Or.inl rfl) | exact Or.inr (Or.inr rfl)) (hd : (x == ("__debug__" : Str)) = false := by decide) (hcd : (x == ("__classdict__" : Str)) = false := by decide) : QE X (.Name x pos) (tVar i) := ⟨pv i hN hv hd hcd⟩
theorem qpe_bltn {x : Str} {v : V} {u : Value} {pos : Pos} (hg : Gl X x) (hm : X.mg x = none) (hv : bootBuiltins x = some u) (r : RelV v u) (hn : x ≠ "__name__" := by decide) (hd : (x == ("__debug__" : Str)) = false := by decide) : QE X (.Name x pos) (tC v) := ⟨pe_bltn hg hm hv r hn hd⟩
theorem qpe_bl {b j pos} : QE X (.Constant (.bool b) j pos) (tC (.bl b)) := ⟨pe_bl ⟩
theorem qpe_non {j pos} : QE X (.Constant .none j pos) (tC .non) := ⟨pe_non ⟩
theorem qpe_int {i j pos} : QE X (.Constant (.int i) j pos) (tC (.int i)) := ⟨pe_int ⟩
theorem qpe_str {x j pos} : QE X (.Constant (.str x) j pos) (tC (.str x)) := ⟨pe_str ⟩
theorem qpe_un {op : UnaryOp} {r : V → Hp → VK → Prop} (ho : UnR X (unaryOp op) r) (ha : QE X a ta) : QE X (.UnaryOp op a pos) (tUn r ta) := ⟨pe_un ho ha.h⟩
theorem qpe_op {op : Operator} {r : R2} (ho : OpR X (binaryOp op) r) (ha : QE X a ta) (hb : QE X b tb) : QE X (.BinOp a op b pos) (tOp r ta tb) := ⟨pe_op ho ha.h hb.h⟩
theorem qpe_and {rest : List Expr} (ha : QE X a ta) (hb : QE X (.BoolOp .And (b :: rest) pos) tb) : QE X (.BoolOp .And (a :: b :: rest) pos) (tAndV ta tb) := ⟨pe_and ha.h hb.h⟩
theorem qpe_one {op} {t : TE} (h : QE X a t) : QE X (.BoolOp op [a] pos) t := ⟨pe_one h.h⟩
theorem qpe_cmpR {op : CmpOp} {r : R2} (ho : OpR X (compareOp op) r) (ha : QE X a ta) (hb : QE X b tb) (hm : behindInMarks op b = false) : QE X (.Compare a [op] [b] pos) (tOp r ta tb) := ⟨pe_cmpR ho ha.h hb.h hm⟩
theorem qpe_ifExp {c : Expr} (hc : QT X c tA) (ha : QE X a ta) (hb : QE X b tb) : QE X (.IfExp c a b pos) (tIf tA ta tb) := ⟨pe_ifExp hc.h ha.h hb.h⟩
theorem qpe_tup {x1} (h : QA X es t) : QE X (.Tuple es x1 pos) (tTup t) := ⟨pe_tup h.h⟩
theorem qpe_lst (h : QA X es t) : QE X (.List es pos) (tLst t) := ⟨pe_lst h.h⟩
theorem qpe_slice {lo hi : Option Expr} {r : V → Option Int → Option Int → Hp → VK → Prop} (hr : SlR X r) (he : QE X e te) (hl : QO X lo tl) (hu : QO X hi th) : QE X (.Subscript e (.Slice lo hi none p2) pos) (tSl r te tl th) := ⟨pe_slice hr he.h hl.h hu.h⟩
theorem qpe_ix {r : R2} (hr : IxR X r) (ha : QE X a ta) (hb : QE X b tb) (hs : PlainIx b) : QE X (.Subscript a b pos) (tOp r ta tb) := ⟨pe_ix hr ha.h hb.h hs⟩
theorem qpe_df {X : Cx} {x : Str} {ps : List Str} {k : Nat} {sp : Sp} {p pos : Pos} {e : Expr} {es : List Expr} {t : TA} (D : Df X.prog X.w X.K X.mg X.base x ps k sp) (hr : Room k X.A) (ha : QA X (e :: es) t) (hg : Gl X x := by rfl) (hdb : (x == ("__debug__" : Str)) = false := by decide) (he : starEach (e :: es) X.env = (false, eval e X.env) :: starEach es X.env := by rfl) (hpl : (backTo pos (starEach es X.env)).any (·.1) = false := by rfl) : QE X (.Call (.Name x p) (e :: es) [] pos) (tCall sp [] E0 t) := ⟨pe_df D hr ha.h hg hdb he hpl⟩
theorem qpe_callB {id : String} (hc : CallR X (.builtin id) r) (hg : Gl X x) (hm : X.mg x = none) (hv : bootBuiltins x = some (.builtin id)) (ha : QA X (e :: es) t) (hn : x ≠ "__name__" := by decide) (hdb : (x == ("__debug__" : Str)) = false := by decide) (he : starEach (e :: es) X.env = (false, eval e X.env) :: starEach es X.env := by rfl) (hpl : (backTo pos (starEach es X.env)).any (·.1) = false := by rfl) : QE X (.Call (.Name x p) (e :: es) [] pos) (tCB r t) := ⟨pe_callB hc hg hm hv ha.h hn hdb he hpl⟩
theorem qpe_callTy (hc : CallR X (.type T) r) (hg : Gl X x) (hm : X.mg x = none) (hv : bootBuiltins x = some (.type T)) (ha : QA X (e :: es) t) (hn : x ≠ "__name__" := by decide) (hdb : (x == ("__debug__" : Str)) = false := by decide) (he : starEach (e :: es) X.env = (false, eval e X.env) :: starEach es X.env := by rfl) (hpl : (backTo pos (starEach es X.env)).any (·.1) = false := by rfl) : QE X (.Call (.Name x p) (e :: es) [] pos) (tCB r t) := ⟨pe_callTy hc hg hm hv ha.h hn hdb he hpl⟩
theorem qpm_appendK (K : PySem.W.Frag) (hK : X.K = K) {o e : Expr} {to te : TE} {apos cpos : Pos} (ho : QE X o to) (he : QE X e te) (hs : starEach [e] X.env = [(false, eval e X.env)]) (hbase : attributeBase o "append" X.env (eval o X.env) = eval o X.env) (hline : (apos.endLine == cpos.line) = true) : QE X (.Call (.Attribute o "append" apos) [e] [] cpos) (tBM K "list" rAppend to (tCons te tNil)) := ⟨pm_appendK K hK ho.h he.h hs hbase hline⟩
theorem qpi_listK (K : PySem.W.Frag) (hK : X.K = K) {tg l : Expr} {tl : TE} (hl : QE X l tl) : QI X tg l (iList K tl) := ⟨pi_listK K hK hl.h⟩
theorem qpi_tupK (K : PySem.W.Frag) (hK : X.K = K) {tg l : Expr} {tl : TE} (hl : QE X l tl) : QI X tg l (iTup K tl) := ⟨pi_tupK K hK hl.h⟩
theorem qpi_range1 {a : Expr} {ta : TA} {p pos : Pos} (hg : Gl X "range") (hm : X.mg "range" = none) (ha : QA X [a] ta) (hs : starEach [a] X.env = [(false, eval a X.env)] := by rfl) : QI X tg (.Call (.Name "range" p) [a] [] pos) (iRng1 ta) := ⟨pi_range1 hg hm ha.h hs⟩
theorem qpgn (i : Nat) {x : Str} (hN : X.N.Nodup) (hi : X.N[i]? = some x := by rfl) (hx : Loc X.env.scope x := by first | exact Or.inl rfl | exact Or.inr rfl) (hf : X.fn x = true ∨ X.env.scope.names.lookup x = some .local := by first | exact .inl rfl | exact .inr rfl | assumption) : QG X (.Name x pos) (gName i) := ⟨pgn i hN hi hx hf⟩
theorem qpg_tupK (K : PySem.W.Frag) (n : Nat) (hK : X.K = K) {es : List Expr} {k : Nat} {t : TGs} {pos : Pos} (hc : X.calm = true) (h : QGs X es t) (hn : (assignEach es X.env).length = n) (hst : (assignEach es X.env).findIdx? (·.1) = none) : QG X (.Tuple es k pos) (gTup K n t) := ⟨pg_tupK K n hK hc h.h hn hst⟩
theorem qpgs_cons {e : Expr} {es : List Expr} {t : TG} {u : TGs} (h1 : QG X e t) (h2 : QGs X es u) (hs : (assignEach (e :: es) X.env).map (·.2) = assign e X.env :: (assignEach es X.env).map (·.2) := by rfl) : QGs X (e :: es) (gCons t u) := ⟨pgs_cons h1.h h2.h hs⟩
theorem qpgs_nil  : QGs X [] gNil := ⟨pgs_nil ⟩
theorem qpt_cmpR {op : CmpOp} {r : R2} (ho : OpR X (compareOp op) r) (ha : QE X a ta) (hb : QE X b tb) (hm : behindInMarks op b = false) : QT X (.Compare a [op] [b] pos) (tTest (tOp r ta tb)) := ⟨pt_cmpR ho ha.h hb.h hm⟩
theorem qPWpt {X : Cx} {e : Expr} {t : TT} (h : QW X e t) : QT X e t := ⟨PW.pt h.h⟩
theorem qpw_and {rest : List Expr} (ha : QT X a tA) (hb : QW X (.BoolOp .And (b :: rest) pos) tB') : QW X (.BoolOp .And (a :: b :: rest) pos) (tAnd tA tB') := ⟨pw_and ha.h hb.h⟩
theorem qpw_and1 (ha : QT X a tA) : QW X (.BoolOp .And [a] pos) tA := ⟨pw_and1 ha.h⟩
theorem qpw_or {rest : List Expr} (ha : QT X a tA) (hb : QW X (.BoolOp .Or (b :: rest) pos) tB') : QW X (.BoolOp .Or (a :: b :: rest) pos) (tOr tA tB') := ⟨pw_or ha.h hb.h⟩
theorem qpw_or1 (ha : QT X a tA) : QW X (.BoolOp .Or [a] pos) tA := ⟨pw_or1 ha.h⟩
theorem qpt_not (ha : QT X a tA) : QT X (.UnaryOp .Not a pos) (tNot tA) := ⟨pt_not ha.h⟩
theorem qpt_val {e : Expr} {t : TE} (h : QE X e t) (he : ∀ whole, isTrue e X.env whole = (do let v ← whole; standAt e.pos; holding [v] (truthy v)) := by intro _; rfl) : QT X e (tB t) := ⟨pt_val h.h he⟩
theorem qpss_cons {st : Stmt} {rest : List Stmt} (h1 : QS X st t) (h2 : QSs X rest u) : QSs X (st :: rest) (tSeq t u) := ⟨pss_cons h1.h h2.h⟩
theorem qpss_one {st : Stmt} (h1 : QS X st t) : QSs X [st] t := ⟨pss_one h1.h⟩
theorem qpss_nil  : QSs X [] tNext := ⟨pss_nil ⟩
theorem qps_ret (he : QE X e te) : QS X (.Return (some e) pos) (tRet te) := ⟨ps_ret he.h⟩
theorem qps_expr (he : QE X e te) (hs : swapsWith e none pos.line X.env = pure false := by rfl) : QS X (.Expr e pos) (tDrop te) := ⟨ps_expr he.h hs⟩
theorem qpset (i : Nat) {x : Str} {pos' : Pos} (hN : X.N.Nodup) (he : QE X e te) (hi : X.N[i]? = some x := by rfl) (hx : Loc X.env.scope x := by first | exact Or.inl rfl | exact Or.inr rfl) (hs : swapsWith e (some (.Name x pos')) pos.line X.env = pure false := by rfl) (hf : X.fn x = true ∨ X.env.scope.names.lookup x = some .local := by first | exact .inl rfl | exact .inr rfl | assumption) : QS X (.Assign [.Name x pos'] e pos) (tAsg te (gName i)) := ⟨pset i hN he.h hi hx hs hf⟩
theorem qps_asg {tg e : Expr} {te : TE} {g : TG} (he : QE X e te) (hg : QG X tg g) (hs : swapsWithSole [tg] e pos.line X.env = pure false := by rfl) (hw : swappedStores [tg] e X.env = pure none := by rfl) (h1 : (assignEach [tg] X.env).map (·.2) = [assign tg X.env] := by rfl) : QS X (.Assign [tg] e pos) (tAsg te g) := ⟨ps_asg he.h hg.h hs hw h1⟩
theorem qps_if {c : Expr} {a b : List Stmt} {tc : TT} (hc : QT X c tc) (ha : QSs X a t) (hb : QSs X b u) : QS X (.If c a b pos) (tIfS tc t u) := ⟨ps_if hc.h ha.h hb.h⟩
theorem qps_for {iter : Expr} {body : List Stmt} {wi : TI} {g : TG} {tb : TS} {pos : Pos} (hp : PassesOwn (model X.prog X.w) X.A X.env X.xe) (hc : X.calm = true) (hi : QI X tg iter wi) (hg : QG X tg g) (hb : QSs X body tb) (hs : ∀ x, foldedSetIterable iter X.env x = pure x := by intro _; rfl) : QS X (.For tg iter body [] pos) (tFor wi g tb) := ⟨ps_for hp hc hi.h hg.h hb.h hs⟩
theorem qps_while {c : Expr} {body : List Stmt} {tc : TT} {tb : TS} (hp : PassesOwn (model X.prog X.w) X.A X.env X.xe) (hc : QT X c tc) (hb : QSs X body tb) : QS X (.While c body [] pos) (tWhile tc tb) := ⟨ps_while hp hc.h hb.h⟩
theorem qpts_nil {Y : Cx} : QTs Y [] (fun _ H Q => Q true H) := ⟨pts_nil ⟩
theorem qpts_one {Y : Cx} {c : Expr} {t : TT} (hc : QT Y c t) : QTs Y [c] t := ⟨pts_one hc.h⟩
theorem qpb_emit {te : TE} (hg : gens[d + 1]? = none) (hx : Y.xe = fun _ _ => False) (he : QE Y elt te) : QB Y elt gens scope pos d acc (tEmit acc te) := ⟨pb_emit hg hx he.h⟩
theorem qpa_cons (ha : QE X e te) (hr : QA X es t) (hs : starEach (e :: es) X.env = (false, eval e X.env) :: starEach es X.env := by rfl) : QA X (e :: es) (tCons te t) := ⟨pa_cons ha.h hr.h hs⟩
theorem qpa_nil  : QA X [] tNil := ⟨pa_nil ⟩
theorem qpo_none  : QO X none tNoPart := ⟨po_none ⟩
theorem qpo_some (h : QE X e te) : QO X (some e) (tPart te) := ⟨po_some h.h⟩
theorem qpa_ints {X : Cx} {es : List Expr} {ns : List Int} (h : intsOf es = some ns) : QA X es (fun _ H Q => Q (ns.map V.int) H) := ⟨pa_ints h⟩
theorem qpe_lc {X : Cx} {elt tg iter : Expr} {ifs : List Expr} {rest : List Comprehension} {scope : Scope} {pos : Pos} {wi : TI} {g : TG} {ti : TT} {tb : Addr → TS} (own : List Str) (cap : List (Str × Nat)) (hc : X.calm = true) (L : LcScope X scope own cap) (hi : QI X tg iter wi)
    (hin : ∀ (s₃ : Shared) (H₃ : Hp) (fp : List Addr) (acc : Addr), QG (X.inn scope (capN own cap) s₃ H₃ fp) tg g ∧ QTs (X.inn scope (capN own cap) s₃ H₃ fp) ifs ti ∧ QB (X.inn scope (capN own cap) s₃ H₃ fp) elt (⟨tg, iter, ifs, 0⟩ :: rest) scope pos 0 acc (tb acc))
    (hs : ∀ x, foldedSetIterable iter X.env x = pure x := by intro _; rfl) : QE X (.ListComp elt (⟨tg, iter, ifs, 0⟩ :: rest) scope pos) (tLC wi g ti tb own cap) := ⟨pe_lc own cap hc L hi.h (fun a b c d => ⟨(hin a b c d).1.h, (hin a b c d).2.1.h, (hin a b c d).2.2.h⟩) hs⟩
theorem qps_setlc {X : Cx} {i : Nat} {y : Str} {py spos : Pos} {elt tg iter : Expr} {ifs : List Expr} {rest : List Comprehension} {scope : Scope} {pos : Pos} {wi : TI} {g : TG} {ti : TT} {tb : Addr → TS} (own : List Str) (cap : List (Str × Nat)) (hN : X.N.Nodup) (hyi : X.N[i]? = some y) (hy : X.env.scope.names.lookup y = some .local) (hc : X.calm = true) (L : LcScope X scope own cap) (hi : QI X tg iter wi)
    (hin : ∀ (s₃ : Shared) (H₃ : Hp) (fp : List Addr) (acc : Addr), QG (X.inn scope (capN own cap) s₃ H₃ fp) tg g ∧ QTs (X.inn scope (capN own cap) s₃ H₃ fp) ifs ti ∧ QB (X.inn scope (capN own cap) s₃ H₃ fp) elt (⟨tg, iter, ifs, 0⟩ :: rest) scope pos 0 acc (tb acc))
    (hsw : swapsWith (.ListComp elt (⟨tg, iter, ifs, 0⟩ :: rest) scope pos) (some (.Name y py)) spos.line X.env = pure true := by rfl) (hs : ∀ x, foldedSetIterable iter X.env x = pure x := by intro _; rfl) :
    QS X (.Assign [.Name y py] (.ListComp elt (⟨tg, iter, ifs, 0⟩ :: rest) scope pos) spos) (tAsg (tLC wi g ti tb own cap) (gName i)) := ⟨ps_setlc own cap hN hyi hy hc L hi.h (fun a b c d => ⟨(hin a b c d).1.h, (hin a b c d).2.1.h, (hin a b c d).2.2.h⟩) hsw hs⟩
end L2

namespace L2
open PySem PySem.Spec PyProof.Rows
section
variable {X : Cx} {i o value : Expr} {ty td tv : TE} {pos pos' : Pos}
end
def rLenD : List V → Hp → VK → Prop := fun xs H Q => ∃ a kvs, xs = [V.ref a] ∧ H a = some (.dK kvs) ∧ Q (.int kvs.length) H
end L2

namespace L2
open PySem PySem.Spec PyProof.Rows
/-! ### products of any size, a raise that is not reached -/
section
variable {X : Cx} {pos : Pos}
theorem op_mulB : OpR X (binaryOp .Mult) (rI IntMulOk fun i j => .int (i * j)) := opI fun _ _ _ _ _ _ _ hc q => mul_int q hc
theorem ps_raiseF {e c : Option Expr} : PS X (.Raise e c pos) (fun _ _ _ => False) := fun _ _ _ _ _ _ h => h.elim
theorem qps_raiseF {e c : Option Expr} : QS X (.Raise e c pos) (fun _ _ _ => False) := ⟨ps_raiseF⟩
end
theorem bits_lt {a : Int} {m : Nat} (h1 : -(2 ^ m) < a) (h2 : a < 2 ^ m) : Builtin.Int.intBits a ≤ m := by
  refine intBits_le_iff.mpr ?_
  have e : ((2 ^ m : Nat) : Int) = (2 : Int) ^ m := by simp
  omega
theorem mulB {a b : Int} {m n : Nat} (h1 : -(2 ^ m) < a) (h2 : a < 2 ^ m) (h3 : -(2 ^ n) < b) (h4 : b < 2 ^ n) (h : m + n ≤ 134217728) : IntMulOk a b := mulOk_of_bits (bits_lt h1 h2) (bits_lt h3 h4) h
/-! ### zip(xs, ys) of two lists -/
section
variable {X : Cx} {pins : List (Addr × Obj)} {σ : St} {H : Hp} {s : Shared} {h' : Heap} {t' : Nat}
end
def Itz (K : PySem.W.Frag) (a b : Addr) : It :=
  ⟨fun i H => ∃ xs ys x y, SqL K H a xs ∧ SqL K H b ys ∧ xs[i]? = some x ∧ ys[i]? = some y, fun i H z H' => ∃ p x y, H p = none ∧ (∀ xs, SqL K H a xs → xs[i]? = some x) ∧ (∀ ys, SqL K H b ys → ys[i]? = some y) ∧ z = .ref p ∧ H' = upd H p (.tup [x, y]), fun i H => ∃ xs ys, SqL K H a xs ∧ SqL K H b ys ∧ (xs.length ≤ i ∨ ys.length ≤ i)⟩
section
variable {X : Cx}
def iZip (K : PySem.W.Frag) (ta : TA) : TI := fun σ H R => ta σ H fun vs H1 => ∃ a b, vs = [.ref a, .ref b] ∧ (∃ xs, SqL K H1 a xs) ∧ (∃ ys, SqL K H1 b ys) ∧ R (Itz K a b) H1
end
end L2

namespace M36
def sumN (n : Nat) (f : Nat → Int) : Int := ((List.range n).map f).sum
def mmul (n : Nat) (A B : Nat → Nat → Int) (i j : Nat) : Int := sumN n fun k => A i k * B k j
def mid (i j : Nat) : Int := if i = j then 1 else 0
def mpow (n : Nat) (M : Nat → Nat → Int) : Nat → Nat → Nat → Int
  | 0 => mid
  | e + 1 => mmul n (mpow n M e) M
def Bd (n B : Nat) (M : Nat → Nat → Int) : Prop := ∀ i j, i < n → j < n → -(2 ^ B) < M i j ∧ M i j < 2 ^ B
end M36

namespace L2
open PySem PySem.Spec PyProof.Rows M36
/-! ### what a comprehension has made so far -/
structure IntsAcc (H H1 : Hp) (acc : Addr) (i : Nat) (f : Nat → Int) : Prop where
  at_ : H1 acc = some (.lst ((List.range i).map fun j => V.int (f j)))
  sm : Same H H1
  no : H acc = none
theorem IntsAcc.start {H : Hp} {acc : Addr} (f : Nat → Int) (h : H acc = none) : IntsAcc H (upd H acc (.lst [])) acc 0 f := ⟨upd_same, Same.new h, h⟩
structure BlsAcc (H H1 : Hp) (acc : Addr) (i : Nat) (f : Nat → Bool) : Prop where
  at_ : H1 acc = some (.lst (((List.range i).map f).map V.bl))
  sm : Same H H1
  no : H acc = none
theorem BlsAcc.start {H : Hp} {acc : Addr} (f : Nat → Bool) (h : H acc = none) : BlsAcc H (upd H acc (.lst [])) acc 0 f := ⟨upd_same, Same.new h, h⟩
structure RowsAcc (H H1 : Hp) (acc : Addr) (i : Nat) (F : Nat → List Int) : Prop where
  ex : ∃ ts : List Addr, ts.length = i ∧ H1 acc = some (.lst (ts.map V.ref)) ∧ (∀ (j : Nat) (r : Addr), ts[j]? = some r → H1 r = some (.lst ((F j).map V.int)) ∧ H r = none ∧ r ≠ acc) ∧ ts.Nodup
  sm : Same H H1
  no : H acc = none
theorem RowsAcc.start {H : Hp} {acc : Addr} (F : Nat → List Int) (h : H acc = none) : RowsAcc H (upd H acc (.lst [])) acc 0 F := ⟨⟨[], rfl, upd_same, by simp, List.nodup_nil⟩, Same.new h, h⟩
/-- a list of n lists of n ints, to be read -/
def rowN (n : Nat) (f : Nat → Int) : List Int := (List.range n).map f
structure Mx (H : Hp) (a : Addr) (n : Nat) (M : Nat → Nat → Int) : Prop where
  ex : ∃ rs : List Addr, rs.length = n ∧ H a = some (.lst (rs.map V.ref)) ∧ ∀ (i : Nat) (r : Addr), rs[i]? = some r → H r = some (.lst ((rowN n (M i)).map V.int))
theorem Mx.same {H H' : Hp} {a : Addr} {n : Nat} {M : Nat → Nat → Int} (h : Mx H a n M) (e : Same H H') : Mx H' a n M := by
  obtain ⟨rs, h1, h2, h3⟩ := h
  exact ⟨rs, h1, e _ _ h2, fun i r hi => e _ _ (h3 i r hi)⟩
end L2

namespace L2
open PySem PySem.Spec PyProof.Rows
/-! ### an exception under way of which it is also known that it has no context (its third field) -/
def TrX (h base : Heap) (e : Addr) (cls a0 fl : Value) : Prop :=
  ∃ oe vs T oT ts, h.get? e = some oe ∧ (oe.cls = cls ∧ vs[0]? = some a0 ∧ vs[2]? = some .none) ∧ oe.data = .fields vs ∧ vs[1]? = some (.ref T) ∧ base.get? T = none ∧ T ≠ e ∧ h.get? T = some oT ∧ oT.data = .fields ts ∧ ts[3]? = some fl
def FlyX (base : Heap) (l : List Env) (e : Addr) (cls a0 : Value) (h : Heap) : Prop := base.StaysIn h ∧ base.get? e = none ∧ h.FunFrames base l ∧ TrX h base e cls a0 .none
def HeldX (base : Heap) (l : List Env) (e : Addr) (cls a0 : Value) (L : Addr) (h : Heap) : Prop := base.StaysIn h ∧ base.get? e = none ∧ h.FunFrames base l ∧ TrX h base e cls a0 (rawInt L)
theorem TrX.w {h base : Heap} {e : Addr} {cls a0 fl : Value} (x : TrX h base e cls a0 fl) : h.TracedAtW base e cls a0 fl :=
  let ⟨oe, vs, T, oT, ts, h1, h2, r⟩ := x; ⟨oe, vs, T, oT, ts, h1, ⟨h2.1, h2.2.1⟩, r⟩
theorem FlyX.w {base h : Heap} {l : List Env} {e : Addr} {cls a0 : Value} (x : FlyX base l e cls a0 h) : Heap.FlyingW base l e cls a0 h := ⟨x.1, x.2.1, x.2.2.1, x.2.2.2.w⟩
theorem FlyX.own {base h : Heap} {l : List Env} {e : Addr} {cls a0 : Value} (x : FlyX base l e cls a0 h) : ∃ oe vs, h.get? e = some oe ∧ oe.cls = cls ∧ oe.data = .fields vs ∧ vs[2]? = some .none :=
  let ⟨_, _, _, oe, vs, _, _, _, he, hc, hd, _⟩ := x; ⟨oe, vs, he, hc.1, hd, hc.2.2⟩
section
variable {M : Model} {A : Around} {E : Value → Shared → Prop} {s : Shared} {base : Heap} {env : Env} {outer l : List Env} {L e : Addr} {oe : Obj} {vs : Array Value} {cls a0 : Value} {Q : Unit → Shared → Prop}
/-! the five ways of an exception -/
end
end L2

namespace L2
open PySem PySem.Spec PyProof.Rows PySem.Calls
/-! ### any(), all() of a list within a handler: the StopIteration gets the caught one as its context -/
def NoCtx (oe : Obj) : Prop := ∃ ws, oe.data = .fields ws ∧ ws[2]? = some .none
def XOf (oe : Obj) (C : Addr) : Prop := oe.cls = .ref C ∧ NoCtx oe
section
variable {prog : Program} {w : World} {A : Around} {E : Value → Shared → Prop} {s : Shared} {ea it l : Addr} {oe : Obj}
end
section
variable {X : Cx}
end
end L2

namespace L2
open PySem PySem.Spec PyProof.Rows
/-! ### exceptions under way -/
theorem ObjOk.there {P : Program} {w : World} {H : Hp} {h : Heap} {a : Addr} {o : HO} (x : ObjOk P w H h a o) : ∃ ob, h.get? a = some ob := by
  cases o with
  | lst xs => obtain ⟨_, _, _, _, e⟩ := x; exact ⟨_, e⟩
  | tup xs => obtain ⟨_, _, _, o, e, _⟩ := x; exact ⟨_, e⟩
  | dK kvs => obtain ⟨_, _, _, _, o, _, _, e, _⟩ := x; exact ⟨_, e⟩
  | dT kvs => obtain ⟨_, _, _, _, o, _, _, e, _⟩ := x; exact ⟨_, e⟩
  | set S n => obtain ⟨o, _, _, _, e, _⟩ := x; exact ⟨_, e⟩
  | ins C dx fs => obtain ⟨_, _, _, e, _⟩ := x; exact ⟨_, e⟩
  | own y => obtain ⟨_, e⟩ := x; exact ⟨_, e⟩
  | xd fs => obtain ⟨_, ⟨_, _, _, e, _⟩, _⟩ := x; exact ⟨_, e⟩
  | rng lo hi => obtain ⟨_, _, _, e⟩ := x; exact ⟨_, e⟩
  | frz ob u => obtain ⟨e, _⟩ := x; exact ⟨_, e⟩
  | tbl ps => exact ⟨_, (show h.get? a = some _ from x)⟩
  | met f y => exact ⟨_, (show h.get? a = some _ from x)⟩
  | ext φ => obtain ⟨_, ⟨_, e⟩, _⟩ := x; exact ⟨_, e⟩
/-- B: what is kept to the last sign while the exception passes; what is neither in B nor a running frame is the exception's own, made since h0 -/
def Fly (base : Heap) (l : List Env) (ea : Addr) (cls : Value) (H : Hp) (h0 h : Heap) : Prop :=
  ∃ (B : Heap) (a0 : Value), base.StaysIn B ∧ FlyX B l ea cls a0 h ∧ ∀ b, B.get? b = none → b ∉ frs l → (∃ o, h.get? b = some o) → h0.get? b = none ∧ H b = none
def CXE (P : Program) (w : World) (base : Heap) : CXT := fun outer H s E e s' =>
  ∃ (ea : Addr) (cls : Value) (H' : Hp), e = .ref ea ∧ s'.os = s.os ∧ AllBare s'.gens ∧ Un (frs outer) [] H H' s.heap s'.heap ∧ HOk P w H' s'.heap ∧ Fly base outer ea cls H' s.heap s'.heap ∧ E cls none H'
section
variable {X : Cx} {pins : List (Addr × Obj)} {σ : St} {H : Hp} {s : Shared}
end
/-- an exception that is made here leaves -/
def RaiseOk (X : Cx) (E : XK) : Prop := ∀ (pins : List (Addr × Obj)) (σ : St) (H : Hp) (s : Shared) (ea : Addr) (cls : Value) (vs : List Value) (h' : Heap), Inv X pins σ H s → Heap.MadeExcOf s.heap h' ea cls vs → E cls none H → X.xe (.ref ea) { s with heap := h' }
section
variable {P : Program} {w : World} {K : PySem.W.Frag} {mg : Str → Option Value} {base : Heap} {N : List Str} {qual : Str} {scope : Scope} {f : Addr} {cd : Value} {A : Around} {outer : List Env} {s0 : Shared} {H0 : Hp} {E : XK}
end
end L2

namespace L2
open PySem PySem.Spec PyProof.Rows
abbrev bmV : List Value := [.type "ValueError", .type "Exception", .type "BaseException", .type "object"]
/-- an own class under ValueError, as the fragment has it -/
structure ExC (K : PySem.W.Frag) (mg : Str → Option Value) (x : Str) (C : Addr) : Prop where
  mgx : mg x = some (.ref C)
  exc : PySem.W.excIn K C bmV "ValueError.__new__" = true
theorem ExC.own {K : PySem.W.Frag} {mg : Str → Option Value} {x : Str} {C : Addr} {h : Heap} (c : ExC K mg x C) (X : K.In h) : OwnCls x C bmV "ValueError.__new__" mg h := by
  obtain ⟨hm, hq⟩ := c
  refine ⟨hm, ?_⟩
  unfold PySem.W.excIn at hq
  split at hq
  case h_2 => cases hq
  case h_1 dk cdk slk hok =>
    split at hq
    case h_2 => cases hq
    case h_1 Ck bk a0 a1 a2 a3 nk a5 hmro hsl =>
      rw [Bool.and_eq_true, Bool.and_eq_true, Bool.and_eq_true, Bool.and_eq_true, Bool.and_eq_true, beq_iff_eq, beq_iff_eq, beq_iff_eq] at hq
      obtain ⟨⟨⟨⟨⟨e1, e2⟩, e3⟩, e4⟩, e5⟩, e6⟩ := hq
      have e3 : cdk.hasDel = false := by simpa using e3
      have hok' := X _ _ hok
      cases e1
      cases e2
      cases cdk with
      | mk x1 x2 x3 x4 x5 x6 x7 x8 x9 x10 x11 =>
        cases slk with
        | mk lk =>
          cases hmro
          cases e3
          cases hsl
          exact ⟨_, _, _, _, _, _, _, _, _, _, _, _, _, _, _, _, _, hok', Heap.Ns.of_isNs (PySem.W.isNs_of_in X e5), PySem.W.nsMap_none_of_in X e5 e6, PySem.W.tail_of_in X e4⟩
section
variable {X : Cx} {pos np cpos : Pos} {x : Str} {C : Addr} {E : XK} {e0 : Expr} {es : List Expr} {ta : TA}
def tRaise (C : Addr) (E : XK) (ta : TA) : TS := fun _ σ H => ta σ H fun vs H1 => vs.length ≤ sizeLine ∧ E (.ref C) none H1
end
/-! ### defs from which exceptions may leave -/
structure DfE (P : Program) (w : World) (K : PySem.W.Frag) (mg : Str → Option Value) (base : Heap) (x : Str) (ps : List Str) (k : Nat) (sp : Sp) : Prop where
  ex : ∃ f fd, FnOk P w K mg base (CXE P w base) k f fd ps sp ∧ mg x = some (.ref f) ∧ PySem.W.keepIn K (.ref f) = true ∧ Binds K fd ps []
/-! the same over structures -/
section
variable {X : Cx}
end
end L2

namespace L2
open PySem PySem.Spec PyProof.Rows
/-! ### the class of a handler fits -/
structure Fits (K : PySem.W.Frag) (C R : Addr) : Prop where
  sub : PySem.W.kitCls K (.ref C) (.ref R) = some true
  exc : PySem.W.subIn K (.ref R) (.type "BaseException") = some true
/-! ### within a handler -/
abbrev Cx.within (X : Cx) (ea : Addr) (oe : Obj) : Cx := { X with A := X.A.mark (some (.ref ea)), calm := false, pn := X.pn ++ [(ea, oe)], xe := fun _ _ => False }
theorem Cx.Ok.within {X : Cx} (ok : X.Ok) (ea : Addr) (oe : Obj) : (X.within ea oe).Ok :=
  ⟨ok.mod, ok.kind, ok.glob, ok.blt, ok.above, ok.inj, ok.has, ok.cab, (fun z => nomatch z), ok.frames, ok.stk, ok.exf, ok.bs, ok.bsz, ok.noex, ok.exfs, ok.funs, ok.frf⟩
/-- what the exception has for its own -/
def Priv (X : Cx) (pins : List (Addr × Obj)) (B : Heap) (H : Hp) (h : Heap) : Prop :=
  ∀ b, B.get? b = none → b ∉ frs X.stack → (∃ o, h.get? b = some o) → X.s₀.heap.get? b = none ∧ H b = none ∧ ∀ p ∈ X.pn ++ pins, p.1 ≠ b
structure Flat (X : Cx) : Prop where
  ex : X.ex = []
  st : X.stack = X.env :: X.outer
  fr : X.env.frame = some X.env.locals
section
variable {X : Cx} {pins : List (Addr × Obj)} {σ : St} {H : Hp} {s : Shared}
theorem Inv.within {ea : Addr} {oe : Obj} {ws : Array Value} (I : Inv X pins σ H s) (he : s.heap.get? ea = some oe) (hd : oe.data = .fields ws) (hH : H ea = none) (hL : ea ≠ X.env.locals) (hF : ea ∉ X.fs) : Inv (X.within ea oe) pins σ H s :=
  ⟨I.ok.within ea oe, I.os, I.bare, I.base, I.loc, I.cell, I.free, I.freeC, fun p hp => by
    rcases List.mem_append.mp hp with hp | hp
    · rcases List.mem_append.mp hp with hp | hp
      · exact I.pin p (List.mem_append_left _ hp)
      · obtain rfl : p = (ea, oe) := by simpa using hp
        exact ⟨he, hH, hL, hF, fun v z => by rw [hd] at z; cases z⟩
    · exact I.pin p (List.mem_append_right _ hp), I.hok, I.len⟩
theorem Inv.without {ea : Addr} {oe : Obj} (ok : X.Ok) (I : Inv (X.within ea oe) pins σ H s) : Inv X pins σ H s :=
  ⟨ok, I.os, I.bare, I.base, I.loc, I.cell, I.free, I.freeC, fun p hp => I.pin p (by
    rcases List.mem_append.mp hp with hp | hp
    · exact List.mem_append_left _ (List.mem_append_left _ hp)
    · exact List.mem_append_right _ hp), I.hok, I.len⟩
theorem SP.without {ea : Addr} {oe : Obj} {D : Ends} {f : Flow} {s' : Shared} (ok : X.Ok) (h : SP (X.within ea oe) pins D f s') : SP X pins D f s' := by
  cases f with
  | next => obtain ⟨σ', H', I, q⟩ := h; exact ⟨σ', H', I.without ok, q⟩
  | brk => obtain ⟨σ', H', I, q⟩ := h; exact ⟨σ', H', I.without ok, q⟩
  | cont => obtain ⟨σ', H', I, q⟩ := h; exact ⟨σ', H', I.without ok, q⟩
  | ret u => obtain ⟨v, σ', H', I, r, q⟩ := h; exact ⟨v, σ', H', I.without ok, r, q⟩
theorem Flat.fs (F : Flat X) : frs X.stack = X.env.locals :: X.fs := by rw [F.st]; unfold frs; rw [List.filterMap_cons, F.fr]; rfl
end
section
variable {X : Cx} {pins : List (Addr × Obj)} {σ : St} {H : Hp} {s : Shared} {ea C R : Addr} {B : Heap} {a0 : Value} {x : Str} {np pos : Pos} {b0 : Stmt} {suite : List Stmt} {rest : List ExceptHandler} {ts : TS} {D : Ends}
end
end L2

namespace L2
open PySem PySem.Spec PyProof.Rows
/-! ### what may raise, within a try -/
def XPr (X : Cx) (pins : List (Addr × Obj)) (σ : St) (E : XK) (e : Value) (s' : Shared) : Prop :=
  ∃ (ea : Addr) (cls : Value) (H' : Hp) (B : Heap) (a0 : Value), e = .ref ea ∧ Inv X pins σ H' s' ∧ X.base.StaysIn B ∧ FlyX B X.stack ea cls a0 s'.heap ∧ Priv X pins B H' s'.heap ∧ E cls none H'
abbrev TEX := St → Hp → VK → XK → Prop
abbrev TSX := Ends → (St → XK) → St → Hp → Prop
structure PEX (X : Cx) (e : Expr) (t : TEX) : Prop where
  h : ∀ (pins : List (Addr × Obj)) (s : Shared) (σ : St) (H : Hp) (Q : VK) (E : XK), Inv X pins σ H s → t σ H Q E → wpAny (model X.prog X.w) X.A (eval e X.env) (EP X pins σ Q) (XPr X pins σ E) s
structure PSX (X : Cx) (st : Stmt) (t : TSX) : Prop where
  h : ∀ (pins : List (Addr × Obj)) (s : Shared) (σ : St) (H : Hp) (D : Ends) (E : St → XK), Inv X pins σ H s → t D E σ H → wpAny (model X.prog X.w) X.A (exec st X.env) (SP X pins D) (fun e s' => ∃ σ', XPr X pins σ' (E σ') e s') s
structure PSXs (X : Cx) (st : List Stmt) (t : TSX) : Prop where
  h : ∀ (pins : List (Addr × Obj)) (s : Shared) (σ : St) (H : Hp) (D : Ends) (E : St → XK), Inv X pins σ H s → t D E σ H → wpAny (model X.prog X.w) X.A (execs st X.env) (SP X pins D) (fun e s' => ∃ σ', XPr X pins σ' (E σ') e s') s
section
variable {X : Cx}
def xE (te : TE) : TEX := fun σ H Q _ => te σ H Q
def xCall (sp : Sp) (t : TA) : TEX := fun σ H Q E => t σ H fun vs H1 => sp vs H1 Q E
def xTup2 (ta : TE) (tb : TEX) : TEX := fun σ H Q E => ta σ H fun x H1 => tb σ H1 (fun y H2 => ∀ p, H2 p = none → Q (.ref p) (upd H2 p (.tup [x, y]))) E
def xIsT (ta : TEX) : TEX := fun σ H Q E => ta σ H (fun x H1 => ∃ b, x = .bl b ∧ Q (.bl b) H1) E
def xS (t : TS) : TSX := fun D _ σ H => t D σ H
def xRet (te : TEX) : TSX := fun D E σ H => te σ H D.rt (E σ)
def xSet (i : Nat) (te : TEX) : TSX := fun D E σ H => te σ H (fun v H1 => D.nx (σ.set i (some v)) H1) (E σ)
def xDrop (te : TEX) : TSX := fun D E σ H => te σ H (fun _ H1 => D.nx σ H1) (E σ)
def xIf (tc : TT) (a b : TSX) : TSX := fun D E σ H => tc σ H fun d H1 => if d = true then a D E σ H1 else b D E σ H1
def xNext : TSX := fun D _ σ H => D.nx σ H
def xSeq (a b : TSX) : TSX := fun D E σ H => a { D with nx := b D E } E σ H
/-- try: .. except X: .. -/
def tTry0 (R : Addr) (tb : TSX) (ts : TS) (K : PySem.W.Frag) : TS := fun D σ H => tb D (fun σ' cls _ H' => ∃ C, cls = .ref C ∧ Fits K C R ∧ ts D σ' H') σ H
end
end L2

namespace L2
open PySem PySem.Spec PyProof.Rows
/-! ### isinstance of an exception -/
structure ExK (K : PySem.W.Frag) (C : Addr) : Prop where
  ga : PySem.W.findIn K (.ref C) "__getattribute__" = some (some (.builtin "BaseException.__getattribute__"))
  cl : PySem.W.findIn K (.ref C) "__class__" = some (some (.builtin "object.__class__"))
  gg : PySem.W.findIn K (.ref C) "__getattr__" = some none
  ob : PySem.W.subIn K (.ref C) (.type "object") = some true
  be : PySem.W.subIn K (.ref C) (.type "BaseException") = some true
  se : PySem.W.kitCls K (.ref C) (.ref C) = some true
section
variable {K : PySem.W.Frag} {prog : Program} {w : World} {A : Around} {E : Value → Shared → Prop} {h : Heap} {g : Array GenState} {d : Drawn} {t : Nat} {os : OsState} {a C : Addr} {o : Obj}
end
section
variable {X : Cx} {K : PySem.W.Frag}
/-- isinstance(e, C) of an exception that lies pinned -/
def rIsX (K : PySem.W.Frag) (ea C : Addr) : List V → Hp → VK → Prop := fun xs H Q => ∃ T b, xs = [.ref ea, T] ∧ ((∃ D, T = .ref D ∧ PySem.W.kitOne K (.ref C) (.ref D) = some b) ∨ (∃ n, T = .ty n ∧ PySem.W.kitOne K (.ref C) (.type n) = some b)) ∧ Q (.bl b) H
/-- isinstance(e, (C, D, ..)) -/
def rIsXT (K : PySem.W.Frag) (ea C : Addr) : List V → Hp → VK → Prop := fun xs H Q => ∃ (tp : Addr) (Ds : List Addr) (b : Bool), xs = [.ref ea, .ref tp] ∧ H tp = some (.tup (Ds.map V.ref)) ∧ PySem.W.kitAny K (.ref C) (Ds.map Value.ref) = some b ∧ Q (.bl b) H
end
end L2

namespace L2
open PySem PySem.Spec PyProof.Rows
section
variable {X : Cx} {pins : List (Addr × Obj)} {σ : St} {H : Hp} {s : Shared}
end
abbrev onlyRet (D : Ends) : Ends := { nx := fun _ _ => False, rt := D.rt, bk := fun _ _ => False, ct := fun _ _ => False }
section
variable {X : Cx} {pins : List (Addr × Obj)} {σ : St} {H : Hp} {s : Shared} {ea C R : Addr} {B : Heap} {a0 : Value} {x n : Str} {i : Nat} {np pos : Pos} {b0 : Stmt} {suite : List Stmt} {rest : List ExceptHandler} {ts : TS} {D : Ends}
end
section
variable {X : Cx}
/-- try: .. except X as n: .. (a suite that returns) -/
def tTryN (R : Addr) (i : Nat) (tb : TSX) (ts : Addr → Addr → TS) (K : PySem.W.Frag) (mg : Str → Option Value) : TS := fun D σ H =>
  tb D (fun σ' cls _ H' => ∃ C x, cls = .ref C ∧ Fits K C R ∧ ExC K mg x C ∧ ExK K C ∧ ∀ ea, H' ea = none → ts ea C (onlyRet D) (σ'.set i (some (.ref ea))) H') σ H
end
end L2

namespace L2
open PySem PySem.Spec PyProof.Rows M36
/-- a list of lists of ints that may be written: its rows stand apart -/
structure Grid (H : Hp) (a : Addr) (rs : List Addr) (g : List (List Int)) : Prop where
  tp : H a = some (.lst (rs.map V.ref))
  row : ∀ (i : Nat) (r : Addr), rs[i]? = some r → ∃ ns : List Int, g[i]? = some ns ∧ H r = some (.lst (ns.map V.int))
  len : rs.length = g.length
  nd : rs.Nodup
  na : a ∉ rs
theorem Grid.same {H H' : Hp} {a : Addr} {rs : List Addr} {g : List (List Int)} (G : Grid H a rs g) (e : Same H H') : Grid H' a rs g :=
  ⟨e _ _ G.tp, fun i r h => let ⟨ns, h1, h2⟩ := G.row i r h; ⟨ns, h1, e _ _ h2⟩, G.len, G.nd, G.na⟩
theorem Grid.at {H : Hp} {a : Addr} {rs : List Addr} {g : List (List Int)} (G : Grid H a rs g) {i : Nat} {ns : List Int} (h : g[i]? = some ns) : ∃ r, rs[i]? = some r ∧ H r = some (.lst (ns.map V.int)) ∧ r ≠ a := by
  have hi : i < rs.length := by rw [G.len]; exact (List.getElem?_eq_some_iff.mp h).1
  obtain ⟨ms, h1, h2⟩ := G.row i rs[i] (by simp [hi])
  rw [h] at h1; cases h1
  exact ⟨rs[i], by simp [hi], h2, fun e => G.na (e ▸ List.getElem_mem hi)⟩
def dI (ns : List Int) : List PyData := ns.map PyData.int
def dG (g : List (List Int)) : PyData := .list (g.map fun ns => .list (dI ns))
theorem dens_ints {K : PySem.W.Frag} {H : Hp} : ∀ (ns : List Int), Dens K H (ns.map V.int) (dI ns)
  | [] => .nil
  | o :: r => .cons (.int _) (dens_ints r)
theorem lay_ints : ∀ (ns : List Int), PyData.canLayAll0 (dI ns) = true
  | [] => rfl
  | o :: r => by
    show (PyData.canLay0 (.int _) && PyData.canLayAll0 (dI r)) = true
    rw [lay_ints r]; rfl
/-- n rows of c numbers below 2^b either way -/
def Rect (n c b : Nat) (g : List (List Int)) : Prop := g.length = n ∧ ∀ ns ∈ g, ns.length = c ∧ ∀ x ∈ ns, -(2 ^ b) < x ∧ x < 2 ^ b
def gM (g : List (List Int)) (i j : Nat) : Int := (g.getD i []).getD j 0
/-- n rows of c ints, to be read -/
structure Mx2 (H : Hp) (a : Addr) (n c : Nat) (M : Nat → Nat → Int) : Prop where
  ex : ∃ rs : List Addr, rs.length = n ∧ H a = some (.lst (rs.map V.ref)) ∧ ∀ (i : Nat) (r : Addr), rs[i]? = some r → H r = some (.lst ((rowN c (M i)).map V.int))
theorem Mx2.same {H H' : Hp} {a : Addr} {n c : Nat} {M : Nat → Nat → Int} (h : Mx2 H a n c M) (e : Same H H') : Mx2 H' a n c M := by
  obtain ⟨rs, h1, h2, h3⟩ := h
  exact ⟨rs, h1, e _ _ h2, fun i r hi => e _ _ (h3 i r hi)⟩
/-- the list of lists of a function -/
def gOf (n c : Nat) (M : Nat → Nat → Int) : List (List Int) := (List.range n).map fun i => rowN c (M i)
/-- a new list of n rows of c ints -/
structure New2 (H0 H : Hp) (a : Addr) (n c : Nat) (M : Nat → Nat → Int) : Prop where
  ex : ∃ rs : List Addr, rs.length = n ∧ H a = some (.lst (rs.map V.ref)) ∧ ∀ (i : Nat) (r : Addr), rs[i]? = some r → H r = some (.lst ((rowN c (M i)).map V.int)) ∧ H0 r = none
  no : H0 a = none
theorem New2.same {H0 H H' : Hp} {a : Addr} {n c : Nat} {M : Nat → Nat → Int} (h : New2 H0 H a n c M) (e : Same H H') : New2 H0 H' a n c M := by
  obtain ⟨⟨rs, h1, h2, h3⟩, h4⟩ := h
  exact ⟨⟨rs, h1, e _ _ h2, fun i r hi => ⟨e _ _ (h3 i r hi).1, (h3 i r hi).2⟩⟩, h4⟩
theorem New2.old {H0 H1 H : Hp} {a : Addr} {n c : Nat} {M : Nat → Nat → Int} (h : New2 H1 H a n c M) (e : Same H0 H1) : New2 H0 H a n c M := by
  obtain ⟨⟨rs, h1, h2, h3⟩, h4⟩ := h
  exact ⟨⟨rs, h1, h2, fun i r hi => ⟨(h3 i r hi).1, e.gone (h3 i r hi).2⟩⟩, e.gone h4⟩
/-! floor division by great numbers -/
def CDivB (i j : Int) : Prop := 0 < j ∧ ∃ m : Nat, m < 9000 ∧ j < 2 ^ m
theorem op_fdivB {X : Cx} : OpR X (binaryOp .FloorDiv) (rI CDivB fun i j => .int (i / j)) := opI fun i j _ _ _ _ _ hc q => by
  obtain ⟨h1, m, hm, h2⟩ := hc
  have e : ((2 ^ m : Nat) : Int) = 2 ^ m := by simp
  refine floordiv_int (by omega) (by rw [Int.fdiv_eq_ediv_of_nonneg i (by omega)]; exact q) (.inl (PyProof.noPylong_of_log2 ?_))
  have : j.natAbs.log2 < m := (Nat.log2_lt (by omega)).mpr (by omega)
  omega
end L2

namespace L2
open PySem PySem.Spec PyProof.Rows
/-! ### a dict while a loop walks it -/
section
variable {X : Cx} {pins : List (Addr × Obj)} {σ : St} {H : Hp} {s : Shared} {d : Addr} {kvs : List (Key × V)}
end
def Itk (d : Addr) (o : Obj) (kvs : List (Key × V)) : It :=
  ⟨fun i H => H d = some (.frz o (.dK kvs)) ∧ i < kvs.length, fun i H x H' => (∃ k v, kvs[i]? = some (k, v) ∧ x = kV k) ∧ H' = H, fun i H => H d = some (.frz o (.dK kvs)) ∧ kvs.length ≤ i⟩
section
variable {X : Cx}
def iDict (tl : TE) : TI := fun σ H R => tl σ H fun x H1 => ∃ d kvs, x = .ref d ∧ H1 d = some (.dK kvs) ∧ ∀ o, R (Itk d o kvs) (upd H1 d (.frz o (.dK kvs)))
def tThaw (H0 : Hp) (te : TE) : TE := fun σ H Q => te σ H fun v H1 => ∃ d o kvs, H1 d = some (.frz o (.dK kvs)) ∧ H0 d = none ∧ Q v (upd H1 d (.dK kvs))
def sThaw (H0 : Hp) (t : TS) : TS := fun D σ H => t { D with nx := fun σ' H1 => ∃ d o kvs, H1 d = some (.frz o (.dK kvs)) ∧ H0 d = none ∧ D.nx σ' (upd H1 d (.dK kvs)) } σ H
end
end L2

namespace L2
open PySem PySem.Spec PyProof.Rows
/-! ### a list turned about: xs[::-1] -/
section
variable {X : Cx} {e k : Expr} {te tk : TE} {p2 pos : Pos}
theorem Vals.rev {xs : List V} {us : List Value} (r : Vals xs us) : Vals xs.reverse us.reverse := by
  induction r with
  | nil => exact .nil
  | cons h _ ih =>
    rw [List.reverse_cons, List.reverse_cons]
    exact ih.append (.cons h .nil)
def tRev (K : PySem.W.Frag) (te tk : TE) : TE := fun σ H Q => te σ H fun x H1 => tk σ H1 fun y H2 => y = .int (-1) ∧ ∃ a xs, x = .ref a ∧ SqL K H2 a xs ∧ ∀ p, H2 p = none → Q (.ref p) (upd H2 p (.lst xs.reverse))
theorem pe_rev (K : PySem.W.Frag) (hK : X.K = K) (he : PE X e te) (hk : PE X k tk) : PE X (.Subscript e (.Slice none none (some k) p2) pos) (tRev K te tk) := by
  subst hK
  intro pins s σ H Q I h
  refine Subscript_ (thn (he pins s σ H _ I h) fun v s1 ⟨x, H1, I1, r1, q1⟩ => ?_)
  refine wpAny_Slice ?_
  rw [evalPart_none]
  refine wpAny_pure ?_
  refine wpAny_pure ?_
  rw [evalPart_some]
  refine thn (hk pins s1 σ H1 _ I1 q1) fun vs s3 ⟨y, H3, I3, r3, q3⟩ => ?_
  obtain ⟨rfl, a, xs, rfl, hx, q⟩ := q3
  obtain ⟨t, rfl⟩ := r3
  cases r1
  have I4 : Inv X pins σ H3 { s3 with heap := s3.heap.push { cls := .type "slice", data := .fields #[.none, .none, .int (-1) t] } } := I3.kept (t' := s3.toks) fun b ob q => Heap.get?_push_of_some _ q
  obtain ⟨its, r, ht, hz⟩ := I4.list hx
  have hlen := r.length
  show wpAny (model X.prog X.w) X.A (subscriptTail e (.Slice none none (some k) p2) (.ref a) (.ref s3.heap.objs.size)) (EP X pins σ Q) X.xe { s3 with heap := s3.heap.push { cls := .type "slice", data := .fields #[.none, .none, .int (-1) t] } }
  refine tail_any (ops := [.ref a, .ref s3.heap.objs.size]) ht.isList.typeIs slot_list_getitem.lookup ?_ (by with_unfolding_all rfl)
  refine wpAny_getItem_list_slice ht.isList (Heap.IsSliceOf.new ..) .none .none (.int (-1) t) (by simp) ?_ (by rw [List.size_toArray] <;> omega)
  rw [PySem.W.krv_pick]
  refine ⟨.ref _, _, I4.laid (t' := s3.toks) (o := .lst xs.reverse) (fun b ob q => Heap.get?_push_of_some _ q) (Nat.le_refl _) ?_, rfl, q _ (I4.hok.fresh (Nat.le_refl _))⟩
  exact ⟨by rw [List.length_reverse]; exact hz, _, 0, Vals.rev r, Heap.get?_push_size _ rfl⟩
theorem qpe_rev (K : PySem.W.Frag) (hK : X.K = K) (he : QE X e te) (hk : QE X k tk) : QE X (.Subscript e (.Slice none none (some k) p2) pos) (tRev K te tk) := ⟨pe_rev K hK he.h hk.h⟩
end
end L2

namespace L2
open PySem PySem.Spec PyProof.Rows
/-! ### for k, v in d.items() -/
def Itmm (d : Addr) (o : Obj) (kvs : List (Key × V)) : It :=
  ⟨fun i H => H d = some (.frz o (.dK kvs)) ∧ i < kvs.length, fun i H x H' => ∃ p k v, H p = none ∧ kvs[i]? = some (k, v) ∧ x = .ref p ∧ H' = upd H p (.tup [kV k, v]), fun i H => H d = some (.frz o (.dK kvs)) ∧ kvs.length ≤ i⟩
section
variable {X : Cx}
def iItems (tl : TE) : TI := fun σ H R => tl σ H fun x H1 => ∃ d kvs, x = .ref d ∧ H1 d = some (.dK kvs) ∧ ∀ o, R (Itmm d o kvs) (upd H1 d (.frz o (.dK kvs)))
/-! ### {i: j} of two numbers -/
def tDOne (i j : Int) : TE := fun _ H Q => ∀ p, H p = none → Q (.ref p) (upd H p (.dK [(Sum.inl i, .int j)]))
end
end L2

namespace L2
open PySem PySem.Spec PyProof.Rows
section
variable {X : Cx}
/-! ### xs.insert(k, y) -/
def rInsert : V → List V → Hp → VK → Prop := fun x vs H Q => ∃ l xs k y, x = .ref l ∧ vs = [.int k, y] ∧ H l = some (.lst xs) ∧ 0 ≤ k ∧ k ≤ xs.length ∧ xs.length < sizeLine ∧ Q .non (upd H l (.lst (xs.take k.toNat ++ [y] ++ xs.drop k.toNat)))
end
/-! ### rows without a place, with one more -/
/-- the places of the longer row that stand in the shorter one -/
def up (p i : Nat) : Nat := if i < p then i else i + 1
def dn (p i : Nat) : Nat := if i < p then i else i - 1
end L2

namespace L2
open PySem PySem.Spec PyProof.Rows
/-! ### min and max of a list of ints -/
def rMinL (K : PySem.W.Frag) : List V → Hp → VK → Prop := fun xs H Q => ∃ (a : Addr) (ns : List Int), xs = [.ref a] ∧ SqL K H a (ns.map V.int) ∧ ns ≠ [] ∧ ∀ M, M ∈ ns → (∀ x ∈ ns, M ≤ x) → Q (.int M) H
def rMaxL (K : PySem.W.Frag) : List V → Hp → VK → Prop := fun xs H Q => ∃ (a : Addr) (ns : List Int), xs = [.ref a] ∧ SqL K H a (ns.map V.int) ∧ ns ≠ [] ∧ ∀ M, M ∈ ns → (∀ x ∈ ns, x ≤ M) → Q (.int M) H
section
variable {X : Cx}
end
end L2

namespace DL
open PySem PySem.Spec PyProof.Rows L2
abbrev D := PyData
/-! ### things that change: lists and dicts -/
def muO : HO → Bool
  | .lst _ => true
  | .dK _ => true
  | .dT _ => true
  | _ => false
abbrev MuS := {o : HO // muO o = true}
def Mu (H : Hp) (a : Addr) : Prop := ∃ o : MuS, H a = some o.1
theorem Mu.lst {H : Hp} {a : Addr} {us : List V} (h : H a = some (.lst us)) : Mu H a := ⟨⟨.lst us, rfl⟩, h⟩
theorem Mu.of {H : Hp} {a : Addr} {o : HO} (h : H a = some o) (m : muO o = true) : Mu H a := ⟨⟨o, m⟩, h⟩
theorem Mu.no {H : Hp} {a : Addr} {o : HO} (h : Mu H a) (e : H a = some o) (n : muO o = false) : False := by
  obtain ⟨u, q⟩ := h
  rw [e] at q
  have q := Option.some.inj q
  have m := u.2
  rw [← q, n] at m
  cases m
/-! ### dicts as data: keys are ints, texts, or tuples of them; values are None, truths, ints, texts -/
def keyV : Key → D
  | .inl i => .int i
  | .inr x => .str x
def valD : D → Option V
  | .none => some .non
  | .bool b => some (.bl b)
  | .int i => some (.int i)
  | .str x => some (.str x)
  | _ => Option.none
def DKps : List (Key × V) → List (D × D) → Prop
  | [], [] => True
  | (k, v) :: r, (d, e) :: t => d = keyV k ∧ valD e = some v ∧ DKps r t
  | _, _ => False
def DTps : List (List Key × V) → List (D × D) → Prop
  | [], [] => True
  | (k, v) :: r, (d, e) :: t => d = .tuple (k.map keyV) ∧ valD e = some v ∧ DTps r t
  | _, _ => False
def DctO : HO → Bool → List (D × D) → Prop
  | .dK kvs, false, kds => DKps kvs kds
  | .dT kvs, true, kds => DTps kvs kds
  | _, _, _ => False
/-- b: the keys are tuples -/
def dctD (b : Bool) (kds : List (D × D)) : D := .dict ((.bool false, .bool b) :: kds)
theorem DctO.mu {o : HO} {b : Bool} {kds : List (D × D)} (h : DctO o b kds) : muO o = true := by cases o <;> first | rfl | (cases b <;> exact h.elim)
/-! ### data in the heap: lists are tracked ones; the script is a thing of its own -/
mutual
inductive Dn (K : PySem.W.Frag) (H : Hp) : V → D → Prop
  | non : Dn K H .non .none
  | bl (b) : Dn K H (.bl b) (.bool b)
  | int (i) : Dn K H (.int i) (.int i)
  | str (x) : Dn K H (.str x) (.str x)
  | lst {a us ds} : H a = some (.lst us) → Dns K H us ds → Dn K H (.ref a) (.list ds)
  | tup {a us ds} : SqT K H a us → Dns K H us ds → Dn K H (.ref a) (.tuple ds)
  | scr {a} (ns : List Int) : SqL K H a (ns.map V.int) → Dn K H (.ref a) (.dict [(.none, .list (ns.map .int))])
  | opq (a : Addr) : Dn K H (.ref a) (.dict [(.bool true, .int (a : Nat))])
  | dct {a o b kds} : H a = some o → DctO o b kds → Dn K H (.ref a) (.dict ((.bool false, .bool b) :: kds))
inductive Dns (K : PySem.W.Frag) (H : Hp) : List V → List D → Prop
  | nil : Dns K H [] []
  | cons {v vs d ds} : Dn K H v d → Dns K H vs ds → Dns K H (v :: vs) (d :: ds)
end
theorem Dn.both {K : PySem.W.Frag} {H : Hp} {P : V → D → Prop} {Q : List V → List D → Prop} (c1 : P .non .none) (c2 : ∀ b, P (.bl b) (.bool b)) (c3 : ∀ i, P (.int i) (.int i)) (c4 : ∀ x, P (.str x) (.str x))
    (c5 : ∀ {a us ds}, H a = some (.lst us) → Q us ds → P (.ref a) (.list ds)) (c6 : ∀ {a us ds}, SqT K H a us → Q us ds → P (.ref a) (.tuple ds)) (c7 : ∀ {a} (ns : List Int), SqL K H a (ns.map V.int) → P (.ref a) (.dict [(.none, .list (ns.map .int))]))
    (c8 : ∀ a : Addr, P (.ref a) (.dict [(.bool true, .int (a : Nat))])) (c9 : ∀ {a o b kds}, H a = some o → DctO o b kds → P (.ref a) (.dict ((.bool false, .bool b) :: kds))) (n0 : Q [] []) (n1 : ∀ {v vs d ds}, P v d → Q vs ds → Q (v :: vs) (d :: ds)) :
    (∀ {v d}, Dn K H v d → P v d) ∧ ∀ {vs ds}, Dns K H vs ds → Q vs ds :=
  ⟨fun h => Dn.rec (motive_1 := fun v d _ => P v d) (motive_2 := fun vs ds _ => Q vs ds) c1 c2 c3 c4 (fun h _ r => c5 h r) (fun h _ r => c6 h r) (fun ns h => c7 ns h) c8 (fun h r => c9 h r) n0 (fun _ _ p q => n1 p q) h,
   fun h => Dns.rec (motive_1 := fun v d _ => P v d) (motive_2 := fun vs ds _ => Q vs ds) c1 c2 c3 c4 (fun h _ r => c5 h r) (fun h _ r => c6 h r) (fun ns h => c7 ns h) c8 (fun h r => c9 h r) n0 (fun _ _ p q => n1 p q) h⟩
theorem Dn.same2 {K : PySem.W.Frag} {H H' : Hp} (e : Same H H') : (∀ {v d}, Dn K H v d → Dn K H' v d) ∧ ∀ {vs ds}, Dns K H vs ds → Dns K H' vs ds :=
  Dn.both .non .bl .int .str (fun h r => .lst (e _ _ h) r) (fun h r => .tup (e.tup h) r) (fun ns h => .scr ns (e.seq h)) .opq (fun h r => .dct (e _ _ h) r) .nil fun p q => .cons p q
theorem Dn.same {K : PySem.W.Frag} {H H' : Hp} (e : Same H H') {v : V} {d : D} (h : Dn K H v d) : Dn K H' v d := (Dn.same2 e).1 h
theorem Dns.same {K : PySem.W.Frag} {H H' : Hp} (e : Same H H') {vs : List V} {ds : List D} (h : Dns K H vs ds) : Dns K H' vs ds := (Dn.same2 e).2 h
theorem Dn.deep2 {K : PySem.W.Frag} {H : Hp} : (∀ {v d}, Dn K H v d → d.canLay0 = true → Den K H v d) ∧ ∀ {vs ds}, Dns K H vs ds → PyData.canLayAll0 ds = true → Dens K H vs ds :=
  Dn.both (fun _ => .non) (fun b _ => .bl b) (fun b _ => .int b) (fun b _ => .str b) (fun h r q => .lst (SqL.of h) (r (by simpa [PyData.canLay0] using q))) (fun h r q => .tup h (r (by simpa [PyData.canLay0] using q)))
    (fun ns h q => by simp [PyData.canLay0] at q) (fun a q => by simp [PyData.canLay0] at q) (fun h r q => by simp [PyData.canLay0] at q) (fun _ => .nil) fun p r q => by
    simp only [PyData.canLayAll0, Bool.and_eq_true] at q
    exact .cons (p q.1) (r q.2)
theorem Dn.deep {K : PySem.W.Frag} {H : Hp} {v : V} {d : D} (h : Dn K H v d) (q : d.canLay0 = true) : Den K H v d := Dn.deep2.1 h q
theorem Dns.length {K : PySem.W.Frag} {H : Hp} : ∀ {vs ds}, Dns K H vs ds → vs.length = ds.length
  | _, _, .nil => rfl
  | _, _, .cons _ r => by rw [List.length_cons, List.length_cons, Dns.length r]
theorem Dns.get {K : PySem.W.Frag} {H : Hp} : ∀ {vs ds} {i : Nat} {d : D}, Dns K H vs ds → ds[i]? = some d → ∃ v, vs[i]? = some v ∧ Dn K H v d
  | _, _, 0, _, .cons h r, e => by simp at e; subst e; exact ⟨_, rfl, h⟩
  | _, _, i + 1, d, .cons h r, e => by simp at e ⊢; exact Dns.get r e
theorem Dns.append {K : PySem.W.Frag} {H : Hp} : ∀ {vs ds us es}, Dns K H vs ds → Dns K H us es → Dns K H (vs ++ us) (ds ++ es)
  | _, _, _, _, .nil, q => q
  | _, _, _, _, .cons h r, q => .cons h (Dns.append r q)
/-! ### trees that are owned: ns are the nodes of its lists -/
mutual
inductive Ow (K : PySem.W.Frag) (H : Hp) : V → D → List Addr → Prop
  | non : Ow K H .non .none []
  | bl (b) : Ow K H (.bl b) (.bool b) []
  | int (i) : Ow K H (.int i) (.int i) []
  | str (x) : Ow K H (.str x) (.str x) []
  | lst {a us ds ns} : H a = some (.lst us) → Ows K H us ds ns → Ow K H (.ref a) (.list ds) (a :: ns)
  | tup {a us ds ns} : SqT K H a us → Ows K H us ds ns → Ow K H (.ref a) (.tuple ds) ns
  | dct {a o b kds} : H a = some o → DctO o b kds → Ow K H (.ref a) (.dict ((.bool false, .bool b) :: kds)) [a]
inductive Ows (K : PySem.W.Frag) (H : Hp) : List V → List D → List Addr → Prop
  | nil : Ows K H [] [] []
  | cons {v vs d ds ns ms} : Ow K H v d ns → Ows K H vs ds ms → Ows K H (v :: vs) (d :: ds) (ns ++ ms)
end
theorem Ow.both {K : PySem.W.Frag} {H : Hp} {P : V → D → List Addr → Prop} {Q : List V → List D → List Addr → Prop} (c1 : P .non .none []) (c2 : ∀ b, P (.bl b) (.bool b) []) (c3 : ∀ i, P (.int i) (.int i) []) (c4 : ∀ x, P (.str x) (.str x) [])
    (c5 : ∀ {a us ds ns}, H a = some (.lst us) → Q us ds ns → P (.ref a) (.list ds) (a :: ns)) (c6 : ∀ {a us ds ns}, SqT K H a us → Q us ds ns → P (.ref a) (.tuple ds) ns)
    (c9 : ∀ {a o b kds}, H a = some o → DctO o b kds → P (.ref a) (.dict ((.bool false, .bool b) :: kds)) [a]) (n0 : Q [] [] []) (n1 : ∀ {v vs d ds ns ms}, P v d ns → Q vs ds ms → Q (v :: vs) (d :: ds) (ns ++ ms)) :
    (∀ {v d ns}, Ow K H v d ns → P v d ns) ∧ ∀ {vs ds ns}, Ows K H vs ds ns → Q vs ds ns :=
  ⟨fun h => Ow.rec (motive_1 := fun v d ns _ => P v d ns) (motive_2 := fun vs ds ns _ => Q vs ds ns) c1 c2 c3 c4 (fun h _ r => c5 h r) (fun h _ r => c6 h r) (fun h r => c9 h r) n0 (fun _ _ p q => n1 p q) h,
   fun h => Ows.rec (motive_1 := fun v d ns _ => P v d ns) (motive_2 := fun vs ds ns _ => Q vs ds ns) c1 c2 c3 c4 (fun h _ r => c5 h r) (fun h _ r => c6 h r) (fun h r => c9 h r) n0 (fun _ _ p q => n1 p q) h⟩
theorem Ow.den2 {K : PySem.W.Frag} {H : Hp} : (∀ {v d ns}, Ow K H v d ns → Dn K H v d) ∧ ∀ {v d ns}, Ows K H v d ns → Dns K H v d :=
  Ow.both .non .bl .int .str (fun h r => .lst h r) (fun h r => .tup h r) (fun h r => .dct h r) .nil fun p q => .cons p q
theorem Ow.den {K : PySem.W.Frag} {H : Hp} {v : V} {d : D} {ns : List Addr} (h : Ow K H v d ns) : Dn K H v d := Ow.den2.1 h
theorem Ows.den {K : PySem.W.Frag} {H : Hp} {v : List V} {d : List D} {ns : List Addr} (h : Ows K H v d ns) : Dns K H v d := Ow.den2.2 h
theorem Ow.there2 {K : PySem.W.Frag} {H : Hp} : (∀ {v d ns}, Ow K H v d ns → ∀ a ∈ ns, Mu H a) ∧ ∀ {v d ns}, Ows K H v d ns → ∀ a ∈ ns, Mu H a :=
  Ow.both (P := fun _ _ ns => ∀ a ∈ ns, Mu H a) (Q := fun _ _ ns => ∀ a ∈ ns, Mu H a) (fun _ z => nomatch z) (fun _ _ z => nomatch z) (fun _ _ z => nomatch z) (fun _ _ z => nomatch z) (fun h r a ha => (List.mem_cons.mp ha).elim (fun e => e ▸ .lst h) (r a)) (fun _ r => r)
    (fun h r a ha => List.mem_singleton.mp ha ▸ .of h r.mu) (fun _ z => nomatch z) fun p q a ha => (List.mem_append.mp ha).elim (p a) (q a)
theorem Ow.there {K : PySem.W.Frag} {H : Hp} {v : V} {d : D} {ns : List Addr} (h : Ow K H v d ns) : ∀ a ∈ ns, Mu H a := Ow.there2.1 h
theorem Ows.there {K : PySem.W.Frag} {H : Hp} {v : List V} {d : List D} {ns : List Addr} (h : Ows K H v d ns) : ∀ a ∈ ns, Mu H a := Ow.there2.2 h
/-- lists at ns and all that is no list are as they were -/
def Kept (ns : List Addr) (H H' : Hp) : Prop := (∀ a ∈ ns, H' a = H a) ∧ ∀ a o, H a = some o → muO o = false → H' a = some o
theorem Kept.sqt {K : PySem.W.Frag} {ns : List Addr} {H H' : Hp} (k : Kept ns H H') {a : Addr} {us : List V} (h : SqT K H a us) : SqT K H' a us := by
  rcases h with (h | ⟨o, h⟩) | h
  · exact .inl (.inl (k.2 _ _ h rfl))
  · exact .inl (.inr ⟨o, k.2 _ _ h rfl⟩)
  · exact .inr h
theorem Ow.kept2 {K : PySem.W.Frag} {H H' : Hp} : (∀ {v d ns}, Ow K H v d ns → Kept ns H H' → Ow K H' v d ns) ∧ ∀ {v d ns}, Ows K H v d ns → Kept ns H H' → Ows K H' v d ns :=
  Ow.both (P := fun v d ns => Kept ns H H' → Ow K H' v d ns) (Q := fun v d ns => Kept ns H H' → Ows K H' v d ns) (fun _ => .non) (fun b _ => .bl b) (fun b _ => .int b) (fun b _ => .str b) (fun h r k => .lst ((k.1 _ List.mem_cons_self).trans h) (r ⟨fun a ha => k.1 a (List.mem_cons_of_mem _ ha), k.2⟩))
    (fun h r k => .tup (k.sqt h) (r k)) (fun h r k => .dct ((k.1 _ List.mem_cons_self).trans h) r) (fun _ => .nil) fun p q k => .cons (p ⟨fun a ha => k.1 a (List.mem_append_left _ ha), k.2⟩) (q ⟨fun a ha => k.1 a (List.mem_append_right _ ha), k.2⟩)
theorem Ow.kept {K : PySem.W.Frag} {H H' : Hp} {v : V} {d : D} {ns : List Addr} (h : Ow K H v d ns) (k : Kept ns H H') : Ow K H' v d ns := Ow.kept2.1 h k
theorem Ows.kept {K : PySem.W.Frag} {H H' : Hp} {v : List V} {d : List D} {ns : List Addr} (h : Ows K H v d ns) (k : Kept ns H H') : Ows K H' v d ns := Ow.kept2.2 h k
theorem Ow.same2 {K : PySem.W.Frag} {H H' : Hp} (e : Same H H') : (∀ {v d ns}, Ow K H v d ns → Ow K H' v d ns) ∧ ∀ {v d ns}, Ows K H v d ns → Ows K H' v d ns :=
  Ow.both .non .bl .int .str (fun h r => .lst (e _ _ h) r) (fun h r => .tup (e.tup h) r) (fun h r => .dct (e _ _ h) r) .nil fun p q => .cons p q
theorem Ow.same {K : PySem.W.Frag} {H H' : Hp} (e : Same H H') {v : V} {d : D} {ns : List Addr} (h : Ow K H v d ns) : Ow K H' v d ns := (Ow.same2 e).1 h
theorem Ows.same {K : PySem.W.Frag} {H H' : Hp} (e : Same H H') {v : List V} {d : List D} {ns : List Addr} (h : Ows K H v d ns) : Ows K H' v d ns := (Ow.same2 e).2 h
/-! ### data without lists -/
mutual
def flat : D → Bool
  | .none => true
  | .bool _ => true
  | .int _ => true
  | .str _ => true
  | .list _ => false
  | .tuple ds => flats ds
  | .dict _ => false
def flats : List D → Bool
  | [] => true
  | d :: ds => flat d && flats ds
end
theorem ow_flat2 {K : PySem.W.Frag} {H : Hp} : (∀ {v d}, Dn K H v d → flat d = true → Ow K H v d []) ∧ ∀ {v d}, Dns K H v d → flats d = true → Ows K H v d [] :=
  Dn.both (fun _ => .non) (fun b _ => .bl b) (fun b _ => .int b) (fun b _ => .str b) (fun _ _ h => nomatch h) (fun h r q => .tup h (r q)) (fun _ _ h => nomatch h) (fun _ h => nomatch h) (fun _ _ h => nomatch h) (fun _ => .nil) fun p r q => by
    rw [flats, Bool.and_eq_true] at q
    exact .cons (ns := []) (ms := []) (p q.1) (r q.2)
theorem ow_flat {K : PySem.W.Frag} {H : Hp} {v : V} {d : D} (h : Dn K H v d) (q : flat d = true) : Ow K H v d [] := ow_flat2.1 h q
theorem ows_flat {K : PySem.W.Frag} {H : Hp} {v : List V} {d : List D} (h : Dns K H v d) (q : flats d = true) : Ows K H v d [] := ow_flat2.2 h q
theorem den_kept2 {K : PySem.W.Frag} {H H' : Hp} (k : ∀ a o, H a = some o → muO o = false → H' a = some o) : (∀ {v d}, Dn K H v d → flat d = true → Dn K H' v d) ∧ ∀ {v d}, Dns K H v d → flats d = true → Dns K H' v d :=
  Dn.both (fun _ => .non) (fun b _ => .bl b) (fun b _ => .int b) (fun b _ => .str b) (fun _ _ h => nomatch h) (fun h r q => .tup (Kept.sqt (ns := []) ⟨fun _ z => (by cases z), k⟩ h) (r q)) (fun _ _ h => nomatch h) (fun _ h => nomatch h) (fun _ _ h => nomatch h) (fun _ => .nil) fun p r q => by
    rw [flats, Bool.and_eq_true] at q
    exact .cons (p q.1) (r q.2)
theorem den_kept {K : PySem.W.Frag} {H H' : Hp} (k : ∀ a o, H a = some o → muO o = false → H' a = some o) {v : V} {d : D} (h : Dn K H v d) (q : flat d = true) : Dn K H' v d := (den_kept2 k).1 h q
theorem dens_kept {K : PySem.W.Frag} {H H' : Hp} (k : ∀ a o, H a = some o → muO o = false → H' a = some o) {v : List V} {d : List D} (h : Dns K H v d) (q : flats d = true) : Dns K H' v d := (den_kept2 k).2 h q
/-! ### a heap less what is hidden -/
open Classical in
noncomputable def hid (Z : Addr → Prop) (H : Hp) : Hp := fun a => if Z a then none else H a
theorem hid_of {Z : Addr → Prop} {H : Hp} {a : Addr} {o : HO} (h : H a = some o) (z : ¬ Z a) : hid Z H a = some o := by unfold hid; rw [if_neg z]; exact h
theorem of_hid {Z : Addr → Prop} {H : Hp} {a : Addr} {o : HO} (h : hid Z H a = some o) : H a = some o ∧ ¬ Z a := by
  unfold hid at h
  split at h
  · cases h
  · exact ⟨h, ‹_›⟩
theorem hid_same {Z : Addr → Prop} {H : Hp} : Same (hid Z H) H := fun _ _ h => (of_hid h).1
theorem hid_mono {Z : Addr → Prop} {H H' : Hp} (e : Same H H') : Same (hid Z H) (hid Z H') := fun b o h => hid_of (e b o (of_hid h).1) (of_hid h).2
theorem hid_less {Z Z' : Addr → Prop} {H : Hp} (h : ∀ a, Z' a → Z a) : Same (hid Z H) (hid Z' H) := fun b o e => hid_of (of_hid e).1 fun z => (of_hid e).2 (h b z)
/-- only lists are hidden: data without lists is seen -/
theorem den_hid {K : PySem.W.Frag} {Z : Addr → Prop} {H : Hp} {v : V} {d : D} (hl : ∀ a, Z a → Mu H a) (h : Dn K H v d) (hf : flat d = true) : Dn K (hid Z H) v d :=
  den_kept (fun a o e n => hid_of e fun z => (hl a z).no e n) h hf
theorem ow_hid2 {K : PySem.W.Frag} {Z : Addr → Prop} {H : Hp} (hl : ∀ a, Z a → Mu H a) : (∀ {v d ns}, Ow K H v d ns → (∀ a ∈ ns, ¬ Z a) → Dn K (hid Z H) v d) ∧ ∀ {v d ns}, Ows K H v d ns → (∀ a ∈ ns, ¬ Z a) → Dns K (hid Z H) v d :=
  Ow.both (P := fun v d ns => (∀ a ∈ ns, ¬ Z a) → Dn K (hid Z H) v d) (Q := fun v d ns => (∀ a ∈ ns, ¬ Z a) → Dns K (hid Z H) v d) (fun _ => .non) (fun b _ => .bl b) (fun b _ => .int b) (fun b _ => .str b) (fun h r k => .lst (hid_of h (k _ List.mem_cons_self)) (r fun a ha => k a (List.mem_cons_of_mem _ ha)))
    (fun h r k => .tup (Kept.sqt (ns := []) ⟨fun _ z => (by cases z), fun a o e n => hid_of e fun z => (hl a z).no e n⟩ h) (r k)) (fun h r k => .dct (hid_of h (k _ List.mem_cons_self)) r) (fun _ => .nil) fun p q k => .cons (p fun a ha => k a (List.mem_append_left _ ha)) (q fun a ha => k a (List.mem_append_right _ ha))
theorem ow_hid {K : PySem.W.Frag} {Z : Addr → Prop} {H : Hp} (hl : ∀ a, Z a → Mu H a) {v : V} {d : D} {ns : List Addr} (h : Ow K H v d ns) (k : ∀ a ∈ ns, ¬ Z a) : Dn K (hid Z H) v d := (ow_hid2 hl).1 h k
theorem ows_hid {K : PySem.W.Frag} {Z : Addr → Prop} {H : Hp} (hl : ∀ a, Z a → Mu H a) {v : List V} {d : List D} {ns : List Addr} (h : Ows K H v d ns) (k : ∀ a ∈ ns, ¬ Z a) : Dns K (hid Z H) v d := (ow_hid2 hl).2 h k
/-! ### the state of a def's names -/
abbrev Ren := List (Option (Bool × D))
def Z0 : Addr → Prop := fun _ => False
def Hd (Z : Addr → Prop) (ν : Nat → List Addr) : Addr → Prop := fun a => Z a ∨ ∃ i, a ∈ ν i
structure StOk (K : PySem.W.Frag) (Z : Addr → Prop) (H0 : Hp) (ν : Nat → List Addr) (ρ : Ren) (σ : L2.St) (H : Hp) : Prop where
  sm : Same H0 H
  len : σ.length = ρ.length
  sl : ∀ i b d, ρ[i]? = some (some (b, d)) → ∃ v, σ[i]? = some (some v) ∧ if b = true then Ow K H v d (ν i) else Dn K (hid (Hd Z ν) H) v d
  nd : ∀ i, (ν i).Nodup
  dj : ∀ i j a, a ∈ ν i → a ∈ ν j → i = j
  fr : ∀ i a, a ∈ ν i → H0 a = none ∧ ¬ Z a ∧ Mu H a
  zf : ∀ a, Z a → H0 a = none ∧ Mu H a
section
variable {K : PySem.W.Frag} {Z : Addr → Prop} {H0 H H' : Hp} {ν : Nat → List Addr} {ρ : Ren} {σ : L2.St} {v : V} {d : D}
theorem StOk.hl (S : StOk K Z H0 ν ρ σ H) : ∀ a, Hd Z ν a → Mu H a := fun a h => by
  rcases h with h | ⟨i, h⟩
  · exact (S.zf a h).2
  · exact (S.fr i a h).2.2
theorem StOk.same (S : StOk K Z H0 ν ρ σ H) (e : Same H H') : StOk K Z H0 ν ρ σ H' where
  sm := S.sm.trans e
  len := S.len
  sl := fun i b d h => by
    obtain ⟨v, h1, h2⟩ := S.sl i b d h
    refine ⟨v, h1, ?_⟩
    cases b with
    | true => exact Ow.same e h2
    | false => exact Dn.same (hid_mono e) h2
  nd := S.nd
  dj := S.dj
  fr := fun i a h => by obtain ⟨h1, h2, us, h3⟩ := S.fr i a h; exact ⟨h1, h2, us, e _ _ h3⟩
  zf := fun a h => by obtain ⟨h1, us, h3⟩ := S.zf a h; exact ⟨h1, us, e _ _ h3⟩
theorem StOk.get (S : StOk K Z H0 ν ρ σ H) {i : Nat} {b : Bool} (h : ρ[i]? = some (some (b, d))) : ∃ v, σ[i]? = some (some v) ∧ Dn K H v d := by
  obtain ⟨v, h1, h2⟩ := S.sl i b d h
  refine ⟨v, h1, ?_⟩
  cases b with
  | true => exact h2.den
  | false => exact Dn.same hid_same h2
theorem set_get {α : Type} {l : List α} {i j : Nat} {x y : α} (h : (l.set i x)[j]? = some y) : (j = i ∧ y = x ∧ i < l.length) ∨ (j ≠ i ∧ l[j]? = some y) := by
  rw [List.getElem?_set] at h
  split at h
  · split at h
    · cases h; exact .inl ⟨by omega, rfl, by omega⟩
    · cases h
  · exact .inr ⟨by omega, h⟩
/-- a name is set to what is not ours -/
theorem StOk.setOld (S : StOk K Z H0 ν ρ σ H) (i : Nat) (h : Dn K (hid (Hd Z ν) H) v d) : StOk K Z H0 ν (ρ.set i (some (false, d))) (σ.set i (some v)) H where
  sm := S.sm
  len := by rw [List.length_set, List.length_set]; exact S.len
  sl := fun j b e hj => by
    rcases set_get hj with ⟨rfl, h1, h2⟩ | ⟨h1, h2⟩
    · cases h1
      exact ⟨v, by rw [List.getElem?_set_self (by rw [S.len]; exact h2)], h⟩
    · obtain ⟨u, q1, q2⟩ := S.sl j b e h2
      exact ⟨u, by rw [List.getElem?_set_ne (Ne.symm h1)]; exact q1, q2⟩
  nd := S.nd
  dj := S.dj
  fr := S.fr
  zf := S.zf
/-- a name is dropped -/
theorem StOk.drop (S : StOk K Z H0 ν ρ σ H) (i : Nat) : StOk K Z H0 ν (ρ.set i none) σ H where
  sm := S.sm
  len := by rw [List.length_set]; exact S.len
  sl := fun j b e hj => by
    rcases set_get hj with ⟨rfl, h1, h2⟩ | ⟨h1, h2⟩
    · cases h1
    · exact S.sl j b e h2
  nd := S.nd
  dj := S.dj
  fr := S.fr
  zf := S.zf
def dropS (ρ : Ren) : List Nat → Ren
  | [] => ρ
  | i :: r => dropS (ρ.set i none) r
theorem dropS_len : ∀ (s : List Nat) (ρ : Ren), (dropS ρ s).length = ρ.length
  | [], _ => rfl
  | i :: r, ρ => by unfold dropS; rw [dropS_len r, List.length_set]
theorem dropS_get : ∀ (s : List Nat) {ρ : Ren} {i : Nat} {x : Bool × D}, (dropS ρ s)[i]? = some (some x) → i ∉ s ∧ ρ[i]? = some (some x)
  | [], _, _, _, h => ⟨by simp, h⟩
  | j :: r, ρ, i, x, h => by
    obtain ⟨h1, h2⟩ := dropS_get r h
    rcases set_get h2 with ⟨rfl, q, _⟩ | ⟨q1, q2⟩
    · cases q
    · exact ⟨by simp [h1, q1], q2⟩
/-- a name is set to a tree: new nodes, and those of the names s, which go -/
theorem StOk.setOwn (S : StOk K Z H0 ν ρ σ H) (s : List Nat) (i : Nat) {ms : List Addr} (e : Same H H') (h : Ow K H' v d ms) (nd : ms.Nodup) (fr : ∀ a ∈ ms, H a = none ∨ ∃ j ∈ s, a ∈ ν j) :
    StOk K Z H0 (fun j => if j = i then ms else if j ∈ s then [] else ν j) ((dropS ρ s).set i (some (true, d))) (σ.set i (some v)) H' where
  sm := S.sm.trans e
  len := by rw [List.length_set, List.length_set, dropS_len]; exact S.len
  sl := fun j b c hj => by
    rcases set_get hj with ⟨rfl, h1, h2⟩ | ⟨h1, h2⟩
    · cases h1
      exact ⟨v, by rw [List.getElem?_set_self (by rw [S.len]; rw [dropS_len] at h2; exact h2)], by rw [if_pos rfl]; rw [if_pos rfl]; exact h⟩
    · obtain ⟨h3, h4⟩ := dropS_get s h2
      obtain ⟨u, q1, q2⟩ := S.sl j b c h4
      refine ⟨u, by rw [List.getElem?_set_ne (Ne.symm h1)]; exact q1, ?_⟩
      cases b with
      | true =>
        rw [if_pos rfl, if_neg h1, if_neg h3]
        exact Ow.same e q2
      | false =>
        refine Dn.same (fun a o ha => ?_) q2
        obtain ⟨g1, g2⟩ := of_hid ha
        refine hid_of (e _ _ g1) fun z => ?_
        rcases z with z | ⟨k, z⟩
        · exact g2 (.inl z)
        · dsimp only at z
          split at z
          · rcases fr a z with z | ⟨l, _, z⟩
            · rw [g1] at z; cases z
            · exact g2 (.inr ⟨l, z⟩)
          · split at z
            · cases z
            · exact g2 (.inr ⟨k, z⟩)
  nd := fun j => by
    split
    · exact nd
    · split
      · exact List.nodup_nil
      · exact S.nd j
  dj := fun j k a hj hk => by
    have key : ∀ l, l ∉ s → a ∈ ν l → a ∉ ms := fun l hl ha hm => by
      rcases fr a hm with z | ⟨m, hm, z⟩
      · obtain ⟨_, _, us, q⟩ := S.fr l a ha
        rw [z] at q; cases q
      · rw [S.dj l m a ha z] at hl; exact hl hm
    split at hj
    · split at hk
      · omega
      · split at hk
        · cases hk
        · exact absurd hj (key k ‹_› hk)
    · split at hj
      · cases hj
      · split at hk
        · exact absurd hk (key j ‹_› hj)
        · split at hk
          · cases hk
          · exact S.dj j k a hj hk
  fr := fun j a ha => by
    split at ha
    · have ht := h.there a ha
      rcases fr a ha with z | ⟨m, _, z⟩
      · exact ⟨S.sm.gone z, (fun q => by obtain ⟨_, us, q⟩ := S.zf a q; rw [z] at q; cases q), ht⟩
      · obtain ⟨q1, q2, us, q3⟩ := S.fr m a z
        exact ⟨q1, q2, us, e _ _ q3⟩
    · split at ha
      · cases ha
      · obtain ⟨q1, q2, us, q3⟩ := S.fr j a ha
        exact ⟨q1, q2, us, e _ _ q3⟩
  zf := fun a h => by obtain ⟨h1, us, h3⟩ := S.zf a h; exact ⟨h1, us, e _ _ h3⟩
/-- all that is ours becomes what is not -/
def frz (ρ : Ren) : Ren := ρ.map fun x => x.map fun y => (false, y.2)
theorem frz_get {ρ : Ren} {i : Nat} {b : Bool} {d : D} (h : (frz ρ)[i]? = some (some (b, d))) : b = false ∧ ∃ c, ρ[i]? = some (some (c, d)) := by
  unfold frz at h
  rw [List.getElem?_map] at h
  cases q : ρ[i]? with
  | none => rw [q] at h; cases h
  | some x =>
    rw [q] at h
    cases x with
    | none => cases h
    | some y => cases h; exact ⟨rfl, y.1, rfl⟩
theorem StOk.frz (S : StOk K Z H0 ν ρ σ H) : StOk K Z H0 (fun _ => []) (frz ρ) σ H where
  sm := S.sm
  len := by unfold DL.frz; rw [List.length_map]; exact S.len
  sl := fun i b d h => by
    obtain ⟨rfl, c, h⟩ := frz_get h
    obtain ⟨v, h1, h2⟩ := S.sl i c d h
    refine ⟨v, h1, ?_⟩
    have hl : ∀ a, Hd Z (fun _ => []) a → Mu H a := fun a z => by
      rcases z with z | ⟨_, z⟩
      · exact (S.zf a z).2
      · cases z
    cases c with
    | true =>
      refine ow_hid hl h2 fun a ha z => ?_
      rcases z with z | ⟨_, z⟩
      · exact (S.fr i a ha).2.1 z
      · cases z
    | false => exact Dn.same (hid_less fun a z => by rcases z with z | ⟨_, z⟩; exact .inl z; cases z) h2
  nd := fun _ => List.nodup_nil
  dj := fun _ _ _ z => by cases z
  fr := fun _ _ z => by cases z
  zf := S.zf
/-- one name's tree becomes what is not ours -/
def frz1 (i : Nat) (ρ : Ren) : Ren := match ρ[i]? with
  | some (some (_, d)) => ρ.set i (some (false, d))
  | _ => ρ
theorem StOk.frz1 (S : StOk K Z H0 ν ρ σ H) (i : Nat) : StOk K Z H0 (fun j => if j = i then [] else ν j) (frz1 i ρ) σ H := by
  have hl : ∀ a, Hd Z (fun j => if j = i then [] else ν j) a → Hd Z ν a := fun a z => by
    rcases z with z | ⟨j, z⟩
    · exact .inl z
    · dsimp only at z
      split at z
      · cases z
      · exact .inr ⟨j, z⟩
  have sl : ∀ j b d, ρ[j]? = some (some (b, d)) → j ≠ i → ∃ v, σ[j]? = some (some v) ∧ if b = true then Ow K H v d (if j = i then [] else ν j) else Dn K (hid (Hd Z fun j => if j = i then [] else ν j) H) v d := fun j b d h hj => by
    obtain ⟨v, h1, h2⟩ := S.sl j b d h
    refine ⟨v, h1, ?_⟩
    rw [if_neg hj]
    cases b with
    | true => exact h2
    | false => exact Dn.same (hid_less hl) h2
  refine ⟨S.sm, ?_, ?_, fun j => ?_, fun j k a hj hk => ?_, fun j a ha => ?_, S.zf⟩
  · unfold DL.frz1
    split
    · rw [List.length_set]; exact S.len
    · exact S.len
  · intro j b d h
    unfold DL.frz1 at h
    split at h
    case h_1 x b' d' e =>
      rcases set_get h with ⟨rfl, h1, h2⟩ | ⟨h1, h2⟩
      · cases h1
        obtain ⟨v, h1, h2⟩ := S.sl j b' d e
        refine ⟨v, h1, ?_⟩
        cases b' with
        | true =>
          refine ow_hid (fun a z => S.hl a (hl a z)) h2 fun a ha z => ?_
          rcases z with z | ⟨k, z⟩
          · exact (S.fr j a ha).2.1 z
          · dsimp only at z
            split at z
            · cases z
            · exact absurd (S.dj _ _ _ z ha) ‹_›
        | false => exact Dn.same (hid_less hl) h2
      · exact sl j b d h2 h1
    case h_2 e =>
      by_cases hj : j = i
      · subst hj; exact absurd h (fun q => e _ _ q)
      · exact sl j b d h hj
  · skip
    split
    · exact List.nodup_nil
    · exact S.nd j
  · skip
    split at hj
    · cases hj
    · split at hk
      · cases hk
      · exact S.dj _ _ _ hj hk
  · skip
    split at ha
    · cases ha
    · exact S.fr _ _ ha
end
/-! ### what an expression gives -/
inductive Kd where
  | own (s : List Nat)
  | old
  | mix
def Res (K : PySem.W.Frag) (Z : Addr → Prop) (ν : Nat → List Addr) (H H' : Hp) : Kd → V → D → Prop
  | .own s, v, d => ∃ ms, Ow K H' v d ms ∧ ms.Nodup ∧ ∀ a ∈ ms, H a = none ∨ ∃ j ∈ s, a ∈ ν j
  | .old, v, d => Dn K (hid (Hd Z ν) H') v d
  | .mix, v, d => Dn K H' v d
section
variable {K : PySem.W.Frag} {Z : Addr → Prop} {H0 H H1 H' : Hp} {ν : Nat → List Addr} {ρ : Ren} {σ : L2.St} {v : V} {d : D} {k : Kd}
theorem Res.den (h : Res K Z ν H H' k v d) : Dn K H' v d := by
  cases k with
  | own s => obtain ⟨ms, h, _⟩ := h; exact h.den
  | old => exact Dn.same hid_same h
  | mix => exact h
theorem Res.same (h : Res K Z ν H H1 k v d) (e : Same H1 H') : Res K Z ν H H' k v d := by
  cases k with
  | own s => obtain ⟨ms, h, r⟩ := h; exact ⟨ms, h.same e, r⟩
  | old => exact Dn.same (hid_mono e) h
  | mix => exact Dn.same e h
theorem Res.later (h : Res K Z ν H1 H' k v d) (e : Same H H1) : Res K Z ν H H' k v d := by
  cases k with
  | own s =>
    obtain ⟨ms, h, r, f⟩ := h
    exact ⟨ms, h, r, fun a ha => by rcases f a ha with z | z; exact .inl (e.gone z); exact .inr z⟩
  | old => exact h
  | mix => exact h
theorem Res.flat (h : Dn K H' v d) (hf : DL.flat d = true) (hl : ∀ a, Hd Z ν a → Mu H' a) (k : Kd) : Res K Z ν H H' k v d := by
  cases k with
  | own s => exact ⟨[], ow_flat h hf, List.nodup_nil, fun _ z => by cases z⟩
  | old => exact den_hid hl h hf
  | mix => exact h
end
end DL

namespace DL
open PySem PySem.Spec PyProof.Rows L2
/-! ### readings over data -/
abbrev QD := D → Kd → Prop
abbrev XD := Addr → Prop
abbrev TD := Ren → QD → XD → Prop
abbrev TDT := Ren → (Bool → Prop) → XD → Prop
abbrev TDA := Ren → (List D → Kd → Prop) → XD → Prop
/-- the kinds of the items of a list, together -/
def RsL (K : PySem.W.Frag) (Z : Addr → Prop) (ν : Nat → List Addr) (H H' : Hp) : Kd → List V → List D → Prop
  | .own s, v, d => ∃ ms, Ows K H' v d ms ∧ ms.Nodup ∧ ∀ a ∈ ms, H a = none ∨ ∃ j ∈ s, a ∈ ν j
  | .old, v, d => Dns K (hid (Hd Z ν) H') v d
  | .mix, v, d => Dns K H' v d
def LE (K : PySem.W.Frag) (E : XK) (t : TD) : TE := fun σ H Q => ∃ H0 ν ρ Qd Xd, StOk K Z0 H0 ν ρ σ H ∧ t ρ Qd Xd ∧ (∀ d k v H', Qd d k → Same H H' → Res K Z0 ν H H' k v d → Q v H') ∧ ∀ C H', Xd C → Same H0 H' → E (.ref C) none H'
def LT (K : PySem.W.Frag) (E : XK) (t : TDT) : TT := fun σ H Q => ∃ H0 ν ρ Qd Xd, StOk K Z0 H0 ν ρ σ H ∧ t ρ Qd Xd ∧ (∀ b H', Qd b → Same H H' → Q b H') ∧ ∀ C H', Xd C → Same H0 H' → E (.ref C) none H'
def LA (K : PySem.W.Frag) (E : XK) (t : TDA) : TA := fun σ H Q => ∃ H0 ν ρ Qd Xd, StOk K Z0 H0 ν ρ σ H ∧ t ρ Qd Xd ∧ (∀ ds k vs H', Qd ds k → Same H H' → RsL K Z0 ν H H' k vs ds → Q vs H') ∧ ∀ C H', Xd C → Same H0 H' → E (.ref C) none H'
structure DE (X : Cx) (K : PySem.W.Frag) (E : XK) (e : Expr) (t : TD) : Prop where
  q : QE X e (LE K E t)
structure DT (X : Cx) (K : PySem.W.Frag) (E : XK) (e : Expr) (t : TDT) : Prop where
  q : QT X e (LT K E t)
structure DW (X : Cx) (K : PySem.W.Frag) (E : XK) (e : Expr) (t : TDT) : Prop where
  q : QW X e (LT K E t)
structure DA (X : Cx) (K : PySem.W.Frag) (E : XK) (e : List Expr) (t : TDA) : Prop where
  q : QA X e (LA K E t)
theorem qe_imp {X : Cx} {e : Expr} {t t' : TE} (h : QE X e t) (i : ∀ σ H Q, t' σ H Q → t σ H Q) : QE X e t' := ⟨fun pins s σ H Q I w => h.h pins s σ H Q I (i σ H Q w)⟩
theorem qt_imp {X : Cx} {e : Expr} {t t' : TT} (h : QT X e t) (i : ∀ σ H Q, t' σ H Q → t σ H Q) : QT X e t' := ⟨fun pins s σ H Q I w => h.h pins s σ H Q I (i σ H Q w)⟩
theorem qw_imp {X : Cx} {e : Expr} {t t' : TT} (h : QW X e t) (i : ∀ σ H Q, t' σ H Q → t σ H Q) : QW X e t' := ⟨fun wh pins s σ H Q I w => h.h wh pins s σ H Q I (i σ H Q w)⟩
theorem qa_imp {X : Cx} {e : List Expr} {t t' : TA} (h : QA X e t) (i : ∀ σ H Q, t' σ H Q → t σ H Q) : QA X e t' := ⟨fun pos pins s σ H Q I w => h.h pos pins s σ H Q I (i σ H Q w)⟩
theorem qs_imp {X : Cx} {e : Stmt} {t t' : TS} (h : QS X e t) (i : ∀ D σ H, t' D σ H → t D σ H) : QS X e t' := ⟨fun pins s σ H D I w => h.h pins s σ H D I (i D σ H w)⟩
theorem qss_imp {X : Cx} {e : List Stmt} {t t' : TS} (h : QSs X e t) (i : ∀ D σ H, t' D σ H → t D σ H) : QSs X e t' := ⟨fun pins s σ H D I w => h.h pins s σ H D I (i D σ H w)⟩
section
variable {X : Cx} {K : PySem.W.Frag} {E : XK} {pos : Pos}
/-! ### names and constants -/
def dVar (i : Nat) : TD := fun ρ Q _ => ∃ b d, ρ[i]? = some (some (b, d)) ∧ Q d (if b = true then .own [i] else .old)
theorem dpv (i : Nat) {x : Str} (hN : X.N[i]? = some x := by rfl) (hv : Vis X.env.scope x := by first | exact Or.inl rfl | exact Or.inr (Or.inl rfl) | exact Or.inr (Or.inr rfl)) (hd : (x == ("__debug__" : Str)) = false := by decide)
    (hcd : (x == ("__classdict__" : Str)) = false := by decide) : DE X K E (.Name x pos) (dVar i) := ⟨qe_imp (qpv i hN hv hd hcd) fun σ H Q h => by
  obtain ⟨H0, ν, ρ, Qd, Xd, S, ⟨b, d, h1, h2⟩, q, _⟩ := h
  obtain ⟨v, g1, g2⟩ := S.sl i b d h1
  refine ⟨v, g1, q d _ v H h2 (Same.refl H) ?_⟩
  cases b with
  | true => exact ⟨ν i, g2, S.nd i, fun a ha => .inr ⟨i, by simp, ha⟩⟩
  | false => exact g2⟩
def dC (d : D) : TD := fun _ Q _ => Q d .old
theorem dc_of {e : Expr} {v : V} {d : D} (h : QE X e (tC v)) (hd : ∀ H, Dn K H v d) : DE X K E e (dC d) := ⟨qe_imp h fun σ H Q h => by
  obtain ⟨H0, ν, ρ, Qd, Xd, S, h1, q, _⟩ := h
  exact q d _ v H h1 (Same.refl H) (hd _)⟩
theorem dpe_int {i : Int} {j} : DE X K E (.Constant (.int i) j pos) (dC (.int i)) := dc_of qpe_int fun _ => .int _
theorem dpe_bl {i : Bool} {j} : DE X K E (.Constant (.bool i) j pos) (dC (.bool i)) := dc_of qpe_bl fun _ => .bl _
theorem dpe_str {x : Str} {j} : DE X K E (.Constant (.str x) j pos) (dC (.str x)) := dc_of qpe_str fun _ => .str _
/-! ### operators -/
abbrev F2 := D → Kd → D → Kd → QD → Prop
def Prim2 (K : PySem.W.Frag) (r : R2) (f : F2) : Prop := ∀ (Z : Addr → Prop) (ν : Nat → List Addr) (Hs H : Hp) (x y : V) (d : D) (k : Kd) (e : D) (l : Kd) (Qf : QD) (Q : VK), (∀ a, Hd Z ν a → Mu H a) → (∀ a, Hd Z ν a → Mu Hs a) → Same Hs H → Res K Z ν Hs H k x d → Res K Z ν Hs H l y e →
  f d k e l Qf → (∀ d k v H', Qf d k → Same H H' → Res K Z ν Hs H' k v d → Q v H') → r x y H Q
/-- an operator and what it does with data -/
structure DOp (X : Cx) (K : PySem.W.Frag) (f : Value → Value → Sem Value) (g : F2) : Prop where
  ex : ∃ r, OpR X f r ∧ Prim2 K r g
structure DIx (X : Cx) (K : PySem.W.Frag) (g : F2) : Prop where
  ex : ∃ r, IxR X r ∧ Prim2 K r g
def dOp (f : F2) (ta tb : TD) : TD := fun ρ Q Xd => ta ρ (fun d k => tb ρ (fun e l => f d k e l Q) Xd) Xd
theorem le_two {r : R2} {f : F2} {ta tb : TD} (p : Prim2 K r f) : ∀ σ H Q, LE K E (dOp f ta tb) σ H Q → tOp r (LE K E ta) (LE K E tb) σ H Q := fun σ H Q h => by
  obtain ⟨H0, ν, ρ, Qd, Xd, S, h1, q, x⟩ := h
  refine ⟨H0, ν, ρ, _, Xd, S, h1, fun d k v H1 hd e1 r1 => ?_, x⟩
  refine ⟨H0, ν, ρ, _, Xd, S.same e1, hd, fun d2 k2 v2 H2 hd2 e2 r2 => ?_, x⟩
  refine p Z0 ν H H2 v v2 d k d2 k2 Qd Q (S.same (e1.trans e2)).hl S.hl (e1.trans e2) (r1.same e2) (r2.later e1) hd2 fun d3 k3 v3 H3 g1 g2 g3 => q d3 k3 v3 H3 g1 ((e1.trans e2).trans g2) g3
theorem dpe_op {op : Operator} {f : F2} {a b : Expr} {ta tb : TD} (ho : DOp X K (binaryOp op) f) (ha : DE X K E a ta) (hb : DE X K E b tb) : DE X K E (.BinOp a op b pos) (dOp f ta tb) := by
  obtain ⟨r, o, p⟩ := ho.ex
  exact ⟨qe_imp (qpe_op o ha.q hb.q) (le_two p)⟩
theorem dpe_cmp {op : CmpOp} {f : F2} {a b : Expr} {ta tb : TD} (ho : DOp X K (compareOp op) f) (ha : DE X K E a ta) (hb : DE X K E b tb) (hm : behindInMarks op b = false) : DE X K E (.Compare a [op] [b] pos) (dOp f ta tb) := by
  obtain ⟨r, o, p⟩ := ho.ex
  exact ⟨qe_imp (qpe_cmpR o ha.q hb.q hm) (le_two p)⟩
theorem dpe_ix {f : F2} {a b : Expr} {ta tb : TD} (ho : DIx X K f) (ha : DE X K E a ta) (hb : DE X K E b tb) (hs : PlainIx b) : DE X K E (.Subscript a b pos) (dOp f ta tb) := by
  obtain ⟨r, o, p⟩ := ho.ex
  exact ⟨qe_imp (qpe_ix o ha.q hb.q hs) (le_two p)⟩
theorem DOp.or {h : Value → Value → Sem Value} {f g : F2} (a : DOp X K h f) (b : DOp X K h g) : DOp X K h (fun d k e l Q => f d k e l Q ∨ g d k e l Q) := by
  obtain ⟨r, o, p⟩ := a.ex
  obtain ⟨r', o', p'⟩ := b.ex
  refine ⟨_, o.or o', fun Z ν Hs H x y d k e l Qf Q h1 h0 h2 h3 h4 h5 h6 => ?_⟩
  rcases h5 with h5 | h5
  · exact .inl (p Z ν Hs H x y d k e l Qf Q h1 h0 h2 h3 h4 h5 h6)
  · exact .inr (p' Z ν Hs H x y d k e l Qf Q h1 h0 h2 h3 h4 h5 h6)
theorem DOp.mono {h : Value → Value → Sem Value} {f g : F2} (a : DOp X K h f) (i : ∀ d k e l Q, g d k e l Q → f d k e l Q) : DOp X K h g := by
  obtain ⟨r, o, p⟩ := a.ex
  exact ⟨r, o, fun Z ν Hs H x y d k e l Qf Q h1 h0 h2 h3 h4 h5 h6 => p Z ν Hs H x y d k e l Qf Q h1 h0 h2 h3 h4 (i _ _ _ _ _ h5) h6⟩
/-- ints to an int or a bool -/
def fI (C : Int → Int → Prop) (g : Int → Int → D) : F2 := fun d _ e _ Q => match d, e with
  | .int i, .int j => C i j ∧ Q (g i j) .old
  | _, _ => False
theorem prim_int {C : Int → Int → Prop} {g : Int → Int → Int} : Prim2 K (rI C fun i j => .int (g i j)) (fI C fun i j => .int (g i j)) := fun Z ν Hs H x y d k e l Qf Q _ _ _ h3 h4 h5 h6 => by
  unfold fI at h5
  split at h5
  · have a := h3.den
    have b := h4.den
    cases a
    cases b
    exact ⟨_, _, rfl, rfl, h5.1, h6 _ _ _ _ h5.2 (Same.refl H) (.int _)⟩
  · exact h5.elim
def T2 (_ _ : Int) : Prop := True
theorem prim_int0 {g : Int → Int → Int} : Prim2 K (rI0 fun i j => .int (g i j)) (fI T2 fun i j => .int (g i j)) := fun Z ν Hs H x y d k e l Qf Q _ _ _ h3 h4 h5 h6 => by
  unfold fI at h5
  split at h5
  · have a := h3.den
    have b := h4.den
    cases a
    cases b
    exact ⟨_, _, rfl, rfl, h6 _ _ _ _ h5.2 (Same.refl H) (.int _)⟩
  · exact h5.elim
theorem prim_bool0 {g : Int → Int → Bool} : Prim2 K (rI0 fun i j => .bl (g i j)) (fI T2 fun i j => .bool (g i j)) := fun Z ν Hs H x y d k e l Qf Q _ _ _ h3 h4 h5 h6 => by
  unfold fI at h5
  split at h5
  · have a := h3.den
    have b := h4.den
    cases a
    cases b
    exact ⟨_, _, rfl, rfl, h6 _ _ _ _ h5.2 (Same.refl H) (.bl _)⟩
  · exact h5.elim
theorem dop_sub : DOp X K (binaryOp .Sub) (fI T2 fun i j => .int (i - j)) := ⟨_, op_sub, prim_int0⟩
theorem dop_mul : DOp X K (binaryOp .Mult) (fI IntMulOk fun i j => .int (i * j)) := ⟨_, op_mulB, prim_int⟩
theorem dop_fdiv : DOp X K (binaryOp .FloorDiv) (fI CDiv fun i j => .int (i / j)) := ⟨_, op_fdiv, prim_int⟩
theorem dop_mod : DOp X K (binaryOp .Mod) (fI (fun _ j => 0 < j) fun i j => .int (i % j)) := ⟨_, op_mod, prim_int⟩
theorem dop_pow : DOp X K (binaryOp .Pow) (fI CPow fun i j => .int (i ^ j.toNat)) := ⟨_, op_pow, prim_int⟩
theorem dop_lt : DOp X K (compareOp .Lt) (fI T2 fun i j => .bool (decide (i < j))) := ⟨_, op_lt, prim_bool0⟩
theorem dop_gt : DOp X K (compareOp .Gt) (fI T2 fun i j => .bool (decide (j < i))) := ⟨_, op_gt, prim_bool0⟩
theorem dop_ge : DOp X K (compareOp .GtE) (fI T2 fun i j => .bool (decide (j ≤ i))) := ⟨_, op_ge, prim_bool0⟩
def fEq (f : Bool → Bool) : F2 := fun d _ e _ Q => d.canLay0 = true ∧ e.canLay0 = true ∧ d.depth ≤ 32 ∧ Q (.bool (f (PyData.eqv d e))) .old
theorem prim_eq {f : Bool → Bool} : Prim2 K (rEqD K f) (fEq f) := fun Z ν Hs H x y d k e l Qf Q _ _ _ h3 h4 h5 h6 =>
  ⟨d, e, h3.den.deep h5.1, h4.den.deep h5.2.1, h5.1, h5.2.1, h5.2.2.1, h6 _ _ _ _ h5.2.2.2 (Same.refl H) (.bl _)⟩
theorem dop_eq (hK : X.K = K) (hu : X.A.units + 64 < cLine) : DOp X K (compareOp .Eq) (fEq id) := ⟨_, op_eqK K hK hu, prim_eq⟩
theorem dop_ne (hK : X.K = K) (hu : X.A.units + 64 < cLine) : DOp X K (compareOp .NotEq) (fEq not) := ⟨_, op_neK K hK hu, prim_eq⟩
def isNon : D → Bool
  | .none => true
  | _ => false
def fIs (f : Bool → Bool) : F2 := fun d _ e _ Q => e = .none ∧ Q (.bool (f (isNon d))) .old
end
end DL

namespace DL
open PySem PySem.Spec PyProof.Rows L2
/-! ### kinds of what is put together -/
def Kd.isOld : Kd → Bool
  | .old => true
  | .own [] => true
  | _ => false
/-- the items of a list of kind k -/
def kels (ds : List D) (k : Kd) : Kd := if flats ds = true then .own [] else if k.isOld = true then .old else .mix
def kels2 (ds : List D) (k : Kd) (es : List D) (l : Kd) : Kd := if (flats ds && flats es) = true then .own [] else if (k.isOld && l.isOld) = true then .old else .mix
/-- an item of something of kind k -/
def Kd.sub : Kd → Kd
  | .own [] => .own []
  | .old => .old
  | _ => .mix
section
variable {K : PySem.W.Frag} {Z : Addr → Prop} {Hs H H' : Hp} {ν : Nat → List Addr} {v : V} {d : D} {k l : Kd} {us vs : List V} {ds es : List D} {a p : Addr}
theorem Res.old (hl : ∀ a, Hd Z ν a → Mu H a) (hn : ∀ a, Hd Z ν a → Mu Hs a) (h : Res K Z ν Hs H k v d) (hk : k.isOld = true) : Dn K (hid (Hd Z ν) H) v d := by
  cases k with
  | own s =>
    cases s with
    | nil =>
      obtain ⟨ms, h1, _, h3⟩ := h
      refine ow_hid hl h1 fun a ha z => ?_
      rcases h3 a ha with q | ⟨j, q, _⟩
      · obtain ⟨us, z⟩ := hn a z; rw [q] at z; cases z
      · cases q
    | cons => cases hk
  | old => exact h
  | mix => cases hk
theorem RsL.dens (h : RsL K Z ν Hs H k vs ds) : Dns K H vs ds := by
  cases k with
  | own s => obtain ⟨ms, h, _⟩ := h; exact h.den
  | old => exact Dns.same hid_same h
  | mix => exact h
theorem RsL.same (h : RsL K Z ν Hs H k vs ds) (e : Same H H') : RsL K Z ν Hs H' k vs ds := by
  cases k with
  | own s => obtain ⟨ms, h, r⟩ := h; exact ⟨ms, h.same e, r⟩
  | old => exact Dns.same (hid_mono e) h
  | mix => exact Dns.same e h
/-- a new list of such items -/
theorem res_newL (hl : ∀ a, Hd Z ν a → Mu H a) (hs : Same Hs H) (hp : H p = none) (h : RsL K Z ν Hs H k vs ds) : Res K Z ν Hs (upd H p (.lst vs)) k (.ref p) (.list ds) := by
  have sm : Same H (upd H p (.lst vs)) := Same.new hp
  cases k with
  | own s =>
    obtain ⟨ms, h1, h2, h3⟩ := h
    refine ⟨p :: ms, .lst upd_same (h1.same sm), List.nodup_cons.mpr ⟨fun hm => ?_, h2⟩, fun a ha => ?_⟩
    · obtain ⟨us, q⟩ := h1.there p hm; rw [hp] at q; cases q
    · rcases List.mem_cons.mp ha with rfl | ha
      · exact .inl (hs.gone hp)
      · exact h3 a ha
  | old =>
    have hz : ¬ Hd Z ν p := fun z => by obtain ⟨us, q⟩ := hl p z; rw [hp] at q; cases q
    exact .lst (hid_of upd_same hz) (Dns.same (hid_mono sm) h)
  | mix => exact .lst upd_same (Dns.same sm h)
theorem res_newT (hl : ∀ a, Hd Z ν a → Mu H a) (hs : Same Hs H) (hp : H p = none) (h : RsL K Z ν Hs H k vs ds) : Res K Z ν Hs (upd H p (.tup vs)) k (.ref p) (.tuple ds) := by
  have sm : Same H (upd H p (.tup vs)) := Same.new hp
  cases k with
  | own s =>
    obtain ⟨ms, h1, h2, h3⟩ := h
    exact ⟨ms, .tup (SqT.of upd_same) (h1.same sm), h2, h3⟩
  | old =>
    have hz : ¬ Hd Z ν p := fun z => by obtain ⟨us, q⟩ := hl p z; rw [hp] at q; cases q
    exact .tup (SqT.of (hid_of upd_same hz)) (Dns.same (hid_mono sm) h)
  | mix => exact .tup (SqT.of upd_same) (Dns.same sm h)
theorem dns_of_lst {v : V} (h : Dn K H v (.list ds)) : ∃ a us, v = .ref a ∧ H a = some (.lst us) ∧ Dns K H us ds := by
  cases h with
  | lst h r => exact ⟨_, _, rfl, h, r⟩
theorem dns_of_tup {v : V} (h : Dn K H v (.tuple ds)) : ∃ a us, v = .ref a ∧ SqT K H a us ∧ Dns K H us ds := by
  cases h with
  | tup h r => exact ⟨_, _, rfl, h, r⟩
/-- the items of a list -/
theorem res_list (hl : ∀ a, Hd Z ν a → Mu H a) (hn : ∀ a, Hd Z ν a → Mu Hs a) (h : Res K Z ν Hs H k v (.list ds)) : ∃ a us, v = .ref a ∧ H a = some (.lst us) ∧ Dns K H us ds ∧ RsL K Z ν Hs H (kels ds k) us ds := by
  obtain ⟨a, us, rfl, h1, h2⟩ := dns_of_lst h.den
  refine ⟨a, us, rfl, h1, h2, ?_⟩
  unfold kels
  split
  · exact ⟨[], ows_flat h2 ‹_›, List.nodup_nil, fun _ z => by cases z⟩
  · split
    · have q := h.old hl hn ‹_›
      obtain ⟨a', us', e, q1, q2⟩ := dns_of_lst q
      cases e
      have := (of_hid q1).1
      rw [h1] at this; cases this
      exact q2
    · exact h2
theorem dns_hid {Z : Addr → Prop} (hl : ∀ a, Z a → Mu H a) (h : Dns K H us ds) (hf : flats ds = true) : Dns K (hid Z H) us ds :=
  dens_kept (fun a o e n => hid_of e fun z => (hl a z).no e n) h hf
theorem flats_app : flats ds = true → flats es = true → flats (ds ++ es) = true := by
  intro h1 h2
  induction ds with
  | nil => exact h2
  | cons x r ih =>
    simp only [flats, Bool.and_eq_true] at h1
    show (flat x && flats (r ++ es)) = true
    rw [h1.1, ih h1.2]; rfl
theorem rsl_old (hl : ∀ a, Hd Z ν a → Mu H a) (hk : k.isOld = true) (h : RsL K Z ν Hs H (kels ds k) us ds) : Dns K (hid (Hd Z ν) H) us ds := by
  have A := h.dens
  unfold kels at h
  split at h
  · exact dns_hid hl A ‹_›
  · exact h
theorem rsl_app (hl : ∀ a, Hd Z ν a → Mu H a) (h : RsL K Z ν Hs H (kels ds k) us ds) (g : RsL K Z ν Hs H (kels es l) vs es) : RsL K Z ν Hs H (kels2 ds k es l) (us ++ vs) (ds ++ es) := by
  have A := h.dens
  have B := g.dens
  unfold kels2
  split
  case isTrue e =>
    rw [Bool.and_eq_true] at e
    exact ⟨[], ows_flat (A.append B) (flats_app e.1 e.2), List.nodup_nil, fun _ z => by cases z⟩
  case isFalse e =>
    split
    case isFalse => exact A.append B
    case isTrue q =>
      rw [Bool.and_eq_true] at q
      exact (rsl_old hl q.1 h).append (rsl_old hl q.2 g)
/-- some of the items -/
theorem rsl_part (hl : ∀ a, Hd Z ν a → Mu H a) (h : RsL K Z ν Hs H (kels ds k) us ds) {us' : List V} {ds' : List D} (p : ∀ {G : Hp}, Dns K G us ds → Dns K G us' ds') (hf : flats ds = true → flats ds' = true) : RsL K Z ν Hs H (kels ds' k) us' ds' := by
  have A := p h.dens
  unfold kels
  split
  · exact ⟨[], ows_flat A ‹_›, List.nodup_nil, fun _ z => by cases z⟩
  · split
    · exact p (rsl_old hl ‹_› h)
    · exact A
end
/-! ### lists: +, index, slices -/
section
variable {X : Cx} {K : PySem.W.Frag} {E : XK} {pos : Pos}
def fCat : F2 := fun d k e l Q => match d, e with
  | .list ds, .list es => ds.length + es.length ≤ 1000000 ∧ Q (.list (ds ++ es)) (kels2 ds k es l)
  | _, _ => False
/-- what is hidden was there at the start: Prim2's own start -/
theorem million : (1000000 : Nat) ≤ sizeLine := by decide
theorem prim_cat : Prim2 K rCat fCat := fun Z ν Hs H x y d k e l Qf Q hl hn hs h3 h4 h5 h6 => by
  unfold fCat at h5
  split at h5
  · obtain ⟨a, us, rfl, a1, a2, a3⟩ := res_list hl hn h3
    obtain ⟨b, vs, rfl, b1, b2, b3⟩ := res_list hl hn h4
    refine ⟨a, b, us, vs, rfl, rfl, a1, b1, ?_, fun p hp => ?_⟩
    · rw [a2.length, b2.length]; exact Nat.le_trans h5.1 million
    · exact h6 _ _ _ _ h5.2 (Same.new hp) (res_newL hl hs hp (rsl_app hl a3 b3))
  · exact h5.elim
end
end DL

namespace DL
open PySem PySem.Spec PyProof.Rows L2
section
variable {X : Cx} {K : PySem.W.Frag} {E : XK} {pos : Pos}
def fStr : F2 := fun d _ e _ Q => match d, e with
  | .str x, .str y => x.length + y.length ≤ 1000000 ∧ Q (.str (x ++ y)) .old
  | _, _ => False
theorem dop_addS : DOp X K (binaryOp .Add) fStr := ⟨_, op_add_str, fun Z ν Hs H x y d k e l Qf Q _ _ _ h3 h4 h5 h6 => by
  unfold fStr at h5
  split at h5
  · have a := h3.den
    have b := h4.den
    cases a
    cases b
    exact ⟨_, _, rfl, rfl, Nat.le_trans h5.1 million, h6 _ _ _ _ h5.2 (Same.refl H) (.str _)⟩
  · exact h5.elim⟩
/-- + -/
def fAdd : F2 := fun d k e l Q => match d, e with
  | .int i, .int j => Q (.int (i + j)) .old
  | .list ds, .list es => ds.length + es.length ≤ 1000000 ∧ Q (.list (ds ++ es)) (kels2 ds k es l)
  | .str x, .str y => x.length + y.length ≤ 1000000 ∧ Q (.str (x ++ y)) .old
  | _, _ => False
theorem dop_add : DOp X K (binaryOp .Add) fAdd := DOp.mono (DOp.or ⟨_, op_add, prim_int0⟩ (DOp.or ⟨_, op_cat, prim_cat⟩ dop_addS)) fun d k e l Q h => by
  unfold fAdd at h
  split at h
  · exact .inl ⟨trivial, h⟩
  · exact .inr (.inl h)
  · exact .inr (.inr h)
  · exact h.elim
/-- x[i] -/
def fIx : F2 := fun d k e _ Q => match d, e with
  | .list ds, .int i => ∃ x, atI ds i = some x ∧ Q x k.sub
  | .tuple ds, .int i => ∃ x, atI ds i = some x ∧ Q x k.sub
  | .str z, .int i => z.length ≤ 1000000 ∧ ∃ c, atI z.cps.toList i = some c ∧ Q (.str ⟨#[c]⟩) .old
  | .dict [(.none, .list ds)], .int i => ∃ x, atI ds i = some x ∧ Q x .old
  | _, _ => False
theorem ows_get {H : Hp} : ∀ {us : List V} {ds : List D} {ns : List Addr} {j : Nat} {x : D}, Ows K H us ds ns → ds[j]? = some x → ∃ u ms, us[j]? = some u ∧ Ow K H u x ms ∧ (∀ a ∈ ms, a ∈ ns) ∧ (ns.Nodup → ms.Nodup)
  | _, _, _, 0, x, .cons h r, e => by simp at e; subst e; exact ⟨_, _, rfl, h, fun a ha => List.mem_append_left _ ha, fun n => (List.nodup_append.mp n).1⟩
  | _, _, _, j + 1, x, .cons h r, e => by
    simp at e
    obtain ⟨u, ms, h1, h2, h3, h4⟩ := ows_get r e
    exact ⟨u, ms, by simpa using h1, h2, fun a ha => List.mem_append_right _ (h3 a ha), fun n => h4 (List.nodup_append.mp n).2.1⟩
theorem atI_nth {α : Type} {xs : List α} {i : Int} {x : α} (h : atI xs i = some x) : ∃ j, ixN xs.length i = some j ∧ xs[j]? = some x := by
  unfold atI at h
  cases e : ixN xs.length i with
  | none => rw [e] at h; cases h
  | some j => rw [e] at h; exact ⟨j, rfl, h⟩
theorem atI_of {α : Type} {xs : List α} {i : Int} {j : Nat} {x : α} (h : ixN xs.length i = some j) (g : xs[j]? = some x) : atI xs i = some x := by
  unfold atI; rw [h]; exact g
theorem items_own {Z : Addr → Prop} {ν : Nat → List Addr} {Hs H : Hp} {us : List V} {ds : List D} {ms : List Addr} (h : Ows K H us ds ms) (nd : ms.Nodup) (fr : ∀ a ∈ ms, Hs a = none ∨ ∃ j ∈ ([] : List Nat), a ∈ ν j) : ∀ (j : Nat) x, ds[j]? = some x → ∃ u, us[j]? = some u ∧ Res K Z ν Hs H (.own []) u x := fun j x e => by
  obtain ⟨u, ns, r1, r2, r3, r4⟩ := ows_get h e
  exact ⟨u, r1, ns, r2, r4 nd, fun a ha => fr a (r3 a ha)⟩
theorem items_den {H : Hp} {us : List V} {ds : List D} (h : Dns K H us ds) : ∀ (j : Nat) x, ds[j]? = some x → ∃ u, us[j]? = some u ∧ Dn K H u x := fun j x e => h.get e
theorem res_itemsT {Z : Addr → Prop} {ν : Nat → List Addr} {Hs H : Hp} {k : Kd} {v : V} {ds : List D} (h : Res K Z ν Hs H k v (.tuple ds)) : ∃ a us, v = .ref a ∧ SqT K H a us ∧ us.length = ds.length ∧ Dns K H us ds ∧ ∀ (j : Nat) x, ds[j]? = some x → ∃ u, us[j]? = some u ∧ Res K Z ν Hs H k.sub u x := by
  unfold Kd.sub
  split
  · obtain ⟨ms, h1, h2, h3⟩ := h
    cases h1 with
    | tup q1 q2 => exact ⟨_, _, rfl, q1, q2.den.length, q2.den, items_own q2 h2 h3⟩
  · obtain ⟨a, us, rfl, q1, q2⟩ := dns_of_tup (show Dn K _ _ _ from h)
    exact ⟨a, us, rfl, Same.tup hid_same q1, q2.length, Dns.same hid_same q2, items_den q2⟩
  · obtain ⟨a, us, rfl, q1, q2⟩ := dns_of_tup h.den
    exact ⟨a, us, rfl, q1, q2.length, q2, items_den q2⟩
theorem res_itemsL {Z : Addr → Prop} {ν : Nat → List Addr} {Hs H : Hp} {k : Kd} {v : V} {ds : List D} (h : Res K Z ν Hs H k v (.list ds)) : ∃ a us, v = .ref a ∧ H a = some (.lst us) ∧ us.length = ds.length ∧ Dns K H us ds ∧ ∀ (j : Nat) x, ds[j]? = some x → ∃ u, us[j]? = some u ∧ Res K Z ν Hs H k.sub u x := by
  unfold Kd.sub
  split
  · obtain ⟨ms, h1, h2, h3⟩ := h
    cases h1 with
    | lst q1 q2 => exact ⟨_, _, rfl, q1, q2.den.length, q2.den, items_own q2 (List.nodup_cons.mp h2).2 fun a ha => h3 a (List.mem_cons_of_mem _ ha)⟩
  · obtain ⟨a, us, rfl, q1, q2⟩ := dns_of_lst (show Dn K _ _ _ from h)
    exact ⟨a, us, rfl, (of_hid q1).1, q2.length, Dns.same hid_same q2, items_den q2⟩
  · obtain ⟨a, us, rfl, q1, q2⟩ := dns_of_lst h.den
    exact ⟨a, us, rfl, q1, q2.length, q2, items_den q2⟩
theorem dix (hK : X.K = K) : DIx X K fIx := by
  subst hK
  refine ⟨_, ix_seq, fun Z ν Hs H x y d k e l Qf Q hl hn hs h3 h4 h5 h6 => ?_⟩
  unfold fIx at h5
  split at h5
  · obtain ⟨z, e1, q⟩ := h5
    obtain ⟨j, e2, e3⟩ := atI_nth e1
    obtain ⟨a, us, rfl, g1, g2, _, g3⟩ := res_itemsL h3
    obtain ⟨u, g4, g5⟩ := g3 j z e3
    have := h4.den
    cases this
    exact .inl ⟨a, us, _, u, rfl, rfl, SqL.of g1, atI_of (by rw [g2]; exact e2) g4, h6 _ _ _ _ q (Same.refl H) g5⟩
  · obtain ⟨z, e1, q⟩ := h5
    obtain ⟨j, e2, e3⟩ := atI_nth e1
    obtain ⟨a, us, rfl, g1, g2, _, g3⟩ := res_itemsT h3
    obtain ⟨u, g4, g5⟩ := g3 j z e3
    have := h4.den
    cases this
    exact .inr (.inl ⟨a, us, _, u, rfl, rfl, g1, atI_of (by rw [g2]; exact e2) g4, h6 _ _ _ _ q (Same.refl H) g5⟩)
  · have a := h3.den
    have b := h4.den
    cases a
    cases b
    obtain ⟨h0, c, e1, q⟩ := h5
    exact .inr (.inr ⟨_, _, c, rfl, rfl, Nat.le_trans h0 million, e1, h6 _ _ _ _ q (Same.refl H) (.str _)⟩)
  · obtain ⟨z, e1, q⟩ := h5
    obtain ⟨j, e2, e3⟩ := atI_nth e1
    have b := h4.den
    cases b
    have a := h3.den
    cases a with
    | scr ns h =>
      rw [List.getElem?_map] at e3
      cases en : ns[j]? with
      | none => rw [en] at e3; cases e3
      | some n =>
        rw [en] at e3; cases e3
        exact .inl ⟨_, _, _, V.int n, rfl, rfl, h, atI_of (by rw [List.length_map]; rw [List.length_map] at e2; exact e2) (by rw [List.getElem?_map, en]; rfl), h6 _ _ _ _ q (Same.refl H) (.int _)⟩
  · exact h5.elim
/-! ### slices of lists -/
def cutD (xs : List D) (lo hi : Option Int) : List D := (xs.drop (HT.sIx xs.length 0 lo)).take (HT.sIx xs.length xs.length hi - HT.sIx xs.length 0 lo)
theorem Dns.take {H : Hp} : ∀ {us : List V} {ds : List D} (n : Nat), Dns K H us ds → Dns K H (us.take n) (ds.take n)
  | _, _, 0, _ => by rw [List.take_zero, List.take_zero]; exact .nil
  | _, _, n + 1, .nil => .nil
  | _, _, n + 1, .cons h r => .cons h (Dns.take n r)
theorem Dns.drop {H : Hp} : ∀ {us : List V} {ds : List D} (n : Nat), Dns K H us ds → Dns K H (us.drop n) (ds.drop n)
  | _, _, 0, h => h
  | _, _, n + 1, .nil => .nil
  | _, _, n + 1, .cons h r => Dns.drop n r
theorem flats_iff : ∀ {ds : List D}, flats ds = true ↔ ∀ d ∈ ds, flat d = true
  | [] => by simp [flats]
  | d :: r => by simp [flats, flats_iff (ds := r)]
def TDO := Ren → (Option Int → Prop) → XD → Prop
def LO (K : PySem.W.Frag) (E : XK) (t : TDO) : TO := fun σ H Q => ∃ H0 ν ρ Qd Xd, StOk K Z0 H0 ν ρ σ H ∧ t ρ Qd Xd ∧ (∀ b H', Qd b → Same H H' → Q b H') ∧ ∀ C H', Xd C → Same H0 H' → E (.ref C) none H'
structure DO (X : Cx) (K : PySem.W.Frag) (E : XK) (e : Option Expr) (t : TDO) : Prop where
  q : QO X e (LO K E t)
def dNoPart : TDO := fun _ Q _ => Q none
def dPart (t : TD) : TDO := fun ρ Q Xd => t ρ (fun d _ => match d with | .int i => Q (some i) | _ => False) Xd
theorem dpo_none : DO X K E none dNoPart := ⟨⟨fun pins s σ H Q I h => qpo_none.h pins s σ H Q I (by
  obtain ⟨H0, ν, ρ, Qd, Xd, S, h1, q, _⟩ := h
  exact q _ _ h1 (Same.refl H))⟩⟩
theorem dpo_some {e : Expr} {t : TD} (he : DE X K E e t) : DO X K E (some e) (dPart t) := ⟨⟨fun pins s σ H Q I h => (qpo_some he.q).h pins s σ H Q I (by
  obtain ⟨H0, ν, ρ, Qd, Xd, S, h1, q, x⟩ := h
  refine ⟨H0, ν, ρ, _, Xd, S, h1, fun d k v H' g1 g2 g3 => ?_, x⟩
  have := g3.den
  cases d with
  | int i => cases this; exact ⟨i, rfl, q _ _ g1 g2⟩
  | _ => exact g1.elim)⟩⟩
abbrev F3 := D → Kd → Option Int → Option Int → QD → Prop
def fSl : F3 := fun d k lo hi Q => match d with
  | .list ds => Q (.list (cutD ds lo hi)) (kels (cutD ds lo hi) k)
  | _ => False
def dSl (f : F3) (te : TD) (tl th : TDO) : TD := fun ρ Q Xd => te ρ (fun d k => tl ρ (fun l => th ρ (fun h => f d k l h Q) Xd) Xd) Xd
/-! ### displays -/
def disj (s t : List Nat) : Bool := s.all fun i => !t.contains i
def kcons (d : D) (k : Kd) (l : Kd) : Kd := match (if flat d = true then Kd.own [] else k), l with
  | .own s, .own t => if disj s t = true then .own (s ++ t) else .mix
  | .own [], .old => .old
  | .old, .own [] => .old
  | .old, .old => .old
  | _, _ => .mix
def dNil : TDA := fun _ Q _ => Q [] (.own [])
def dCons (ta : TD) (tr : TDA) : TDA := fun ρ Q Xd => ta ρ (fun d k => tr ρ (fun ds l => Q (d :: ds) (kcons d k l)) Xd) Xd
theorem RsL.old0 {Z : Addr → Prop} {ν : Nat → List Addr} {Hs H : Hp} {k : Kd} {us : List V} {ds : List D} (hl : ∀ a, Hd Z ν a → Mu H a) (hn : ∀ a, Hd Z ν a → Mu Hs a) (h : RsL K Z ν Hs H k us ds) (hk : k.isOld = true) : Dns K (hid (Hd Z ν) H) us ds := by
  cases k with
  | own s =>
    cases s with
    | nil =>
      obtain ⟨ms, h1, _, h3⟩ := h
      refine ows_hid hl h1 fun a ha z => ?_
      rcases h3 a ha with q | ⟨j, q, _⟩
      · obtain ⟨us, z⟩ := hn a z; rw [q] at z; cases z
      · cases q
    | cons => cases hk
  | old => exact h
  | mix => cases hk
theorem rsl_cons {Z : Addr → Prop} {ν : Nat → List Addr} {Hs H1 H2 : Hp} {k l : Kd} {v : V} {d : D} {us : List V} {ds : List D} (hn : ∀ a, Hd Z ν a → Mu Hs a) (dj : ∀ i j a, a ∈ ν i → a ∈ ν j → i = j) (e1 : Same Hs H1) (e2 : Same H1 H2) (h : Res K Z ν Hs H1 k v d) (g : RsL K Z ν H1 H2 l us ds) :
    RsL K Z ν Hs H2 (kcons d k l) (v :: us) (d :: ds) := by
  have hl1 : ∀ a, Hd Z ν a → Mu H1 a := fun a z => by obtain ⟨us, q⟩ := hn a z; exact ⟨us, e1 _ _ q⟩
  have hl2 : ∀ a, Hd Z ν a → Mu H2 a := fun a z => by obtain ⟨us, q⟩ := hl1 a z; exact ⟨us, e2 _ _ q⟩
  have h' : Res K Z ν Hs H1 (if flat d = true then Kd.own [] else k) v d := by
    split
    · exact Res.flat h.den ‹_› hl1 _
    · exact h
  have all : Dns K H2 (v :: us) (d :: ds) := .cons (Dn.same e2 h.den) g.dens
  have old : ∀ {k' : Kd}, Res K Z ν Hs H1 k' v d → k'.isOld = true → l.isOld = true → Dns K (hid (Hd Z ν) H2) (v :: us) (d :: ds) := fun {k'} r1 q1 q2 => .cons ((r1.same e2).old hl2 hn q1) (g.old0 hl2 hl1 q2)
  unfold kcons
  generalize (if flat d = true then Kd.own [] else k) = k' at h'
  split
  · split
    case isTrue q =>
      obtain ⟨ms, a1, a2, a3⟩ := h'
      obtain ⟨ns, b1, b2, b3⟩ := g
      rename_i s t
      refine ⟨ms ++ ns, .cons (a1.same e2) b1, List.nodup_append.mpr ⟨a2, b2, fun x hx y hy e => ?_⟩, fun a ha => ?_⟩
      · subst e
        obtain ⟨us', z1⟩ := a1.there x hx
        rcases b3 x hy with z | ⟨j, hj, z⟩
        · rw [z1] at z; cases z
        · rcases a3 x hx with z' | ⟨i, hi, z'⟩
          · obtain ⟨us'', z''⟩ := hn x (.inr ⟨j, z⟩)
            rw [z'] at z''; cases z''
          · have := dj i j x z' z
            subst this
            unfold disj at q
            have := List.all_eq_true.mp q i hi
            simp at this
            exact this hj
      · rcases List.mem_append.mp ha with ha | ha
        · rcases a3 a ha with z | ⟨j, hj, z⟩
          · exact .inl z
          · exact .inr ⟨j, List.mem_append_left _ hj, z⟩
        · rcases b3 a ha with z | ⟨j, hj, z⟩
          · exact .inl (e1.gone z)
          · exact .inr ⟨j, List.mem_append_right _ hj, z⟩
    case isFalse => exact all
  · exact old h' rfl rfl
  · exact old h' rfl rfl
  · exact old h' rfl rfl
  · exact all
theorem dpa_nil : DA X K E [] dNil := ⟨qa_imp qpa_nil fun σ H Q h => by
  obtain ⟨H0, ν, ρ, Qd, Xd, S, h1, q, x⟩ := h
  exact q _ _ _ _ h1 (Same.refl H) ⟨[], .nil, List.nodup_nil, fun _ z => by cases z⟩⟩
theorem dpa_cons {e : Expr} {es : List Expr} {te : TD} {t : TDA} (ha : DE X K E e te) (hr : DA X K E es t) (hs : starEach (e :: es) X.env = (false, eval e X.env) :: starEach es X.env := by rfl) : DA X K E (e :: es) (dCons te t) := ⟨qa_imp (qpa_cons ha.q hr.q hs) fun σ H Q h => by
  obtain ⟨H0, ν, ρ, Qd, Xd, S, h1, q, x⟩ := h
  refine ⟨H0, ν, ρ, _, Xd, S, h1, fun d k v H1 g1 e1 r1 => ?_, x⟩
  refine ⟨H0, ν, ρ, _, Xd, S.same e1, g1, fun ds l us H2 g2 e2 r2 => ?_, x⟩
  exact q _ _ _ _ g2 (e1.trans e2) (rsl_cons S.hl S.dj e1 e2 r1 r2)⟩
def dTup (t : TDA) : TD := fun ρ Q Xd => t ρ (fun ds k => ds.length ≤ 1000 ∧ Q (.tuple ds) k) Xd
def dLst (t : TDA) : TD := fun ρ Q Xd => t ρ (fun ds k => ds.length ≤ 1000 ∧ Q (.list ds) k) Xd
theorem dpe_tup {es : List Expr} {t : TDA} {x1} (h : DA X K E es t) : DE X K E (.Tuple es x1 pos) (dTup t) := ⟨qe_imp (qpe_tup h.q) fun σ H Q h => by
  obtain ⟨H0, ν, ρ, Qd, Xd, S, h1, q, x⟩ := h
  refine ⟨H0, ν, ρ, _, Xd, S, h1, fun ds k us H1 g1 e1 r1 => ?_, x⟩
  refine ⟨by rw [r1.dens.length]; exact Nat.le_trans g1.1 (by decide), fun p hp => q _ _ _ _ g1.2 (e1.trans (Same.new hp)) (res_newT (S.same e1).hl e1 hp r1)⟩⟩
theorem dpe_lst {es : List Expr} {t : TDA} (h : DA X K E es t) : DE X K E (.List es pos) (dLst t) := ⟨qe_imp (qpe_lst h.q) fun σ H Q h => by
  obtain ⟨H0, ν, ρ, Qd, Xd, S, h1, q, x⟩ := h
  refine ⟨H0, ν, ρ, _, Xd, S, h1, fun ds k us H1 g1 e1 r1 => ?_, x⟩
  refine ⟨by rw [r1.dens.length]; exact Nat.le_trans g1.1 (by decide), fun p hp => q _ _ _ _ g1.2 (e1.trans (Same.new hp)) (res_newL (S.same e1).hl e1 hp r1)⟩⟩
end
end DL

namespace DL
open PySem PySem.Spec PyProof.Rows L2
section
variable {X : Cx} {K : PySem.W.Frag} {E : XK} {pos : Pos} {a b c e : Expr} {rest : List Expr} {ta tb tc : TD} {tA tB : TDT}
theorem dn_bool {H : Hp} {v : V} {x : Bool} (h : Dn K H v (.bool x)) : v = .bl x := by cases h; rfl
theorem dn_int {H : Hp} {v : V} {x : Int} (h : Dn K H v (.int x)) : v = .int x := by cases h; rfl
/-! ### not, -, and, or of values -/
def dNeg (ta : TD) : TD := fun ρ Q Xd => ta ρ (fun d _ => match d with | .int i => Q (.int (-i)) .old | _ => False) Xd
theorem dpe_neg (ha : DE X K E a ta) : DE X K E (.UnaryOp .USub a pos) (dNeg ta) := ⟨qe_imp (qpe_un un_neg ha.q) fun σ H Q h => by
  obtain ⟨H0, ν, ρ, Qd, Xd, S, h1, q, x⟩ := h
  refine ⟨H0, ν, ρ, _, Xd, S, h1, fun d k v H' g1 g2 g3 => ?_, x⟩
  cases d with
  | int i => exact ⟨i, dn_int g3.den, q _ _ _ _ g1 g2 (.int _)⟩
  | _ => exact g1.elim⟩
def dNotV (ta : TD) : TD := fun ρ Q Xd => ta ρ (fun d _ => match d with | .bool i => Q (.bool (!i)) .old | _ => False) Xd
def dAndV (ta tb : TD) : TD := fun ρ Q Xd => ta ρ (fun d _ => match d with | .bool i => if i = true then tb ρ Q Xd else Q (.bool false) .old | _ => False) Xd
def dOrV (ta tb : TD) : TD := fun ρ Q Xd => ta ρ (fun d _ => match d with | .bool i => if i = true then Q (.bool true) .old else tb ρ Q Xd | _ => False) Xd
theorem dpe_one {op} (h : DE X K E a ta) : DE X K E (.BoolOp op [a] pos) ta := ⟨qpe_one h.q⟩
theorem dpe_and (ha : DE X K E a ta) (hb : DE X K E (.BoolOp .And (b :: rest) pos) tb) : DE X K E (.BoolOp .And (a :: b :: rest) pos) (dAndV ta tb) := ⟨qe_imp (qpe_and ha.q hb.q) fun σ H Q h => by
  obtain ⟨H0, ν, ρ, Qd, Xd, S, h1, q, x⟩ := h
  refine ⟨H0, ν, ρ, _, Xd, S, h1, fun d k v H' g1 g2 g3 => ?_, x⟩
  cases d with
  | bool i =>
    refine ⟨i, dn_bool g3.den, ?_⟩
    cases i with
    | true => exact ⟨H0, ν, ρ, Qd, Xd, S.same g2, g1, fun d k v H'' a1 a2 a3 => q d k v H'' a1 (g2.trans a2) (a3.later g2), x⟩
    | false => exact q _ _ _ _ g1 g2 (.bl _)
  | _ => exact g1.elim⟩
/-! ### tests -/
def dB (ta : TD) : TDT := fun ρ Q Xd => ta ρ (fun d _ => match d with | .bool i => Q i | _ => False) Xd
theorem le_b : ∀ {σ : L2.St} {H : Hp} {Q : Bool → Hp → Prop}, LT K E (dB ta) σ H Q → L2.tB (LE K E ta) σ H Q := fun {σ H Q} h => by
  obtain ⟨H0, ν, ρ, Qd, Xd, S, h1, q, x⟩ := h
  refine ⟨H0, ν, ρ, _, Xd, S, h1, fun d k v H' g1 g2 g3 => ?_, x⟩
  cases d with
  | bool i => exact ⟨i, dn_bool g3.den, q _ _ g1 g2⟩
  | _ => exact g1.elim
theorem dpt_val (h : DE X K E e ta) (he : ∀ whole, isTrue e X.env whole = (do let v ← whole; standAt e.pos; holding [v] (truthy v)) := by intro _; rfl) : DT X K E e (dB ta) := ⟨qt_imp (qpt_val h.q he) fun σ H Q h => le_b h⟩
/-- truth of ints, texts, lists, tuples, None -/
def truD : D → Option Bool
  | .none => some false
  | .bool b => some b
  | .int i => some (!decide (i = 0))
  | .str _ => Option.none
  | .list ds => some (!ds.isEmpty)
  | .tuple ds => some (!ds.isEmpty)
  | .dict _ => Option.none
def dTru (ta : TD) : TDT := fun ρ Q Xd => ta ρ (fun d _ => ∃ b, truD d = some b ∧ Q b) Xd
def cmpT (f : F2) (ta tb : TD) : TDT := dB (dOp f ta tb)
theorem dpt_cmp {op : CmpOp} {f : F2} (ho : DOp X K (compareOp op) f) (ha : DE X K E a ta) (hb : DE X K E b tb) (hm : behindInMarks op b = false) : DT X K E (.Compare a [op] [b] pos) (dB (dOp f ta tb)) := by
  obtain ⟨r, o, p⟩ := ho.ex
  refine ⟨qt_imp (qpt_cmpR o ha.q hb.q hm) fun σ H Q h => ?_⟩
  obtain ⟨H0, ν, ρ, Qd, Xd, S, h1, q, x⟩ := h
  refine le_two p σ H _ ⟨H0, ν, ρ, _, Xd, S, h1, fun d k v H' g1 g2 g3 => ?_, x⟩
  cases d with
  | bool i => exact ⟨i, dn_bool g3.den, q _ _ g1 g2⟩
  | _ => exact g1.elim
def dAnd (tA tB : TDT) : TDT := fun ρ Q Xd => tA ρ (fun b => if b = true then tB ρ Q Xd else Q false) Xd
def dOr (tA tB : TDT) : TDT := fun ρ Q Xd => tA ρ (fun b => if b = true then Q true else tB ρ Q Xd) Xd
def dNot (tA : TDT) : TDT := fun ρ Q Xd => tA ρ (fun b => Q (!b)) Xd
theorem dPWpt (h : DW X K E e tA) : DT X K E e tA := ⟨qPWpt h.q⟩
theorem dpw_and1 (ha : DT X K E a tA) : DW X K E (.BoolOp .And [a] pos) tA := ⟨qpw_and1 ha.q⟩
theorem dpw_or1 (ha : DT X K E a tA) : DW X K E (.BoolOp .Or [a] pos) tA := ⟨qpw_or1 ha.q⟩
theorem lt_and : ∀ σ H Q, LT K E (dAnd tA tB) σ H Q → tAnd (LT K E tA) (LT K E tB) σ H Q := fun σ H Q h => by
  obtain ⟨H0, ν, ρ, Qd, Xd, S, h1, q, x⟩ := h
  refine ⟨H0, ν, ρ, _, Xd, S, h1, fun b H' g1 g2 => ?_, x⟩
  cases b with
  | true => exact ⟨H0, ν, ρ, Qd, Xd, S.same g2, g1, fun b H'' a1 a2 => q b H'' a1 (g2.trans a2), x⟩
  | false => exact q _ _ g1 g2
theorem lt_or : ∀ σ H Q, LT K E (dOr tA tB) σ H Q → tOr (LT K E tA) (LT K E tB) σ H Q := fun σ H Q h => by
  obtain ⟨H0, ν, ρ, Qd, Xd, S, h1, q, x⟩ := h
  refine ⟨H0, ν, ρ, _, Xd, S, h1, fun b H' g1 g2 => ?_, x⟩
  cases b with
  | false => exact ⟨H0, ν, ρ, Qd, Xd, S.same g2, g1, fun b H'' a1 a2 => q b H'' a1 (g2.trans a2), x⟩
  | true => exact q _ _ g1 g2
theorem dpw_and (ha : DT X K E a tA) (hb : DW X K E (.BoolOp .And (b :: rest) pos) tB) : DW X K E (.BoolOp .And (a :: b :: rest) pos) (dAnd tA tB) := ⟨qw_imp (qpw_and ha.q hb.q) lt_and⟩
theorem dpw_or (ha : DT X K E a tA) (hb : DW X K E (.BoolOp .Or (b :: rest) pos) tB) : DW X K E (.BoolOp .Or (a :: b :: rest) pos) (dOr tA tB) := ⟨qw_imp (qpw_or ha.q hb.q) lt_or⟩
theorem dpt_not (ha : DT X K E a tA) : DT X K E (.UnaryOp .Not a pos) (dNot tA) := ⟨qt_imp (qpt_not ha.q) fun σ H Q h => by
  obtain ⟨H0, ν, ρ, Qd, Xd, S, h1, q, x⟩ := h
  exact ⟨H0, ν, ρ, _, Xd, S, h1, fun b H' g1 g2 => q _ _ g1 g2, x⟩⟩
/-! ### .. if .. else .. -/
def dIf (tA : TDT) (ta tb : TD) : TD := fun ρ Q Xd => tA ρ (fun b => if b = true then ta ρ Q Xd else tb ρ Q Xd) Xd
theorem dpe_ifExp (hc : DT X K E c tA) (ha : DE X K E a ta) (hb : DE X K E b tb) : DE X K E (.IfExp c a b pos) (dIf tA ta tb) := ⟨qe_imp (qpe_ifExp hc.q ha.q hb.q) fun σ H Q h => by
  obtain ⟨H0, ν, ρ, Qd, Xd, S, h1, q, x⟩ := h
  refine ⟨H0, ν, ρ, _, Xd, S, h1, fun b H' g1 g2 => ?_, x⟩
  cases b with
  | true => exact ⟨H0, ν, ρ, Qd, Xd, S.same g2, g1, fun d k v H'' a1 a2 a3 => q d k v H'' a1 (g2.trans a2) (a3.later g2), x⟩
  | false => exact ⟨H0, ν, ρ, Qd, Xd, S.same g2, g1, fun d k v H'' a1 a2 a3 => q d k v H'' a1 (g2.trans a2) (a3.later g2), x⟩⟩
/-! ### a < b < c of ints -/
def dChain (f g : Int → Int → Bool) (ta tb tc : TD) : TD := fun ρ Q Xd => ta ρ (fun x _ => tb ρ (fun y _ => match x, y with
  | .int i, .int j => if f i j = true then tc ρ (fun z _ => match z with | .int l => Q (.bool (g j l)) .old | _ => False) Xd else Q (.bool false) .old
  | _, _ => False) Xd) Xd
/-! ### calls -/
abbrev SpD := List D → (D → Bool → Prop) → XD → Prop
/-- what comes back: ours (new), or something that lies there -/
def RR (K : PySem.W.Frag) (H H' : Hp) : Bool → V → D → Prop
  | true, v, d => ∃ ms, Ow K H' v d ms ∧ ms.Nodup ∧ ∀ a ∈ ms, H a = none
  | false, v, d => Dn K H' v d
def SpL (K : PySem.W.Frag) (sp : SpD) : Sp := fun vs H Q E => ∃ ds Qd Xd, Dns K H vs ds ∧ sp ds Qd Xd ∧ (∀ d o v H', Qd d o → Same H H' → RR K H H' o v d → Q v H') ∧ ∀ C H', Xd C → Same H H' → E (.ref C) none H'
def kRet (o : Bool) : Kd := if o = true then .own [] else .mix
def dCall (sp : SpD) (t : TDA) : TD := fun ρ Q Xd => t ρ (fun ds _ => sp ds (fun d o => Q d (kRet o)) Xd) Xd
theorem rr_res {Z : Addr → Prop} {ν : Nat → List Addr} {Hs H H' : Hp} {o : Bool} {v : V} {d : D} (e : Same Hs H) (h : RR K H H' o v d) : Res K Z ν Hs H' (kRet o) v d := by
  cases o with
  | true => obtain ⟨ms, h1, h2, h3⟩ := h; exact ⟨ms, h1, h2, fun a ha => .inl (e.gone (h3 a ha))⟩
  | false => exact h
/-- a def that never refuses -/
def dCall0 (sp : SpD) (t : TDA) : TD := fun ρ Q Xd => t ρ (fun ds _ => sp ds (fun d o => Q d (kRet o)) (fun _ => False)) Xd
theorem le_call0 {sp : SpD} {t : TDA} : ∀ σ H Q, LE K E (dCall0 sp t) σ H Q → LA K E t σ H fun vs H1 => SpL K sp vs H1 Q E0 := fun σ H Q h => by
  obtain ⟨H0, ν, ρ, Qd, Xd, S, h1, q, x⟩ := h
  refine ⟨H0, ν, ρ, _, Xd, S, h1, fun ds k vs H1 g1 e1 r1 => ?_, x⟩
  exact ⟨ds, _, _, r1.dens, g1, fun d o v H' a1 a2 a3 => q _ _ _ _ a1 (e1.trans a2) (rr_res e1 a3), fun C H' z _ => z.elim⟩
theorem dpe_df {x : Str} {ps : List Str} {k : Nat} {sp : SpD} {p : Pos} {es : List Expr} {t : TDA} (D : Df X.prog X.w X.K X.mg X.base x ps k (SpL K sp)) (hr : Room k X.A) (ha : DA X K E (e :: es) t) (hg : Gl X x := by rfl) (hdb : (x == ("__debug__" : Str)) = false := by decide)
    (he : starEach (e :: es) X.env = (false, eval e X.env) :: starEach es X.env := by rfl) (hpl : (backTo pos (starEach es X.env)).any (·.1) = false := by rfl) : DE X K E (.Call (.Name x p) (e :: es) [] pos) (dCall0 sp t) :=
  ⟨qe_imp (qpe_df D hr ha.q hg hdb he hpl) fun σ H Q h => by
    show LA K E t σ H fun vs H1 => SpL K sp (vs ++ []) H1 Q E0
    simp only [List.append_nil]
    exact le_call0 σ H Q h⟩
/-! ### builtins -/
abbrev FA := List D → Kd → QD → Prop
def PrimA (K : PySem.W.Frag) (r : List V → Hp → VK → Prop) (f : FA) : Prop := ∀ (Z : Addr → Prop) (ν : Nat → List Addr) (Hs H : Hp) (xs : List V) (ds : List D) (k : Kd) (Qf : QD) (Q : VK), (∀ a, Hd Z ν a → Mu H a) → (∀ a, Hd Z ν a → Mu Hs a) → Same Hs H → RsL K Z ν Hs H k xs ds →
  f ds k Qf → (∀ d k v H', Qf d k → Same H H' → Res K Z ν Hs H' k v d → Q v H') → r xs H Q
structure DCl (X : Cx) (K : PySem.W.Frag) (f : Value) (g : FA) : Prop where
  ex : ∃ r, CallR X f r ∧ PrimA K r g
def dCB (g : FA) (t : TDA) : TD := fun ρ Q Xd => t ρ (fun ds k => g ds k Q) Xd
theorem le_cb {r : List V → Hp → VK → Prop} {g : FA} {t : TDA} (p : PrimA K r g) : ∀ σ H Q, LE K E (dCB g t) σ H Q → tCB r (LA K E t) σ H Q := fun σ H Q h => by
  obtain ⟨H0, ν, ρ, Qd, Xd, S, h1, q, x⟩ := h
  refine ⟨H0, ν, ρ, _, Xd, S, h1, fun ds k vs H1 g1 e1 r1 => ?_, x⟩
  exact p Z0 ν H H1 vs ds k _ _ (S.same e1).hl S.hl e1 r1 g1 fun d k v H' a1 a2 a3 => q d k v H' a1 (e1.trans a2) a3
theorem dpe_callB {id : String} {g : FA} {x : Str} {p : Pos} {es : List Expr} {t : TDA} (hc : DCl X K (.builtin id) g) (hg : Gl X x) (hm : X.mg x = none) (hv : bootBuiltins x = some (.builtin id)) (ha : DA X K E (e :: es) t) (hn : x ≠ "__name__" := by decide) (hdb : (x == ("__debug__" : Str)) = false := by decide)
    (he : starEach (e :: es) X.env = (false, eval e X.env) :: starEach es X.env := by rfl) (hpl : (backTo pos (starEach es X.env)).any (·.1) = false := by rfl) : DE X K E (.Call (.Name x p) (e :: es) [] pos) (dCB g t) := by
  obtain ⟨r, c, pr⟩ := hc.ex
  exact ⟨qe_imp (qpe_callB c hg hm hv ha.q hn hdb he hpl) (le_cb pr)⟩
theorem dpe_callTy {T : String} {g : FA} {x : Str} {p : Pos} {es : List Expr} {t : TDA} (hc : DCl X K (.type T) g) (hg : Gl X x) (hm : X.mg x = none) (hv : bootBuiltins x = some (.type T)) (ha : DA X K E (e :: es) t) (hn : x ≠ "__name__" := by decide) (hdb : (x == ("__debug__" : Str)) = false := by decide)
    (he : starEach (e :: es) X.env = (false, eval e X.env) :: starEach es X.env := by rfl) (hpl : (backTo pos (starEach es X.env)).any (·.1) = false := by rfl) : DE X K E (.Call (.Name x p) (e :: es) [] pos) (dCB g t) := by
  obtain ⟨r, c, pr⟩ := hc.ex
  exact ⟨qe_imp (qpe_callTy c hg hm hv ha.q hn hdb he hpl) (le_cb pr)⟩
theorem dns1 {H : Hp} {xs : List V} {d : D} (h : Dns K H xs [d]) : ∃ v, xs = [v] ∧ Dn K H v d := by
  cases h with
  | cons h r => cases r; exact ⟨_, rfl, h⟩
theorem dns2 {H : Hp} {xs : List V} {d e : D} (h : Dns K H xs [d, e]) : ∃ v w', xs = [v, w'] ∧ Dn K H v d ∧ Dn K H w' e := by
  cases h with
  | cons h r => obtain ⟨v, rfl, g⟩ := dns1 r; exact ⟨_, _, rfl, h, g⟩
def fLen : FA := fun ds _ Q => match ds with
  | [.list xs] => Q (.int xs.length) .old
  | [.tuple xs] => Q (.int xs.length) .old
  | [.dict [(.none, .list xs)]] => Q (.int xs.length) .old
  | _ => False
theorem dns_of_scr {H : Hp} {v : V} {ds : List D} (h : Dn K H v (.dict [(.none, .list ds)])) : ∃ (a : Addr) (ns : List Int), v = .ref a ∧ SqL K H a (ns.map V.int) ∧ ds = ns.map PyData.int := by
  cases h with
  | scr ns h => exact ⟨_, _, rfl, h, rfl⟩
theorem dcl_len (hK : X.K = K) : DCl X K (.builtin "len") fLen := ⟨_, call_lenK K hK, fun Z ν Hs H xs ds k Qf Q _ _ _ h g q => by
  unfold fLen at g
  split at g
  · obtain ⟨v, rfl, h1⟩ := dns1 h.dens
    obtain ⟨a, us, rfl, g1, g2⟩ := dns_of_lst h1
    exact ⟨a, us, rfl, .inl (SqL.of g1), q _ _ _ _ g (Same.refl H) (by rw [g2.length]; exact .int _)⟩
  · obtain ⟨v, rfl, h1⟩ := dns1 h.dens
    obtain ⟨a, us, rfl, g1, g2⟩ := dns_of_tup h1
    exact ⟨a, us, rfl, .inr g1, q _ _ _ _ g (Same.refl H) (by rw [g2.length]; exact .int _)⟩
  · obtain ⟨v, rfl, h1⟩ := dns1 h.dens
    obtain ⟨a, ns, rfl, g1, rfl⟩ := dns_of_scr h1
    exact ⟨a, _, rfl, .inl g1, q _ _ _ _ g (Same.refl H) (by rw [List.length_map, List.length_map]; exact .int _)⟩
  · exact g.elim⟩
/-- all ints -/
def intsD : List D → Option (List Int)
  | [] => some []
  | .int i :: r => (intsD r).map (i :: ·)
  | _ => Option.none
def boolsD : List D → Option (List Bool)
  | [] => some []
  | .bool i :: r => (boolsD r).map (i :: ·)
  | _ => Option.none
theorem dns_bools {H : Hp} : ∀ {us : List V} {ds : List D} {ns : List Bool}, Dns K H us ds → boolsD ds = some ns → us = ns.map V.bl
  | _, _, _, .nil, e => by cases e; rfl
  | _, _, ns, .cons h r, e => by
    cases h <;> first | (simp only [dctD, boolsD] at e; first | cases e | (rw [Option.map_eq_some_iff] at e; obtain ⟨ms, e1, rfl⟩ := e; rw [dns_bools r e1]; rfl))
def fSum : FA := fun ds _ Q => match ds with
  | [.list xs] => ∃ ns, intsD xs = some ns ∧ Q (.int ns.sum) .old
  | _ => False
def fBls (f : List Bool → Bool) : FA := fun ds _ Q => match ds with
  | [.list xs] => ∃ ns, boolsD xs = some ns ∧ Q (.bool (f ns)) .old
  | _ => False
theorem dcl_any (hK : X.K = K) (hc : X.calm = true) : DCl X K (.builtin "any") (fBls fun l => l.any id) := ⟨_, call_anyK K hK hc, fun Z ν Hs H xs ds k Qf Q _ _ _ h g q => by
  unfold fBls at g
  split at g
  · obtain ⟨v, rfl, h1⟩ := dns1 h.dens
    obtain ⟨a, us, rfl, g1, g2⟩ := dns_of_lst h1
    obtain ⟨ns, e, g⟩ := g
    exact ⟨a, ns, rfl, SqL.of (by rw [g1, dns_bools g2 e]), q _ _ _ _ g (Same.refl H) (.bl _)⟩
  · exact g.elim⟩
def fAbs : FA := fun ds _ Q => match ds with
  | [.int i] => Q (.int (if i < 0 then -i else i)) .old
  | _ => False
theorem dcl_abs : DCl X K (.builtin "abs") fAbs := ⟨_, call_abs, fun Z ν Hs H xs ds k Qf Q _ _ _ h g q => by
  unfold fAbs at g
  split at g
  · obtain ⟨v, rfl, h1⟩ := dns1 h.dens
    exact ⟨_, by rw [dn_int h1], q _ _ _ _ g (Same.refl H) (.int _)⟩
  · exact g.elim⟩
def fInt : FA := fun ds _ Q => match ds with
  | [.int i] => Q (.int i) .old
  | [.bool i] => Q (.int (if i then 1 else 0)) .old
  | _ => False
end
end DL

namespace DL
open PySem PySem.Spec PyProof.Rows L2
section
variable {X : Cx} {K : PySem.W.Frag} {E : XK} {pos : Pos} {a b c e : Expr} {rest : List Expr} {ta tb tc : TD} {tA tB : TDT}
theorem rsl_one {Z : Addr → Prop} {ν : Nat → List Addr} {Hs H : Hp} {k : Kd} {v : V} {d : D} (h : RsL K Z ν Hs H k [v] [d]) : Res K Z ν Hs H k v d := by
  cases k with
  | own s =>
    obtain ⟨ms, h1, h2, h3⟩ := h
    cases h1 with
    | cons h r => cases r; rw [List.append_nil] at h2 h3; exact ⟨_, h, h2, h3⟩
  | old => cases (show Dns K _ [v] [d] from h) with | cons h r => exact h
  | mix => cases (show Dns K _ [v] [d] from h) with | cons h r => exact h
def fList : FA := fun ds k Q => match ds with
  | [.list xs] => Q (.list xs) (kels xs k)
  | _ => False
theorem dcl_list (hK : X.K = K) : DCl X K (.type "list") fList := ⟨_, call_listK K hK, fun Z ν Hs H xs ds k Qf Q hl hn hs h g q => by
  unfold fList at g
  split at g
  · obtain ⟨v, rfl, _⟩ := dns1 h.dens
    obtain ⟨a, us, rfl, g1, g2, g3⟩ := res_list hl hn (rsl_one h)
    exact ⟨a, us, rfl, .inl (SqL.of g1), fun p hp => q _ _ _ _ g (Same.new hp) (res_newL hl hs hp g3)⟩
  · exact g.elim⟩
def fTuple : FA := fun ds k Q => match ds with
  | [.list xs] => Q (.tuple xs) (kels xs k)
  | _ => False
theorem call_tupK (hK : X.K = K) : CallR X (.type "tuple") (fun xs H Q => ∃ p ys, xs = [.ref p] ∧ ((SqL K H p ys ∧ ∀ l, H l = none → Q (.ref l) (upd H l (.tup ys))) ∨ (SqT K H p ys ∧ Q (.ref p) H))) := by subst hK; exact call_tuple_of
theorem dcl_tuple (hK : X.K = K) : DCl X K (.type "tuple") fTuple := ⟨_, call_tupK hK, fun Z ν Hs H xs ds k Qf Q hl hn hs h g q => by
  unfold fTuple at g
  split at g
  · obtain ⟨v, rfl, _⟩ := dns1 h.dens
    obtain ⟨a, us, rfl, g1, g2, g3⟩ := res_list hl hn (rsl_one h)
    exact ⟨a, us, rfl, .inl ⟨SqL.of g1, fun p hp => q _ _ _ _ g (Same.new hp) (res_newT hl hs hp g3)⟩⟩
  · exact g.elim⟩
def fMin : FA := fun ds _ Q => match ds with
  | [.int i, .int j] => Q (.int (if j < i then j else i)) .old
  | [.list xs] => ∃ ns, intsD xs = some ns ∧ ns ≠ [] ∧ ∀ m, m ∈ ns → (∀ x ∈ ns, m ≤ x) → Q (.int m) .old
  | _ => False
def fMax : FA := fun ds _ Q => match ds with
  | [.int i, .int j] => Q (.int (if j > i then j else i)) .old
  | [.list xs] => ∃ ns, intsD xs = some ns ∧ ns ≠ [] ∧ ∀ m, m ∈ ns → (∀ x ∈ ns, x ≤ m) → Q (.int m) .old
  | _ => False
/-! ### isinstance of data -/
def tyN : D → String
  | .none => "NoneType"
  | .bool _ => "bool"
  | .int _ => "int"
  | .str _ => "str"
  | .list _ => "list"
  | .tuple _ => "tuple"
  | .dict _ => "dict"
def isInt : D → Bool
  | .int _ => true
  | .bool _ => true
  | _ => false
def isBool : D → Bool
  | .bool _ => true
  | _ => false
def isList : D → Bool
  | .list _ => true
  | _ => false
def isTuple : D → Bool
  | .tuple _ => true
  | _ => false
def isStr : D → Bool
  | .str _ => true
  | _ => false
def noDict : D → Bool
  | .dict _ => false
  | _ => true
def KitT (K : PySem.W.Frag) (T : String) (f : D → Bool) : Prop := ∀ d, noDict d = true → PySem.W.kitOne K (.type (tyN d)) (.type T) = some (f d)
theorem kit_bool : KitT K "bool" isBool := by intro d h; cases d <;> first | rfl | simp [noDict] at h
theorem kit_list : KitT K "list" isList := by intro d h; cases d <;> first | rfl | simp [noDict] at h
theorem kit_tuple : KitT K "tuple" isTuple := by intro d h; cases d <;> first | rfl | simp [noDict] at h
def rIsD (K : PySem.W.Frag) (T : String) (f : D → Bool) : List V → Hp → VK → Prop := fun xs H Q => ∃ x d, xs = [x, .ty T] ∧ Dn K H x d ∧ noDict d = true ∧ Q (.bl (f d)) H
theorem call_isD {T : String} {f : D → Bool} (hK : X.K = K) (kt : KitT K T f) : CallR X (.builtin "isinstance") (rIsD K T f) := by
  subst hK
  intro pins s σ H xs us Q I r h
  obtain ⟨x, d, rfl, hd, nd, q⟩ := h
  obtain ⟨u, w', rfl, r1, r2⟩ := vals2 r
  cases r2
  have k := kt d nd
  cases hd with
  | non => exact isinst_ok I r1 .non k fun tk => ⟨.bl _, H, I.tok _, rfl, q⟩
  | bl i => exact isinst_ok I r1 (.bl _) k fun tk => ⟨.bl _, H, I.tok _, rfl, q⟩
  | int i => exact isinst_ok I r1 (.int _) k fun tk => ⟨.bl _, H, I.tok _, rfl, q⟩
  | str i => exact isinst_ok I r1 (.str _) k fun tk => ⟨.bl _, H, I.tok _, rfl, q⟩
  | lst h _ => exact isinst_ok I r1 (.lst h) k fun tk => ⟨.bl _, H, I.tok _, rfl, q⟩
  | tup h _ =>
    cases r1
    obtain ⟨its, rv, ⟨o, e, c, n, d⟩, _⟩ := I.tuple h
    exact PySem.W.kia_one PySem.W.kitx_tuple I.kIn ⟨o, e, c⟩ k (fun z => nomatch z) fun tk => ⟨.bl _, H, I.tok _, rfl, q⟩
  | scr _ _ => cases nd
  | opq _ => cases nd
  | dct _ _ => cases nd
def dIs (f : D → Bool) (ta : TD) : TD := fun ρ Q Xd => ta ρ (fun d _ => noDict d = true ∧ Q (.bool (f d)) .old) Xd
theorem dpe_isi {T : String} {f : D → Bool} {y : Str} {p p2 : Pos} (hK : X.K = K) (kt : KitT K T f) (hg : Gl X "isinstance") (hm : X.mg "isinstance" = none) (ha : DE X K E a ta) (hg2 : Gl X y) (hm2 : X.mg y = none) (hv2 : bootBuiltins y = some (.type T)) (hn : y ≠ "__name__" := by decide) (hd : (y == ("__debug__" : Str)) = false := by decide)
    (he : starEach [a, .Name y p2] X.env = (false, eval a X.env) :: starEach [.Name y p2] X.env := by rfl) (hpl : (backTo pos (starEach [.Name y p2] X.env)).any (·.1) = false := by rfl) : DE X K E (.Call (.Name "isinstance" p) [a, .Name y p2] [] pos) (dIs f ta) :=
  ⟨qe_imp (qpe_callB (call_isD hK kt) hg hm (by decide +kernel) (qpa_cons ha.q (hs := he) (qpa_cons (qpe_bltn (v := .ty T) hg2 hm2 hv2 rfl hn hd) qpa_nil)) (by decide) (by decide) he hpl) fun σ H Q h => by
    obtain ⟨H0, ν, ρ, Qd, Xd, S, h1, q, x⟩ := h
    refine ⟨H0, ν, ρ, _, Xd, S, h1, fun d k v H' g1 g2 g3 => ?_, x⟩
    exact ⟨v, d, rfl, g3.den, g1.1, q _ _ _ _ g1.2 g2 (.bl _)⟩⟩
/-! ### in, not in a list or tuple of data without lists and tuples -/
def scalD : D → Bool
  | .none => true
  | .bool _ => true
  | .int _ => true
  | .str _ => true
  | _ => false
theorem flatV_of {H : Hp} {v : V} {d : D} (h : Dn K H v d) (s : scalD d = true) : flatV v = true := by
  cases h <;> first | rfl | simp [scalD, dctD] at s
theorem eqV_of {H : Hp} {v u : V} {d e : D} (h : Dn K H v d) (g : Dn K H u e) (s : scalD d = true) (t : scalD e = true) : eqV v u = PyData.eqv d e := by
  cases h <;> first | (simp [scalD, dctD] at s; done) | (cases g <;> first | (simp [scalD, dctD] at t; done) | rfl | (simp [eqV, PyData.eqv]; done))
def inD (x : D) (xs : List D) : Bool := xs.any fun y => PyData.eqv y x
def fIn (f : Bool → Bool) : F2 := fun d _ e _ Q => scalD d = true ∧ match e with
  | .list es => es.all scalD = true ∧ Q (.bool (f (inD d es))) .old
  | .tuple es => es.all scalD = true ∧ Q (.bool (f (inD d es))) .old
  | _ => False
theorem in_items {H : Hp} {v : V} {d : D} (h : Dn K H v d) (s : scalD d = true) : ∀ {us : List V} {es : List D}, Dns K H us es → es.all scalD = true → us.all flatV = true ∧ inV v us = inD d es
  | _, _, .nil, _ => ⟨rfl, rfl⟩
  | _, _, .cons g r, t => by
    rw [List.all_cons, Bool.and_eq_true] at t
    obtain ⟨h1, h2⟩ := in_items h s r t.2
    refine ⟨by rw [List.all_cons, flatV_of g t.1, h1]; rfl, ?_⟩
    unfold inV inD at h2 ⊢
    rw [List.any_cons, List.any_cons, h2, eqV_of g h t.1 s]
theorem prim_in {neg : Bool} {f : Bool → Bool} (hf : ∀ b, f b = if neg then !b else b) : Prim2 K (rIn K neg) (fIn f) := fun Z ν Hs H x y d k e l Qf Q _ _ _ h3 h4 h5 h6 => by
  obtain ⟨h0, h5⟩ := h5
  split at h5
  · obtain ⟨a, us, rfl, g1, g2⟩ := dns_of_lst h4.den
    obtain ⟨q1, q2⟩ := in_items h3.den h0 g2 h5.1
    refine ⟨a, us, rfl, .inl (SqL.of g1), flatV_of h3.den h0, q1, h6 _ _ _ _ h5.2 (Same.refl H) ?_⟩
    rw [q2, hf]; cases neg <;> exact .bl _
  · obtain ⟨a, us, rfl, g1, g2⟩ := dns_of_tup h4.den
    obtain ⟨q1, q2⟩ := in_items h3.den h0 g2 h5.1
    refine ⟨a, us, rfl, .inr g1, flatV_of h3.den h0, q1, h6 _ _ _ _ h5.2 (Same.refl H) ?_⟩
    rw [q2, hf]; cases neg <;> exact .bl _
  · exact h5.elim
theorem dop_in (hK : X.K = K) : DOp X K (compareOp .In) (fIn id) := ⟨_, op_inK K hK, prim_in fun b => rfl⟩
theorem dop_notin (hK : X.K = K) : DOp X K (compareOp .NotIn) (fIn not) := ⟨_, op_notInK K hK, prim_in fun b => rfl⟩
/-! ### truth -/
end
end DL

namespace DL
open PySem PySem.Spec PyProof.Rows L2
/-! ### statements over data -/
structure EndsD where
  nx : Ren → Prop
  rt : D → Bool → Prop
  bk : Ren → Prop := fun _ => False
  ct : Ren → Prop := fun _ => False
abbrev TSD := EndsD → Ren → XD → Prop
structure EndsOk (K : PySem.W.Frag) (H0 : Hp) (En : Ends) (Dd : EndsD) : Prop where
  nx : ∀ ν ρ σ H, Dd.nx ρ → StOk K Z0 H0 ν ρ σ H → En.nx σ H
  bk : ∀ ν ρ σ H, Dd.bk ρ → StOk K Z0 H0 ν ρ σ H → En.bk σ H
  ct : ∀ ν ρ σ H, Dd.ct ρ → StOk K Z0 H0 ν ρ σ H → En.ct σ H
  rt : ∀ d o v H, Dd.rt d o → Same H0 H → RR K H0 H o v d → En.rt v H
def LS (K : PySem.W.Frag) (E : XK) (t : TSD) : TS := fun En σ H => ∃ H0 ν ρ Dd Xd, StOk K Z0 H0 ν ρ σ H ∧ t Dd ρ Xd ∧ EndsOk K H0 En Dd ∧ ∀ C H', Xd C → Same H0 H' → E (.ref C) none H'
structure DS (X : Cx) (K : PySem.W.Frag) (E : XK) (s : Stmt) (t : TSD) : Prop where
  q : QS X s (LS K E t)
structure DSs (X : Cx) (K : PySem.W.Frag) (E : XK) (s : List Stmt) (t : TSD) : Prop where
  q : QSs X s (LS K E t)
def setK (ρ : Ren) (i : Nat) (d : D) (k : Kd) : Ren := if flat d = true then ρ.set i (some (false, d)) else match k with
  | .own s => (dropS ρ s).set i (some (true, d))
  | .old => ρ.set i (some (false, d))
  | .mix => (frz ρ).set i (some (false, d))
section
variable {K : PySem.W.Frag} {H0 H H' : Hp} {ν : Nat → List Addr} {ρ : Ren} {σ : L2.St} {v : V} {d : D} {k : Kd}
theorem hid_z0 {H : Hp} : Same H (hid (Hd Z0 fun _ => []) H) := fun a o h => hid_of h fun z => by
  rcases z with z | ⟨_, z⟩
  · exact z
  · cases z
theorem StOk.setK (S : StOk K Z0 H0 ν ρ σ H) (e : Same H H') (h : Res K Z0 ν H H' k v d) (i : Nat) : ∃ ν', StOk K Z0 H0 ν' (setK ρ i d k) (σ.set i (some v)) H' := by
  unfold DL.setK
  split
  · exact ⟨_, (S.same e).setOld i (den_hid (S.same e).hl h.den ‹_›)⟩
  · cases k with
    | own s =>
      obtain ⟨ms, h1, h2, h3⟩ := h
      exact ⟨_, S.setOwn s i e h1 h2 h3⟩
    | old => exact ⟨_, (S.same e).setOld i h⟩
    | mix => exact ⟨_, (S.same e).frz.setOld i (Dn.same hid_z0 h)⟩
/-- what is handed back -/
def rtK (d : D) (k : Kd) : Bool := flat d || match k with
  | .own _ => true
  | _ => false
theorem rr_of (S : StOk K Z0 H0 ν ρ σ H) (e : Same H H') (h : Res K Z0 ν H H' k v d) : RR K H0 H' (rtK d k) v d := by
  unfold rtK
  cases hf : flat d with
  | true => exact ⟨[], ow_flat h.den hf, List.nodup_nil, fun _ z => by cases z⟩
  | false =>
    cases k with
    | own s =>
      obtain ⟨ms, h1, h2, h3⟩ := h
      refine ⟨ms, h1, h2, fun a ha => ?_⟩
      rcases h3 a ha with z | ⟨j, _, z⟩
      · exact S.sm.gone z
      · exact (S.fr j a z).1
    | old => exact Dn.same hid_same h
    | mix => exact h
theorem StOk.low {Z : Addr → Prop} {H1 : Hp} (S : StOk K Z H1 ν ρ σ H) (e : Same H0 H1) : StOk K Z H0 ν ρ σ H :=
  ⟨e.trans S.sm, S.len, S.sl, S.nd, S.dj, fun i a h => ⟨e.gone (S.fr i a h).1, (S.fr i a h).2⟩, fun a h => ⟨e.gone (S.zf a h).1, (S.zf a h).2⟩⟩
theorem StOk.base {Z : Addr → Prop} (S : StOk K Z H0 ν ρ σ H) : Same H0 (hid (Hd Z ν) H) := fun a o h => hid_of (S.sm a o h) fun z => by
  rcases z with z | ⟨i, z⟩
  · rw [(S.zf a z).1] at h; cases h
  · rw [(S.fr i a z).1] at h; cases h
/-- the frozen part as the new base -/
theorem StOk.high {Z : Addr → Prop} (S : StOk K Z H0 ν ρ σ H) : StOk K Z (hid (Hd Z ν) H) ν ρ σ H :=
  ⟨hid_same, S.len, S.sl, S.nd, S.dj, fun i a h => ⟨by unfold hid; rw [if_pos (.inr ⟨i, h⟩)], (S.fr i a h).2⟩, fun a h => ⟨by unfold hid; rw [if_pos (.inl h)], (S.zf a h).2⟩⟩
theorem RR.low {H1 : Hp} {o : Bool} (h : RR K H1 H o v d) (e : Same H0 H1) : RR K H0 H o v d := by
  cases o with
  | true => obtain ⟨ms, h1, h2, h3⟩ := h; exact ⟨ms, h1, h2, fun a ha => e.gone (h3 a ha)⟩
  | false => exact h
theorem EndsOk.high {En : Ends} {Dd : EndsD} {H1 : Hp} (h : EndsOk K H0 En Dd) (e : Same H0 H1) : EndsOk K H1 En Dd :=
  ⟨fun ν ρ σ H a S => h.nx ν ρ σ H a (S.low e), fun ν ρ σ H a S => h.bk ν ρ σ H a (S.low e), fun ν ρ σ H a S => h.ct ν ρ σ H a (S.low e), fun d o v H a b c => h.rt d o v H a (e.trans b) (c.low e)⟩
end
section
variable {X : Cx} {K : PySem.W.Frag} {E : XK} {pos : Pos} {a b c e : Expr} {te : TD} {tA : TDT} {t u : TSD}
def dSet (i : Nat) (te : TD) : TSD := fun Dd ρ Xd => te ρ (fun d k => Dd.nx (setK ρ i d k)) Xd
theorem dpset (i : Nat) {x : Str} {pos' : Pos} (hN : X.N.Nodup) (he : DE X K E e te) (hi : X.N[i]? = some x := by rfl) (hx : Loc X.env.scope x := by first | exact Or.inl rfl | exact Or.inr rfl) (hs : swapsWith e (some (.Name x pos')) pos.line X.env = pure false := by rfl) (hf : X.fn x = true ∨ X.env.scope.names.lookup x = some .local := by first | exact .inl rfl | exact .inr rfl | assumption) :
    DS X K E (.Assign [.Name x pos'] e pos) (dSet i te) := ⟨qs_imp (qpset i hN he.q hi hx hs hf) fun En σ H h => by
  obtain ⟨H0, ν, ρ, Dd, Xd, S, h1, ok, x⟩ := h
  refine ⟨H0, ν, ρ, _, Xd, S, h1, fun d k v H' g1 g2 g3 => ?_, x⟩
  obtain ⟨ν', S'⟩ := S.setK g2 g3 i
  exact ok.nx _ _ _ _ g1 S'⟩
def dRet (te : TD) : TSD := fun Dd ρ Xd => te ρ (fun d k => Dd.rt d (rtK d k)) Xd
theorem dps_ret (he : DE X K E e te) : DS X K E (.Return (some e) pos) (dRet te) := ⟨qs_imp (qps_ret he.q) fun En σ H h => by
  obtain ⟨H0, ν, ρ, Dd, Xd, S, h1, ok, x⟩ := h
  exact ⟨H0, ν, ρ, _, Xd, S, h1, fun d k v H' g1 g2 g3 => ok.rt _ _ _ _ g1 (S.sm.trans g2) (rr_of S g2 g3), x⟩⟩
def dRetN : TSD := fun Dd _ _ => Dd.rt .none true
def dDrop (te : TD) : TSD := fun Dd ρ Xd => te ρ (fun _ _ => Dd.nx ρ) Xd
def dNext : TSD := fun Dd ρ _ => Dd.nx ρ
def dBreak : TSD := fun Dd ρ _ => Dd.bk ρ
def dCont : TSD := fun Dd ρ _ => Dd.ct ρ
def dIfS (tA : TDT) (t u : TSD) : TSD := fun Dd ρ Xd => tA ρ (fun b => if b = true then t Dd ρ Xd else u Dd ρ Xd) Xd
theorem dps_if {as bs : List Stmt} (hc : DT X K E c tA) (ha : DSs X K E as t) (hb : DSs X K E bs u) : DS X K E (.If c as bs pos) (dIfS tA t u) := ⟨qs_imp (qps_if hc.q ha.q hb.q) fun En σ H h => by
  obtain ⟨H0, ν, ρ, Dd, Xd, S, h1, ok, x⟩ := h
  refine ⟨H0, ν, ρ, _, Xd, S, h1, fun b H' g1 g2 => ?_, x⟩
  cases b with
  | true => exact ⟨H0, ν, ρ, Dd, Xd, S.same g2, g1, ok, x⟩
  | false => exact ⟨H0, ν, ρ, Dd, Xd, S.same g2, g1, ok, x⟩⟩
def dSeq (t u : TSD) : TSD := fun Dd ρ Xd => t { Dd with nx := fun ρ' => u Dd ρ' Xd } ρ Xd
theorem dpss_nil : DSs X K E [] dNext := ⟨qss_imp qpss_nil fun En σ H h => by
  obtain ⟨H0, ν, ρ, Dd, Xd, S, h1, ok, x⟩ := h
  exact ok.nx _ _ _ _ h1 S⟩
theorem dpss_one {st : Stmt} (h1 : DS X K E st t) : DSs X K E [st] t := ⟨qpss_one h1.q⟩
theorem dpss_cons {st : Stmt} {rest : List Stmt} (h1 : DS X K E st t) (h2 : DSs X K E rest u) : DSs X K E (st :: rest) (dSeq t u) := ⟨qss_imp (qpss_cons h1.q h2.q) fun En σ H h => by
  obtain ⟨H0, ν, ρ, Dd, Xd, S, h1, ok, x⟩ := h
  exact ⟨H0, ν, ρ, _, Xd, S, h1, ⟨fun ν' ρ' σ' H' a S' => ⟨H0, ν', ρ', Dd, Xd, S', a, ok, x⟩, ok.bk, ok.ct, ok.rt⟩, x⟩⟩
/-- ahead of a statement a name's tree is given up -/
def dFrz (i : Nat) (t : TSD) : TSD := fun Dd ρ Xd => t Dd (frz1 i ρ) Xd
theorem dps_frz (i : Nat) {s : Stmt} (h : DS X K E s t) : DS X K E s (dFrz i t) := ⟨qs_imp h.q fun En σ H h => by
  obtain ⟨H0, ν, ρ, Dd, Xd, S, h1, ok, x⟩ := h
  exact ⟨H0, _, _, Dd, Xd, S.frz1 i, h1, ok, x⟩⟩
/-- raise -/
def dRaise (C : Addr) (t : TDA) : TSD := fun _ ρ Xd => t ρ (fun ds _ => ds.length ≤ 1000 ∧ Xd C) Xd
def dNever : TSD := fun _ _ _ => False
theorem dps_raiseF {e c : Option Expr} : DS X K E (.Raise e c pos) dNever := ⟨qs_imp qps_raiseF fun En σ H h => by
  obtain ⟨H0, ν, ρ, Dd, Xd, S, h1, ok, x⟩ := h
  exact h1⟩
/-! ### while -/
def dWhile (tc : TDT) (tb : TSD) : TSD := fun Dd ρ Xd => ∃ W : Nat → Ren → Prop, (∃ m, W m ρ) ∧ ∀ m ρ, W m ρ → tc ρ (fun b => if b = true then tb { Dd with nx := fun ρ' => ∃ m', m' < m ∧ W m' ρ', ct := fun ρ' => ∃ m', m' < m ∧ W m' ρ', bk := Dd.nx } ρ Xd else Dd.nx ρ) Xd
theorem dps_while {body : List Stmt} {tb : TSD} (hp : PassesOwn (model X.prog X.w) X.A X.env X.xe) (hc : DT X K E c tA) (hb : DSs X K E body tb) : DS X K E (.While c body [] pos) (dWhile tA tb) := ⟨qs_imp (qps_while hp hc.q hb.q) fun En σ H h => by
  obtain ⟨H0, ν, ρ, Dd, Xd, S, ⟨W, ⟨m0, w0⟩, turn⟩, ok, x⟩ := h
  refine ⟨fun m σ H => ∃ ν ρ, StOk K Z0 H0 ν ρ σ H ∧ W m ρ, ⟨m0, ν, ρ, S, w0⟩, ?_⟩
  rintro m σ1 H1 ⟨ν1, ρ1, S1, w1⟩
  refine ⟨H0, ν1, ρ1, _, Xd, S1, turn m ρ1 w1, fun b H' g1 g2 => ?_, x⟩
  cases b with
  | true =>
    rw [if_pos rfl] at g1 ⊢
    refine ⟨fun σ' H' => ∃ m', m' < m ∧ ∃ ν ρ, StOk K Z0 H0 ν ρ σ' H' ∧ W m' ρ, fun σ' H' z => z, H0, ν1, ρ1, _, Xd, S1.same g2, g1, ⟨fun ν ρ σ H a S => ?_, fun ν ρ σ H a S => ok.nx ν ρ σ H a S, fun ν ρ σ H a S => ?_, ok.rt⟩, x⟩
    · obtain ⟨m', hm, w'⟩ := a; exact ⟨m', hm, ν, ρ, S, w'⟩
    · obtain ⟨m', hm, w'⟩ := a; exact ⟨m', hm, ν, ρ, S, w'⟩
  | false =>
    rw [if_neg Bool.false_ne_true] at g1 ⊢
    exact ok.nx _ _ _ _ g1 (S1.same g2)⟩
end
end DL

namespace DL
open PySem PySem.Spec PyProof.Rows L2
/-! ### what a name is bound to -/
abbrev TGD := D → Ren → (Ren → Prop) → Prop
abbrev TGsD := List D → Ren → (Ren → Prop) → Prop
def noOwn (ρ : Ren) : Prop := ∀ (i : Nat) d, ρ[i]? ≠ some (some (true, d))
theorem noOwn_set {ρ : Ren} (h : noOwn ρ) (i : Nat) (d : D) : noOwn (ρ.set i (some (false, d))) := fun j e z => by
  rcases set_get z with ⟨_, z, _⟩ | ⟨_, z⟩
  · cases z
  · exact h j e z
def Agr (T : List Nat) (ρ ρ' : Ren) : Prop := ρ'.length = ρ.length ∧ ∀ i, i ∉ T → ρ'[i]? = ρ[i]?
def BndOk (K : PySem.W.Frag) (g : TG) (T : List Nat) (bnd : TGD) : Prop := ∀ (H0 : Hp) (ν : Nat → List Addr) (ρ : Ren) (σ : L2.St) (H : Hp) (v : V) (d : D) (Qd : Ren → Prop) (Q : L2.St → Hp → Prop), StOk K Z0 H0 ν ρ σ H → Dn K (hid (Hd Z0 ν) H) v d → bnd d ρ Qd →
  (∀ ρ' σ', Qd ρ' → StOk K Z0 H0 ν ρ' σ' H → Agr T ρ ρ' → (noOwn ρ → noOwn ρ') → Q σ' H) → g v σ H Q
def BndsOk (K : PySem.W.Frag) (g : TGs) (T : List Nat) (bnd : TGsD) : Prop := ∀ (H0 : Hp) (ν : Nat → List Addr) (ρ : Ren) (σ : L2.St) (H : Hp) (vs : List V) (ds : List D) (Qd : Ren → Prop) (Q : L2.St → Hp → Prop), StOk K Z0 H0 ν ρ σ H → Dns K (hid (Hd Z0 ν) H) vs ds → bnd ds ρ Qd →
  (∀ ρ' σ', Qd ρ' → StOk K Z0 H0 ν ρ' σ' H → Agr T ρ ρ' → (noOwn ρ → noOwn ρ') → Q σ' H) → g vs σ H Q
structure DG (X : Cx) (K : PySem.W.Frag) (tg : Expr) (T : List Nat) (bnd : TGD) : Prop where
  ex : ∃ g, QG X tg g ∧ BndOk K g T bnd
structure DGs (X : Cx) (K : PySem.W.Frag) (tg : List Expr) (T : List Nat) (bnd : TGsD) : Prop where
  ex : ∃ g, QGs X tg g ∧ BndsOk K g T bnd
def bName (i : Nat) : TGD := fun d ρ Q => Q (ρ.set i (some (false, d)))
def bNil : TGsD := fun ds ρ Q => ds = [] ∧ Q ρ
def bCons (b : TGD) (bs : TGsD) : TGsD := fun ds ρ Q => match ds with
  | d :: r => b d ρ fun ρ' => bs r ρ' Q
  | [] => False
def bTup (n : Nat) (bs : TGsD) : TGD := fun d ρ Q => match d with
  | .tuple ds => ds.length = n ∧ bs ds ρ Q
  | _ => False
section
variable {X : Cx} {K : PySem.W.Frag} {E : XK} {pos : Pos}
theorem Agr.trans {T U : List Nat} {a b c : Ren} (h : Agr T a b) (g : Agr U b c) : Agr (T ++ U) a c := ⟨g.1.trans h.1, fun i hi => by
  rw [List.mem_append, not_or] at hi
  rw [g.2 i hi.2, h.2 i hi.1]⟩
theorem dpgn (i : Nat) {x : Str} (hN : X.N.Nodup) (hi : X.N[i]? = some x := by rfl) (hx : Loc X.env.scope x := by first | exact Or.inl rfl | exact Or.inr rfl) (hf : X.fn x = true ∨ X.env.scope.names.lookup x = some .local := by first | exact .inl rfl | exact .inr rfl | assumption) : DG X K (.Name x pos) [i] (bName i) :=
  ⟨_, qpgn i hN hi hx hf, fun H0 ν ρ σ H v d Qd Q S h b q => q _ _ b (S.setOld i h) ⟨List.length_set, fun j hj => List.getElem?_set_ne (by simpa using Ne.symm (by simpa using hj))⟩ fun n => noOwn_set n i d⟩
theorem dpgs_nil : DGs X K [] [] bNil := ⟨_, qpgs_nil, fun H0 ν ρ σ H vs ds Qd Q S h b q => by
  obtain ⟨rfl, b⟩ := b
  cases h
  exact ⟨rfl, q _ _ b S ⟨rfl, fun _ _ => rfl⟩ id⟩⟩
theorem dpgs_cons {e : Expr} {es : List Expr} {T U : List Nat} {b : TGD} {bs : TGsD} (h1 : DG X K e T b) (h2 : DGs X K es U bs) (hs : (assignEach (e :: es) X.env).map (·.2) = assign e X.env :: (assignEach es X.env).map (·.2) := by rfl) : DGs X K (e :: es) (T ++ U) (bCons b bs) := by
  obtain ⟨g, q1, o1⟩ := h1.ex
  obtain ⟨gs, q2, o2⟩ := h2.ex
  refine ⟨_, qpgs_cons q1 q2 hs, fun H0 ν ρ σ H vs ds Qd Q S h b q => ?_⟩
  cases h with
  | nil => exact b.elim
  | cons h r =>
    refine ⟨_, _, rfl, o1 H0 ν ρ σ H _ _ _ _ S h b fun ρ' σ' b' S' A n1 => ?_⟩
    exact o2 H0 ν ρ' σ' H _ _ _ _ S' r b' fun ρ'' σ'' b'' S'' A' n2 => q _ _ b'' S'' (A.trans A') fun n => n2 (n1 n)
theorem dpg_tup (n : Nat) {es : List Expr} {k : Nat} {T : List Nat} {bs : TGsD} (hK : X.K = K) (hc : X.calm = true) (h : DGs X K es T bs) (hn : (assignEach es X.env).length = n) (hst : (assignEach es X.env).findIdx? (·.1) = none) : DG X K (.Tuple es k pos) T (bTup n bs) := by
  obtain ⟨gs, q1, o1⟩ := h.ex
  refine ⟨_, qpg_tupK K n hK hc q1 hn hst, fun H0 ν ρ σ H v d Qd Q S h b q => ?_⟩
  unfold bTup at b
  split at b
  · obtain ⟨a, us, rfl, g1, g2⟩ := dns_of_tup h
    exact ⟨a, us, rfl, Same.tup hid_same g1, by rw [g2.length]; exact b.1, o1 H0 ν ρ σ H _ _ _ _ S g2 b.2 q⟩
  · exact b.elim
end
/-! ### iterators -/
def ItOk (K : PySem.W.Frag) (F0 : Hp) (J : It) (ds : List D) : Prop := ∀ (W : Addr → Prop) (H2 : Hp), (∀ a, W a → Mu H2 a) → Same F0 (hid W H2) →
  J.stop ds.length H2 ∧ ∀ i d, ds[i]? = some d → J.go i H2 ∧ ∀ x H', J.yld i H2 x H' → Same H2 H' ∧ Dn K (hid W H') x d
abbrev TDI := Ren → (List D → Bool → Prop) → XD → Prop
/-- what the lists that are walked lie in: what is not ours, or all -/
noncomputable def fz (b : Bool) (ν : Nat → List Addr) (H : Hp) : Hp := if b = true then hid (Hd Z0 ν) H else H
def LI (K : PySem.W.Frag) (E : XK) (t : TDI) : TI := fun σ H R => ∃ H0 ν ρ Qd Xd, StOk K Z0 H0 ν ρ σ H ∧ t ρ Qd Xd ∧ (∀ ds b J H1, Qd ds b → Same H H1 → ItOk K (fz b ν H1) J ds → R J H1) ∧ ∀ C H', Xd C → Same H0 H' → E (.ref C) none H'
structure DI (X : Cx) (K : PySem.W.Frag) (E : XK) (tg e : Expr) (t : TDI) : Prop where
  q : QI X tg e (LI K E t)
theorem qi_imp {X : Cx} {tg e : Expr} {t t' : TI} (h : QI X tg e t) (i : ∀ σ H Q, t' σ H Q → t σ H Q) : QI X tg e t' := ⟨fun pins s σ H Q I w => h.h pins s σ H Q I (i σ H Q w)⟩
section
variable {X : Cx} {K : PySem.W.Frag} {E : XK} {pos : Pos} {tg l : Expr} {te : TD} {ta : TDA}
theorem itok_list {F0 : Hp} {a : Addr} {us : List V} {ds : List D} (h : F0 a = some (.lst us)) (r : Dns K F0 us ds) : ItOk K F0 (Itl K a) ds := fun W H2 hl sm => by
  have h2 : H2 a = some (.lst us) := (of_hid (sm _ _ h)).1
  refine ⟨⟨us, SqL.of h2, by rw [r.length]; exact Nat.le_refl _⟩, fun i d hd => ?_⟩
  obtain ⟨u, h3, h4⟩ := r.get hd
  refine ⟨⟨us, u, SqL.of h2, h3⟩, fun x H' y => ?_⟩
  obtain ⟨rfl, y⟩ := y
  have := y us (SqL.of h2)
  rw [h3] at this; cases this
  exact ⟨Same.refl _, Dn.same sm h4⟩
theorem itok_tup {F0 : Hp} {a : Addr} {us : List V} {ds : List D} (h : SqT K F0 a us) (r : Dns K F0 us ds) : ItOk K F0 (Itt K a) ds := fun W H2 hl sm => by
  have h2 : SqT K H2 a us := Same.tup hid_same (Same.tup sm h)
  refine ⟨⟨us, h2, by rw [r.length]; exact Nat.le_refl _⟩, fun i d hd => ?_⟩
  obtain ⟨u, h3, h4⟩ := r.get hd
  refine ⟨⟨us, u, h2, h3⟩, fun x H' y => ?_⟩
  obtain ⟨rfl, y⟩ := y
  have := y us h2
  rw [h3] at this; cases this
  exact ⟨Same.refl _, Dn.same sm h4⟩
theorem res_fz {ν : Nat → List Addr} {Hs H : Hp} {k : Kd} {v : V} {d : D} (hl : ∀ a, Hd Z0 ν a → Mu H a) (hn : ∀ a, Hd Z0 ν a → Mu Hs a) (h : Res K Z0 ν Hs H k v d) : Dn K (fz k.isOld ν H) v d := by
  unfold fz
  split
  · exact h.old hl hn ‹_›
  · exact h.den
/-- over a list -/
def iL (te : TD) : TDI := fun ρ Q Xd => te ρ (fun d k => match d with
  | .list ds => Q ds k.isOld
  | _ => False) Xd
theorem dpi_list (hK : X.K = K) (hl : DE X K E l te) : DI X K E tg l (iL te) := ⟨qi_imp (qpi_listK K hK hl.q) fun σ H R h => by
  obtain ⟨H0, ν, ρ, Qd, Xd, S, h1, q, x⟩ := h
  refine ⟨H0, ν, ρ, _, Xd, S, h1, fun d k v H' g1 g2 g3 => ?_, x⟩
  cases d with
  | list ds =>
    have hf := res_fz (S.same g2).hl S.hl g3
    obtain ⟨a, us, rfl, q1, q2⟩ := dns_of_lst hf
    have q0 : H' a = some (.lst us) := by unfold fz at q1; split at q1; exact (of_hid q1).1; exact q1
    exact ⟨a, rfl, ⟨us, SqL.of q0⟩, q ds _ _ H' g1 g2 (itok_list q1 q2)⟩
  | _ => exact g1.elim⟩
def iT (te : TD) : TDI := fun ρ Q Xd => te ρ (fun d k => match d with
  | .tuple ds => Q ds k.isOld
  | _ => False) Xd
theorem dpi_tup (hK : X.K = K) (hl : DE X K E l te) : DI X K E tg l (iT te) := ⟨qi_imp (qpi_tupK K hK hl.q) fun σ H R h => by
  obtain ⟨H0, ν, ρ, Qd, Xd, S, h1, q, x⟩ := h
  refine ⟨H0, ν, ρ, _, Xd, S, h1, fun d k v H' g1 g2 g3 => ?_, x⟩
  cases d with
  | tuple ds =>
    have hf := res_fz (S.same g2).hl S.hl g3
    obtain ⟨a, us, rfl, q1, q2⟩ := dns_of_tup hf
    have q0 : SqT K H' a us := by unfold fz at q1; split at q1; exact Same.tup hid_same q1; exact q1
    exact ⟨a, rfl, ⟨us, q0⟩, q ds _ _ H' g1 g2 (itok_tup q1 q2)⟩
  | _ => exact g1.elim⟩
def rngD (lo : Int) (n : Nat) : List D := (List.range n).map fun (i : Nat) => PyData.int (lo + i)
theorem itok_rng {F0 : Hp} {lo : Int} {n : Nat} : ItOk K F0 (Itr lo n) (rngD lo n) := fun W H2 hl sm => by
  refine ⟨?_, fun i d hd => ?_⟩
  · show n ≤ _
    unfold rngD; rw [List.length_map, List.length_range]; exact Nat.le_refl _
  · unfold rngD at hd
    rw [List.getElem?_map] at hd
    cases e : (List.range n)[i]? with
    | none => rw [e] at hd; cases hd
    | some j =>
      rw [e] at hd; cases hd
      obtain ⟨h1, h2⟩ := List.getElem?_eq_some_iff.mp e
      rw [List.getElem_range] at h2
      subst h2
      rw [List.length_range] at h1
      refine ⟨h1, fun x H' y => ?_⟩
      obtain ⟨rfl, rfl⟩ := y
      exact ⟨Same.refl _, .int _⟩
def iR1 (ta : TDA) : TDI := fun ρ Q Xd => ta ρ (fun ds _ => match ds with
  | [.int j] => -(2 ^ 62) ≤ j ∧ j < 2 ^ 62 ∧ Q (rngD 0 j.toNat) true
  | _ => False) Xd
def iR2 (ta : TDA) : TDI := fun ρ Q Xd => ta ρ (fun ds _ => match ds with
  | [.int i, .int j] => (-(2 ^ 62) ≤ i ∧ i < 2 ^ 62 ∧ -(2 ^ 62) ≤ j ∧ j < 2 ^ 62) ∧ Q (rngD i (j - i).toNat) true
  | _ => False) Xd
theorem dpi_range1 {a : Expr} {p : Pos} (hg : Gl X "range") (hm : X.mg "range" = none) (ha : DA X K E [a] ta) (hs : starEach [a] X.env = [(false, eval a X.env)] := by rfl) : DI X K E tg (.Call (.Name "range" p) [a] [] pos) (iR1 ta) := ⟨qi_imp (qpi_range1 hg hm ha.q hs) fun σ H R h => by
  obtain ⟨H0, ν, ρ, Qd, Xd, S, h1, q, x⟩ := h
  refine ⟨H0, ν, ρ, _, Xd, S, h1, fun ds k vs H' g1 g2 g3 => ?_, x⟩
  split at g1
  · obtain ⟨v, rfl, h2⟩ := dns1 g3.dens
    exact ⟨_, by rw [dn_int h2], g1.1, g1.2.1, q _ _ _ H' g1.2.2 g2 itok_rng⟩
  · exact g1.elim⟩
end
end DL

namespace DL
open PySem PySem.Spec PyProof.Rows L2
section
variable {X : Cx} {K : PySem.W.Frag} {E : XK} {pos : Pos} {tg l : Expr} {te : TD} {ta : TDA}
/-- numbered items -/
def enumD : Nat → List D → List D
  | _, [] => []
  | i, d :: r => .tuple [.int i, d] :: enumD (i + 1) r
def iEn (ta : TDA) : TDI := fun ρ Q Xd => ta ρ (fun ds k => match ds with
  | [.list xs] => Q (enumD 0 xs) k.isOld
  | _ => False) Xd
def zipD : List D → List D → List D
  | d :: r, e :: s => .tuple [d, e] :: zipD r s
  | _, _ => []
def iZp (ta : TDA) : TDI := fun ρ Q Xd => ta ρ (fun ds k => match ds with
  | [.list xs, .list ys] => Q (zipD xs ys) k.isOld
  | _ => False) Xd
/-! ### for -/
def dFor (ti : TDI) (bnd : TGD) (tb : TSD) : TSD := fun Dd ρ Xd => ti ρ (fun ds b => b = true ∧ ∃ W : Nat → Ren → Prop, W 0 ρ ∧ (∀ i d ρ, ds[i]? = some d → W i ρ → bnd d ρ fun ρ' => tb { Dd with nx := W (i + 1), ct := W (i + 1), bk := Dd.nx } ρ' Xd) ∧ ∀ ρ, W ds.length ρ → Dd.nx ρ) Xd
theorem dps_for {iter : Expr} {body : List Stmt} {ti : TDI} {T : List Nat} {bnd : TGD} {tb : TSD} (hp : PassesOwn (model X.prog X.w) X.A X.env X.xe) (hc : X.calm = true) (hi : DI X K E tg iter ti) (hg : DG X K tg T bnd) (hb : DSs X K E body tb) (hs : ∀ x, foldedSetIterable iter X.env x = pure x := by intro _; rfl) :
    DS X K E (.For tg iter body [] pos) (dFor ti bnd tb) := by
  obtain ⟨g, qg, og⟩ := hg.ex
  refine ⟨qs_imp (qps_for hp hc hi.q qg hb.q hs) fun En σ H h => ?_⟩
  obtain ⟨H0, ν, ρ, Dd, Xd, S, h1, ok, x⟩ := h
  refine ⟨H0, ν, ρ, _, Xd, S, h1, fun ds b J H1 g1 e1 it => ?_, x⟩
  obtain ⟨rfl, W, w0, step, done⟩ := g1
  have S1 := (S.same e1).high
  have eb : Same H0 (hid (Hd Z0 ν) H1) := (S.same e1).base
  have ok1 := ok.high eb
  have x1 : ∀ C H', Xd C → Same (hid (Hd Z0 ν) H1) H' → E (.ref C) none H' := fun C H' a b => x C H' a (eb.trans b)
  have it : ItOk K (hid (Hd Z0 ν) H1) J ds := it
  refine ⟨fun i m σ H => m = ds.length - i ∧ i ≤ ds.length ∧ ∃ ν' ρ', StOk K Z0 (hid (Hd Z0 ν) H1) ν' ρ' σ H ∧ W i ρ', ⟨ds.length, by simp, Nat.zero_le _, ν, ρ, S1, w0⟩, ?_⟩
  rintro i m σ2 H2 ⟨rfl, hi, ν2, ρ2, S2, w2⟩
  obtain ⟨i1, i2⟩ := it (Hd Z0 ν2) H2 S2.hl S2.base
  by_cases hlt : i < ds.length
  · obtain ⟨j1, j2⟩ := i2 i ds[i] (List.getElem?_eq_getElem hlt)
    refine .inr ⟨j1, fun σ' H' => ∃ ν' ρ', StOk K Z0 (hid (Hd Z0 ν) H1) ν' ρ' σ' H' ∧ W (i + 1) ρ', fun σ' H' ⟨ν', ρ', S', w'⟩ => ⟨_, by omega, rfl, hlt, ν', ρ', S', w'⟩, fun y H' hy => ?_⟩
    obtain ⟨k1, k2⟩ := j2 y H' hy
    refine og _ ν2 ρ2 σ2 H' y _ _ _ (S2.same k1) k2 (step i _ ρ2 (List.getElem?_eq_getElem hlt) w2) fun ρ3 σ3 b3 S3 A _ => ?_
    exact ⟨_, ν2, ρ3, _, Xd, S3, b3, ⟨fun ν ρ σ H a S => ⟨ν, ρ, S, a⟩, fun ν ρ σ H a S => ok1.nx ν ρ σ H a S, fun ν ρ σ H a S => ⟨ν, ρ, S, a⟩, ok1.rt⟩, x1⟩
  · have e : i = ds.length := by omega
    subst e
    exact .inl ⟨i1, ok1.nx _ _ _ _ (done ρ2 w2) S2⟩
end
end DL

namespace DL
open PySem PySem.Spec PyProof.Rows L2
/-! ### comprehensions -/
abbrev Els := List (D × Bool)
abbrev TB := Ren → Els → (Els → Prop) → Prop
def Xf : XD := fun _ => False
structure In (K : PySem.W.Frag) (Hs Hm H0 : Hp) (ν : Nat → List Addr) (acc : Addr) (ρ : Ren) (σ : L2.St) (H : Hp) (es : Els) : Prop where
  st : StOk K Z0 H0 ν ρ σ H
  sm : Same Hm H
  nm : Hm acc = none
  hs : ∃ o, Hs acc = some o
  sh : ∀ a, H a = none → Hs a = none
  hd : ∃ j, acc ∈ ν j
  no : noOwn ρ
  ac : ∃ us, H acc = some (.lst us) ∧ Dns K (hid (Hd Z0 ν) H) us (es.map (·.1)) ∧ (es.all (·.2) = true → ∃ ms, Ows K H us (es.map (·.1)) ms ∧ ms.Nodup ∧ ∀ a ∈ ms, Hs a = none)
section
variable {K : PySem.W.Frag} {Hs Hm H0 H H' : Hp} {ν : Nat → List Addr} {acc : Addr} {ρ ρ' : Ren} {σ : L2.St} {es : Els}
theorem In.same (I : In K Hs Hm H0 ν acc ρ σ H es) (e : Same H H') : In K Hs Hm H0 ν acc ρ σ H' es := by
  obtain ⟨us, h1, h2, h3⟩ := I.ac
  refine ⟨I.st.same e, I.sm.trans e, I.nm, I.hs, fun a h => I.sh a (e.gone h), I.hd, I.no, us, e _ _ h1, Dns.same (hid_mono e) h2, fun q => ?_⟩
  obtain ⟨ms, g1, g2, g3⟩ := h3 q
  exact ⟨ms, g1.same e, g2, g3⟩
theorem In.ren {σ' : L2.St} (I : In K Hs Hm H0 ν acc ρ σ H es) (S : StOk K Z0 H0 ν ρ' σ' H) (no : noOwn ρ') : In K Hs Hm H0 ν acc ρ' σ' H es := ⟨S, I.sm, I.nm, I.hs, I.sh, I.hd, no, I.ac⟩
theorem ows_snoc {vs : List V} {ds : List D} {v : V} {d : D} {ns ms : List Addr} (h : Ow K H v d ns) (r : Ows K H vs ds ms) : Ows K H (vs ++ [v]) (ds ++ [d]) (ms ++ ns) := by
  induction vs generalizing ds ms with
  | nil =>
    cases r
    rw [List.nil_append, List.nil_append, List.nil_append]
    have := Ows.cons h (.nil (K := K) (H := H))
    rw [List.append_nil] at this; exact this
  | cons u us ih =>
    cases r with
    | cons a b => rw [List.append_assoc]; exact .cons a (ih b)
theorem StOk.updH {ws : List V} (S : StOk K Z0 H0 ν ρ σ H) (hd : ∃ j, acc ∈ ν j) (no : noOwn ρ) : StOk K Z0 H0 ν ρ σ (upd H acc (.lst ws)) where
  sm := by obtain ⟨j, hj⟩ := hd; exact S.sm.put (S.fr j acc hj).1
  len := S.len
  sl := fun i b d h => by
    obtain ⟨v, h1, h2⟩ := S.sl i b d h
    refine ⟨v, h1, ?_⟩
    cases b with
    | true => exact absurd h (no i d)
    | false =>
      refine Dn.same (fun a o ha => ?_) h2
      obtain ⟨g1, g2⟩ := of_hid ha
      have : a ≠ acc := fun z => g2 (.inr (by rw [z]; exact hd))
      exact hid_of (by rw [upd_ne this]; exact g1) g2
  nd := S.nd
  dj := S.dj
  fr := fun i a h => by
    obtain ⟨g1, g2, us, g3⟩ := S.fr i a h
    by_cases z : a = acc
    · subst z; exact ⟨g1, g2, Mu.lst upd_same⟩
    · exact ⟨g1, g2, us, by rw [upd_ne z]; exact g3⟩
  zf := fun a h => h.elim
theorem In.emit {He : Hp} {k : Kd} {v : V} {d : D} (I : In K Hs Hm H0 ν acc ρ σ H es) (e : Same H H') (r : Res K Z0 ν H H' k v d) (hk : (if flat d = true then Kd.own [] else k).isOld = true) (b : Bool) (hb : b = true → (if flat d = true then Kd.own [] else k) = .own []) :
    ∃ us, H' acc = some (.lst us) ∧ us.length = es.length ∧ In K Hs Hm H0 ν acc ρ σ (upd H' acc (.lst (us ++ [v]))) (es ++ [(d, b)]) := by
  have I' := I.same e
  obtain ⟨us, h1, h2, h3⟩ := I'.ac
  have hl := I'.st.hl
  have r' : Res K Z0 ν H H' (if flat d = true then Kd.own [] else k) v d := by
    split
    · exact Res.flat r.den ‹_› hl _
    · exact r
  generalize (if flat d = true then Kd.own [] else k) = k' at hk hb r'
  refine ⟨us, h1, by rw [h2.length, List.length_map], I'.st.updH I'.hd I'.no, I'.sm.put I'.nm, I'.nm, I'.hs, fun a h => ?_, I'.hd, I'.no, us ++ [v], upd_same, ?_, fun q => ?_⟩
  · by_cases z : a = acc
    · subst z; rw [upd_same] at h; cases h
    · rw [upd_ne z] at h; exact I'.sh a h
  · rw [List.map_append]
    have ho := r'.old hl I.st.hl hk
    have all : Dns K (hid (Hd Z0 ν) H') (us ++ [v]) (es.map (·.1) ++ [d]) := h2.append (.cons ho .nil)
    refine Dns.same (fun a o ha => ?_) all
    obtain ⟨g1, g2⟩ := of_hid ha
    have : a ≠ acc := fun z => g2 (.inr (by rw [z]; exact I'.hd))
    exact hid_of (by rw [upd_ne this]; exact g1) g2
  · rw [List.all_append, Bool.and_eq_true] at q
    obtain ⟨q1, q2⟩ := q
    have hb' := hb (by simpa using q2)
    subst hb'
    obtain ⟨ms, g1, g2, g3⟩ := h3 q1
    obtain ⟨ns, k1, k2, k3⟩ := r'
    have frn : ∀ a ∈ ns, H a = none := fun a ha => by
      rcases k3 a ha with z | ⟨j, z, _⟩
      · exact z
      · cases z
    obtain ⟨us0, _, _, h30⟩ := I.ac
    obtain ⟨ms0, g10, g20, g30⟩ := h30 q1
    refine ⟨ms0 ++ ns, ?_, List.nodup_append.mpr ⟨g20, k2, fun x hx y hy e' => ?_⟩, fun a ha => ?_⟩
    · have hu : us0 = us := by
        obtain ⟨us1, z1, _⟩ := I.ac
        have z2 := e _ _ z1
        rw [h1] at z2; cases z2
        rename_i hh _
        have : H acc = some (.lst us0) := by assumption
        rw [z1] at this; cases this; rfl
      subst hu
      rw [List.map_append]
      have hacc : ∀ a ∈ ms0 ++ ns, a ≠ acc := fun a ha z => by
        obtain ⟨o, ho⟩ := I.hs
        rcases List.mem_append.mp ha with ha | ha
        · have := g30 a ha; rw [z, ho] at this; cases this
        · have := I.sh a (frn a ha); rw [z, ho] at this; cases this
      refine (ows_snoc k1 (g10.same e)).kept ⟨fun a ha => upd_ne (hacc a ha), fun a o ha hn => ?_⟩
      have : a ≠ acc := fun z => by rw [z, h1] at ha; cases ha; cases (show true = false from hn)
      rw [upd_ne this]; exact ha
    · subst e'
      obtain ⟨ws, z⟩ := g10.there x hx
      rw [frn x hy] at z; cases z
    · rcases List.mem_append.mp ha with ha | ha
      · exact g30 a ha
      · exact I.sh a (frn a ha)
end
end DL

namespace DL
open PySem PySem.Spec PyProof.Rows L2
def go (f : D → Els → (Els → Prop) → Prop) : List D → Els → (Els → Prop) → Prop
  | [], es, Q => Q es
  | d :: r, es, Q => f d es fun es' => go f r es' Q
def LB (K : PySem.W.Frag) (acc : Addr) (T : List Nat) (tb : TB) : TS := fun En σ H => ∃ Hs Hm H0 ν ρ es Qd, In K Hs Hm H0 ν acc ρ σ H es ∧ tb ρ es Qd ∧ ∀ es' ρ' σ' H', Qd es' → In K Hs Hm H0 ν acc ρ' σ' H' es' → Agr T ρ ρ' → En.nx σ' H'
def LG (K : PySem.W.Frag) (T : List Nat) (bnd : TGD) : TG := fun v σ H Q => ∃ H0 ν ρ d Qd, StOk K Z0 H0 ν ρ σ H ∧ Dn K (hid (Hd Z0 ν) H) v d ∧ bnd d ρ Qd ∧ ∀ ρ' σ', Qd ρ' → StOk K Z0 H0 ν ρ' σ' H → Agr T ρ ρ' → (noOwn ρ → noOwn ρ') → Q σ' H
structure DB (Y : Cx) (K : PySem.W.Frag) (elt : Expr) (gens : List Comprehension) (scope : Scope) (pos : Pos) (d : Nat) (acc : Addr) (T : List Nat) (tb : TB) : Prop where
  q : QB Y elt gens scope pos d acc (LB K acc T tb)
structure DTs (Y : Cx) (K : PySem.W.Frag) (ifs : List Expr) (t : TDT) : Prop where
  q : QTs Y ifs (LT K E0 t)
theorem qg_imp {X : Cx} {e : Expr} {g g' : TG} (h : QG X e g) (i : ∀ v σ H Q, g' v σ H Q → g v σ H Q) : QG X e g' := ⟨fun pins s σ H x u Q I r w => h.h pins s σ H x u Q I r (i x σ H Q w)⟩
theorem qb_imp {Y : Cx} {elt : Expr} {gens : List Comprehension} {scope : Scope} {pos : Pos} {d : Nat} {acc : Addr} {t t' : TS} (h : QB Y elt gens scope pos d acc t) (i : ∀ En σ H, t' En σ H → t En σ H) : QB Y elt gens scope pos d acc t' := ⟨fun pins s σ H D I w => h.h pins s σ H D I (i D σ H w)⟩
theorem DG.lift {X : Cx} {K : PySem.W.Frag} {tg : Expr} {T : List Nat} {bnd : TGD} (h : DG X K tg T bnd) : QG X tg (LG K T bnd) := by
  obtain ⟨g, q, o⟩ := h.ex
  refine qg_imp q fun v σ H Q w => ?_
  obtain ⟨H0, ν, ρ, d, Qd, S, h1, h2, h3⟩ := w
  exact o H0 ν ρ σ H v d Qd Q S h1 h2 h3
def dTrue : TDT := fun _ Q _ => Q true
def isOwnK : Kd → Bool
  | .own [] => true
  | _ => false
def eff (d : D) (k : Kd) : Kd := if flat d = true then Kd.own [] else k
def dEmit (te : TD) : TB := fun ρ es Q => te ρ (fun d k => es.length < 1000000 ∧ (eff d k).isOld = true ∧ Q (es ++ [(d, isOwnK (eff d k))])) Xf
def bFor (ti : TDI) (T : List Nat) (bnd : TGD) (tif : TDT) (tb : TB) : TB := fun ρ es Q => ti ρ (fun ds b => b = true ∧ go (fun d es Q' => bnd d (dropS ρ T) fun ρ' => tif ρ' (fun c => if c = true then tb ρ' es Q' else Q' es) Xf) ds es Q) Xf
section
variable {Y : Cx} {K : PySem.W.Frag} {pos : Pos} {elt : Expr} {gens : List Comprehension} {scope : Scope} {dep : Nat} {acc : Addr}
theorem dpts_nil : DTs Y K [] dTrue := ⟨⟨fun pins s σ H Q I h => qpts_nil.h pins s σ H Q I (by
  obtain ⟨H0, ν, ρ, Qd, Xd, S, h1, q, x⟩ := h
  exact q _ _ h1 (Same.refl H))⟩⟩
theorem dpts_one {c : Expr} {t : TDT} (h : DT Y K E0 c t) : DTs Y K [c] t := ⟨qpts_one h.q⟩
theorem dpb_emit {te : TD} (hg : gens[dep + 1]? = none) (hx : Y.xe = fun _ _ => False) (he : DE Y K E0 elt te) : DB Y K elt gens scope pos dep acc [] (dEmit te) := ⟨qb_imp (qpb_emit hg hx he.q) fun En σ H h => by
  obtain ⟨Hs, Hm, H0, ν, ρ, es, Qd, I, h1, q⟩ := h
  refine ⟨H0, ν, ρ, _, _, I.st, h1, fun d k v H' g1 g2 g3 => ?_, fun C H' z _ => z.elim⟩
  obtain ⟨g0, g4, g5⟩ := g1
  obtain ⟨us, k1, k2, I'⟩ := I.emit (He := H) g2 g3 g4 (isOwnK (eff d k)) (fun z => by
    change eff d k = _
    generalize eff d k = k' at z
    unfold isOwnK at z
    split at z
    · rfl
    · cases z)
  exact ⟨us, k1, by rw [k2]; exact Nat.lt_of_lt_of_le g0 million, q _ _ _ _ g5 I' ⟨rfl, fun _ _ => rfl⟩⟩⟩
theorem noOwn_drop {ρ : Ren} {T : List Nat} (h : noOwn ρ) : noOwn (dropS ρ T) := fun i d z => h i d (dropS_get T z).2
theorem StOk.agr {H0 : Hp} {ν : Nat → List Addr} {ρ ρ' : Ren} {σ : L2.St} {H : Hp} {T : List Nat} (S : StOk K Z0 H0 ν ρ' σ H) (A : Agr T ρ ρ') : StOk K Z0 H0 ν (dropS ρ T) σ H :=
  ⟨S.sm, by rw [dropS_len, S.len, A.1], fun i b d h => by
    obtain ⟨h1, h2⟩ := dropS_get T h
    exact S.sl i b d (by rw [A.2 i h1]; exact h2), S.nd, S.dj, S.fr, S.zf⟩
theorem Agr.drop {ρ : Ren} {T : List Nat} : Agr T ρ (dropS ρ T) := by
  refine ⟨dropS_len T ρ, fun i hi => ?_⟩
  induction T generalizing ρ with
  | nil => rfl
  | cons j r ih =>
    rw [List.mem_cons, not_or] at hi
    show (dropS (ρ.set j none) r)[i]? = _
    rw [ih hi.2, List.getElem?_set_ne (Ne.symm hi.1)]
theorem Agr.same {ρ ρ' ρ'' : Ren} {T : List Nat} (h : Agr T ρ ρ') (g : Agr T ρ' ρ'') : Agr T ρ ρ'' := ⟨g.1.trans h.1, fun i hi => by rw [g.2 i hi, h.2 i hi]⟩
theorem Agr.less {ρ ρ' : Ren} {T U : List Nat} (h : Agr T ρ ρ') (s : ∀ i ∈ T, i ∈ U) : Agr U ρ ρ' := ⟨h.1, fun i hi => h.2 i fun z => hi (s i z)⟩
end
section
variable {Y : Cx} {K : PySem.W.Frag} {pos : Pos} {elt : Expr} {gens : List Comprehension} {scope : Scope} {dep : Nat} {acc : Addr}
theorem In.agr {Hs Hm H0 H : Hp} {ν : Nat → List Addr} {ρ ρ' : Ren} {σ : L2.St} {es : Els} {T : List Nat} (I : In K Hs Hm H0 ν acc ρ' σ H es) (A : Agr T ρ ρ') (n : noOwn ρ) : In K Hs Hm H0 ν acc (dropS ρ T) σ H es := I.ren (I.st.agr A) (noOwn_drop n)
/-- a clause's loop -/
theorem go_loop {Hs Hm H0 H F0 : Hp} {ν : Nat → List Addr} {ρ : Ren} {σ : L2.St} {es : Els} {J : It} {ds : List D} {T Tb : List Nat} {bnd : TGD} {tif : TDT} {tb : TB} {Qd : Els → Prop} {En : Ends} (I : In K Hs Hm H0 ν acc ρ σ H es) (it : ItOk K F0 J ds) (hf : Same F0 H0) (hT : ∀ i ∈ T, i ∈ T ++ Tb)
    (h : go (fun d es Q' => bnd d (dropS ρ (T ++ Tb)) fun ρ' => tif ρ' (fun c => if c = true then tb ρ' es Q' else Q' es) Xf) ds es Qd)
    (q : ∀ es' ρ' σ' H', Qd es' → In K Hs Hm H0 ν acc ρ' σ' H' es' → Agr (T ++ Tb) ρ ρ' → En.nx σ' H') :
    loopT J (LG K T bnd) (tIfB (LT K E0 tif) (LB K acc Tb tb)) En σ H := by
  refine ⟨fun i m σ H => m = ds.length - i ∧ i ≤ ds.length ∧ ∃ es, In K Hs Hm H0 ν acc (dropS ρ (T ++ Tb)) σ H es ∧ go (fun d es Q' => bnd d (dropS ρ (T ++ Tb)) fun ρ' => tif ρ' (fun c => if c = true then tb ρ' es Q' else Q' es) Xf) (ds.drop i) es Qd,
    ⟨ds.length, by simp, Nat.zero_le _, es, I.ren (I.st.agr ⟨rfl, fun _ _ => rfl⟩) (noOwn_drop I.no), by simpa using h⟩, ?_⟩
  rintro i m σ2 H2 ⟨rfl, hi, es2, I2, w2⟩
  obtain ⟨i1, i2⟩ := it (Hd Z0 ν) H2 I2.st.hl (hf.trans I2.st.base)
  by_cases hlt : i < ds.length
  · obtain ⟨j1, j2⟩ := i2 i ds[i] (List.getElem?_eq_getElem hlt)
    rw [List.drop_eq_getElem_cons hlt] at w2
    have back : ∀ es3 ρ3 σ3 H3, go (fun d es Q' => bnd d (dropS ρ (T ++ Tb)) fun ρ' => tif ρ' (fun c => if c = true then tb ρ' es Q' else Q' es) Xf) (ds.drop (i + 1)) es3 Qd → In K Hs Hm H0 ν acc ρ3 σ3 H3 es3 → Agr (T ++ Tb) (dropS ρ (T ++ Tb)) ρ3 →
        ∃ es, In K Hs Hm H0 ν acc (dropS ρ (T ++ Tb)) σ3 H3 es ∧ go (fun d es Q' => bnd d (dropS ρ (T ++ Tb)) fun ρ' => tif ρ' (fun c => if c = true then tb ρ' es Q' else Q' es) Xf) (ds.drop (i + 1)) es Qd := fun es3 ρ3 σ3 H3 g3 I3 A3 => ⟨es3, I3.agr (Agr.same Agr.drop A3) I.no, g3⟩
    refine .inr ⟨j1, fun σ' H' => ∃ es, In K Hs Hm H0 ν acc (dropS ρ (T ++ Tb)) σ' H' es ∧ go (fun d es Q' => bnd d (dropS ρ (T ++ Tb)) fun ρ' => tif ρ' (fun c => if c = true then tb ρ' es Q' else Q' es) Xf) (ds.drop (i + 1)) es Qd, fun σ' H' ⟨es', a, b⟩ => ⟨_, by omega, rfl, hlt, es', a, b⟩, fun y H' hy => ?_⟩
    obtain ⟨k1, k2⟩ := j2 y H' hy
    refine ⟨H0, ν, _, _, _, (I2.same k1).st, k2, w2, fun ρ3 σ3 b3 S3 A3 n3 => ?_⟩
    have I3 := (I2.same k1).ren S3 (n3 I2.no)
    have A3' : Agr (T ++ Tb) (dropS ρ (T ++ Tb)) ρ3 := A3.less hT
    refine ⟨H0, ν, ρ3, _, _, S3, b3, fun c H4 g4 e4 => ?_, fun C H' z _ => z.elim⟩
    cases c with
    | true =>
      rw [if_pos rfl] at g4 ⊢
      exact ⟨Hs, Hm, H0, ν, ρ3, es2, _, I3.same e4, g4, fun es5 ρ5 σ5 H5 g5 I5 A5 => back es5 ρ5 σ5 H5 g5 I5 (Agr.same A3' (A5.less fun i hi => List.mem_append_right _ hi))⟩
    | false =>
      rw [if_neg Bool.false_ne_true] at g4 ⊢
      exact back es2 ρ3 σ3 H4 g4 (I3.same e4) A3'
  · have e : i = ds.length := by omega
    subst e
    rw [List.drop_length] at w2
    exact .inl ⟨i1, q es2 _ σ2 H2 w2 I2 Agr.drop⟩
end
/-! a list comprehension -/
def capR (own : List Str) (cap : List (Str × Nat)) (ρ : Ren) : Ren := own.map (fun _ => none) ++ cap.map fun p => ((ρ[p.2]?).join).map fun y => (false, y.2)
def capOk (cap : List (Str × Nat)) (ρ : Ren) : Bool := cap.all fun p => match (ρ[p.2]?).join with
  | some (true, _) => false
  | _ => true
def dLC (ti : TDI) (T : List Nat) (bnd : TGD) (tif : TDT) (tb : TB) (own : List Str) (cap : List (Str × Nat)) : TD := fun ρ Q Xd => ti ρ (fun ds b =>
  go (fun d es Q' => bnd d (dropS (capR own cap ρ) T) fun ρ' => tif ρ' (fun c => if c = true then tb ρ' es Q' else Q' es) Xf) ds [] fun es => Q (.list (es.map (·.1))) (if es.all (·.2) = true then .own [] else if (b && capOk cap ρ) = true then .old else .mix)) Xd
end DL

namespace DL
open PySem PySem.Spec PyProof.Rows L2
section
variable {K : PySem.W.Frag}
theorem capR_get {own : List Str} {cap : List (Str × Nat)} {ρ : Ren} {i : Nat} {b : Bool} {d : D} (h : (capR own cap ρ)[i]? = some (some (b, d))) : b = false ∧ ∃ p c, cap[i - own.length]? = some p ∧ own.length ≤ i ∧ ρ[p.2]? = some (some (c, d)) := by
  unfold capR at h
  by_cases hi : i < own.length
  · rw [List.getElem?_append_left (by simpa using hi), List.getElem?_map] at h
    cases e : own[i]? with
    | none => rw [e] at h; cases h
    | some _ => rw [e] at h; cases h
  · rw [List.getElem?_append_right (by simpa using Nat.le_of_not_lt hi), List.length_map, List.getElem?_map] at h
    cases e : cap[i - own.length]? with
    | none => rw [e] at h; cases h
    | some p =>
      rw [e] at h
      simp only [Option.map_some, Option.some.injEq] at h
      cases e2 : ρ[p.2]? with
      | none => rw [e2] at h; cases h
      | some x =>
        rw [e2] at h
        cases x with
        | none => cases h
        | some y => cases h; exact ⟨rfl, p, y.1, rfl, Nat.le_of_not_lt hi, e2⟩
theorem capS_get {own : List Str} {cap : List (Str × Nat)} {σ : L2.St} {i : Nat} {p : Str × Nat} {v : V} (h : cap[i - own.length]? = some p) (hi : own.length ≤ i) (hv : σ[p.2]? = some (some v)) : (capS own cap σ)[i]? = some (some v) := by
  unfold capS
  rw [List.getElem?_append_right (by simpa using hi), List.length_map, List.getElem?_map, h]
  simp [hv]
theorem capR_no {own : List Str} {cap : List (Str × Nat)} {ρ : Ren} : noOwn (capR own cap ρ) := fun i d h => by
  have := (capR_get h).1; cases this
def capN (ok : Bool) (acc : Addr) (ν : Nat → List Addr) : Nat → List Addr
  | 0 => [acc]
  | i + 1 => if ok = true then ν i else []
theorem capN_succ {ok : Bool} {acc : Addr} {ν : Nat → List Addr} {i : Nat} : capN ok acc ν (i + 1) = if ok = true then ν i else [] := rfl
theorem lc_start {own : List Str} {cap : List (Str × Nat)} {H0 H1 : Hp} {ν : Nat → List Addr} {ρ : Ren} {σ : L2.St} {acc : Addr} (S : StOk K Z0 H0 ν ρ σ H1) (ha : H1 acc = none) (ok : Bool) (hok : ok = true → capOk cap ρ = true) :
    In K (upd H1 acc (.lst [])) H1 (fz ok ν H1) (capN ok acc ν) acc (capR own cap ρ) (capS own cap σ) (upd H1 acc (.lst [])) [] := by
  have sm : Same H1 (upd H1 acc (.lst [])) := Same.new ha
  have fzs : Same (fz ok ν H1) H1 := by unfold fz; split; exact hid_same; exact Same.refl _
  have nacc : ∀ i, acc ∉ ν i := fun i z => by obtain ⟨_, _, us, q⟩ := S.fr i acc z; rw [ha] at q; cases q
  refine ⟨⟨fzs.trans sm, ?_, ?_, ?_, ?_, ?_, fun a z => z.elim⟩, sm, ha, ⟨_, upd_same⟩, fun a h => h, ⟨0, by simp [capN]⟩, capR_no, [], upd_same, .nil, fun _ => ⟨[], .nil, List.nodup_nil, fun _ z => by cases z⟩⟩
  · unfold capS capR; simp
  · intro i b d h
    obtain ⟨rfl, p, c, h1, h2, h3⟩ := capR_get h
    obtain ⟨v, g1, g2⟩ := S.sl p.2 c d h3
    refine ⟨v, capS_get h1 h2 g1, ?_⟩
    cases ok with
    | true =>
      have hc := hok rfl
      unfold capOk at hc
      have hc := List.all_eq_true.mp hc p (List.mem_of_getElem? h1)
      rw [h3] at hc
      cases c with
      | true => cases hc
      | false =>
        refine Dn.same (fun a o q => ?_) (show Dn K (hid (Hd Z0 ν) H1) v d from g2)
        obtain ⟨q1, q2⟩ := of_hid q
        refine hid_of (sm _ _ q1) fun z => ?_
        rcases z with z | ⟨j, z⟩
        · exact z
        · cases j with
          | zero => rw [show capN true acc ν 0 = [acc] from rfl, List.mem_singleton] at z; rw [z, ha] at q1; cases q1
          | succ j => exact q2 (.inr ⟨j, z⟩)
    | false =>
      have gd : Dn K H1 v d := by
        cases c with
        | true => exact Ow.den g2
        | false => exact Dn.same hid_same g2
      refine Dn.same (fun a o q => ?_) gd
      refine hid_of (sm _ _ q) fun z => ?_
      rcases z with z | ⟨j, z⟩
      · exact z
      · cases j with
        | zero => rw [show capN false acc ν 0 = [acc] from rfl, List.mem_singleton] at z; rw [z, ha] at q; cases q
        | succ j => cases z
  · intro i
    cases i with
    | zero => simp [capN]
    | succ i => rw [capN_succ]; split; exact S.nd i; exact List.nodup_nil
  · intro i j a hi hj
    cases i with
    | zero =>
      have e : a = acc := by simpa [capN] using hi
      cases j with
      | zero => rfl
      | succ j =>
        rw [capN_succ] at hj
        split at hj
        · rw [e] at hj; exact absurd hj (nacc j)
        · cases hj
    | succ i =>
      rw [capN_succ] at hi
      split at hi
      case isFalse => cases hi
      case isTrue =>
        cases j with
        | zero =>
          have e : a = acc := by simpa [capN] using hj
          rw [e] at hi; exact absurd hi (nacc i)
        | succ j =>
          rename_i hk
          rw [capN_succ, if_pos hk] at hj
          rw [S.dj i j a hi hj]
  · intro i a h
    cases i with
    | zero =>
      have e : a = acc := by simpa [capN] using h
      subst e
      exact ⟨fzs.gone ha, fun z => z, Mu.lst upd_same⟩
    | succ i =>
      rw [capN_succ] at h
      split at h
      case isFalse => cases h
      case isTrue hk =>
        obtain ⟨_, _, us, q⟩ := S.fr i a h
        refine ⟨?_, fun z => z, us, sm _ _ q⟩
        unfold fz; rw [if_pos hk]; unfold hid; rw [if_pos (.inr ⟨i, h⟩)]
theorem lc_end {H0 Hs H1 H' Hq : Hp} {ν : Nat → List Addr} {ρ ρr : Ren} {σ σr : L2.St} {acc : Addr} {es : Els} {ok : Bool} (S : StOk K Z0 H0 ν ρ σ Hs) (e1 : Same Hs H1) (ha : H1 acc = none) (I : In K (upd H1 acc (.lst [])) H1 Hq (capN ok acc ν) acc ρr σr H' es) :
    Res K Z0 ν Hs H' (if es.all (·.2) = true then .own [] else if ok = true then .old else .mix) (.ref acc) (.list (es.map (·.1))) := by
  obtain ⟨us, h1, h2, h3⟩ := I.ac
  split
  · obtain ⟨ms, g1, g2, g3⟩ := h3 ‹_›
    refine ⟨acc :: ms, .lst h1 g1, List.nodup_cons.mpr ⟨fun z => ?_, g2⟩, fun a hm => .inl ?_⟩
    · have := g3 acc z; rw [upd_same] at this; cases this
    · rcases List.mem_cons.mp hm with rfl | hm
      · exact e1.gone ha
      · have := g3 a hm
        by_cases z : a = acc
        · subst z; exact e1.gone ha
        · rw [upd_ne z] at this; exact e1.gone this
  · split
    case isTrue hk =>
      have hz : ¬ Hd Z0 ν acc := fun z => by obtain ⟨us, q⟩ := S.hl acc z; rw [e1.gone ha] at q; cases q
      refine .lst (hid_of h1 hz) (Dns.same (hid_less fun a z => ?_) h2)
      rcases z with z | ⟨j, z⟩
      · exact z.elim
      · exact .inr ⟨j + 1, by rw [capN_succ, if_pos hk]; exact z⟩
    case isFalse => exact .lst h1 (Dns.same hid_same h2)
end
section
variable {X : Cx} {K : PySem.W.Frag} {E : XK} {pos : Pos} {elt tg iter : Expr} {ifs : List Expr} {rest : List Comprehension} {scope : Scope} {ti : TDI} {T Tb : List Nat} {bnd : TGD} {tif : TDT} {tb : TB}
theorem le_lc {own : List Str} {cap : List (Str × Nat)} : ∀ σ H Q, LE K E (dLC ti (T ++ Tb) bnd tif tb own cap) σ H Q → tLC (LI K E ti) (LG K T bnd) (LT K E0 tif) (fun acc => LB K acc Tb tb) own cap σ H Q := fun σ H Q h => by
  obtain ⟨H0, ν, ρ, Qd, Xd, S, h1, q, x⟩ := h
  refine ⟨H0, ν, ρ, _, Xd, S, h1, fun ds b J H1 g1 e1 it => ?_, x⟩
  intro acc ha
  obtain ⟨ok, hk⟩ : ∃ ok, ok = (b && capOk cap ρ) := ⟨_, rfl⟩
  have I := lc_start (own := own) (S.same e1) ha ok (fun z => by rw [hk, Bool.and_eq_true] at z; exact z.2)
  have hf : Same (fz b ν H1) (fz ok ν H1) := by
    cases ok with
    | true =>
      have : b = true := by rw [Eq.comm, Bool.and_eq_true] at hk; exact hk.1
      rw [this]; exact Same.refl _
    | false => unfold fz; split; exact hid_same; exact Same.refl _
  refine go_loop I it hf (fun i hi => List.mem_append_left _ hi) g1 fun es' ρ' σ' H' a I' A => ?_
  rw [← hk] at a
  exact q _ _ _ H' a (e1.trans I'.sm) (lc_end S e1 ha I')
theorem dpe_lc (own : List Str) (cap : List (Str × Nat)) (hc : X.calm = true) (L : LcScope X scope own cap) (hi : DI X K E tg iter ti)
    (hin : ∀ (s₃ : Shared) (H₃ : Hp) (fp : List Addr) (acc : Addr), DG (X.inn scope (L2.capN own cap) s₃ H₃ fp) K tg T bnd ∧ DTs (X.inn scope (L2.capN own cap) s₃ H₃ fp) K ifs tif ∧ DB (X.inn scope (L2.capN own cap) s₃ H₃ fp) K elt (⟨tg, iter, ifs, 0⟩ :: rest) scope pos 0 acc Tb tb)
    (hs : ∀ x, foldedSetIterable iter X.env x = pure x := by intro _; rfl) : DE X K E (.ListComp elt (⟨tg, iter, ifs, 0⟩ :: rest) scope pos) (dLC ti (T ++ Tb) bnd tif tb own cap) :=
  ⟨qe_imp (qpe_lc own cap hc L hi.q (fun a b c d => ⟨(hin a b c d).1.lift, (hin a b c d).2.1.q, (hin a b c d).2.2.q⟩) hs) le_lc⟩
theorem dps_setlc {i : Nat} {y : Str} {py spos : Pos} (own : List Str) (cap : List (Str × Nat)) (hN : X.N.Nodup) (hyi : X.N[i]? = some y) (hy : X.env.scope.names.lookup y = some .local) (hc : X.calm = true) (L : LcScope X scope own cap) (hi : DI X K E tg iter ti)
    (hin : ∀ (s₃ : Shared) (H₃ : Hp) (fp : List Addr) (acc : Addr), DG (X.inn scope (L2.capN own cap) s₃ H₃ fp) K tg T bnd ∧ DTs (X.inn scope (L2.capN own cap) s₃ H₃ fp) K ifs tif ∧ DB (X.inn scope (L2.capN own cap) s₃ H₃ fp) K elt (⟨tg, iter, ifs, 0⟩ :: rest) scope pos 0 acc Tb tb)
    (hsw : swapsWith (.ListComp elt (⟨tg, iter, ifs, 0⟩ :: rest) scope pos) (some (.Name y py)) spos.line X.env = pure true := by rfl) (hs : ∀ x, foldedSetIterable iter X.env x = pure x := by intro _; rfl) :
    DS X K E (.Assign [.Name y py] (.ListComp elt (⟨tg, iter, ifs, 0⟩ :: rest) scope pos) spos) (dSet i (dLC ti (T ++ Tb) bnd tif tb own cap)) :=
  ⟨qs_imp (qps_setlc own cap hN hyi hy hc L hi.q (fun a b c d => ⟨(hin a b c d).1.lift, (hin a b c d).2.1.q, (hin a b c d).2.2.q⟩) hsw hs) fun En σ H h => by
    obtain ⟨H0, ν, ρ, Dd, Xd, S, h1, ok, x⟩ := h
    refine le_lc σ H _ ⟨H0, ν, ρ, _, Xd, S, h1, fun d k v H' g1 g2 g3 => ?_, x⟩
    obtain ⟨ν', S'⟩ := S.setK g2 g3 i
    exact ok.nx _ _ _ _ g1 S'⟩
end
end DL

namespace DL
open PySem PySem.Spec PyProof.Rows L2
section
variable {K : PySem.W.Frag} {H0 H H' : Hp} {ν : Nat → List Addr} {ρ : Ren} {σ : L2.St} {v : V} {d : D}
/-- a tree of ours is changed in its place: what is no node of it stays; nodes of the names s go over to it -/
theorem StOk.mut (S : StOk K Z0 H0 ν ρ σ H) (s : List Nat) (i : Nat) {ms : List Addr} (hi : σ[i]? = some (some v)) (hr : i < ρ.length) (k : ∀ a o, H a = some o → a ∉ ν i → H' a = some o) (h : Ow K H' v d ms) (nd : ms.Nodup) (fr : ∀ a ∈ ms, a ∈ ν i ∨ H a = none ∨ ∃ j ∈ s, a ∈ ν j) (hs : i ∉ s)
    (gone : ∀ j ∈ s, ∀ a ∈ ν j, Mu H' a) :
    StOk K Z0 H0 (fun j => if j = i then ms else if j ∈ s then [] else ν j) ((dropS ρ s).set i (some (true, d))) σ H' where
  sm := fun a o ha => k a o (S.sm a o ha) fun z => by rw [(S.fr i a z).1] at ha; cases ha
  len := by rw [List.length_set, dropS_len]; exact S.len
  sl := fun j b c hj => by
    rcases set_get hj with ⟨rfl, h1, h2⟩ | ⟨h1, h2⟩
    · cases h1
      exact ⟨v, hi, by rw [if_pos rfl]; rw [if_pos rfl]; exact h⟩
    · obtain ⟨h3, h4⟩ := dropS_get s h2
      obtain ⟨u, q1, q2⟩ := S.sl j b c h4
      refine ⟨u, q1, ?_⟩
      cases b with
      | true =>
        rw [if_pos rfl, if_neg h1, if_neg h3]
        have q2 : Ow K H u c (ν j) := q2
        refine q2.kept ⟨fun a ha => ?_, fun a o ha hn => k a o ha fun z => ?_⟩
        · obtain ⟨us, q⟩ := q2.there a ha
          rw [k a _ q fun z => h1 (S.dj j i a ha z), q]
        · exact (S.fr i a z).2.2.no ha hn
      | false =>
        refine Dn.same (fun a o ha => ?_) q2
        obtain ⟨g1, g2⟩ := of_hid ha
        refine hid_of (k a o g1 fun z => g2 (.inr ⟨i, z⟩)) fun z => ?_
        rcases z with z | ⟨l, z⟩
        · exact z
        · have z : a ∈ (if l = i then ms else if l ∈ s then [] else ν l) := z
          split at z
          · rcases fr a z with z | z | ⟨l, _, z⟩
            · exact g2 (.inr ⟨i, z⟩)
            · rw [g1] at z; cases z
            · exact g2 (.inr ⟨l, z⟩)
          · split at z
            · cases z
            · exact g2 (.inr ⟨l, z⟩)
  nd := fun j => by
    split
    · exact nd
    · split
      · exact List.nodup_nil
      · exact S.nd j
  dj := fun j l a hj hl => by
    have key : ∀ m, m ≠ i → m ∉ s → a ∈ ν m → a ∉ ms := fun m hm hms ha hz => by
      rcases fr a hz with z | z | ⟨n, hn, z⟩
      · exact hm (S.dj m i a ha z)
      · obtain ⟨_, _, us, q⟩ := S.fr m a ha; rw [z] at q; cases q
      · rw [S.dj m n a ha z] at hms; exact hms hn
    split at hj
    · split at hl
      · omega
      · split at hl
        · cases hl
        · exact absurd hj (key l ‹_› ‹_› hl)
    · split at hj
      · cases hj
      · split at hl
        · exact absurd hl (key j ‹_› ‹_› hj)
        · split at hl
          · cases hl
          · exact S.dj j l a hj hl
  fr := fun j a ha => by
    split at ha
    · have ht := h.there a ha
      rcases fr a ha with z | z | ⟨m, _, z⟩
      · exact ⟨(S.fr i a z).1, (fun q => q), ht⟩
      · exact ⟨S.sm.gone z, (fun q => q), ht⟩
      · exact ⟨(S.fr m a z).1, (fun q => q), ht⟩
    · split at ha
      · cases ha
      · obtain ⟨q1, q2, us, q3⟩ := S.fr j a ha
        exact ⟨q1, q2, us, k a _ q3 fun z => absurd (S.dj j i a ha z) ‹_›⟩
  zf := fun a h => h.elim
theorem eff_own {k : Kd} {s : List Nat} {Hs : Hp} (e : eff d k = .own s) (hl : ∀ a, Hd Z0 ν a → Mu H a) (h : Res K Z0 ν Hs H k v d) : ∃ ms, Ow K H v d ms ∧ ms.Nodup ∧ ∀ a ∈ ms, Hs a = none ∨ ∃ j ∈ s, a ∈ ν j := by
  have h' : Res K Z0 ν Hs H (eff d k) v d := by
    unfold eff
    split
    · exact Res.flat h.den ‹_› hl _
    · exact h
  rw [e] at h'
  exact h'
end
section
variable {X : Cx} {K : PySem.W.Frag} {E : XK} {pos apos cpos : Pos} {e : Expr} {te t1 t2 : TD}
/-! ### x.append(e) -/
def dApp (i : Nat) (te : TD) : TSD := fun Dd ρ Xd => ∃ ds, ρ[i]? = some (some (true, .list ds)) ∧ ds.length < 1000000 ∧ te ρ (fun d k => match eff d k with
  | .own s => i ∉ s ∧ Dd.nx ((dropS ρ s).set i (some (true, .list (ds ++ [d]))))
  | _ => False) Xd
theorem own_list {H0 H : Hp} {ν : Nat → List Addr} {ρ : Ren} {σ : L2.St} {i : Nat} {ds : List D} (S : StOk K Z0 H0 ν ρ σ H) (h : ρ[i]? = some (some (true, .list ds))) : ∃ a us ns, σ[i]? = some (some (.ref a)) ∧ H a = some (.lst us) ∧ Ows K H us ds ns ∧ ν i = a :: ns ∧ a ∉ ns ∧ ns.Nodup := by
  obtain ⟨v, h1, h2⟩ := S.sl i true _ h
  have h2 : Ow K H v (.list ds) (ν i) := h2
  have hn := S.nd i
  generalize hv : ν i = n at h2 hn
  cases h2 with
  | lst h r => exact ⟨_, _, _, h1, h, r, rfl, (List.nodup_cons.mp hn).1, (List.nodup_cons.mp hn).2⟩
theorem len_of {α : Type} {l : List α} {i : Nat} {x : α} (h : l[i]? = some x) : i < l.length := (List.getElem?_eq_some_iff.mp h).1
theorem dps_append (i : Nat) {x : Str} {px : Pos} (hK : X.K = K) (ho : QE X (.Name x px) (tVar i)) (he : DE X K E e te) (hs : starEach [e] X.env = [(false, eval e X.env)]) (hbase : attributeBase (.Name x px) "append" X.env (eval (.Name x px) X.env) = eval (.Name x px) X.env) (hline : (apos.endLine == cpos.line) = true)
    (hsw : swapsWith (.Call (.Attribute (.Name x px) "append" apos) [e] [] cpos) none pos.line X.env = pure false := by rfl) : DS X K E (.Expr (.Call (.Attribute (.Name x px) "append" apos) [e] [] cpos) pos) (dApp i te) := ⟨qs_imp (qps_expr (qpm_appendK K hK ho he.q hs hbase hline) hsw) fun En σ H h => by
  obtain ⟨H0, ν, ρ, Dd, Xd, S, ⟨ds, h1, h2, h3⟩, ok, x⟩ := h
  obtain ⟨a, us, ns, g1, g2, g3, g4, g5, g6⟩ := own_list S h1
  refine ⟨_, g1, tyl (SqL.of g2), H0, ν, ρ, _, Xd, S, h3, fun d k v H1 q1 e1 r1 => ?_, x⟩
  split at q1
  case h_2 => exact q1.elim
  case h_1 s es =>
    obtain ⟨ms, m1, m2, m3⟩ := eff_own es (S.same e1).hl r1
    have ha1 : H1 a = some (.lst us) := e1 _ _ g2
    have nm : ∀ b ∈ ms, b ∉ ν i := fun b hb z => by
      rcases m3 b hb with y | ⟨j, hj, y⟩
      · obtain ⟨_, _, us, w⟩ := S.fr i b z; rw [y] at w; cases w
      · rw [S.dj i j b z y] at q1; exact q1.1 hj
    have ham : a ∉ ms := fun z => nm a z (by rw [g4]; exact List.mem_cons_self)
    refine ⟨a, us, v, rfl, rfl, ha1, by rw [g3.den.length]; exact Nat.lt_of_lt_of_le h2 million, ?_⟩
    have S1 := S.same e1
    refine ok.nx _ _ _ _ q1.2 (S.mut s i (ms := a :: (ns ++ ms)) (v := .ref a) g1 (len_of h1) (fun b o hb hn => ?_) ?_ ?_ ?_ q1.1 ?_)
    · rw [upd_ne (fun z => hn (by rw [z, g4]; exact List.mem_cons_self))]; exact e1 _ _ hb
    · have kp : ∀ l : List Addr, (∀ b ∈ l, b ≠ a) → Kept l H1 (upd H1 a (.lst (us ++ [v]))) := fun l hl => ⟨fun b hb => upd_ne (hl b hb), fun b o hb hn => by
        have : b ≠ a := fun z => by rw [z, ha1] at hb; cases hb; cases (show true = false from hn)
        rw [upd_ne this]; exact hb⟩
      have A := (g3.same e1).kept (kp ns fun b hb z => g5 (z ▸ hb))
      have B := m1.kept (kp ms fun b hb z => ham (z ▸ hb))
      exact .lst upd_same (ows_snoc B A)
    · refine List.nodup_cons.mpr ⟨fun z => ?_, List.nodup_append.mpr ⟨g6, m2, fun y hy z hz e => ?_⟩⟩
      · rcases List.mem_append.mp z with z | z
        · exact g5 z
        · exact ham z
      · subst e; exact nm y hz (by rw [g4]; exact List.mem_cons_of_mem _ hy)
    · intro b hb
      rcases List.mem_cons.mp hb with rfl | hb
      · exact .inl (by rw [g4]; exact List.mem_cons_self)
      · rcases List.mem_append.mp hb with hb | hb
        · exact .inl (by rw [g4]; exact List.mem_cons_of_mem _ hb)
        · rcases m3 b hb with y | y
          · exact .inr (.inl y)
          · exact .inr (.inr y)
    · intro j hj b hb
      obtain ⟨_, _, us', w⟩ := S1.fr j b hb
      have : b ≠ a := fun z => by
        have := S.dj i j b (by rw [g4, z]; exact List.mem_cons_self) hb
        rw [this] at q1; exact q1.1 hj
      exact ⟨us', by rw [upd_ne this]; exact w⟩⟩
end
end DL

namespace DL
open PySem PySem.Spec PyProof.Rows L2
section
variable {K : PySem.W.Frag}
theorem ows_split {H : Hp} : ∀ {us : List V} {ds : List D} {ns : List Addr} {j : Nat} {c : D}, Ows K H us ds ns → ds[j]? = some c → ∃ n1 n2 n3 u, ns = n1 ++ (n2 ++ n3) ∧ us[j]? = some u ∧ Ow K H u c n2 ∧
    (∀ H', Kept n1 H H' → Kept n3 H H' → ∀ v d ms, Ow K H' v d ms → Ows K H' (us.set j v) (ds.set j d) (n1 ++ (ms ++ n3))) ∧ ∀ H', Kept n1 H H' → Kept n3 H H' → Ows K H' (us.eraseIdx j) (ds.eraseIdx j) (n1 ++ n3)
  | _, _, _, 0, c, .cons (ns := n) (ms := m) h r, e => by
    simp at e; subst e
    exact ⟨[], n, m, _, rfl, rfl, h, fun H' _ k v d ms q => by simpa using Ows.cons q (r.kept k), fun H' _ k => by simpa using r.kept k⟩
  | _, _, _, j + 1, c, .cons (ns := n) (ms := m) h r, e => by
    simp at e
    obtain ⟨n1, n2, n3, u, e1, e2, e3, e4, e5⟩ := ows_split r e
    refine ⟨n ++ n1, n2, n3, u, by rw [e1]; simp, by simpa using e2, e3, fun H' k1 k3 v d ms q => ?_, fun H' k1 k3 => ?_⟩
    · have := Ows.cons (h.kept ⟨fun a ha => k1.1 a (List.mem_append_left _ ha), k1.2⟩) (e4 H' ⟨fun a ha => k1.1 a (List.mem_append_right _ ha), k1.2⟩ k3 v d ms q)
      simpa using this
    · have := Ows.cons (h.kept ⟨fun a ha => k1.1 a (List.mem_append_left _ ha), k1.2⟩) (e5 H' ⟨fun a ha => k1.1 a (List.mem_append_right _ ha), k1.2⟩ k3)
      simpa using this
theorem kept_upd {H H1 : Hp} {b : Addr} {o ow : HO} {l : List Addr} (e : Same H H1) (hb : H b = some ow) (hl : ∀ a ∈ l, (Mu H a) ∧ a ≠ b) (mb : muO ow = true := by rfl) : Kept l H (upd H1 b o) := ⟨fun a ha => by
  obtain ⟨⟨us, q⟩, z⟩ := hl a ha
  rw [upd_ne z, q]; exact e _ _ q, fun a o' ha hn => by
  have : a ≠ b := fun z => by rw [z, hb] at ha; cases ha; rw [mb] at hn; cases hn
  rw [upd_ne this]; exact e _ _ ha⟩
theorem gone_ok {H0 H H2 : Hp} {ν : Nat → List Addr} {ρ : Ren} {σ : L2.St} {i : Nat} {s : List Nat} {a : Addr} {o : HO} (S : StOk K Z0 H0 ν ρ σ H) (hs : i ∉ s) (e : Same H H2) (ha : a ∈ ν i) : ∀ j ∈ s, ∀ b ∈ ν j, Mu (upd H2 a o) b := fun j hj b hb => by
  obtain ⟨_, _, us', w⟩ := S.fr j b hb
  have : b ≠ a := fun z => by
    have := S.dj i j b (by rw [z]; exact ha) hb
    rw [this] at hs; exact hs hj
  exact ⟨us', by rw [upd_ne this]; exact e _ _ w⟩
end
end DL

namespace DL
open PySem PySem.Spec PyProof.Rows L2
section
variable {X : Cx} {K : PySem.W.Frag} {E : XK} {pos p1 p2 px : Pos} {e e1 e2 : Expr} {te t1 t2 : TD} {x : Str}
/-! ### x[e1] = e -/
def dPut1 (i : Nat) (t1 te : TD) : TSD := fun Dd ρ Xd => te ρ (fun d k => ∃ ds, ρ[i]? = some (some (true, .list ds)) ∧ t1 ρ (fun y _ => ∃ z j, y = .int z ∧ ixN ds.length z = some j ∧ match eff d k with
  | .own s => i ∉ s ∧ Dd.nx ((dropS ρ s).set i (some (true, .list (ds.set j d))))
  | _ => False) Xd) Xd
/-! ### x[e1][e2] = e -/
def dPut2 (i : Nat) (t1 t2 te : TD) : TSD := fun Dd ρ Xd => te ρ (fun d k => ∃ ds, ρ[i]? = some (some (true, .list ds)) ∧ t1 ρ (fun y1 _ => ∃ z1 j1 es, y1 = .int z1 ∧ ixN ds.length z1 = some j1 ∧ ds[j1]? = some (.list es) ∧ t2 ρ (fun y2 _ => ∃ z2 j2, y2 = .int z2 ∧ ixN es.length z2 = some j2 ∧ match eff d k with
  | .own s => i ∉ s ∧ Dd.nx ((dropS ρ s).set i (some (true, .list (ds.set j1 (.list (es.set j2 d))))))
  | _ => False) Xd) Xd) Xd
/-! ### x[e1] += e, x[e1][e2] += e, of ints -/
def dAug1 (i : Nat) (t1 te : TD) (f : Int → Int → Int) : TSD := fun Dd ρ Xd => ∃ ds, ρ[i]? = some (some (true, .list ds)) ∧ t1 ρ (fun y _ => ∃ (j : Nat) (a : Int), y = .int j ∧ ds[j]? = some (.int a) ∧ te ρ (fun d _ => ∃ b, d = .int b ∧ Dd.nx (ρ.set i (some (true, .list (ds.set j (.int (f a b))))))) Xd) Xd
def dAug2 (i : Nat) (t1 t2 te : TD) (f : Int → Int → Int) : TSD := fun Dd ρ Xd => ∃ ds, ρ[i]? = some (some (true, .list ds)) ∧ t1 ρ (fun y1 _ => ∃ z1 j1 es, y1 = .int z1 ∧ ixN ds.length z1 = some j1 ∧ ds[j1]? = some (.list es) ∧ t2 ρ (fun y _ => ∃ (j : Nat) (a : Int), y = .int j ∧ es[j]? = some (.int a) ∧ te ρ (fun d _ => ∃ b, d = .int b ∧ Dd.nx (ρ.set i (some (true, .list (ds.set j1 (.list (es.set j (.int (f a b)))))))) ) Xd) Xd) Xd
/-- x += e of ints -/
def dAugN (i : Nat) (te : TD) (f : Int → Int → Int) : TSD := fun Dd ρ Xd => ∃ b a, ρ[i]? = some (some (b, .int a)) ∧ te ρ (fun d _ => ∃ c, d = .int c ∧ Dd.nx (ρ.set i (some (false, .int (f a c))))) Xd
end
end DL

namespace DL
open PySem PySem.Spec PyProof.Rows L2
/-! ### a def's body -/
def startR (N : List Str) (ds : List D) : Ren := ds.map (fun d => some (false, d)) ++ List.replicate (N.length - ds.length) none
theorem start_ok {K : PySem.W.Frag} {H : Hp} {vs : List V} {ds : List D} {N : List Str} (h : Dns K H vs ds) : StOk K Z0 H (fun _ => []) (startR N ds) (start N vs) H := by
  have hl := h.length
  refine ⟨Same.refl H, ?_, fun i b d hi => ?_, fun _ => List.nodup_nil, (fun _ _ _ z => by cases z), (fun _ _ z => by cases z), fun _ z => False.elim z⟩
  · unfold startR L2.start; simp [hl]
  · unfold startR at hi
    by_cases hlt : i < ds.length
    · rw [List.getElem?_append_left (by simpa using hlt), List.getElem?_map] at hi
      cases e : ds[i]? with
      | none => rw [e] at hi; cases hi
      | some c =>
        rw [e] at hi; cases hi
        obtain ⟨v, g1, g2⟩ := h.get e
        refine ⟨v, ?_, Dn.same hid_z0 g2⟩
        unfold L2.start
        rw [List.getElem?_append_left (by rw [List.length_map, hl]; exact hlt), List.getElem?_map, g1]; rfl
    · rw [List.getElem?_append_right (by simpa using Nat.le_of_not_lt hlt), List.getElem?_replicate] at hi
      split at hi <;> cases hi
theorem dmk {X : Cx} {K : PySem.W.Frag} {E : XK} {b : List Stmt} {t : TSD} {N : List Str} {vs : List V} {H : Hp} {Q : VK} {ds : List D} {Qd : D → Bool → Prop} {Xd : XD} (h : DSs X K E b t) (hd : Dns K H vs ds) (q : ∀ d o v H', Qd d o → Same H H' → RR K H H' o v d → Q v H') (x : ∀ C H', Xd C → Same H H' → E (.ref C) none H')
    (r : t { nx := fun _ => Qd .none true, rt := Qd } (startR N ds) Xd) : ∃ t, PSs X b t ∧ t { nx := fun _ H' => Q .non H', rt := Q } (start N vs) H :=
  ⟨_, h.q.h, H, _, _, _, Xd, start_ok hd, r, ⟨fun ν ρ σ H' a S => q _ _ _ _ a S.sm ⟨[], .non, List.nodup_nil, fun _ z => by cases z⟩, fun _ _ _ _ z => z.elim, fun _ _ _ _ z => z.elim, q⟩, x⟩
/-- a def that never refuses -/
theorem ok0 {P : Program} {w : World} {K : PySem.W.Frag} {mg : Str → Option Value} {base : Heap} {x qual : Str} {st : Stmt} {f : Addr} {fd : FuncData} {N ps : List Str} {k : Nat} {sp : SpD} (F : Fun K x qual st f fd) (S : FnScope N ps (defScope st)) (len : ∀ ds Q X, sp ds Q X → ds.length = ps.length)
    (hbody : ∀ (cdv : Value) (A : Around) (outer : List Env) (s : Shared) (H : Hp) (E : XK), Room k (A.deeper (envOfC qual (defScope st) s.heap.objs.size f cdv)) → ∃ t, DSs (cxOf CX0 P w K mg base N qual (defScope st) f cdv A outer s H E).nox K E0 (defBody st) t ∧ ∀ ds Qd, sp ds Qd Xf → t { nx := fun _ => Qd .none true, rt := Qd } (startR N ds) Xf)
    (hx : ∀ ds Qd Xd, sp ds Qd Xd → sp ds Qd Xf) : FnOk P w K mg base CX0 (k + 1) f fd ps (SpL K sp) := by
  refine F.ok S (fun vs H Q E h => ?_) (fun cdv A outer s H vs Q E hr h => ?_)
  · obtain ⟨ds, Qd, Xd, h1, h2, _⟩ := h
    rw [h1.length]; exact len ds Qd Xd h2
  · obtain ⟨ds, Qd, Xd, h1, h2, h3, h4⟩ := h
    obtain ⟨t, D, r⟩ := hbody cdv A outer s H E hr
    exact dmk D h1 h3 (fun _ _ z _ => z.elim) (r ds Qd (hx _ _ _ h2))
section
variable {X : Cx} {K : PySem.W.Frag} {E : XK} {pos p1 p2 px apos cpos : Pos} {e e1 e2 : Expr} {te t1 t2 : TD} {x : Str}
/-! ### t = x.pop(e) -/
def dPop (t i : Nat) (te : TD) : TSD := fun Dd ρ Xd => ∃ ds, ρ[i]? = some (some (true, .list ds)) ∧ ds.length ≤ 1000000 ∧ te ρ (fun y _ => ∃ z j c, y = .int z ∧ ixN ds.length z = some j ∧ ds[j]? = some c ∧ Dd.nx ((ρ.set i (some (true, .list (ds.eraseIdx j)))).set t (some (false, c)))) Xd
/-! ### x.append(y.pop(e)), of data without lists -/
def dAppPop (i l : Nat) (te : TD) : TSD := fun Dd ρ Xd => ∃ ds es, ρ[i]? = some (some (true, .list ds)) ∧ i ≠ l ∧ ρ[l]? = some (some (true, .list es)) ∧ es.length ≤ 1000000 ∧ ds.length < 1000000 ∧ te ρ (fun y _ => ∃ z j c, y = .int z ∧ ixN es.length z = some j ∧ es[j]? = some c ∧ flat c = true ∧ Dd.nx ((ρ.set l (some (true, .list (es.eraseIdx j)))).set i (some (true, .list (ds ++ [c]))))) Xd
end
end DL

namespace DL
open PySem PySem.Spec PyProof.Rows L2
section
variable {X : Cx} {K : PySem.W.Frag} {E : XK} {pos p1 p2 px apos cpos : Pos} {e e1 e2 : Expr} {te t1 t2 : TD} {x : Str}
/-! ### a, b = e -/
def setAll (b : Bool) : Ren → List Nat → List D → Ren
  | ρ, i :: is, d :: ds => setAll b (ρ.set i (some (b && !flat d, d))) is ds
  | ρ, _, _ => ρ
def unpK (ρ : Ren) (is : List Nat) (ds : List D) (k : Kd) : Ren := match eff (.tuple ds) k with
  | .own [] => setAll true ρ is ds
  | .old => setAll false ρ is ds
  | _ => setAll false (frz ρ) is ds
/-- names set one after another -/
def sets : L2.St → List Nat → List V → L2.St
  | σ, i :: is, v :: vs => sets (σ.set i (some v)) is vs
  | σ, _, _ => σ
theorem all_old {H0 H : Hp} {ν : Nat → List Addr} : ∀ {is : List Nat} {vs : List V} {ds : List D} {ρ : Ren} {σ : L2.St}, StOk K Z0 H0 ν ρ σ H → Dns K (hid (Hd Z0 ν) H) vs ds → StOk K Z0 H0 ν (setAll false ρ is ds) (sets σ is vs) H
  | [], _, _, _, _, S, _ => S
  | i :: is, _, _, _, _, S, .nil => S
  | i :: is, _, _, _, _, S, .cons h r => by
    have := all_old (is := is) (S.setOld i h) r
    exact this
theorem all_own {H0 H' : Hp} : ∀ (is : List Nat) {vs : List V} {ds : List D} {ρ : Ren} {σ : L2.St} {ν : Nat → List Addr} {ms : List Addr}, StOk K Z0 H0 ν ρ σ (hid (· ∈ ms) H') → Ows K H' vs ds ms → ms.Nodup → ∃ ν', StOk K Z0 H0 ν' (setAll true ρ is ds) (sets σ is vs) H' := by
  intro is
  induction is with
  | nil => intro vs ds ρ σ ν ms S _ _; exact ⟨ν, by unfold setAll sets; exact S.same hid_same⟩
  | cons i is ih =>
    intro vs ds ρ σ ν ms S r0 nd
    cases r0 with
    | nil => exact ⟨ν, S.same hid_same⟩
    | cons h r =>
      rename_i v vs d ds n m
      rw [List.nodup_append] at nd
      have sm : Same (hid (· ∈ n ++ m) H') (hid (· ∈ m) H') := hid_less fun a z => List.mem_append_right _ z
      have nt : ∀ a o, H' a = some o → muO o = false → hid (· ∈ m) H' a = some o := fun a o ha hn => hid_of ha fun z => by
        exact (r.there a z).no ha hn
      have hk : Kept n H' (hid (· ∈ m) H') := ⟨fun a ha => by
        unfold hid
        rw [if_neg fun z => nd.2.2 a ha a z rfl], nt⟩
      show ∃ ν', StOk K Z0 H0 ν' (setAll true (ρ.set i (some (true && !flat d, d))) is _) (sets (σ.set i (some v)) is _) H'
      cases hf : flat d with
      | true =>
        have S1 := (S.same sm).setOld i (v := v) (d := d) (den_hid (S.same sm).hl (den_kept nt h.den hf) hf)
        exact ih S1 r nd.2.1
      | false =>
        have S1 := S.setOwn [] i sm (h.kept hk) nd.1 fun a ha => .inl (by unfold hid; rw [if_pos (List.mem_append_left _ ha)])
        exact ih S1 r nd.2.1
theorem unp_ok {H0 H H' : Hp} {ν : Nat → List Addr} {ρ : Ren} {σ : L2.St} {k : Kd} {a : Addr} {ds : List D} (S : StOk K Z0 H0 ν ρ σ H) (e : Same H H') (h : Res K Z0 ν H H' k (.ref a) (.tuple ds)) (is : List Nat) : ∃ us ν', SqT K H' a us ∧ us.length = ds.length ∧ StOk K Z0 H0 ν' (unpK ρ is ds k) (sets σ is us) H' := by
  have h' : Res K Z0 ν H H' (eff (.tuple ds) k) (.ref a) (.tuple ds) := by
    unfold eff
    split
    · exact Res.flat h.den ‹_› (S.same e).hl _
    · exact h
  have frzc : ∃ us ν', SqT K H' a us ∧ us.length = ds.length ∧ StOk K Z0 H0 ν' (setAll false (frz ρ) is ds) (sets σ is us) H' := by
    obtain ⟨a', us, q, q1, q2⟩ := dns_of_tup h.den
    cases q
    exact ⟨us, _, q1, q2.length, all_old (S.same e).frz (Dns.same hid_z0 q2)⟩
  unfold unpK
  generalize eff (.tuple ds) k = k' at h'
  split
  · obtain ⟨ms, m1, m2, m3⟩ := h'
    cases m1 with
    | tup q1 q2 =>
      have sm : Same H (hid (· ∈ ms) H') := fun b o hb => hid_of (e _ _ hb) fun z => by
        rcases m3 b z with y | ⟨_, y, _⟩
        · rw [hb] at y; cases y
        · cases y
      obtain ⟨ν', S'⟩ := all_own is (S.same sm) q2 m2
      exact ⟨_, ν', q1, q2.den.length, S'⟩
  · obtain ⟨a', us, q, q1, q2⟩ := dns_of_tup (show Dn K _ _ _ from h')
    cases q
    exact ⟨us, ν, Same.tup hid_same q1, q2.length, all_old (S.same e) q2⟩
  · exact frzc
/-- targets: names one after another -/
def gNames : List Nat → TGs
  | [] => gNil
  | i :: is => gCons (gName i) (gNames is)
theorem gNames_of : ∀ (is : List Nat) (vs : List V) (σ : L2.St) (H : Hp) (Q : L2.St → Hp → Prop), vs.length = is.length → Q (sets σ is vs) H → gNames is vs σ H Q
  | [], [], σ, H, Q, _, q => ⟨rfl, q⟩
  | i :: is, v :: vs, σ, H, Q, hl, q => ⟨v, vs, rfl, gNames_of is vs _ H Q (by simpa using hl) q⟩
  | [], _ :: _, _, _, _, hl, _ => by cases hl
  | _ :: _, [], _, _, _, hl, _ => by cases hl
def dUnp (is : List Nat) (te : TD) : TSD := fun Dd ρ Xd => te ρ (fun d k => match d with
  | .tuple ds => ds.length = is.length ∧ Dd.nx (unpK ρ is ds k)
  | _ => False) Xd
theorem dps_unp (is : List Nat) (n : Nat) {es : List Expr} {kt : Nat} {pt : Pos} (hn' : is.length = n) (hK : X.K = K) (hc : X.calm = true) (hg : QGs X es (gNames is)) (hn : (assignEach es X.env).length = n) (hst : (assignEach es X.env).findIdx? (·.1) = none) (he : DE X K E e te)
    (hs : swapsWithSole [.Tuple es kt pt] e pos.line X.env = pure false := by rfl) (hw : swappedStores [.Tuple es kt pt] e X.env = pure none := by rfl) (h1 : (assignEach [.Tuple es kt pt] X.env).map (·.2) = [assign (.Tuple es kt pt) X.env] := by rfl) :
    DS X K E (.Assign [.Tuple es kt pt] e pos) (dUnp is te) := ⟨qs_imp (qps_asg he.q (qpg_tupK K n hK hc hg hn hst) hs hw h1) fun En σ H h => by
  obtain ⟨H0, ν, ρ, Dd, Xd, S, h1, ok, x⟩ := h
  refine ⟨H0, ν, ρ, _, Xd, S, h1, fun d k v H' q1 e1 r1 => ?_, x⟩
  cases d with
  | tuple ds =>
    obtain ⟨a, us0, rfl, _, _⟩ := dns_of_tup r1.den
    obtain ⟨us, ν', k1, k2, S'⟩ := unp_ok S e1 r1 is
    exact ⟨a, us, rfl, k1, by rw [k2, q1.1, hn'], gNames_of is us σ H' _ (by rw [k2, q1.1]) (ok.nx _ _ _ _ q1.2 S')⟩
  | _ => exact q1.elim⟩
end
end DL

namespace DL
open PySem PySem.Spec PyProof.Rows L2
section
variable {X : Cx} {K : PySem.W.Frag} {E : XK} {pos p1 p2 px apos cpos : Pos} {e e1 e2 : Expr} {te t1 t2 : TD} {x : Str}
theorem flats_ints {ns : List Int} : flats (ns.map PyData.int) = true := flats_iff.mpr fun d hd => by
  obtain ⟨n, _, rfl⟩ := List.mem_map.mp hd
  rfl
theorem dns_of_ints {H : Hp} : ∀ (ns : List Int), Dns K H (ns.map V.int) (ns.map PyData.int)
  | [] => .nil
  | n :: r => .cons (.int n) (dns_of_ints r)
/-- a display of written ints -/
def dInts (ns : List Int) : TDA := fun _ Q _ => Q (ns.map PyData.int) (.own [])
theorem dpa_ints {es : List Expr} {ns : List Int} (h : intsOf es = some ns) : DA X K E es (dInts ns) := ⟨qa_imp (qpa_ints h) fun σ H Q h => by
  obtain ⟨H0, ν, ρ, Qd, Xd, S, h1, q, x⟩ := h
  exact q _ _ _ H h1 (Same.refl H) ⟨[], ows_flat (dns_of_ints ns) flats_ints, List.nodup_nil, fun _ z => by cases z⟩⟩
/-- list(range(n)) -/
def dLR (ta : TDA) : TD := fun ρ Q Xd => ta ρ (fun ds _ => match ds with
  | [.int z] => ∃ n : Nat, z = n ∧ n ≤ 1000000 ∧ Q (.list ((List.range n).map fun (i : Nat) => PyData.int (i : Int))) (.own [])
  | _ => False) Xd
end
end DL

namespace DL
open PySem PySem.Spec PyProof.Rows L2
/-! ### data of grids; the walk -/
def iD (r : List Int) : D := .list (r.map PyData.int)
def gD (g : List (List Int)) : D := .list (g.map iD)
theorem flat_int {i : Int} : flat (.int i) = true := rfl
theorem flat_bool {i : Bool} : flat (.bool i) = true := rfl
theorem flat_str {i : Str} : flat (.str i) = true := rfl
theorem flat_non : flat .none = true := rfl
theorem flat_list {l : List D} : flat (.list l) = false := rfl
theorem flat_tuple {l : List D} : flat (.tuple l) = flats l := rfl
theorem flats_nil : flats [] = true := rfl
theorem flats_cons {d : D} {l : List D} : flats (d :: l) = (flat d && flats l) := rfl
theorem flat_iD {r : List Int} : flat (iD r) = false := rfl
theorem flat_gD {r : List (List Int)} : flat (gD r) = false := rfl
/-! loops -/
def lpD (ds : List D) (bnd : TGD) (tb : TSD) : TSD := fun Dd ρ Xd => ∃ W : Nat → Ren → Prop, W 0 ρ ∧ (∀ i d ρ, ds[i]? = some d → W i ρ → bnd d ρ fun ρ' => tb { Dd with nx := W (i + 1), ct := W (i + 1), bk := Dd.nx } ρ' Xd) ∧ ∀ ρ, W ds.length ρ → Dd.nx ρ
theorem lp_list {ds : List D} {bnd : TGD} {tb : TSD} {Dd : EndsD} {ρ : Ren} {Xd : XD} (W : Nat → Ren → Prop) (h0 : W 0 ρ) (hs : ∀ i d ρ, ds[i]? = some d → W i ρ → bnd d ρ fun ρ' => tb { Dd with nx := W (i + 1), ct := W (i + 1), bk := Dd.nx } ρ' Xd) (hd : ∀ ρ, W ds.length ρ → Dd.nx ρ) : lpD ds bnd tb Dd ρ Xd := ⟨W, h0, hs, hd⟩
theorem rngD_get {lo : Int} {n i : Nat} {d : D} (h : (rngD lo n)[i]? = some d) : i < n ∧ d = .int (lo + i) := by
  unfold rngD at h
  rw [List.getElem?_map] at h
  cases e : (List.range n)[i]? with
  | none => rw [e] at h; cases h
  | some j =>
    rw [e] at h; cases h
    obtain ⟨h1, h2⟩ := List.getElem?_eq_some_iff.mp e
    rw [List.getElem_range] at h2
    rw [List.length_range] at h1
    exact ⟨h1, by rw [h2]⟩
theorem rngD_len {lo : Int} {n : Nat} : (rngD lo n).length = n := by unfold rngD; rw [List.length_map, List.length_range]
theorem lp_rng {lo : Int} {n : Nat} {bnd : TGD} {tb : TSD} {Dd : EndsD} {ρ : Ren} {Xd : XD} (W : Nat → Ren → Prop) (h0 : W 0 ρ) (hs : ∀ (i : Nat) ρ, i < n → W i ρ → bnd (.int (lo + i)) ρ fun ρ' => tb { Dd with nx := W (i + 1), ct := W (i + 1), bk := Dd.nx } ρ' Xd) (hd : ∀ ρ, W n ρ → Dd.nx ρ) : lpD (rngD lo n) bnd tb Dd ρ Xd :=
  ⟨W, h0, fun i d ρ e w => by obtain ⟨h1, rfl⟩ := rngD_get e; exact hs i ρ h1 w, fun ρ w => hd ρ (by rw [rngD_len] at w; exact w)⟩
/-! comprehensions -/
end DL

namespace DL
open PySem PySem.Spec PyProof.Rows L2
/-! ### the walk: one step at the head -/
def onB (d : D) (Q : Bool → Prop) : Prop := match d with | .bool i => Q i | _ => False
def onI (d : D) (Q : Int → Prop) : Prop := match d with | .int i => Q i | _ => False
def onL (d : D) (Q : List D → Prop) : Prop := match d with | .list l => Q l | _ => False
def onT (d : D) (Q : List D → Prop) : Prop := match d with | .tuple l => Q l | _ => False
section
variable {t u : TSD} {te ta tb tc : TD} {tA tB : TDT} {tl : TDA} {Dd : EndsD} {ρ : Ren} {Xd : XD} {Q : QD} {QT : Bool → Prop} {QA : List D → Kd → Prop} {i : Nat} {d e : D} {k l : Kd}
theorem w_onB {b : Bool} {Q : Bool → Prop} (h : Q b) : onB (.bool b) Q := h
theorem w_onI {b : Int} {Q : Int → Prop} (h : Q b) : onI (.int b) Q := h
theorem w_onL {b : List D} {Q : List D → Prop} (h : Q b) : onL (.list b) Q := h
theorem w_onLi {b : List Int} {Q : List D → Prop} (h : Q (b.map PyData.int)) : onL (iD b) Q := h
theorem w_onT {b : List D} {Q : List D → Prop} (h : Q b) : onT (.tuple b) Q := h
theorem w_seq (h : t { Dd with nx := fun ρ' => u Dd ρ' Xd } ρ Xd) : dSeq t u Dd ρ Xd := h
theorem w_set (h : te ρ (fun d k => Dd.nx (setK ρ i d k)) Xd) : dSet i te Dd ρ Xd := h
theorem w_ret (h : te ρ (fun d k => Dd.rt d (rtK d k)) Xd) : dRet te Dd ρ Xd := h
theorem w_next (h : Dd.nx ρ) : dNext Dd ρ Xd := h
theorem w_ifS (h : tA ρ (fun b => if b = true then t Dd ρ Xd else u Dd ρ Xd) Xd) : dIfS tA t u Dd ρ Xd := h
theorem w_nx {f b c : Ren → Prop} {r : D → Bool → Prop} (h : f ρ) : EndsD.nx ⟨f, r, b, c⟩ ρ := h
theorem w_rt {f b c : Ren → Prop} {r : D → Bool → Prop} {o : Bool} (h : r d o) : EndsD.rt ⟨f, r, b, c⟩ d o := h
theorem w_frz (h : t Dd (frz1 i ρ) Xd) : dFrz i t Dd ρ Xd := h
theorem w_c (h : Q d .old) : dC d ρ Q Xd := h
theorem w_op {f : F2} (h : ta ρ (fun d k => tb ρ (fun e l => f d k e l Q) Xd) Xd) : dOp f ta tb ρ Q Xd := h
theorem w_fI0 {g : Int → Int → D} {x y : Int} (h : Q (g x y) .old) : fI T2 g (.int x) k (.int y) l Q := ⟨trivial, h⟩
theorem w_fI {C : Int → Int → Prop} {g : Int → Int → D} {x y : Int} (h : C x y ∧ Q (g x y) .old) : fI C g (.int x) k (.int y) l Q := h
theorem w_addI {x y : Int} (h : Q (.int (x + y)) .old) : fAdd (.int x) k (.int y) l Q := h
theorem w_addL {x y : List D} (h : x.length + y.length ≤ 1000000 ∧ Q (.list (x ++ y)) (kels2 x k y l)) : fAdd (.list x) k (.list y) l Q := h
theorem w_addS {x y : Str} (h : x.length + y.length ≤ 1000000 ∧ Q (.str (x ++ y)) .old) : fAdd (.str x) k (.str y) l Q := h
def IxD (ds : List D) (i : Int) (Q : D → Prop) : Prop := ∃ x, atI ds i = some x ∧ Q x
theorem w_ixL {x : List D} {y : Int} (h : IxD x y fun d => Q d k.sub) : fIx (.list x) k (.int y) l Q := h
theorem w_ixLi {x : List Int} {y : Int} (h : IxD (x.map PyData.int) y fun d => Q d k.sub) : fIx (iD x) k (.int y) l Q := h
theorem w_ixT {x : List D} {y : Int} (h : IxD x y fun d => Q d k.sub) : fIx (.tuple x) k (.int y) l Q := h
theorem w_eq {f : Bool → Bool} (h : (d.canLay0 = true ∧ e.canLay0 = true ∧ d.depth ≤ 32) ∧ Q (.bool (f (PyData.eqv d e))) .old) : fEq f d k e l Q := ⟨h.1.1, h.1.2.1, h.1.2.2, h.2⟩
theorem w_eqI {f : Bool → Bool} {x y : Int} (h : Q (.bool (f (x == y))) .old) : fEq f (.int x) k (.int y) l Q := ⟨rfl, rfl, Nat.zero_le _, h⟩
theorem w_inT {f : Bool → Bool} {x : List D} (h : (scalD d = true ∧ x.all scalD = true) ∧ Q (.bool (f (inD d x))) .old) : fIn f d k (.tuple x) l Q := ⟨h.1.1, h.1.2, h.2⟩
theorem w_neg (h : ta ρ (fun d _ => onI d fun i => Q (.int (-i)) .old) Xd) : dNeg ta ρ Q Xd := h
theorem w_andV (h : ta ρ (fun d _ => onB d fun i => if i = true then tb ρ Q Xd else Q (.bool false) .old) Xd) : dAndV ta tb ρ Q Xd := h
theorem w_B (h : ta ρ (fun d _ => onB d QT) Xd) : dB ta ρ QT Xd := h
theorem w_and (h : tA ρ (fun b => if b = true then tB ρ QT Xd else QT false) Xd) : dAnd tA tB ρ QT Xd := h
theorem w_or (h : tA ρ (fun b => if b = true then QT true else tB ρ QT Xd) Xd) : dOr tA tB ρ QT Xd := h
theorem w_not (h : tA ρ (fun b => QT (!b)) Xd) : dNot tA ρ QT Xd := h
theorem w_true (h : QT true) : dTrue ρ QT Xd := h
theorem w_if (h : tA ρ (fun b => if b = true then ta ρ Q Xd else tb ρ Q Xd) Xd) : dIf tA ta tb ρ Q Xd := h
theorem w_nil (h : QA [] (.own [])) : dNil ρ QA Xd := h
theorem w_cons (h : ta ρ (fun d k => tl ρ (fun ds l => QA (d :: ds) (kcons d k l)) Xd) Xd) : dCons ta tl ρ QA Xd := h
theorem w_ints {ns : List Int} (h : QA (ns.map PyData.int) (.own [])) : dInts ns ρ QA Xd := h
theorem w_tup (h : tl ρ (fun ds k => ds.length ≤ 1000 ∧ Q (.tuple ds) k) Xd) : dTup tl ρ Q Xd := h
theorem w_lst (h : tl ρ (fun ds k => ds.length ≤ 1000 ∧ Q (.list ds) k) Xd) : dLst tl ρ Q Xd := h
theorem w_call0 {sp : SpD} (h : tl ρ (fun ds _ => sp ds (fun d o => Q d (kRet o)) Xf) Xd) : dCall0 sp tl ρ Q Xd := h
theorem w_cb {g : FA} (h : tl ρ (fun ds k => g ds k Q) Xd) : dCB g tl ρ Q Xd := h
theorem w_len {x : List D} (h : Q (.int x.length) .old) : fLen [.list x] k Q := h
theorem w_lenI {x : List Int} (h : Q (.int x.length) .old) : fLen [iD x] k Q := by show Q (.int (x.map PyData.int).length) .old; rw [List.length_map]; exact h
theorem w_lenT {x : List D} (h : Q (.int x.length) .old) : fLen [.tuple x] k Q := h
theorem w_lenS {x : List D} (h : Q (.int x.length) .old) : fLen [.dict [(.none, .list x)]] k Q := h
theorem w_bls {f : List Bool → Bool} {x : List D} (h : ∃ ns, boolsD x = some ns ∧ Q (.bool (f ns)) .old) : fBls f [.list x] k Q := h
theorem w_abs {x : Int} (h : Q (.int (if x < 0 then -x else x)) .old) : fAbs [.int x] k Q := h
theorem w_list {x : List D} (h : Q (.list x) (kels x k)) : fList [.list x] k Q := h
theorem w_listI {x : List Int} (h : Q (iD x) (.own [])) : fList [iD x] k Q := by
  show Q (.list _) (kels _ k)
  unfold kels; rw [if_pos flats_ints]; exact h
theorem w_isi {f : D → Bool} (h : ta ρ (fun d _ => noDict d = true ∧ Q (.bool (f d)) .old) Xd) : dIs f ta ρ Q Xd := h
theorem w_sl {f : F3} {tlo thi : TDO} (h : te ρ (fun d k => tlo ρ (fun l => thi ρ (fun h => f d k l h Q) Xd) Xd) Xd) : dSl f te tlo thi ρ Q Xd := h
theorem w_noPart {Q : Option Int → Prop} (h : Q none) : dNoPart ρ Q Xd := h
theorem w_part {Q : Option Int → Prop} (h : te ρ (fun d _ => onI d fun i => Q (some i)) Xd) : dPart te ρ Q Xd := h
theorem w_bName {Q : Ren → Prop} (h : Q (ρ.set i (some (false, d)))) : bName i d ρ Q := h
theorem w_bTup {n : Nat} {bs : TGsD} {ds : List D} {Q : Ren → Prop} (h : ds.length = n ∧ bs ds ρ Q) : bTup n bs (.tuple ds) ρ Q := h
theorem w_bCons {b : TGD} {bs : TGsD} {ds : List D} {Q : Ren → Prop} (h : b d ρ fun ρ' => bs ds ρ' Q) : bCons b bs (d :: ds) ρ Q := h
theorem w_bNil {Q : Ren → Prop} (h : Q ρ) : bNil [] ρ Q := ⟨rfl, h⟩
theorem w_for {ti : TDI} {bnd : TGD} (h : ti ρ (fun ds b => b = true ∧ lpD ds bnd t Dd ρ Xd) Xd) : dFor ti bnd t Dd ρ Xd := h
theorem w_iL {Q : List D → Bool → Prop} (h : te ρ (fun d k => onL d fun ds => Q ds k.isOld) Xd) : iL te ρ Q Xd := h
theorem w_iT {Q : List D → Bool → Prop} (h : te ρ (fun d k => onT d fun ds => Q ds k.isOld) Xd) : iT te ρ Q Xd := h
def on1I (ds : List D) (Q : Int → Prop) : Prop := match ds with | [.int j] => Q j | _ => False
def on2I (ds : List D) (Q : Int → Int → Prop) : Prop := match ds with | [.int i, .int j] => Q i j | _ => False
def on1L (ds : List D) (Q : List D → Prop) : Prop := match ds with | [.list j] => Q j | _ => False
def on2L (ds : List D) (Q : List D → List D → Prop) : Prop := match ds with | [.list i, .list j] => Q i j | _ => False
theorem w_on1I {x : Int} {Q : Int → Prop} (h : Q x) : on1I [.int x] Q := h
theorem w_iR1 {Q : List D → Bool → Prop} (h : tl ρ (fun ds _ => on1I ds fun j => (-(2 ^ 62) ≤ j ∧ j < 2 ^ 62) ∧ Q (rngD 0 j.toNat) true) Xd) : iR1 tl ρ Q Xd := by
  have e : (fun (ds : List D) (_ : Kd) => on1I ds fun j => (-(2 ^ 62) ≤ j ∧ j < 2 ^ 62) ∧ Q (rngD 0 j.toNat) true) = (fun ds _ => match ds with | [.int j] => -(2 ^ 62) ≤ j ∧ j < 2 ^ 62 ∧ Q (rngD 0 j.toNat) true | _ => False) := by
    funext ds _
    unfold on1I
    split
    · exact propext and_assoc
    · rfl
  rw [e] at h
  exact h
theorem w_unp {is : List Nat} (h : te ρ (fun d k => onT d fun ds => ds.length = is.length ∧ Dd.nx (unpK ρ is ds k)) Xd) : dUnp is te Dd ρ Xd := h
def LcD (f : D → Els → (Els → Prop) → Prop) (ds : List D) (ok : Bool) (Q : QD) : Prop := go f ds [] fun es => Q (.list (es.map (·.1))) (if es.all (·.2) = true then .own [] else if ok = true then .old else .mix)
theorem w_lc {ti : TDI} {T : List Nat} {bnd : TGD} {tif : TDT} {tb : TB} {own : List Str} {cap : List (Str × Nat)} (h : ti ρ (fun ds b => LcD (fun d es Q' => bnd d (dropS (capR own cap ρ) T) fun ρ' => tif ρ' (fun c => if c = true then tb ρ' es Q' else Q' es) Xf) ds (b && capOk cap ρ) Q) Xd) : dLC ti T bnd tif tb own cap ρ Q Xd := h
theorem w_emit {es : Els} {Q : Els → Prop} (h : te ρ (fun d k => es.length < 1000000 ∧ (eff d k).isOld = true ∧ Q (es ++ [(d, isOwnK (eff d k))])) Xf) : dEmit te ρ es Q := h
theorem w_ift {A B : Prop} (h : A) : if (true : Bool) = true then A else B := h
theorem w_iff {A B : Prop} (h : B) : if (false : Bool) = true then A else B := by rw [if_neg Bool.false_ne_true]; exact h
/-! what is set -/
theorem setK_int {x : Int} : setK ρ i (.int x) k = ρ.set i (some (false, .int x)) := rfl
theorem setK_bool {x : Bool} : setK ρ i (.bool x) k = ρ.set i (some (false, .bool x)) := rfl
theorem setK_str {x : Str} : setK ρ i (.str x) k = ρ.set i (some (false, .str x)) := rfl
theorem setK_non : setK ρ i .none k = ρ.set i (some (false, .none)) := rfl
theorem setK_own {x : List D} {s : List Nat} : setK ρ i (.list x) (.own s) = (dropS ρ s).set i (some (true, .list x)) := rfl
theorem setK_old {x : List D} : setK ρ i (.list x) .old = ρ.set i (some (false, .list x)) := rfl
theorem setK_mix {x : List D} : setK ρ i (.list x) .mix = (frz ρ).set i (some (false, .list x)) := rfl
theorem setK_ownI {x : List Int} {s : List Nat} : setK ρ i (iD x) (.own s) = (dropS ρ s).set i (some (true, iD x)) := rfl
theorem setK_oldI {x : List Int} : setK ρ i (iD x) .old = ρ.set i (some (false, iD x)) := rfl
theorem setK_mixI {x : List Int} : setK ρ i (iD x) .mix = (frz ρ).set i (some (false, iD x)) := rfl
theorem setK_ownG {x : List (List Int)} {s : List Nat} : setK ρ i (gD x) (.own s) = (dropS ρ s).set i (some (true, gD x)) := rfl
theorem setK_oldG {x : List (List Int)} : setK ρ i (gD x) .old = ρ.set i (some (false, gD x)) := rfl
theorem setK_mixG {x : List (List Int)} : setK ρ i (gD x) .mix = (frz ρ).set i (some (false, gD x)) := rfl
theorem setK_tup {x : List D} (h : flats x = true) : setK ρ i (.tuple x) k = ρ.set i (some (false, .tuple x)) := by unfold setK; rw [flat_tuple, if_pos h]
theorem rtK_int {x : Int} : rtK (.int x) k = true := rfl
theorem rtK_bool {x : Bool} : rtK (.bool x) k = true := rfl
theorem rtK_str {x : Str} : rtK (.str x) k = true := rfl
theorem rtK_non : rtK .none k = true := rfl
theorem rtK_own {s : List Nat} : rtK d (.own s) = true := by unfold rtK; rw [Bool.or_true]
theorem rtK_tup {x : List D} (h : flats x = true) : rtK (.tuple x) k = true := by unfold rtK; rw [flat_tuple, h]; rfl
theorem kcons_flat (h : flat d = true) : kcons d k (.own []) = .own [] := by unfold kcons; rw [if_pos h]; rfl
theorem kcons_own {s : List Nat} (h : flat d = false) : kcons d (.own s) (.own []) = .own (s ++ []) := by
  unfold kcons; rw [h, if_neg Bool.false_ne_true]
  show (if disj s [] = true then Kd.own (s ++ []) else .mix) = _
  rw [if_pos (by unfold disj; simp)]
theorem kcons_old (h : flat d = false) : kcons d .old (.own []) = .old := by unfold kcons; rw [h]; rfl
theorem frz_nil : frz [] = [] := rfl
theorem frz_some {b : Bool} {r : Ren} : frz (some (b, d) :: r) = some (false, d) :: frz r := rfl
theorem frz_none {r : Ren} : frz (none :: r) = none :: frz r := rfl
theorem dropS_nil : dropS ρ [] = ρ := rfl
theorem dropS_cons {s : List Nat} : dropS ρ (i :: s) = dropS (ρ.set i none) s := rfl
theorem kRet_t : kRet true = .own [] := rfl
theorem kRet_f : kRet false = .mix := rfl
theorem sub_own : Kd.sub (.own []) = .own [] := rfl
theorem sub_old : Kd.sub .old = .old := rfl
theorem sub_ownc {s : List Nat} : Kd.sub (.own (i :: s)) = .mix := rfl
theorem sub_mix : Kd.sub .mix = .mix := rfl
theorem isOld_own : Kd.isOld (.own []) = true := rfl
theorem isOld_old : Kd.isOld .old = true := rfl
theorem isOld_mix : Kd.isOld .mix = false := rfl
theorem isOld_ownc {s : List Nat} : Kd.isOld (.own (i :: s)) = false := rfl
theorem eff_int {x : Int} : eff (.int x) k = .own [] := rfl
theorem eff_bool {x : Bool} : eff (.bool x) k = .own [] := rfl
theorem eff_str {x : Str} : eff (.str x) k = .own [] := rfl
theorem eff_tup {x : List D} (h : flats x = true) : eff (.tuple x) k = .own [] := by unfold eff; rw [flat_tuple, h]; rfl
theorem eff_ltc {x : List D} : eff (.list x) k = k := rfl
theorem eff_iD {x : List Int} : eff (iD x) k = k := rfl
theorem eff_gD {x : List (List Int)} : eff (gD x) k = k := rfl
theorem isOwnK_own : isOwnK (.own []) = true := rfl
theorem isOwnK_old : isOwnK .old = false := rfl
theorem w_v0 {r : Ren} (q : Q d .old) : dVar 0 (some (false, d) :: r) Q Xd := ⟨false, d, rfl, q⟩
theorem w_v1 {x0 : Option (Bool × D)} {r : Ren} (q : Q d .old) : dVar 1 (x0 :: some (false, d) :: r) Q Xd := ⟨false, d, rfl, q⟩
theorem w_o1 {x0 : Option (Bool × D)} {r : Ren} (q : Q d (.own [1])) : dVar 1 (x0 :: some (true, d) :: r) Q Xd := ⟨true, d, rfl, q⟩
theorem w_v2 {x0 x1 : Option (Bool × D)} {r : Ren} (q : Q d .old) : dVar 2 (x0 :: x1 :: some (false, d) :: r) Q Xd := ⟨false, d, rfl, q⟩
theorem w_o2 {x0 x1 : Option (Bool × D)} {r : Ren} (q : Q d (.own [2])) : dVar 2 (x0 :: x1 :: some (true, d) :: r) Q Xd := ⟨true, d, rfl, q⟩
theorem w_v3 {x0 x1 x2 : Option (Bool × D)} {r : Ren} (q : Q d .old) : dVar 3 (x0 :: x1 :: x2 :: some (false, d) :: r) Q Xd := ⟨false, d, rfl, q⟩
theorem w_o3 {x0 x1 x2 : Option (Bool × D)} {r : Ren} (q : Q d (.own [3])) : dVar 3 (x0 :: x1 :: x2 :: some (true, d) :: r) Q Xd := ⟨true, d, rfl, q⟩
theorem w_v4 {x0 x1 x2 x3 : Option (Bool × D)} {r : Ren} (q : Q d .old) : dVar 4 (x0 :: x1 :: x2 :: x3 :: some (false, d) :: r) Q Xd := ⟨false, d, rfl, q⟩
theorem w_o4 {x0 x1 x2 x3 : Option (Bool × D)} {r : Ren} (q : Q d (.own [4])) : dVar 4 (x0 :: x1 :: x2 :: x3 :: some (true, d) :: r) Q Xd := ⟨true, d, rfl, q⟩
theorem w_v5 {x0 x1 x2 x3 x4 : Option (Bool × D)} {r : Ren} (q : Q d .old) : dVar 5 (x0 :: x1 :: x2 :: x3 :: x4 :: some (false, d) :: r) Q Xd := ⟨false, d, rfl, q⟩
theorem w_o5 {x0 x1 x2 x3 x4 : Option (Bool × D)} {r : Ren} (q : Q d (.own [5])) : dVar 5 (x0 :: x1 :: x2 :: x3 :: x4 :: some (true, d) :: r) Q Xd := ⟨true, d, rfl, q⟩
theorem w_v6 {x0 x1 x2 x3 x4 x5 : Option (Bool × D)} {r : Ren} (q : Q d .old) : dVar 6 (x0 :: x1 :: x2 :: x3 :: x4 :: x5 :: some (false, d) :: r) Q Xd := ⟨false, d, rfl, q⟩
theorem w_o7 {x0 x1 x2 x3 x4 x5 x6 : Option (Bool × D)} {r : Ren} (q : Q d (.own [7])) : dVar 7 (x0 :: x1 :: x2 :: x3 :: x4 :: x5 :: x6 :: some (true, d) :: r) Q Xd := ⟨true, d, rfl, q⟩
theorem w_v8 {x0 x1 x2 x3 x4 x5 x6 x7 : Option (Bool × D)} {r : Ren} (q : Q d .old) : dVar 8 (x0 :: x1 :: x2 :: x3 :: x4 :: x5 :: x6 :: x7 :: some (false, d) :: r) Q Xd := ⟨false, d, rfl, q⟩
theorem w_o8 {x0 x1 x2 x3 x4 x5 x6 x7 : Option (Bool × D)} {r : Ren} (q : Q d (.own [8])) : dVar 8 (x0 :: x1 :: x2 :: x3 :: x4 :: x5 :: x6 :: x7 :: some (true, d) :: r) Q Xd := ⟨true, d, rfl, q⟩
theorem w_o9 {x0 x1 x2 x3 x4 x5 x6 x7 x8 : Option (Bool × D)} {r : Ren} (q : Q d (.own [9])) : dVar 9 (x0 :: x1 :: x2 :: x3 :: x4 :: x5 :: x6 :: x7 :: x8 :: some (true, d) :: r) Q Xd := ⟨true, d, rfl, q⟩
end
end DL

namespace DL
open PySem PySem.Spec PyProof.Rows L2
/-! ### defs that may be called within a handler -/
structure RoomH (k : Nat) (A : Around) : Prop where
  dp : A.depth + 3 * k + 5 < recursionLimit
  un : A.units + 16 * k + 200 < cLine
theorem Room.h {k : Nat} {A : Around} (r : Room k A) : RoomH k A := ⟨r.dp, r.un⟩
structure FnOkH (P : Program) (w : World) (K : PySem.W.Frag) (mg : Str → Option Value) (base : Heap) (k : Nat) (f : Addr) (fd : FuncData) (ps : List Str) (sp : Sp) : Prop where
  len : ∀ vs H Q E, sp vs H Q E → vs.length = ps.length
  run : ∀ (A : Around) (outer : List Env) (s : Shared) (H : Hp) (args : Args) (us : List Value) (vs : List V) (Q : VK) (E : XK), RoomH k A → Env0 P w K mg base A outer s H → BindsTo s fd args (ps.zip us) → Vals vs us → sp vs H Q E →
    codeAny (model P w) A (.call (.ref f) args) (CR CX0 outer P w H s Q E) s
abbrev cxH (P : Program) (w : World) (K : PySem.W.Frag) (mg : Str → Option Value) (base : Heap) (N : List Str) (qual : Str) (scope : Scope) (f : Addr) (cd : Value) (A : Around) (outer : List Env) (s : Shared) (H : Hp) (E : XK) : Cx :=
  { cxOf CX0 P w K mg base N qual scope f cd A outer s H E with calm := false }
end DL

namespace DL
open PySem PySem.Spec PyProof.Rows L2
/-! ### try over data -/
def LEX (K : PySem.W.Frag) (t : TD) : TEX := fun σ H Q E => ∃ H0 ν ρ Qd Xd, StOk K Z0 H0 ν ρ σ H ∧ t ρ Qd Xd ∧ (∀ d k v H', Qd d k → Same H H' → Res K Z0 ν H H' k v d → Q v H') ∧ ∀ C H', Xd C → Same H H' → E (.ref C) none H'
structure DEX (X : Cx) (K : PySem.W.Frag) (e : Expr) (t : TD) : Prop where
  q : PEX X e (LEX K t)
abbrev TSDX := EndsD → Ren → (Ren → Addr → Prop) → Prop
def LSX (K : PySem.W.Frag) (t : TSDX) : TSX := fun En Es σ H => ∃ H0 ν ρ Dd Xr, StOk K Z0 H0 ν ρ σ H ∧ t Dd ρ Xr ∧ EndsOk K H0 En Dd ∧ ∀ ν' ρ' σ' H' C, Xr ρ' C → StOk K Z0 H0 ν' ρ' σ' H' → Es σ' (.ref C) none H'
structure DSX (X : Cx) (K : PySem.W.Frag) (s : Stmt) (t : TSDX) : Prop where
  q : PSX X s (LSX K t)
structure DSXs (X : Cx) (K : PySem.W.Frag) (s : List Stmt) (t : TSDX) : Prop where
  q : PSXs X s (LSX K t)
section
variable {X : Cx} {K : PySem.W.Frag} {pos pos' : Pos} {e : Expr}
def xOf (te : TD) : TD := fun ρ Q _ => te ρ Q Xf
def xCl (sp : SpD) (t : TDA) : TD := fun ρ Q Xd => t ρ (fun ds _ => sp ds (fun d o => Q d (kRet o)) Xd) Xf
def xTp2 (ta tb : TD) : TD := fun ρ Q Xd => ta ρ (fun d k => tb ρ (fun e l => Q (.tuple [d, e]) (kcons d k (kcons e l (.own [])))) Xd) Xf
def xRt (te : TD) : TSDX := fun Dd ρ Xr => te ρ (fun d k => Dd.rt d (rtK d k)) (Xr ρ)
def xSt (i : Nat) (te : TD) : TSDX := fun Dd ρ Xr => te ρ (fun d k => Dd.nx (setK ρ i d k)) (Xr ρ)
def xDp (te : TD) : TSDX := fun Dd ρ Xr => te ρ (fun _ _ => Dd.nx ρ) (Xr ρ)
def xStm (t : TSD) : TSDX := fun Dd ρ _ => t Dd ρ Xf
def xNx : TSDX := fun Dd ρ _ => Dd.nx ρ
def xSq (t u : TSDX) : TSDX := fun Dd ρ Xr => t { Dd with nx := fun ρ' => u Dd ρ' Xr } ρ Xr
def xIf (tc : TDT) (a b : TSDX) : TSDX := fun Dd ρ Xr => tc ρ (fun c => if c = true then a Dd ρ Xr else b Dd ρ Xr) Xf
/-- try: .. except R: .. -/
def dTry0 (K : PySem.W.Frag) (R : Addr) (tb : TSDX) (ts : TSD) : TSD := fun Dd ρ _ => tb Dd ρ fun ρ' C => Fits K C R ∧ ts Dd ρ' Xf
def opq (a : Addr) : D := .dict [(.bool true, .int (a : Nat))]
def onlyRt (Dd : EndsD) : EndsD := { nx := fun _ => False, rt := Dd.rt, bk := fun _ => False, ct := fun _ => False }
/-- try: .. except R as n: .. (a suite that returns) -/
def dTryN (K : PySem.W.Frag) (mg : Str → Option Value) (R : Addr) (i : Nat) (tb : TSDX) (ts : Addr → Addr → TSD) : TSD := fun Dd ρ _ => tb Dd ρ fun ρ' C => Fits K C R ∧ (∃ x, ExC K mg x C) ∧ ExK K C ∧ ∀ ea, ts ea C (onlyRt Dd) (ρ'.set i (some (false, opq ea))) Xf
/-- isinstance(e, C) of the caught one -/
def dIsX (K : PySem.W.Frag) (ea C D : Addr) (te : TD) : TD := fun ρ Q Xd => te ρ (fun d _ => d = opq ea ∧ ∃ b, PySem.W.kitOne K (.ref C) (.ref D) = some b ∧ Q (.bool b) .old) Xd
/-- isinstance(e, (C, D, ..)) of the caught one -/
def dIsXT (K : PySem.W.Frag) (ea C : Addr) (Ds : List Addr) (te : TD) : TD := fun ρ Q Xd => te ρ (fun d _ => d = opq ea ∧ ∃ b, PySem.W.kitAny K (.ref C) (Ds.map Value.ref) = some b ∧ Q (.bool b) .old) Xd
end
end DL

namespace DL
open PySem PySem.Spec PyProof.Rows L2
section
variable {Q : QD} {QT : Bool → Prop} {k l : Kd} {ρ : Ren} {Xd : XD} {X : Cx} {K : PySem.W.Frag}
theorem list_iD {x : List Int} : PyData.list (x.map PyData.int) = iD x := rfl
theorem list_gD {x : List (List Int)} : PyData.list (x.map iD) = gD x := rfl
theorem dop_fdivB : DOp X K (binaryOp .FloorDiv) (fI CDivB fun i j => .int (i / j)) := ⟨_, op_fdivB, prim_int⟩
/-- floor division by any number that is not great beyond measure -/
def CDivX (i j : Int) : Prop := j ≠ 0 ∧ j.natAbs.log2 < 9000
end
section
variable {t u : TSD} {te ta tb tc t1 t2 : TD} {tl : TDA} {Dd : EndsD} {ρ : Ren} {Xd : XD} {Q : QD} {i : Nat} {d e : D} {k l : Kd}
def AppK (ds : List D) (i : Nat) (ρ : Ren) (Dd : EndsD) (d : D) : Kd → Prop
  | .own s => i ∉ s ∧ Dd.nx ((dropS ρ s).set i (some (true, .list (ds ++ [d]))))
  | _ => False
def PutK (i : Nat) (ρ : Ren) (Dd : EndsD) (x : D) : Kd → Prop
  | .own s => i ∉ s ∧ Dd.nx ((dropS ρ s).set i (some (true, x)))
  | _ => False
theorem unpK_own {is : List Nat} {ds : List D} : unpK ρ is ds (.own []) = setAll true ρ is ds := by
  unfold unpK eff
  split <;> first | rfl | (split at * <;> simp_all)
theorem unpK_flat {is : List Nat} {ds : List D} (h : flats ds = true) : unpK ρ is ds k = setAll true ρ is ds := by
  unfold unpK
  have : eff (.tuple ds) k = .own [] := eff_tup h
  rw [this]
theorem setAll_cons {b : Bool} {is : List Nat} {ds : List D} : setAll b ρ (i :: is) (d :: ds) = setAll b (ρ.set i (some (b && !flat d, d))) is ds := rfl
theorem setAll_nil {b : Bool} {ds : List D} : setAll b ρ [] ds = ρ := rfl
theorem app_iD {r : List Int} {x : Int} : PyData.list (r.map .int ++ [.int x]) = iD (r ++ [x]) := by unfold iD; rw [List.map_append]; rfl
theorem app_gD {g : List (List Int)} {r : List Int} : PyData.list (g.map iD ++ [iD r]) = gD (g ++ [r]) := by unfold gD; rw [List.map_append]; rfl
end
end DL

namespace DL
open PySem PySem.Spec PyProof.Rows L2
variable {α : Type}
theorem go_fltA {f : D → Els → (Els → Prop) → Prop} {Q : Els → Prop} (F G : α → D) (p : α → Bool) : ∀ (L : List α) (es : Els), (∀ a ∈ L, ∀ es (Q' : Els → Prop), es.length < 1000000 → Q' (if p a = true then es ++ [(G a, true)] else es) → f (F a) es Q') → es.length + L.length ≤ 1000000 → Q (es ++ (L.filter p).map fun a => (G a, true)) → go f (L.map F) es Q
  | [], es, _, _, q => by
    show Q es
    simpa using q
  | a :: r, es, hs, hm, q => by
    rw [List.length_cons] at hm
    refine hs a List.mem_cons_self es _ (by omega) ?_
    refine go_fltA F G p r _ (fun b hb => hs b (List.mem_cons_of_mem _ hb)) ?_ ?_
    · split
      · rw [List.length_append, List.length_singleton]; omega
      · omega
    · rw [List.filter_cons] at q
      by_cases hp : p a = true
      · rw [if_pos hp] at q ⊢
        rw [List.append_assoc]; exact q
      · rw [if_neg hp] at q ⊢; exact q
/-- the list made of what a list holds, those that pass -/
theorem lc_fltA {f : D → Els → (Els → Prop) → Prop} {ok : Bool} {Q : QD} {L : List α} (F G : α → D) (p : α → Bool) (hs : ∀ a ∈ L, ∀ es (Q' : Els → Prop), es.length < 1000000 → Q' (if p a = true then es ++ [(G a, true)] else es) → f (F a) es Q') (hm : L.length ≤ 1000000) (q : Q (.list ((L.filter p).map G)) (.own [])) : LcD f (L.map F) ok Q := by
  refine go_fltA F G p L [] hs (by simpa using hm) ?_
  have e1 : ((((L.filter p).map fun a => (G a, true)) : Els).map (·.1)) = (L.filter p).map G := by rw [List.map_map]; rfl
  have e2 : ((((L.filter p).map fun a => (G a, true)) : Els).all (·.2)) = true := by rw [List.all_map]; exact List.all_eq_true.mpr fun _ _ => rfl
  rw [List.nil_append, e1, if_pos e2]; exact q
theorem lc_mapA {f : D → Els → (Els → Prop) → Prop} {ok : Bool} {Q : QD} {L : List α} (F G : α → D) (hs : ∀ a ∈ L, ∀ es (Q' : Els → Prop), es.length < 1000000 → Q' (es ++ [(G a, true)]) → f (F a) es Q') (hm : L.length ≤ 1000000) (q : Q (.list (L.map G)) (.own [])) : LcD f (L.map F) ok Q :=
  lc_fltA F G (fun _ => true) hs hm (by rw [List.filter_eq_self.mpr fun _ _ => rfl]; exact q)
/-- a place where ways meet again -/
def dJn (t : TSD) : TSD := t
theorem dps_jn {X : Cx} {K : PySem.W.Frag} {E : XK} {s : Stmt} {t : TSD} (h : DS X K E s t) : DS X K E s (dJn t) := h
theorem w_jn {t : TSD} {Dd : EndsD} {ρ : Ren} {Xd : XD} (I : Ren → Prop) (h1 : ∀ N : Ren → Prop, (∀ ρ', I ρ' → N ρ') → t { Dd with nx := N } ρ Xd) (h2 : ∀ ρ', I ρ' → Dd.nx ρ') : dJn t Dd ρ Xd := h1 Dd.nx h2
section
variable {K : PySem.W.Frag} {R : Addr} {tb a b : TSDX} {ts : TSD} {Dd : EndsD} {ρ : Ren} {Xd : XD} {Xr : Ren → Addr → Prop} {te : TD} {tl : TDA} {tc : TDT} {sp : SpD} {Q : QD}
end
theorem frz1_0 {b : Bool} {d : D} {r : Ren} : frz1 0 (some (b, d) :: r) = some (false, d) :: r := rfl
theorem frz1_s {i : Nat} {x : Option (Bool × D)} {r : Ren} : frz1 (i + 1) (x :: r) = x :: frz1 i r := by
  unfold frz1
  rw [List.getElem?_cons_succ]
  cases h : r[i]? with
  | none => rfl
  | some y => cases y with
    | none => rfl
    | some p => rfl
end DL

namespace DL
open PySem PySem.Spec PyProof.Rows L2
section
variable {X : Cx} {K : PySem.W.Frag} {E : XK} {pos pa p1 px py pt : Pos} {e e1 : Expr} {te t1 : TD} {x y : Str}
/-- a name that tells nothing may hold anything -/
theorem StOk.junk {Z : Addr → Prop} {H0 H : Hp} {ν : Nat → List Addr} {ρ : Ren} {σ : L2.St} (S : StOk K Z H0 ν ρ σ H) {t : Nat} (h : ∀ b d, ρ[t]? ≠ some (some (b, d))) (v : Option V) : StOk K Z H0 ν ρ (σ.set t v) H where
  sm := S.sm
  len := by rw [List.length_set]; exact S.len
  sl := fun j b d hj => by
    obtain ⟨u, h1, h2⟩ := S.sl j b d hj
    exact ⟨u, by rw [List.getElem?_set_ne (fun e => by subst e; exact h b d hj)]; exact h1, h2⟩
  nd := S.nd
  dj := S.dj
  fr := S.fr
  zf := S.zf
/-! ### for y in x: y[e1] = e, x a list of lists of ours -/
def dForPut (i t : Nat) (t1 te : TD) : TSD := fun Dd ρ Xd => i ≠ t ∧ t < ρ.length ∧ ∃ (ds ds' : List D), ρ[i]? = some (some (true, .list ds)) ∧ ds'.length = ds.length ∧ (∀ (k : Nat) (row : D), ds[k]? = some row → te ((ρ.set i none).set t (some (false, row))) (fun d _ => flat d = true ∧ t1 ((ρ.set i none).set t (some (false, row))) (fun y _ => onI y fun z => ∃ (j : Nat) (es : List D), row = .list es ∧ ixN es.length z = some j ∧ ds'[k]? = some (.list (es.set j d))) Xd) Xd) ∧ Dd.nx ((ρ.set i (some (true, .list ds'))).set t none)
end
end DL

namespace DL
open PySem PySem.Spec PyProof.Rows L2
section
variable {X : Cx} {K : PySem.W.Frag} {E : XK} {pos p2 : Pos} {e k : Expr} {te tk : TD} {α : Type}
/-! ### xs[::-1] -/
theorem Dns.rev {H : Hp} : ∀ {us : List V} {ds : List D}, Dns K H us ds → Dns K H us.reverse ds.reverse
  | _, _, .nil => .nil
  | _, _, .cons h r => by rw [List.reverse_cons, List.reverse_cons]; exact (Dns.rev r).append (.cons h .nil)
def fRev (d : D) (k : Kd) (y : D) (Q : QD) : Prop := y = .int (-1) ∧ onL d fun ds => Q (.list ds.reverse) (kels ds.reverse k)
def dRev (te tk : TD) : TD := fun ρ Q Xd => te ρ (fun d k => tk ρ (fun y _ => fRev d k y Q) Xd) Xd
theorem dpe_rev (hK : X.K = K) (he : DE X K E e te) (hk : DE X K E k tk) : DE X K E (.Subscript e (.Slice none none (some k) p2) pos) (dRev te tk) := ⟨by
  refine qe_imp (qpe_rev K hK he.q hk.q) fun σ H Q h => ?_
  obtain ⟨H0, ν, ρ, Qd, Xd, S, h1, q, x⟩ := h
  refine ⟨H0, ν, ρ, _, Xd, S, h1, fun d k v H1 g1 e1 r1 => ?_, x⟩
  refine ⟨H0, ν, ρ, _, Xd, S.same e1, g1, fun y l u H2 g2 e2 r2 => ?_, x⟩
  obtain ⟨rfl, g3⟩ := g2
  have e03 := e1.trans e2
  have r3 := r1.same e2
  have hl3 := (S.same e03).hl
  cases d with
  | list ds =>
    obtain ⟨a, us, rfl, a1, a2, a3⟩ := res_list hl3 S.hl r3
    refine ⟨dn_int r2.den, a, us, rfl, SqL.of a1, fun p hp => q _ _ _ _ g3 (e03.trans (Same.new hp)) (res_newL hl3 e03 hp ?_)⟩
    exact rsl_part hl3 a3 (fun {G} hd => hd.rev) fun hf => flats_iff.mpr fun d hd => flats_iff.mp hf d (List.mem_reverse.mp hd)
  | _ => exact g3.elim⟩
theorem w_rev {ρ : Ren} {Q : QD} {Xd : XD} (h : te ρ (fun d k => tk ρ (fun y _ => fRev d k y Q) Xd) Xd) : dRev te tk ρ Q Xd := h
/-! ### lists of what is not ours -/
theorem lay_iD (r : List Int) : (iD r).canLay0 = true := lay_ints r
theorem kcons_int {x : Int} {k : Kd} : kcons (.int x) k (.own []) = .own [] := kcons_flat rfl
theorem kcons_boo {x : Bool} {k : Kd} : kcons (.bool x) k (.own []) = .own [] := kcons_flat rfl
theorem kcons_st {x : Str} {k : Kd} : kcons (.str x) k (.own []) = .own [] := kcons_flat rfl
theorem kcons_nn {k : Kd} : kcons .none k (.own []) = .own [] := kcons_flat rfl
theorem one_iD {x : Int} : PyData.list [PyData.int x] = iD [x] := rfl
theorem two_iD {x y : Int} : PyData.list [PyData.int x, PyData.int y] = iD [x, y] := rfl
end
end DL

namespace DL
open PySem PySem.Spec PyProof.Rows L2
section
variable {X : Cx} {K : PySem.W.Frag} {E : XK} {pos p1 px apos cpos : Pos} {e e1 : Expr} {te t1 : TD} {x : Str}
/-- a list within a list of ours is changed in its place -/
theorem StOk.row {H0 H H2 : Hp} {ν : Nat → List Addr} {ρ : Ren} {σ : L2.St} {i j : Nat} {ds es : List D} {a : Addr} {us : List V} {ns : List Addr} {s : List Nat} (S : StOk K Z0 H0 ν ρ σ H) (h1 : ρ[i]? = some (some (true, .list ds))) (g1 : σ[i]? = some (some (.ref a))) (g2 : H a = some (.lst us)) (g3 : Ows K H us ds ns) (g4 : ν i = a :: ns) (g5 : a ∉ ns) (g6 : ns.Nodup)
    (hj : ds[j]? = some (.list es)) (e : Same H H2) (hs : i ∉ s) :
    ∃ b ws ms0, us[j]? = some (.ref b) ∧ H b = some (.lst ws) ∧ Ows K H ws es ms0 ∧ b ∉ ms0 ∧ ms0.Nodup ∧ (∀ y ∈ b :: ms0, y ∈ ns) ∧ ∀ (ws' : List V) (es' : List D) (ms : List Addr), Ows K (upd H2 b (.lst ws')) ws' es' ms → ms.Nodup → (∀ y ∈ ms, y ∈ ms0 ∨ H y = none ∨ ∃ l ∈ s, y ∈ ν l) →
      ∃ ν', StOk K Z0 H0 ν' ((dropS ρ s).set i (some (true, .list (ds.set j (.list es'))))) σ (upd H2 b (.lst ws')) := by
  obtain ⟨n1, n2, n3, u, q1, q2, q3, q4, _⟩ := ows_split g3 hj
  have nu := g6
  rw [q1, List.nodup_append, List.nodup_append] at nu
  cases q3 with
  | lst hb r =>
    rename_i b ws n2
    have nb := List.nodup_cons.mp nu.2.1.1
    have inr : ∀ y ∈ b :: n2, y ∈ ns := fun y hy => by rw [q1]; exact List.mem_append_right _ (List.mem_append_left _ hy)
    refine ⟨b, ws, n2, q2, hb, r, nb.1, nb.2, inr, fun ws' es' ms hm nd fr => ?_⟩
    have hbn : b ∈ ns := inr b List.mem_cons_self
    have hab : a ≠ b := fun z => g5 (z ▸ hbn)
    have in13 : ∀ y, y ∈ n1 ∨ y ∈ n3 → y ∈ ns := fun y hy => by rw [q1]; rcases hy with hy | hy <;> simp [hy]
    have ne13 : ∀ y, y ∈ n1 ∨ y ∈ n3 → ∀ z ∈ b :: n2, y ≠ z := fun y hy z hz e => by
      subst e
      rcases hy with hy | hy
      · exact nu.2.2 y hy y (List.mem_append_left _ hz) rfl
      · exact nu.2.1.2.2 y hz y hy rfl
    have ms13 : ∀ y, y ∈ n1 ∨ y ∈ n3 → y ∉ ms := fun y hy z => by
      rcases fr y z with z | z | ⟨l, hl, z⟩
      · exact ne13 y hy y (List.mem_cons_of_mem _ z) rfl
      · obtain ⟨us, w⟩ := g3.there y (in13 y hy); rw [z] at w; cases w
      · rw [S.dj i l y (by rw [g4]; exact List.mem_cons_of_mem _ (in13 y hy)) z] at hs; exact hs hl
    have msa : a ∉ ms := fun z => by
      rcases fr a z with z | z | ⟨l, hl, z⟩
      · exact g5 (inr a (List.mem_cons_of_mem _ z))
      · rw [g2] at z; cases z
      · rw [S.dj i l a (by rw [g4]; exact List.mem_cons_self) z] at hs; exact hs hl
    have msb : b ∉ ms := fun z => by
      rcases fr b z with z | z | ⟨l, hl, z⟩
      · exact nb.1 z
      · rw [hb] at z; cases z
      · rw [S.dj i l b (by rw [g4]; exact List.mem_cons_of_mem _ hbn) z] at hs; exact hs hl
    have k1 : ∀ (l : List Addr), (∀ y ∈ l, y ∈ n1 ∨ y ∈ n3) → Kept l H (upd H2 b (.lst ws')) := fun l hl => kept_upd e hb fun y hy => ⟨g3.there y (in13 y (hl y hy)), ne13 y (hl y hy) b List.mem_cons_self⟩
    have C : Ow K (upd H2 b (.lst ws')) (.ref b) (.list es') (b :: ms) := .lst upd_same hm
    have us' : us.set j (.ref b) = us := by
      apply List.ext_getElem?
      intro m
      by_cases z : m = j
      · subst z; rw [List.getElem?_set_self (len_of q2), q2]
      · rw [List.getElem?_set_ne (Ne.symm z)]
    have A := q4 _ (k1 n1 fun y hy => .inl hy) (k1 n3 fun y hy => .inr hy) (.ref b) _ _ C
    rw [us'] at A
    refine ⟨_, S.mut s i (ms := a :: (n1 ++ ((b :: ms) ++ n3))) (v := .ref a) g1 (len_of h1) (fun y o hy hn => ?_) (.lst (by rw [upd_ne hab]; exact e _ _ g2) A) ?_ ?_ hs (gone_ok S hs e (by rw [g4]; exact List.mem_cons_of_mem _ hbn))⟩
    · rw [upd_ne (fun z => hn (by rw [z, g4]; exact List.mem_cons_of_mem _ hbn))]; exact e _ _ hy
    · refine List.nodup_cons.mpr ⟨fun z => ?_, List.nodup_append.mpr ⟨nu.1, List.nodup_append.mpr ⟨List.nodup_cons.mpr ⟨msb, nd⟩, nu.2.1.2.1, fun x hx y hy z => ?_⟩, fun x hx y hy z => ?_⟩⟩
      · rcases List.mem_append.mp z with z | z
        · exact g5 (in13 a (.inl z))
        · rcases List.mem_append.mp z with z | z
          · rcases List.mem_cons.mp z with z | z
            · exact hab z
            · exact msa z
          · exact g5 (in13 a (.inr z))
      · subst z
        rcases List.mem_cons.mp hx with z | z
        · exact ne13 x (.inr hy) b List.mem_cons_self z
        · exact ms13 x (.inr hy) z
      · subst z
        rcases List.mem_append.mp hy with hy | hy
        · rcases List.mem_cons.mp hy with z | z
          · exact ne13 x (.inl hx) b List.mem_cons_self z
          · exact ms13 x (.inl hx) z
        · exact nu.2.2 x hx x (List.mem_append_right _ hy) rfl
    · intro y hy
      have tk : ∀ y ∈ ns, y ∈ ν i := fun y hy => by rw [g4]; exact List.mem_cons_of_mem _ hy
      rcases List.mem_cons.mp hy with rfl | hy
      · exact .inl (by rw [g4]; exact List.mem_cons_self)
      · rcases List.mem_append.mp hy with hy | hy
        · exact .inl (tk y (in13 y (.inl hy)))
        · rcases List.mem_append.mp hy with hy | hy
          · rcases List.mem_cons.mp hy with rfl | hy
            · exact .inl (tk _ hbn)
            · rcases fr y hy with z | z | z
              · exact .inl (tk y (inr y (List.mem_cons_of_mem _ z)))
              · exact .inr (.inl z)
              · exact .inr (.inr z)
          · exact .inl (tk y (in13 y (.inr hy)))
/-! ### x[e1].append(e) -/
def App2K (ds es : List D) (j i : Nat) (ρ : Ren) (Dd : EndsD) (d : D) : Kd → Prop
  | .own s => i ∉ s ∧ Dd.nx ((dropS ρ s).set i (some (true, .list (ds.set j (.list (es ++ [d]))))))
  | _ => False
def dApp2 (i : Nat) (t1 te : TD) : TSD := fun Dd ρ Xd => ∃ ds, ρ[i]? = some (some (true, .list ds)) ∧ t1 ρ (fun y1 _ => onI y1 fun z1 => ∃ (j1 : Nat) (es : List D), ixN ds.length z1 = some j1 ∧ ds[j1]? = some (.list es) ∧ es.length < 1000000 ∧ te ρ (fun d k => App2K ds es j1 i ρ Dd d (eff d k)) Xd) Xd
end
end DL

namespace DL
open PySem PySem.Spec PyProof.Rows L2
/-! ### defs that are handed the caught one, within a handler -/
abbrev SpX := Addr → (D → Prop) → Prop
structure FnOkX (P : Program) (w : World) (K : PySem.W.Frag) (mg : Str → Option Value) (base : Heap) (k : Nat) (f : Addr) (fd : FuncData) (p : Str) (spx : SpX) : Prop where
  run : ∀ (A : Around) (outer : List Env) (s : Shared) (H : Hp) (args : Args) (ea C : Addr) (oe : Obj) (y : Str) (Qd : D → Prop) (Q : VK), RoomH k A → Env0 P w K mg base A outer s H → BindsTo s fd args [(p, .ref ea)] → s.heap.get? ea = some oe → A.handled = some (.ref ea) → XOf oe C → ExC K mg y C → ExK K C → H ea = none → ea ∉ frs outer → (∀ v, oe.data ≠ .cell v) → spx C Qd → (∀ d v H', Qd d → flat d = true → Same H H' → Dn K H' v d → Q v H') →
    codeAny (model P w) A (.call (.ref f) args) (CR CX0 outer P w H s Q E0) s
abbrev cxX (P : Program) (w : World) (K : PySem.W.Frag) (mg : Str → Option Value) (base : Heap) (N : List Str) (qual : Str) (scope : Scope) (f : Addr) (cd : Value) (A : Around) (outer : List Env) (s : Shared) (H : Hp) (E : XK) (ea : Addr) (oe : Obj) : Cx :=
  { cxOf CX0 P w K mg base N qual scope f cd A outer s H E with calm := false, pn := [(ea, oe)] }
structure DfX (P : Program) (w : World) (K : PySem.W.Frag) (mg : Str → Option Value) (base : Heap) (x p : Str) (k : Nat) (spx : SpX) : Prop where
  ex : ∃ f fd, FnOkX P w K mg base k f fd p spx ∧ mg x = some (.ref f) ∧ PySem.W.keepIn K (.ref f) = true ∧ Binds K fd [p] []
section
variable {X : Cx} {K : PySem.W.Frag} {E : XK} {pos pp : Pos} {te : TD} {x : Str} {ex : Expr}
/-- f(e), e the caught one -/
def dCallX (spx : SpX) (ea C : Addr) (te : TD) : TD := fun ρ Q Xd => te ρ (fun d _ => d = opq ea ∧ spx C fun r => Q r .old) Xd
end
end DL
namespace DL
open PySem PySem.Spec PyProof.Rows L2
section
variable {X : Cx} {K : PySem.W.Frag} {E : XK}
/-- isinstance(e, T) of the caught one, T a type of Python's -/
def dIsXB (K : PySem.W.Frag) (ea C : Addr) (n : String) (te : TD) : TD := fun ρ Q Xd => te ρ (fun d _ => d = opq ea ∧ ∃ b, PySem.W.kitOne K (.ref C) (.type n) = some b ∧ Q (.bool b) .old) Xd
end
end DL
namespace L2
open PySem PySem.Spec PyProof.Rows
section
variable {X : Cx} {pins : List (Addr × Obj)} {σ : St} {H : Hp} {s : Shared}
end
/-- a suite that returns or comes to its end -/
abbrev endsF (i : Nat) (D : Ends) : Ends := { nx := fun σ H => D.nx (σ.set i none) H, rt := D.rt, bk := fun _ _ => False, ct := fun _ _ => False }
section
variable {X : Cx} {pins : List (Addr × Obj)} {σ : St} {H : Hp} {s : Shared} {ea C R : Addr} {B : Heap} {a0 : Value} {x n : Str} {i : Nat} {np pos : Pos} {b0 : Stmt} {suite : List Stmt} {rest : List ExceptHandler} {ts : TS} {D : Ends}
end
section
variable {X : Cx}
def tTryF (R : Addr) (i : Nat) (tb : TSX) (ts : Addr → Addr → TS) (K : PySem.W.Frag) (mg : Str → Option Value) : TS := fun D σ H =>
  tb D (fun σ' cls _ H' => ∃ C x, cls = .ref C ∧ Fits K C R ∧ ExC K mg x C ∧ ExK K C ∧ ∀ ea, H' ea = none → ts ea C (endsF i D) (σ'.set i (some (.ref ea))) H') σ H
end
end L2
namespace DL
open PySem PySem.Spec PyProof.Rows L2
section
variable {X : Cx} {K : PySem.W.Frag} {pos : Pos}
def endsD (i : Nat) (Dd : EndsD) : EndsD := { nx := fun ρ => Dd.nx (ρ.set i none), rt := Dd.rt, bk := fun _ => False, ct := fun _ => False }
/-- try: .. except R as n: .. (a suite that returns or comes to its end) -/
def dTryF (K : PySem.W.Frag) (mg : Str → Option Value) (R : Addr) (i : Nat) (tb : TSDX) (ts : Addr → Addr → TSD) : TSD := fun Dd ρ _ => tb Dd ρ fun ρ' C => Fits K C R ∧ (∃ x, ExC K mg x C) ∧ ExK K C ∧ ∀ ea, ts ea C (endsD i Dd) (ρ'.set i (some (false, opq ea))) Xf
end
end DL

namespace L2
open PySem PySem.Spec PyProof.Rows
end L2
namespace DL
open PySem PySem.Spec PyProof.Rows L2
section
variable {X : Cx} {K : PySem.W.Frag} {E : XK} {pos px apos cpos : Pos} {e : Expr} {te : TD} {x : Str}
/-! ### x.extend(e), e a list that is ours, or one of data without lists -/
def ExtK (ds : List D) (i : Nat) (ρ : Ren) (Dd : EndsD) (es : List D) : Kd → Prop
  | .own s => i ∉ s ∧ Dd.nx ((dropS ρ s).set i (some (true, .list (ds ++ es))))
  | _ => False
def dExt (i : Nat) (te : TD) : TSD := fun Dd ρ Xd => ∃ ds, ρ[i]? = some (some (true, .list ds)) ∧ te ρ (fun d k => onL d fun es => ds.length + es.length ≤ 1000000 ∧ ExtK ds i ρ Dd es (if flats es = true then .own [] else k)) Xd
end
end DL

namespace DL
open PySem PySem.Spec PyProof.Rows L2
/-! ### dicts: keys are ints and texts (dKD), or tuples of them (dTD); values None, truths, ints, texts -/
section
variable {κ : Type} [DecidableEq κ]
def look (es : List (κ × D)) (k : κ) : Option D := (es.find? fun p => decide (p.1 = k)).map (·.2)
def putD (es : List (κ × D)) (k : κ) (d : D) : List (κ × D) := if (es.any fun p => decide (p.1 = k)) = true then es.map (fun p => if p.1 = k then (p.1, d) else p) else es ++ [(k, d)]
inductive VPs : List (κ × V) → List (κ × D) → Prop
  | nil : VPs [] []
  | cons {k v d r t} : valD d = some v → VPs r t → VPs ((k, v) :: r) ((k, d) :: t)
theorem VPs.look {kvs : List (κ × V)} {es : List (κ × D)} (h : VPs kvs es) (k : κ) : (∃ d v, DL.look es k = some d ∧ valV kvs k = some v ∧ valD d = some v) ∨ (DL.look es k = none ∧ valV kvs k = none) := by
  induction h with
  | nil => exact .inr ⟨rfl, rfl⟩
  | @cons k' v d r t e _ ih =>
    by_cases h : k' = k
    · exact .inl ⟨d, v, by unfold DL.look; rw [List.find?_cons_of_pos (by simpa using h)]; rfl, by unfold valV; rw [List.find?_cons_of_pos (by simpa using h)]; rfl, e⟩
    · have e1 : DL.look ((k', d) :: t) k = DL.look t k := by unfold DL.look; rw [List.find?_cons_of_neg (by simpa using h)]
      have e2 : valV ((k', v) :: r) k = valV r k := by unfold valV; rw [List.find?_cons_of_neg (by simpa using h)]
      rw [e1, e2]; exact ih
theorem VPs.any {kvs : List (κ × V)} {es : List (κ × D)} (h : VPs kvs es) (k : κ) : (kvs.any fun p => decide (p.1 = k)) = es.any fun p => decide (p.1 = k) := by
  induction h with
  | nil => rfl
  | cons _ _ ih => rw [List.any_cons, List.any_cons, ih]
theorem VPs.length {kvs : List (κ × V)} {es : List (κ × D)} (h : VPs kvs es) : kvs.length = es.length := by
  induction h with
  | nil => rfl
  | cons _ _ ih => rw [List.length_cons, List.length_cons, ih]
end
def tupK (k : List Key) : D := .tuple (k.map keyV)
def dKD (es : List (Key × D)) : D := dctD false (es.map fun p => (keyV p.1, p.2))
def dTD (es : List (List Key × D)) : D := dctD true (es.map fun p => (tupK p.1, p.2))
theorem keyV_inj {a b : Key} (h : keyV a = keyV b) : a = b := by
  cases a <;> cases b <;> simp [keyV] at h
  · rw [h]
  · rw [h]
theorem dK_vps : ∀ {kvs : List (Key × V)} {es : List (Key × D)}, DKps kvs (es.map fun p => (keyV p.1, p.2)) → VPs kvs es
  | [], [], _ => .nil
  | (k, v) :: r, (k', d) :: t, h => by
    have h1 : keyV k' = keyV k ∧ valD d = some v ∧ DKps r (t.map fun p => (keyV p.1, p.2)) := h
    rw [keyV_inj h1.1]
    exact .cons h1.2.1 (dK_vps h1.2.2)
  | [], _ :: _, h => h.elim
  | _ :: _, [], h => h.elim
theorem dK_of {kvs : List (Key × V)} {es : List (Key × D)} (h : VPs kvs es) : DKps kvs (es.map fun p => (keyV p.1, p.2)) := by
  induction h with
  | nil => trivial
  | cons e _ ih => exact ⟨rfl, e, ih⟩
section
variable {K : PySem.W.Frag} {H : Hp} {v : V}
theorem dn_dK {es : List (Key × D)} (h : Dn K H v (dKD es)) : ∃ a kvs, v = .ref a ∧ H a = some (.dK kvs) ∧ VPs kvs es := by
  unfold dKD dctD at h
  cases h with
  | dct e r =>
    rename_i a o
    cases o <;> first | exact r.elim | skip
    exact ⟨_, _, rfl, e, dK_vps r⟩
theorem ow_dK {a : Addr} {kvs : List (Key × V)} {es : List (Key × D)} (e : H a = some (.dK kvs)) (h : VPs kvs es) : Ow K H (.ref a) (dKD es) [a] := .dct e (dK_of h)
end
/-! ### keys -/
abbrev KeyR := Sum Key (List Key)
def KeyIs (H : Hp) : KeyR → V → Prop
  | .inl k, v => v = kV k
  | .inr ks, v => ∃ b, v = .ref b ∧ H b = some (.tup (ks.map kV))
theorem KeyIs.same {H H' : Hp} {k : KeyR} {v : V} (h : KeyIs H k v) (e : Same H H') : KeyIs H' k v := by
  cases k with
  | inl => exact h
  | inr => obtain ⟨b, h1, h2⟩ := h; exact ⟨b, h1, e _ _ h2⟩
abbrev TKy := Ren → (KeyR → Prop) → XD → Prop
def LKy (K : PySem.W.Frag) (E : XK) (t : TKy) : TE := fun σ H Q => ∃ H0 ν ρ Qd Xd, StOk K Z0 H0 ν ρ σ H ∧ t ρ Qd Xd ∧ (∀ k v H', Qd k → Same H H' → KeyIs H' k v → Q v H') ∧ ∀ C H', Xd C → Same H0 H' → E (.ref C) none H'
structure DKy (X : Cx) (K : PySem.W.Frag) (E : XK) (e : Expr) (t : TKy) : Prop where
  q : QE X e (LKy K E t)
section
variable {X : Cx} {K : PySem.W.Frag} {E : XK} {pos : Pos} {e : Expr} {es : List Expr} {te td : TD} {tk : TKy}
theorem dn_keyV {H : Hp} {v : V} {k : Key} (h : Dn K H v (keyV k)) : v = kV k := by
  cases k with
  | inl => exact dn_int h
  | inr => cases h; rfl
def kyS (t : TD) : TKy := fun ρ Q Xd => t ρ (fun d _ => ∃ k, d = keyV k ∧ Q (.inl k)) Xd
def kyT (t : TDA) : TKy := fun ρ Q Xd => t ρ (fun ds _ => ds.length ≤ 1000 ∧ ∃ ks, ds = ks.map keyV ∧ Q (.inr ks)) Xd
/-! ### in, not in -/
def DHas (d : D) (k : KeyR) (C : Bool → Prop) : Prop := (∃ es k', d = dKD es ∧ k = .inl k' ∧ C (look es k').isSome) ∨ ∃ es k', d = dTD es ∧ k = .inr k' ∧ C (look es k').isSome
def dDIn (f : Bool → Bool) (tk : TKy) (td : TD) : TD := fun ρ Q Xd => tk ρ (fun k => td ρ (fun d _ => DHas d k fun b => Q (.bool (f b)) .old) Xd) Xd
/-! ### d[k] -/
def DVal (d : D) (k : KeyR) (C : D → Prop) : Prop := (∃ es k' z, d = dKD es ∧ k = .inl k' ∧ look es k' = some z ∧ C z) ∨ ∃ es k' z, d = dTD es ∧ k = .inr k' ∧ look es k' = some z ∧ C z
def dDGet (td : TD) (tk : TKy) : TD := fun ρ Q Xd => td ρ (fun d _ => tk ρ (fun k => DVal d k fun z => Q z .old) Xd) Xd
/-! ### {} -/
def dDNew (b : Bool) : TD := fun _ Q _ => Q (if b = true then dTD [] else dKD []) (.own [])
/-! ### d[k] = v -/
def DPutD (x : D) (k : KeyR) (d : D) (C : D → Prop) : Prop := (∃ es k', x = dKD es ∧ k = .inl k' ∧ es.length < 1000000 ∧ C (dKD (putD es k' d))) ∨ ∃ es k', x = dTD es ∧ k = .inr k' ∧ es.length < 1000000 ∧ C (dTD (putD es k' d))
def dDPut (i : Nat) (tk : TKy) (te : TD) : TSD := fun Dd ρ Xd => te ρ (fun d _ => (valD d).isSome = true ∧ ∃ x, ρ[i]? = some (some (true, x)) ∧ tk ρ (fun k => DPutD x k d fun y => Dd.nx (ρ.set i (some (true, y)))) Xd) Xd
end
end DL

namespace DL
open PySem PySem.Spec PyProof.Rows L2
/-! ### defs whose arguments are their own: they may change them, and hand them back -/
noncomputable abbrev hidL (ms : List Addr) (H : Hp) : Hp := hid (fun a => a ∈ ms) H
def SpLO (K : PySem.W.Frag) (sp : SpD) : Sp := fun vs H Q E => ∃ ds ms Qd Xd, Ows K H vs ds ms ∧ ms.Nodup ∧ sp ds Qd Xd ∧ (∀ d o v H', Qd d o → Same (hidL ms H) H' → RR K (hidL ms H) H' o v d → Q v H') ∧ ∀ C H', Xd C → Same (hidL ms H) H' → E (.ref C) none H'
def startO (N : List Str) (ds : List D) : Ren := ds.map (fun d => some (!flat d, d)) ++ List.replicate (N.length - ds.length) none
section
variable {K : PySem.W.Frag} {H : Hp}
end
/-! ### the calls: return f(x, ..), and f(..) of what was just made -/
section
variable {X : Cx} {K : PySem.W.Frag} {E : XK} {pos p rp : Pos} {e : Expr} {es : List Expr} {x : Str} {ps : List Str} {k : Nat} {sp : SpD} {t : TDA}
def dRetO (sp : SpD) (t : TDA) : TSD := fun Dd ρ Xd => t ρ (fun ds k => (∃ s, k = .own s) ∧ sp ds (fun d o => Dd.rt d o) Xf) Xd
def dCallO (sp : SpD) (t : TDA) : TD := fun ρ Q Xd => t ρ (fun ds k => k = .own [] ∧ sp ds (fun d o => Q d (kRet o)) Xf) Xd
end
end DL

/-! ### texts: for c in x, x[i:j], len(x), x[i], x * n -/
namespace L2
open PySem PySem.Spec PyProof.Rows
def ItS (z : Str) : It := ⟨fun i _ => i < z.cps.size, fun i H x H' => H' = H ∧ ∃ c, z.cps[i]? = some c ∧ x = .str ⟨#[c]⟩, fun i _ => z.cps.size ≤ i⟩
theorem turn_str {P : Program} {w : World} {K : PySem.W.Frag} {tg : Expr} {it : Addr} {T : String} {z : Str} {t : Tok}
    (hT : ["enumerate", "zip", "dict_itemiterator", "dict_reverseitemiterator", "odict_iterator", "itertools.zip_longest", "itertools.pairwise"].contains T = false)
    (W : ∀ A : Around, A.handled = none → Walks P w A it [it] [it] z.cps.size (SignAt z) (fun i h => h.IsStrIter it T z t i))
    (slf : ∀ (A : Around) (i : Nat) (s : Shared) (Q : Value → Shared → Prop) (E : Value → Shared → Prop), s.heap.IsStrIter it T z t i → Q (.ref it) s → wpAny (model P w) A (pyIter (.ref it)) Q E s) : Turn P w K tg (ItS z) [it] it (fun i h => i ≤ z.cps.size ∧ h.IsStrIter it T z t i) where
  mem := by simp
  obj := fun i h st b hb => by
    have e : b = it := by simpa using hb
    subst e
    obtain ⟨_, o, e, c, d⟩ := st
    exact ⟨o, e, fun v z => by rw [d] at z; cases z⟩
  keep := fun i h h' st k => ⟨st.1, let ⟨o, e, r⟩ := st.2; ⟨o, k it (by simp) o e, r⟩⟩
  item := by
    intro X hP hw hK hc i pins s σ H E I hf st hg
    subst hP hw hK
    obtain ⟨f0, f1, f2, f3, f4, f5⟩ := hf it (by simp)
    refine (W X.A (I.ok.hd hc)).item i s _ _ hg st.2 fun v h' tk hv st' kk => ?_
    obtain ⟨c, u, hc', rfl⟩ := hv
    have I1 : Inv X pins σ H { s with heap := h', toks := tk } := I.turned (fun b o hb e => kk b o (by simpa using hb) e) f0 f1 f3 f4 f5
    obtain ⟨o, e1, e2, e3⟩ := id st'
    exact ⟨_, rfl, go_of (s := { s with heap := h', toks := tk }) (n := T) e1 e2 e3 hT ⟨.str ⟨#[c]⟩, H, I1, ⟨u, rfl⟩, ⟨rfl, c, hc', rfl⟩, ⟨hg, st'⟩, fun b hb => (hf b hb).1⟩⟩
  done := by
    intro X hP hw hK hc i pins s σ H E I hf st hg
    subst hP hw hK
    obtain ⟨f0, f1, f2, f3, f4, f5⟩ := hf it (by simp)
    have ei : i = z.cps.size := Nat.le_antisymm st.1 hg
    subst ei
    refine (W X.A (I.ok.hd hc)).done s _ _ st.2 fun h' tk kk => ?_
    exact ⟨rfl, I.turned (fun b o hb e => kk b o (by simpa using hb) e) f0 f1 f3 f4 f5⟩
  self := fun A i s Q E st hq => slf A i s Q E st.2 hq
section
variable {X : Cx} {tg : Expr}
def iStr (tl : TE) : TI := fun σ H R => tl σ H fun x H1 => ∃ z, x = .str z ∧ R (ItS z) H1
theorem pi_str {l : Expr} {tl : TE} (hl : PE X l tl) : PI X tg l (iStr tl) := by
  intro pins s σ H R I h
  refine thn (hl pins s σ H _ I h) fun v s1 ⟨x, H1, I1, r1, q1⟩ => ?_
  obtain ⟨z, rfl, q⟩ := q1
  obtain ⟨t, rfl⟩ := r1
  have fp : ∀ (o : Obj), ∀ b ∈ [s1.heap.objs.size], FpOk X pins H1 b := fun o b hb => by
    have e : b = s1.heap.objs.size := by simpa using hb
    subst e
    exact I1.fpOk (Nat.le_refl _) (I1.hok.fresh (Nat.le_refl _))
  cases ha : z.cps.all (· < 128) with
  | false =>
    refine wpAny_pyIter_wide ha ?_
    exact ⟨s1.heap.objs.size, [s1.heap.objs.size], _, _, H1, rfl, I1.kept (t' := s1.toks) fun b o e => Heap.get?_push_of_some _ e, turn_str (by decide) (fun A hA => Walks.strWide hA _ z t) (fun A i s Q E st hq => wpAny_pyIter_striter_wide st hq), ⟨Nat.zero_le _, _, Heap.get?_push_size _ rfl, rfl, rfl⟩, fp { cls := .none, data := .fields #[] }, q⟩
  | true =>
    refine wpAny_pyIter_ascii ha ?_
    exact ⟨s1.heap.objs.size, [s1.heap.objs.size], _, _, H1, rfl, I1.kept (t' := s1.toks) fun b o e => Heap.get?_push_of_some _ e, turn_str (by decide) (fun A hA => Walks.strAscii hA _ z t) (fun A i s Q E st hq => wpAny_pyIter_striter_ascii st hq), ⟨Nat.zero_le _, _, Heap.get?_push_size _ rfl, rfl, rfl⟩, fp { cls := .none, data := .fields #[] }, q⟩
/-- x[lo:hi] of a text -/
def rSlS : V → Option Int → Option Int → Hp → VK → Prop := fun x lo hi H Q => ∃ z, x = .str z ∧ z.length ≤ sizeLine ∧ Q (.str (Txt.slice z lo hi)) H
theorem part_of {v : Value} {o : Option Int} (h : IsPart v o) : ∃ l : Option (Int × Tok), v = partValue l ∧ l.map (·.1) = o := by
  cases h with
  | none => exact ⟨none, rfl, rfl⟩
  | int i t => exact ⟨some (i, t), rfl, rfl⟩
theorem sl_str : SlR X rSlS := by
  intro pins s σ H x v vl vu lo hi sl Q I rx hs pl pu h
  obtain ⟨z, rfl, hz, q⟩ := h
  obtain ⟨t, rfl⟩ := rx
  obtain ⟨l, rfl, rfl⟩ := part_of pl
  obtain ⟨u, rfl, rfl⟩ := part_of pu
  refine ⟨"str", _, F.slot_str_getitem.lookup, typeIs_str _ _ _, wpAny_getItem_str_slice (l := l) (u := u) (st := none) hs rfl ?_⟩
  exact post_val_or_str ⟨Nat.le_trans (Txt.slice_le z _ _) hz, fun t' k => ⟨.str _, H, I.tok _, ⟨t', rfl⟩, q⟩⟩
end
end L2
namespace DL
open PySem PySem.Spec PyProof.Rows L2
section
variable {X : Cx} {K : PySem.W.Frag} {E : XK} {pos : Pos} {tg l : Expr} {te : TD} {ta : TDA}
/-- the signs of a text -/
def signs (z : Str) : List D := z.cps.toList.map fun c => PyData.str ⟨#[c]⟩
theorem signs_len (z : Str) : (signs z).length = z.cps.size := by unfold signs; rw [List.length_map, Array.length_toList]
theorem itok_str {F0 : Hp} {z : Str} : ItOk K F0 (ItS z) (signs z) := fun W H2 hl sm => by
  refine ⟨?_, fun i d hd => ?_⟩
  · show z.cps.size ≤ _
    rw [signs_len]; exact Nat.le_refl _
  · unfold signs at hd
    rw [List.getElem?_map, Array.getElem?_toList] at hd
    cases e : z.cps[i]? with
    | none => rw [e] at hd; cases hd
    | some c =>
      rw [e] at hd; cases hd
      refine ⟨?_, fun x H' y => ?_⟩
      · show i < z.cps.size
        exact (Array.getElem?_eq_some_iff.mp e).1
      · obtain ⟨rfl, c', e', rfl⟩ := y
        rw [e] at e'; cases e'
        exact ⟨Same.refl _, .str _⟩
def iS (te : TD) : TDI := fun ρ Q Xd => te ρ (fun d _ => match d with
  | .str z => Q (signs z) true
  | _ => False) Xd
theorem dpi_str (hl : DE X K E l te) : DI X K E tg l (iS te) := ⟨qi_imp (⟨pi_str hl.q.h⟩ : QI X tg l (iStr (LE K E te))) fun σ H R h => by
  obtain ⟨H0, ν, ρ, Qd, Xd, S, h1, q, x⟩ := h
  refine ⟨H0, ν, ρ, _, Xd, S, h1, fun d k v H' g1 g2 g3 => ?_, x⟩
  have := g3.den
  cases d with
  | str z => cases this; exact ⟨z, rfl, q _ _ _ H' g1 g2 itok_str⟩
  | _ => exact g1.elim⟩
def fIxS : F2 := fun d _ e _ Q => match d, e with
  | .str z, .int i => z.length ≤ 1000000 ∧ ∃ c, atI z.cps.toList i = some c ∧ Q (.str ⟨#[c]⟩) .old
  | _, _ => False
def fMulS : F2 := fun d _ e _ Q => match d, e with
  | .str z, .int i => MulOk z i ∧ Q (.str (Txt.mul z i)) .old
  | _, _ => False
def fLenS : FA := fun ds _ Q => match ds with
  | [.str z] => z.length ≤ 1000000 ∧ Q (.int z.length) .old
  | _ => False
def fSlS : F3 := fun d _ lo hi Q => match d with
  | .str z => z.length ≤ 1000000 ∧ Q (.str (Txt.slice z lo hi)) .old
  | _ => False
theorem dpe_sliceS {e : Expr} {lo hi : Option Expr} {te : TD} {tl th : TDO} {p2 : Pos} (he : DE X K E e te) (hl : DO X K E lo tl) (hu : DO X K E hi th) : DE X K E (.Subscript e (.Slice lo hi none p2) pos) (dSl fSlS te tl th) := ⟨by
  refine qe_imp (qpe_slice sl_str he.q hl.q hu.q) fun σ H Q h => ?_
  obtain ⟨H0, ν, ρ, Qd, Xd, S, h1, q, x⟩ := h
  refine ⟨H0, ν, ρ, _, Xd, S, h1, fun d k v H1 g1 e1 r1 => ?_, x⟩
  refine ⟨H0, ν, ρ, _, Xd, S.same e1, g1, fun l H2 g2 e2 => ?_, x⟩
  refine ⟨H0, ν, ρ, _, Xd, S.same (e1.trans e2), g2, fun u H3 g3 e3 => ?_, x⟩
  have r := r1.den
  unfold fSlS at g3
  split at g3
  · cases r
    exact ⟨_, rfl, Nat.le_trans g3.1 million, q _ _ _ _ g3.2 ((e1.trans e2).trans e3) (.str _)⟩
  · exact g3.elim⟩
/-! any() within a handler -/
end
end DL

namespace DL
open PySem PySem.Spec PyProof.Rows L2
/-! ### the walk's steps for texts and owned arguments -/
section
variable {ρ : Ren} {Q : QD} {Xd : XD} {z : Str} {i : Int} {k l : Kd} {te : TD} {t : TDA} {sp : SpD} {Dd : EndsD} {ds : List D} {s : List Nat} {lo hi : Option Int}
theorem w_slX (h : z.length ≤ 1000000 ∧ Q (.str (Txt.slice z lo hi)) .old) : fSlS (.str z) k lo hi Q := h
def onS (Q : List D → Bool → Prop) : QD := fun d _ => match d with
  | .str z => Q (signs z) true
  | _ => False
theorem w_iS {Q : List D → Bool → Prop} (h : te ρ (onS Q) Xd) : iS te ρ Q Xd := h
theorem w_onS {Q : List D → Bool → Prop} (h : Q (signs z) true) : onS Q (.str z) k := h
def onO (sp : SpD) (Dd : EndsD) : List D → Kd → Prop := fun ds k => (∃ s, k = .own s) ∧ sp ds (fun d o => Dd.rt d o) Xf
def onC (sp : SpD) (Q : QD) : List D → Kd → Prop := fun ds k => k = .own [] ∧ sp ds (fun d o => Q d (kRet o)) Xf
end
/-! Txt.slice of a text: the signs between -/
end DL

namespace L2
open PySem PySem.Spec PyProof.Rows PySem.W
/-! ### the questions of a sort, answered by a table -/
def runK {α : Type} (lt : Nat → Nat → Bool) : KasT α → α
  | .ret a => a
  | .ask i j k => runK lt (k (lt i j))
/-- asks below n alone, and ends in P -/
def BelK {α : Type} (n : Nat) (P : α → Prop) : KasT α → Prop
  | .ret a => P a
  | .ask i j k => i < n ∧ j < n ∧ ∀ b, BelK n P (k b)
/-- the places, in some order -/
def Pl (n : Nat) (p : Array Nat) : Prop := p.Perm (List.toArray (List.range n))
end L2

namespace L2
open PySem PySem.Spec PyProof.Rows PySem.W PySem.Calls
/-- what the sort of vs gives, its questions answered by lt -/
def outK (lt : Nat → Nat → Bool) (vs : List Value) : List Value := if vs.length < 2 then vs else (runK lt (kas_sort vs.length)).toList.map fun i => vs.getD i Value.none
section
variable {prog : Program} {w : World} {A : Around} {E : Value → Shared → Prop} {s : Shared} {vs : List Value} {lt : Nat → Nat → Bool} {κ : SortKind}
/-- questions that change nothing -/
structure Asks (prog : Program) (w : World) (A : Around) (κ : SortKind) (vs : List Value) (lt : Nat → Nat → Bool) (s : Shared) : Prop where
  kind : 2 ≤ vs.length → ∀ Q : SortKind → Shared → Prop, Q κ s → wpAny (model prog w) A (keyKind' vs.toArray) Q (fun _ _ => False) s
  ask : ∀ i j, i < vs.length → j < vs.length → ∀ C : Bool → Shared → Prop, C (lt i j) s → kas_ask prog w A κ vs i j C s
end
end L2

namespace L2
open PySem PySem.Spec PyProof.Rows PySem.W PySem.Calls
/-! ### ints and texts, and lists of them, in order -/
def ltV : V → V → Bool
  | .int x, .int y => decide (x < y)
  | .str x, .str y => decide (x.cps.toList < y.cps.toList)
  | _, _ => false
def sameK : V → V → Bool
  | .int _, .int _ => true
  | .str _, .str _ => true
  | _, _ => false
def lexV : List V → List V → Bool
  | a :: r, b :: t => if a = b then lexV r t else ltV a b
  | _, _ => false
def sameKs : List V → List V → Bool
  | [], [] => true
  | a :: r, b :: t => sameK a b && sameKs r t
  | _, _ => false
theorem sameK.symm {a b : V} (h : sameK a b = true) : sameK b a = true := by cases a <;> cases b <;> first | rfl | cases h
theorem sameK.trans {a b c : V} (h : sameK a b = true) (g : sameK b c = true) : sameK a c = true := by cases a <;> cases b <;> first | (cases h; done) | (cases c <;> first | rfl | (cases g; done))
theorem sameKs.symm : ∀ {a b : List V}, sameKs a b = true → sameKs b a = true
  | [], [], _ => rfl
  | _ :: _, _ :: _, h => by
    rw [sameKs, Bool.and_eq_true] at h ⊢
    exact ⟨sameK.symm h.1, sameKs.symm h.2⟩
  | [], _ :: _, h => by cases h
  | _ :: _, [], h => by cases h
theorem sameKs.trans : ∀ {a b c : List V}, sameKs a b = true → sameKs b c = true → sameKs a c = true
  | [], [], [], _, _ => rfl
  | _ :: _, _ :: _, _ :: _, h, g => by
    rw [sameKs, Bool.and_eq_true] at h g ⊢
    exact ⟨sameK.trans h.1 g.1, sameKs.trans h.2 g.2⟩
  | [], _ :: _, _, h, _ => by cases h
  | _ :: _, [], _, h, _ => by cases h
  | _, [], _ :: _, _, g => by cases g
  | _, _ :: _, [], _, g => by cases g
section
variable {prog : Program} {w : World} {A : Around} {E : Value → Shared → Prop} {s : Shared}
end
/-- tuples of one make -/
def okTs : List (List V) → Bool
  | [] => true
  | u :: r => !u.isEmpty && (sameKs u u && r.all (sameKs u))
def outV (lt : Nat → Nat → Bool) (vs : List V) : List V := if vs.length < 2 then vs else (runK lt (kas_sort vs.length)).toList.map fun i => vs.getD i .non
end L2

namespace L2
open PySem PySem.Spec PyProof.Rows PySem.W PySem.Calls
def headK : List V → Option Bool
  | .int _ :: _ => some true
  | .str _ :: _ => some false
  | _ => none
def KindV (k : Bool) (v : Value) : Prop := if k = true then ∃ i t, v = .int i t else ∃ x t, v = .str x t
section
variable {X : Cx} {pins : List (Addr × Obj)} {σ : List (Option V)} {H : Hp} {s : Shared}
def ltT (us : List (List V)) (i j : Nat) : Bool := lexV (us.getD i []) (us.getD j [])
def rSortT (K : PySem.W.Frag) : List V → Hp → VK → Prop := fun xs H Q => ∃ p as us, xs = [.ref p] ∧ SqL K H p (as.map V.ref) ∧ Paired (SqT K H) as us ∧ okTs us = true ∧ as.length < 64 ∧ ∀ l, H l = none → Q (.ref l) (upd H l (.lst (outV (ltT us) (as.map V.ref))))
end
end L2

namespace DL
open PySem PySem.Spec PyProof.Rows L2
/-! ### sorted(e), e a list of tuples of ints and texts -/
def scV : D → Option V
  | .int i => some (.int i)
  | .str x => some (.str x)
  | _ => Option.none
def scVs : List D → Option (List V)
  | [] => some []
  | d :: r => match scV d, scVs r with
    | some v, some vs => some (v :: vs)
    | _, _ => Option.none
def tupV : D → Option (List V)
  | .tuple ds => scVs ds
  | _ => Option.none
def tupVs : List D → Option (List (List V))
  | [] => some []
  | d :: r => match tupV d, tupVs r with
    | some v, some vs => some (v :: vs)
    | _, _ => Option.none
def outD (lt : Nat → Nat → Bool) (xs : List D) : List D := if xs.length < 2 then xs else (runK lt (PySem.W.kas_sort xs.length)).toList.map fun i => xs.getD i .none
def fSort : FA := fun ds _ Q => match ds with
  | [.list xs] => ∃ us, tupVs xs = some us ∧ okTs us = true ∧ xs.length < 64 ∧ Q (.list (outD (ltT us) xs)) (.own [])
  | _ => False
section
variable {X : Cx} {K : PySem.W.Frag} {E : XK} {H : Hp}
end
/-! ### two fors in a comprehension -/
variable {α : Type}
end DL

namespace L2
open PySem PySem.Spec PyProof.Rows
section
variable {X : Cx} {pos : Pos}
/-- (a, b, ..) = a list of that length -/
def gLst (K : PySem.W.Frag) (n : Nat) (t : TGs) : TG := fun v σ H Q => ∃ a xs, v = .ref a ∧ SqL K H a xs ∧ xs.length = n ∧ t xs σ H Q
end
end L2
namespace DL
open PySem PySem.Spec PyProof.Rows L2
section
variable {X : Cx} {K : PySem.W.Frag} {E : XK} {pos : Pos} {e : Expr} {te : TD}
theorem onL_ex' {y : D} {Q : List D → Prop} (h : onL y Q) : ∃ z, y = .list z ∧ Q z := by
  cases y <;> first | exact h.elim | exact ⟨_, rfl, h⟩
/-- a, b = a list: all that is ours becomes what is not -/
def dUnpL (is : List Nat) (te : TD) : TSD := fun Dd ρ Xd => te ρ (fun d _ => onL d fun ds => ds.length = is.length ∧ Dd.nx (setAll false (frz ρ) is ds)) Xd
end
end DL

namespace L2
open PySem PySem.Spec PyProof.Rows PySem.W PySem.Calls
/-! ### a dict walked by its entries, whatever the keys are -/
def RawD (h : Heap) (d : Addr) (es : Array DictEntry) (ep : Nat) : Prop := ∃ o, h.get? d = some o ∧ o.ExactDict ∧ o.data = .dict es ep
theorem RawD.at {h h' : Heap} {d : Addr} {es : Array DictEntry} {ep : Nat} (x : RawD h d es ep) (k : ∀ o, h.get? d = some o → h'.get? d = some o) : RawD h' d es ep := let ⟨o, e, r⟩ := x; ⟨o, k o e, r⟩
section
variable {prog : Program} {w : World} {A : Around} {E : Value → Shared → Prop} {s : Shared} {d it : Addr} {es : Array DictEntry} {ep i : Nat}
/-! ### what is walked, gathered -/
end
end L2

namespace L2
open PySem PySem.Spec PyProof.Rows PySem.W PySem.Calls
/-! ### list(d), sorted(d), len(d) -/
section
variable {prog : Program} {w : World} {A : Around} {E : Value → Shared → Prop} {s : Shared} {vs : List Value} {lt : Nat → Nat → Bool} {κ : SortKind}
end
section
variable {X : Cx} {pins : List (Addr × Obj)} {σ : List (Option V)} {H : Hp} {s : Shared} {a : Addr}
def rListD : List V → Hp → VK → Prop := fun xs H Q => ∃ a, xs = [.ref a] ∧ ((∃ kvs, H a = some (.dK kvs) ∧ ∀ l, H l = none → Q (.ref l) (upd H l (.lst (kvs.map fun p => kV p.1)))) ∨
  ∃ kvs, H a = some (.dT kvs) ∧ ∀ bs, Paired (fun b (p : List Key × V) => H b = some (.tup (p.1.map kV))) bs kvs → ∀ l, H l = none → Q (.ref l) (upd H l (.lst (bs.map V.ref))))
def rSortD : List V → Hp → VK → Prop := fun xs H Q => ∃ a kvs, xs = [.ref a] ∧ H a = some (.dT kvs) ∧ okTs (kvs.map fun p => p.1.map kV) = true ∧ kvs.length < 64 ∧ ∀ bs, Paired (fun b (p : List Key × V) => H b = some (.tup (p.1.map kV))) bs kvs → ∀ l, H l = none → Q (.ref l) (upd H l (.lst (outV (ltT (kvs.map fun p => p.1.map kV)) (bs.map V.ref))))
end
end L2
namespace DL
open PySem PySem.Spec PyProof.Rows L2
section
variable {X : Cx} {K : PySem.W.Frag} {E : XK}
/-- the keys, as data -/
def keysT (es : List (List Key × D)) : List D := es.map fun p => tupK p.1
def keysK (es : List (Key × D)) : List D := es.map fun p => keyV p.1
def fListDT : FA := fun ds _ Q => ∃ es, ds = [dTD es] ∧ Q (.list (keysT es)) (.own [])
def fListDK : FA := fun ds _ Q => ∃ es, ds = [dKD es] ∧ Q (.list (keysK es)) (.own [])
def fSortDT : FA := fun ds _ Q => ∃ es, ds = [dTD es] ∧ okTs (es.map fun p => p.1.map kV) = true ∧ es.length < 64 ∧ Q (.list (outD (ltT (es.map fun p => p.1.map kV)) (keysT es))) (.own [])
end
end DL

namespace L2
open PySem PySem.Spec PyProof.Rows PySem.W PySem.Calls
section
variable {prog : Program} {w : World} {A : Around} {E : Value → Shared → Prop} {s : Shared} {d : Addr} {es : Array DictEntry} {ep : Nat}
end
def rLenD2 : List V → Hp → VK → Prop := fun xs H Q => ∃ a, xs = [.ref a] ∧ ((∃ kvs, H a = some (.dK kvs) ∧ Q (.int kvs.length) H) ∨ ∃ kvs, H a = some (.dT kvs) ∧ Q (.int kvs.length) H)
end L2
namespace DL
open PySem PySem.Spec PyProof.Rows L2
section
variable {X : Cx} {K : PySem.W.Frag} {E : XK}
def fLenD : FA := fun ds _ Q => (∃ es, ds = [dTD es] ∧ Q (.int es.length) .old) ∨ ∃ es, ds = [dKD es] ∧ Q (.int es.length) .old
/-! the walk's steps -/
variable {ρ : Ren} {Q : QD} {Xd : XD} {k : Kd} {te td : TD} {tk : TKy} {t : TDA} {es : List (List Key × D)} {eK : List (Key × D)} {i : Nat} {Dd : EndsD}
/-- keys -/
def onKS (Q : KeyR → Prop) : QD := fun d _ => ∃ k, d = keyV k ∧ Q (.inl k)
/-- the parts of a tuple, as keys -/
def keyO : D → Option Key
  | .int i => some (.inl i)
  | .str x => some (.inr x)
  | _ => Option.none
def keysO : List D → Option (List Key)
  | [] => some []
  | d :: r => match keyO d, keysO r with
    | some k, some ks => some (k :: ks)
    | _, _ => Option.none
def onKT (Q : KeyR → Prop) : List D → Kd → Prop := fun ds _ => ds.length ≤ 1000 ∧ ∃ ks, ds = ks.map keyV ∧ Q (.inr ks)
/-- in, not in, d[k], d[k] = v -/
def onIn (f : Bool → Bool) (td : TD) (ρ : Ren) (Q : QD) (Xd : XD) : KeyR → Prop := fun k => td ρ (fun d _ => DHas d k fun b => Q (.bool (f b)) .old) Xd
def onPut (i : Nat) (tk : TKy) (Dd : EndsD) (ρ : Ren) (Xd : XD) : QD := fun d _ => (valD d).isSome = true ∧ ∃ x, ρ[i]? = some (some (true, x)) ∧ tk ρ (fun k => DPutD x k d fun y => Dd.nx (ρ.set i (some (true, y)))) Xd
section
variable {pos : Pos} {i o : Expr}
end
end
end DL
namespace DL
open PySem PySem.Spec PyProof.Rows L2
section
variable {ρ : Ren} {i : Nat} {s : List Nat} {es : List (List Key × D)} {eK : List (Key × D)} {k : Kd}
theorem flat_dK : flat (dKD eK) = false := rfl
theorem setK_ownK : setK ρ i (dKD eK) (.own s) = (dropS ρ s).set i (some (true, dKD eK)) := rfl
theorem setK_oldK : setK ρ i (dKD eK) .old = ρ.set i (some (false, dKD eK)) := rfl
end
end DL

namespace DL
open PySem PySem.Spec PyProof.Rows L2
/-! ### names of the module that hold a number, or a tuple of numbers and texts -/
structure GInt (mg : Str → Option Value) (x : Str) (i : Int) : Prop where
  ex : ∃ t, mg x = some (.int i t)
structure GTup (K : PySem.W.Frag) (mg : Str → Option Value) (x : Str) (ds : List D) : Prop where
  ex : ∃ a, mg x = some (.ref a) ∧ ∀ H, Dn K H (.ref a) (.tuple ds)
/-- a written value, as data -/
def scD : Value → Option D
  | .none => some .none
  | .bool b => some (.bool b)
  | .int i _ => some (.int i)
  | .str x _ => some (.str x)
  | _ => Option.none
def scDs : List Value → Option (List D)
  | [] => some []
  | v :: r => match scD v, scDs r with
    | some d, some ds => some (d :: ds)
    | _, _ => Option.none
section
variable {X : Cx} {K : PySem.W.Frag} {E : XK} {pos : Pos} {x : Str}
end
end DL

namespace L2
open PySem PySem.Spec PyProof.Rows
section
variable {X : Cx}
end
end L2
namespace DL
open PySem PySem.Spec PyProof.Rows L2
section
variable {X : Cx} {K : PySem.W.Frag} {E : XK} {pos p px apos cpos : Pos} {x : Str}
theorem kels2_flat {ds es : List D} {k l : Kd} (h : (flats ds && flats es) = true) : kels2 ds k es l = .own [] := by unfold kels2; rw [if_pos h]
def xIs (te : TD) : TD := fun ρ Q Xd => te ρ (fun d _ => onB d fun b => Q (.bool b) .old) Xd
/-! ### x.clear() -/
def dClr (i : Nat) : TSD := fun Dd ρ _ => ∃ ds, ρ[i]? = some (some (true, .list ds)) ∧ Dd.nx (ρ.set i (some (true, .list [])))
end
/-! ### a list within our list, by a name of its own -/
section
variable {K : PySem.W.Frag} {H0 H H' : Hp} {ν : Nat → List Addr} {ρ : Ren} {σ : L2.St} {u : V} {d : D} {q : Nat}
/-- all is looked at: q is a name of something within ours -/
def lk (q : Nat) (d : D) (ρ : Ren) : Ren := (frz ρ).set q (some (false, d))
theorem StOk.look (S : StOk K Z0 H0 ν ρ σ H) (hq : σ[q]? = some (some u)) (hd : Dn K H u d) : StOk K Z0 H0 (fun _ => []) (lk q d ρ) σ H := by
  have A := S.frz.setOld q (v := u) (d := d) (Dn.same hid_z0 hd)
  have e : σ.set q (some u) = σ := by
    refine List.ext_getElem? fun j => ?_
    by_cases z : q = j
    · subst z; rw [List.getElem?_set_self (len_of hq), hq]
    · rw [List.getElem?_set_ne z]
  rw [e] at A
  exact A
/-- the name q holds what is at place j of the list at the name i -/
def Al (i q j : Nat) (σ : L2.St) (H : Hp) : Prop := ∃ a us u, σ[i]? = some (some (.ref a)) ∧ H a = some (.lst us) ∧ us[j]? = some u ∧ σ[q]? = some (some u)
theorem Al.same {i q j : Nat} (A : Al i q j σ H) (e : Same H H') : Al i q j σ H' := by
  obtain ⟨a, us, u, h1, h2, h3, h4⟩ := A
  exact ⟨a, us, u, h1, e _ _ h2, h3, h4⟩
theorem Al.set {i q j p : Nat} (A : Al i q j σ H) (hi : i ≠ p) (hq : q ≠ p) (v : Option V) : Al i q j (σ.set p v) H := by
  obtain ⟨a, us, u, h1, h2, h3, h4⟩ := A
  exact ⟨a, us, u, by rw [List.getElem?_set_ne (Ne.symm hi)]; exact h1, h2, h3, by rw [List.getElem?_set_ne (Ne.symm hq)]; exact h4⟩
end
section
variable {X : Cx} {K : PySem.W.Frag} {E : XK} {t0 t1 te2 te3 : TD} {tc1 tc2 : TDT}
/-- y = x[e0]; if c1: return x; z = e1; if c2: y[z] = e2; else: y[z] = 0; y[z] = e3; then: return x -/
def dAl (i q p : Nat) (t0 : TD) (tc1 : TDT) (t1 : TD) (tc2 : TDT) (te2 te3 : TD) : TSD := fun Dd ρ Xd => ∃ ds, ρ[i]? = some (some (true, .list ds)) ∧ (∀ b d, ρ[q]? ≠ some (some (b, d))) ∧ (i ≠ q ∧ i ≠ p ∧ q ≠ p ∧ q < ρ.length ∧ p < ρ.length) ∧ t0 ρ (fun y _ => onI y fun z => ∃ (j : Nat) (es : List D), ixN ds.length z = some j ∧ ds[j]? = some (.list es) ∧
  tc1 (lk q (.list es) ρ) (fun b => if b = true then Dd.rt (.list ds) true else t1 (lk q (.list es) ρ) (fun y _ => onI y fun z => ∃ (k : Nat), ixN es.length z = some k ∧
    tc2 (lk q (.list es) (ρ.set p (some (false, .int z)))) (fun b => if b = true then te2 (lk q (.list es) (ρ.set p (some (false, .int z)))) (fun y _ => onI y fun w => Dd.rt (.list (ds.set j (.list (es.set k (.int w))))) true) Xd
      else te3 (lk q (.list (es.set k (.int 0))) ((ρ.set p (some (false, .int z))).set i (some (true, .list (ds.set j (.list (es.set k (.int 0)))))))) (fun y _ => onI y fun w => Dd.rt (.list (ds.set j (.list (es.set k (.int w))))) true) Xd) Xd) Xd) Xd) Xd
abbrev tPutA (q p : Nat) (te : TE) : TS := tAsg te (gSub (tVar q) (tVar p) rSetL)
end
end DL

/-! ### max(xs, default=d) -/
namespace L2
open PySem PySem.Spec PyProof.Rows
section
variable {P : Program} {w : World} {A : Around} {R : Result → Shared → Prop} {it bx : Addr} {fp wr : List Addr} {n : Nat} {V0 : Nat → Value → Prop} {St : Nat → Heap → Prop} {bt : Nat → Nat → Bool} {dv : Value}
abbrev mxArgs (it bx : Addr) (dv : Value) : Args := ⟨[.ref it, .none, .ref bx], [("default", dv)]⟩
abbrev mxBox (us : Array Value) (c : Nat) : Obj := { cls := .type "list", dict := none, data := .seq us c, slots := #[] }
end
section
variable {X : Cx}
def tMaxD (K : PySem.W.Frag) (d : Int) (t : TA) : TE := fun σ H Q => t σ H fun xs H1 => ∃ (a : Addr) (ns : List Int), xs = [.ref a] ∧ SqL K H1 a (ns.map V.int) ∧ ∀ M, (ns = [] → M = d) → (ns ≠ [] → M ∈ ns ∧ ∀ x ∈ ns, x ≤ M) → Q (.int M) H1
end
end L2

namespace L2
open PySem PySem.Spec PyProof.Rows HT
section
variable {prog : Program} {w : World} {A : Around} {E : Value → Shared → Prop} {s : Shared}
/-- t[lo:hi] that is the whole of it: t itself -/
theorem getItem_tuple_all {t sl : Addr} {items : Array Value} {vl vu : Value} {lo hi : Option Int} {Q : Value → Shared → Prop} (ht : IsTup s.heap t items) (hs : s.heap.IsSliceOf sl vl vu .none) (pl : IsPart vl lo) (pu : IsPart vu hi)
    (hw : sIx items.size 0 lo = 0 ∧ sIx items.size items.size hi = items.size) (h : Q (.ref t) s) : wpAny (model prog w) A (getItem (.ref t) (.ref sl)) Q E s := by
  obtain ⟨os, hos, hcs, hds⟩ := id hs
  have hTs : s.TypeIs (.ref sl) "slice" := ⟨os, hos, hcs⟩
  unfold getItem
  try with_reducible refine wpAny_holding ?_
  first | refine wpAny_bind (wpAny_pure ?_) | skip
  refine wpAny_bind (wpAny_sequenceKey ht.typeIs (by decide) ?_)
  refine wpAny_bind (wpAny_callSpecial?_slot (name := Str.ofString "__getitem__") ht.typeIs PyProof.Rows.slot_tuple_getitem
    (wpAny_call_entry PyProof.Rows.slot_tuple_getitem ht.typeIs entry_tuple_getitem ?_ (args_tuple_getitem _ _)))
  show wpAny _ _ (Builtin.Tuple.tupleItemsOf (.ref t) >>= _) _ _ s
  refine wpAny_bind (tupleItemsOf_ ht ?_)
  refine wpAny_bind (wpAny_typeOf hTs ?_)
  rw [if_pos (by decide)]
  refine wpAny_bind (sliceApplied_gen hs pl pu ?_)
  have hyes : (((sIx items.size 0 lo : Nat) : Int) == 0 && (1 : Int) == 1 && (sIx items.size items.size hi - sIx items.size 0 lo) == items.size) = true := by
    rw [hw.1, hw.2]; simp
  show wpAny _ _ (if (((sIx items.size 0 lo : Nat) : Int) == 0 && (1 : Int) == 1 && (sIx items.size items.size hi - sIx items.size 0 lo) == items.size) = true then _ else _) _ _ s
  rw [if_pos hyes]
  refine wpAny_bind (wpAny_bind (wpAny_typeOf ht.typeIs (wpAny_pure ?_)))
  rw [if_pos (by decide)]
  exact wpAny_bind (wpAny_rule (wpAny_pure ⟨_, rfl, wpAny_pure h⟩))
end
section
variable {X : Cx}
def rSlA (K : PySem.W.Frag) : V → Option Int → Option Int → Hp → VK → Prop := fun x lo hi H Q => ∃ a xs, x = .ref a ∧ SqT K H a xs ∧ (HT.sIx xs.length 0 lo = 0 ∧ HT.sIx xs.length xs.length hi = xs.length) ∧ Q (.ref a) H
theorem sl_all : SlR X (rSlA X.K) := by
  intro pins s σ H x v vl vu lo hi sl Q I rx hs pl pu h
  obtain ⟨a, xs, rfl, hx, hw, q⟩ := h
  cases rx
  obtain ⟨its, r, ht, hz⟩ := I.tuple hx
  have hlen : its.toArray.size = xs.length := by rw [List.size_toArray]; exact r.length.symm
  exact ⟨"tuple", _, PyProof.Rows.slot_tuple_getitem.lookup, ht.typeIs, getItem_tuple_all ht hs pl pu (by rw [hlen]; exact hw) ⟨.ref a, H, I, rfl, q⟩⟩
end
end L2
namespace DL
open PySem PySem.Spec PyProof.Rows L2
section
variable {X : Cx} {K : PySem.W.Frag} {E : XK} {pos : Pos}
/-- t[lo:hi], t a tuple without lists -/
def fSlT : F3 := fun d _ lo hi Q => match d with
  | .tuple ds => flats ds = true ∧ Q (.tuple (cutD ds lo hi)) .old
  | _ => False
theorem dpe_sliceT {e : Expr} {lo hi : Option Expr} {te : TD} {tl th : TDO} {p2 : Pos} (hK : X.K = K) (he : DE X K E e te) (hl : DO X K E lo tl) (hu : DO X K E hi th) : DE X K E (.Subscript e (.Slice lo hi none p2) pos) (dSl fSlT te tl th) := ⟨by
  subst hK
  refine qe_imp (qpe_slice (sl_all.or sl_tup) he.q hl.q hu.q) fun σ H Q h => ?_
  obtain ⟨H0, ν, ρ, Qd, Xd, S, h1, q, x⟩ := h
  refine ⟨H0, ν, ρ, _, Xd, S, h1, fun d k v H1 g1 e1 r1 => ?_, x⟩
  refine ⟨H0, ν, ρ, _, Xd, S.same e1, g1, fun l H2 g2 e2 => ?_, x⟩
  refine ⟨H0, ν, ρ, _, Xd, S.same (e1.trans e2), g2, fun u H3 g3 e3 => ?_, x⟩
  have e03 := (e1.trans e2).trans e3
  have hl3 := (S.same e03).hl
  have r3 := ((r1.den).same e2).same e3
  cases d with
  | tuple ds =>
    obtain ⟨hf, g3⟩ := g3
    cases r3 with
    | @tup a us _ ht hd =>
      by_cases hw : HT.sIx us.length 0 l = 0 ∧ HT.sIx us.length us.length u = us.length
      · refine .inl ⟨a, us, rfl, ht, hw, q _ _ _ _ g3 e03 ?_⟩
        have e : cutD ds l u = ds := by
          unfold cutD
          rw [← hd.length, hw.1, hw.2, List.drop_zero, Nat.sub_zero, List.take_of_length_le (by rw [hd.length]; exact Nat.le_refl _)]
        rw [e]
        exact den_hid hl3 (.tup ht hd) hf
      · refine .inr ⟨a, us, rfl, ht, hw, fun p hp => q _ _ _ _ g3 (e03.trans (Same.new hp)) ?_⟩
        have hd' : Dns X.K (upd H3 p (.tup (cutV us l u))) (cutV us l u) (cutD ds l u) := by
          unfold cutV cutD
          rw [hd.length]
          exact (((hd.same (Same.new hp))).drop _).take _
        have hf' : flats (cutD ds l u) = true := flats_iff.mpr fun d hd => flats_iff.mp hf d (List.mem_of_mem_drop (List.mem_of_mem_take hd))
        exact den_hid (S.same (e03.trans (Same.new hp))).hl (.tup (.inl (.inl upd_same)) hd') hf'
  | _ => exact g3.elim⟩
theorem w_slT {x : List D} {k : Kd} {lo hi : Option Int} {Q : QD} (h : flats x = true ∧ Q (.tuple (cutD x lo hi)) .old) : fSlT (.tuple x) k lo hi Q := h
theorem flats_strs : ∀ bs : List Str, flats (bs.map PyData.str) = true
  | [] => rfl
  | _ :: r => by rw [List.map_cons]; exact flats_strs r
theorem kels_strs {bs : List Str} {k : Kd} : kels (bs.map PyData.str) k = .own [] := by unfold kels; rw [flats_strs]; rfl
/-! max(xs, default=d) -/
def fMaxD (d : Int) : FA := fun ds _ Q => match ds with
  | [.list xs] => ∃ ns, intsD xs = some ns ∧ ∀ M, (ns = [] → M = d) → (ns ≠ [] → M ∈ ns ∧ ∀ x ∈ ns, x ≤ M) → Q (.int M) .old
  | _ => False
end
end DL

/-! ### texts: str(i), int(x), divmod, zfill, join, split, startswith, not in -/
namespace L2
open PySem PySem.Spec PyProof.Rows
section
variable {X : Cx}
def rDmB : List V → Hp → VK → Prop := fun xs H Q => ∃ i j, xs = [.int i, .int j] ∧ CDivB i j ∧ ∀ p, H p = none → Q (.ref p) (upd H p (.tup [.int (i / j), .int (i % j)]))
theorem call_dmB : CallR X (.builtin "divmod") rDmB := by
  intro pins s σ H xs us Q I r h
  obtain ⟨i, j, rfl, ⟨h1, m, hm, h2⟩, q⟩ := h
  obtain ⟨u, w', rfl, ⟨t, rfl⟩, ⟨t', rfl⟩⟩ := vals2 r
  have e : ((2 ^ m : Nat) : Int) = 2 ^ m := by simp
  refine divmod_int (by omega) ?_ (.inl (PyProof.noPylong_of_log2 ?_))
  · rw [Int.fdiv_eq_ediv_of_nonneg i (by omega), Int.fmod_eq_emod_of_nonneg i (by omega)]
    refine ⟨.ref s.heap.objs.size, _, ?_, rfl, q _ (I.hok.fresh (Nat.le_refl _))⟩
    refine I.laid (fun b o e => Heap.get?_push_of_some _ e) (Nat.le_refl _) ⟨by simp only [List.length_cons, List.length_nil]; rw [sizeLine_eq]; decide, [.int (i / j) s.toks, .int (i % j) (s.toks + 1)], .cons ⟨_, rfl⟩ (.cons ⟨_, rfl⟩ .nil), ?_⟩
    exact ⟨_, Heap.get?_push_size s.heap rfl, rfl, 0, rfl⟩
  · have : j.natAbs.log2 < m := (Nat.log2_lt (by omega)).mpr (by omega)
    omega
def rIntS : List V → Hp → VK → Prop := fun xs H Q => ∃ z n, xs = [.str z] ∧ z.length ≤ 640 ∧ PySem.intText? z = some n ∧ Q (.int n) H
theorem call_intS : CallR X (.type "int") rIntS := by
  intro pins s σ H xs us Q I r h
  obtain ⟨z, n, rfl, hl, hn, q⟩ := h
  obtain ⟨u, rfl, t, rfl⟩ := vals1 r
  exact PySem.W.KIN.call_text hn hl ⟨.int n, H, I.tok _, ⟨_, rfl⟩, q⟩
/-! methods of a text -/
def rZf : V → List V → Hp → VK → Prop := fun x vs H Q => ∃ z i, x = .str z ∧ vs = [.int i] ∧ PadOk i = true ∧ Q (.str (Txt.zfill z i)) H
theorem mt_zf : MtR X "str.zfill" rZf := by
  intro pins s σ H x vs v us Q I rx rv h
  obtain ⟨z, i, rfl, rfl, hp, q⟩ := h
  obtain ⟨t, rfl⟩ := rx
  obtain ⟨u, rfl, t', rfl⟩ := rv.one
  exact SC.zfill hp fun t2 k => ⟨.str _, H, I.tok _, ⟨t2, rfl⟩, q⟩
def rSw : V → List V → Hp → VK → Prop := fun x vs H Q => ∃ z y, x = .str z ∧ vs = [.str y] ∧ Q (.bl (Txt.startswith z y)) H
theorem mt_sw : MtR X "str.startswith" rSw := by
  intro pins s σ H x vs v us Q I rx rv h
  obtain ⟨z, y, rfl, rfl, q⟩ := h
  obtain ⟨t, rfl⟩ := rx
  obtain ⟨u, rfl, t', rfl⟩ := rv.one
  exact SC.startswith ⟨.bl _, H, I, rfl, q⟩
theorem strs_of : ∀ {zs : List Str} {us : List Value}, Vals (zs.map V.str) us → ∃ l : List (Str × Tok), us = strValues l ∧ l.map (·.1) = zs
  | [], _, h => by cases h; exact ⟨[], rfl, rfl⟩
  | z :: zs, _, h => by
    cases h with
    | cons h1 h2 =>
      obtain ⟨t, rfl⟩ := h1
      obtain ⟨l, rfl, rfl⟩ := strs_of h2
      exact ⟨(z, t) :: l, rfl, rfl⟩
theorem vals_strs : ∀ l : List (Str × Tok), Vals ((l.map (·.1)).map V.str) (strValues l)
  | [] => .nil
  | (z, t) :: l => .cons ⟨t, rfl⟩ (vals_strs l)
def rJn (K : PySem.W.Frag) : V → List V → Hp → VK → Prop := fun x vs H Q => ∃ z a zs, x = .str z ∧ vs = [.ref a] ∧ SqL K H a (zs.map V.str) ∧ JoinOk z zs = true ∧ Q (.str (Txt.join z zs)) H
theorem mt_jn : MtR X "str.join" (rJn X.K) := by
  intro pins s σ H x vs v us Q I rx rv h
  obtain ⟨z, a, zs, rfl, rfl, hq, hok, q⟩ := h
  obtain ⟨t, rfl⟩ := rx
  obtain ⟨u, rfl, ru⟩ := rv.one
  cases ru
  obtain ⟨its, rv, p, hz⟩ := I.list hq
  obtain ⟨l, rfl, e⟩ := strs_of rv
  exact SC.join p.isList e hok fun t2 k => ⟨.str _, H, I.tok _, ⟨t2, rfl⟩, q⟩
/-- z.split(y): a new list -/
def rSp : V → List V → Hp → VK → Prop := fun x vs H Q => ∃ z y, x = .str z ∧ vs = [.str y] ∧ (y.length == 0) = false ∧ z.length ≤ 1000000 ∧ ∀ p, H p = none → Q (.ref p) (upd H p (.lst ((Txt.split z y).map V.str)))
theorem mt_sp : MtR X "str.split" rSp := by
  intro pins s σ H x vs v us Q I rx rv h
  obtain ⟨z, y, rfl, rfl, hy, hz, q⟩ := h
  obtain ⟨t, rfl⟩ := rx
  obtain ⟨u, rfl, t', rfl⟩ := rv.one
  have big : z.length ≤ sizeLine ∧ z.length + 2 ≤ sizeLine := by rw [sizeLine_eq]; omega
  have fin : ∀ (l : List (Str × Tok)) (k : Nat), l.map (·.1) = Txt.split z y → EP X pins σ Q (.ref s.heap.objs.size) { s with toks := k, heap := s.heap.push { cls := .type "list", data := .seq (strValues l).toArray } } := fun l k e => by
    refine ⟨.ref s.heap.objs.size, _, I.laid (o := .lst ((Txt.split z y).map V.str)) (fun b ob w => Heap.get?_push_of_some _ w) (Nat.le_refl _) ?_, rfl, q _ (I.hok.fresh (Nat.le_refl _))⟩
    refine ⟨by rw [List.length_map]; exact Nat.le_trans (split_le z y) big.2, strValues l, 0, by rw [← e]; exact vals_strs l, Heap.get?_push_size _ rfl⟩
  have ho := PySem.F.slot_str_split
  have he := PySem.F.entry_str_split
  cases h1 : (decide (z.length < y.length) || decide (Builtin.Str.strKind z < Builtin.Str.strKind y)) with
  | true => exact call_meets ho (typeIs_str _ _ _) he (PySem.F.args_str_split_2 _ _) (meets_str_split_cannot_occur z y t t' h1) (fin [(z, t)] _ (by unfold Txt.split; rw [if_pos h1]; rfl))
  | false =>
    have n1 : ¬ ((decide (z.length < y.length) || decide (Builtin.Str.strKind z < Builtin.Str.strKind y)) = true) := by rw [h1]; exact Bool.false_ne_true
    cases h2 : (Builtin.Str.occurrences z y 0 z.length (z.length + 1)).isEmpty with
    | true => exact call_meets ho (typeIs_str _ _ _) he (PySem.F.args_str_split_2 _ _) (meets_str_split_not_found z y t t' h1 hy h2) (fin [(z, t)] _ (by unfold Txt.split; rw [if_neg n1, if_pos h2]; rfl))
    | false =>
      have n2 : ¬ ((Builtin.Str.occurrences z y 0 z.length (z.length + 1)).isEmpty = true) := by rw [h2]; exact Bool.false_ne_true
      have es : Txt.split z y = Builtin.Str.partsBetween z (Builtin.Str.occurrences z y 0 z.length (z.length + 1)) y.length := by unfold Txt.split; rw [if_neg n1, if_neg n2]
      refine call_meets ho (typeIs_str _ _ _) he (PySem.F.args_str_split_2 _ _) (meets_str_split_sep z y t t' h1 hy h2 big.1 (by rw [← es]; exact Nat.le_trans (split_le z y) big.2)) ?_
      rw [strsFrom_eq]
      exact fin _ _ ((numbered_texts _ _).trans es.symm)
end
end L2
namespace DL
open PySem PySem.Spec PyProof.Rows L2
structure GStr (mg : Str → Option Value) (x : Str) (z : Str) : Prop where
  ex : ∃ t, mg x = some (.str z t)
section
variable {X : Cx} {K : PySem.W.Frag} {E : XK} {pos apos cpos : Pos} {x : Str} {o e : Expr} {to te : TD}
theorem dpe_gstr {z : Str} (G : GStr X.mg x z) (hg : Gl X x) (hd : (x == ("__debug__" : Str)) = false := by decide) : DE X K E (.Name x pos) (dC (.str z)) := by
  obtain ⟨t, hm⟩ := G.ex
  exact dc_of (⟨pe_glob hg hm (v := .str z) ⟨t, rfl⟩ hd⟩ : QE X (.Name x pos) (tC (.str z))) fun _ => .str _
/-- str(i) -/
def fStrI : FA := fun ds _ Q => match ds with
  | [.int i] => i.natAbs.log2 < 1920 ∧ Q (.str (toString i)) .old
  | _ => False
theorem dcl_str : DCl X K (.type "str") fStrI := ⟨_, call_str_int, fun Z ν Hs H xs ds k Qf Q _ _ _ h g q => by
  unfold fStrI at g
  split at g
  · obtain ⟨v, rfl, h1⟩ := dns1 h.dens
    cases h1
    exact ⟨_, rfl, g.1, q _ _ _ _ g.2 (Same.refl H) (.str _)⟩
  · exact g.elim⟩
/-- int(z) -/
def fIntS : FA := fun ds _ Q => match ds with
  | [.str z] => z.length ≤ 640 ∧ ∃ n, PySem.intText? z = some n ∧ Q (.int n) .old
  | _ => False
theorem dcl_intS : DCl X K (.type "int") fIntS := ⟨_, call_intS, fun Z ν Hs H xs ds k Qf Q _ _ _ h g q => by
  unfold fIntS at g
  split at g
  · obtain ⟨v, rfl, h1⟩ := dns1 h.dens
    cases h1
    obtain ⟨hl, n, hn, g⟩ := g
    exact ⟨_, n, rfl, hl, hn, q _ _ _ _ g (Same.refl H) (.int _)⟩
  · exact g.elim⟩
/-- divmod(i, j) -/
def fDm : FA := fun ds _ Q => match ds with
  | [.int i, .int j] => CDivB i j ∧ Q (.tuple [.int (i / j), .int (i % j)]) .old
  | _ => False
theorem dcl_dm : DCl X K (.builtin "divmod") fDm := ⟨_, call_dmB, fun Z ν Hs H xs ds k Qf Q hl _ _ h g q => by
  unfold fDm at g
  split at g
  · obtain ⟨u, v, rfl, h1, h2⟩ := dns2 h.dens
    cases h1
    cases h2
    refine ⟨_, _, rfl, g.1, fun p hp => q _ _ _ _ g.2 (Same.new hp) ?_⟩
    refine den_hid (fun a z => ?_) (.tup (.inl (.inl upd_same)) (.cons (.int _) (.cons (.int _) .nil))) rfl
    obtain ⟨w, e⟩ := hl a z
    exact ⟨w, Same.new hp _ _ e⟩
  · exact g.elim⟩
/-! methods of a text with one argument -/
def onX (d : D) (Q : Str → Prop) : Prop := match d with
  | .str z => Q z
  | _ => False
theorem w_onX {z : Str} {Q : Str → Prop} (h : Q z) : onX (.str z) Q := h
theorem onX_ex {d : D} {Q : Str → Prop} (h : onX d Q) : ∃ z, d = .str z ∧ Q z := by
  cases d with
  | str z => exact ⟨z, rfl, h⟩
  | _ => exact h.elim
structure DMm (X : Cx) (K : PySem.W.Frag) (id : String) (g : Str → D → QD → Prop) : Prop where
  ex : ∃ r, MtR X id r ∧ ∀ (ν : Nat → List Addr) (Hs H : Hp) (z : Str) (v : V) (d : D) (Qf : QD) (Q : VK), (∀ a, Hd Z0 ν a → Mu H a) → Same Hs H → Dn K H v d → g z d Qf → (∀ d k v H', Qf d k → Same H H' → Res K Z0 ν Hs H' k v d → Q v H') → r (.str z) [v] H Q
def dMm (g : Str → D → QD → Prop) (to te : TD) : TD := fun ρ Q Xd => to ρ (fun d _ => onX d fun z => te ρ (fun e _ => g z e Q) Xd) Xd
theorem dpe_mm {name : Str} {id : String} {g : Str → D → QD → Prop} (hK : X.K = K) (slot : Slot "str" name id) (hty : typeOf (.builtin id) = pure (.type "method_descriptor")) (hm : DMm X K id g) (ho : DE X K E o to) (he : DE X K E e te)
    (hb : attributeBase o name X.env (eval o X.env) = eval o X.env := by rfl) (hfew : ((backTo cpos (starEach [e] X.env)).all (fun x => !x.1) && (backToKw cpos (keywordEach [] X.env)).all (fun x => x.1.isSome) && decide (([e] : List Expr).length + ([] : List Keyword).length + (if ([] : List Keyword).isEmpty then 0 else 1) < 30)) = true := by rfl) (hline : (apos.endLine == cpos.line) = true := by rfl) (hs : starEach [e] X.env = (false, eval e X.env) :: starEach [] X.env := by rfl) (hplain : (backTo cpos (starEach [] X.env)).any (·.1) = false := by rfl) :
    DE X K E (.Call (.Attribute o name apos) [e] [] cpos) (dMm g to te) := by
  obtain ⟨r, hr, p⟩ := hm.ex
  refine ⟨qe_imp (⟨pe_bm PySem.F.plainAttrs_str slot hty hr ho.q.h (qpa_cons he.q qpa_nil hs).h hb hfew hline hs hplain⟩ : QE X _ _) fun σ H Q h => ?_⟩
  obtain ⟨H0, ν, ρ, Qd, Xd, S, h1, q, x⟩ := h
  refine ⟨H0, ν, ρ, _, Xd, S, h1, fun d k u H1 g1 e1 r1 => ?_, x⟩
  obtain ⟨z, rfl, g1⟩ := onX_ex g1
  have hu := r1.den
  cases hu
  refine ⟨rfl, H0, ν, ρ, _, Xd, S.same e1, g1, fun d2 k2 v H2 g2 e2 r2 => ?_, x⟩
  exact p ν H H2 z v d2 Qd Q (S.same (e1.trans e2)).hl (e1.trans e2) r2.den g2 fun d3 k3 v3 H3 a1 a2 a3 => q d3 k3 v3 H3 a1 ((e1.trans e2).trans a2) a3
def gZf : Str → D → QD → Prop := fun z d Q => match d with
  | .int i => PadOk i = true ∧ Q (.str (Txt.zfill z i)) .old
  | _ => False
theorem dmm_zf : DMm X K "str.zfill" gZf := ⟨_, mt_zf, fun ν Hs H z v d Qf Q hl e h g q => by
  unfold gZf at g
  split at g
  · cases h
    exact ⟨z, _, rfl, rfl, g.1, q _ _ _ _ g.2 (Same.refl H) (.str _)⟩
  · exact g.elim⟩
def gSw : Str → D → QD → Prop := fun z d Q => match d with
  | .str y => Q (.bool (Txt.startswith z y)) .old
  | _ => False
theorem dmm_sw : DMm X K "str.startswith" gSw := ⟨_, mt_sw, fun ν Hs H z v d Qf Q hl e h g q => by
  unfold gSw at g
  split at g
  · cases h
    exact ⟨z, _, rfl, rfl, q _ _ _ _ g (Same.refl H) (.bl _)⟩
  · exact g.elim⟩
def strsD : List D → Option (List Str)
  | [] => some []
  | .str z :: r => (strsD r).map (z :: ·)
  | _ => none
theorem strsD_map : ∀ zs : List Str, strsD (zs.map PyData.str) = some zs
  | [] => rfl
  | z :: r => by rw [List.map_cons]; unfold strsD; rw [strsD_map r]; rfl
theorem dns_strs {H : Hp} : ∀ {us : List V} {ds : List D} {zs : List Str}, Dns K H us ds → strsD ds = some zs → us = zs.map V.str
  | _, _, _, .nil, e => by cases e; rfl
  | _, _, _, .cons (d := d) (ds := ds') h r, e => by
    cases d with
    | str z =>
      unfold strsD at e
      cases e2 : strsD ds' with
      | none => rw [e2] at e; cases e
      | some l =>
        rw [e2] at e
        cases e
        cases h
        rw [dns_strs r e2]; rfl
    | _ => cases e
def gJn : Str → D → QD → Prop := fun z d Q => match d with
  | .list ds => ∃ zs, strsD ds = some zs ∧ JoinOk z zs = true ∧ Q (.str (Txt.join z zs)) .old
  | _ => False
theorem dmm_jn (hK : X.K = K) : DMm X K "str.join" gJn := ⟨_, mt_jn, fun ν Hs H z v d Qf Q hl e h g q => by
  subst hK
  unfold gJn at g
  split at g
  · obtain ⟨a, us, rfl, g1, g2⟩ := dns_of_lst h
    obtain ⟨zs, e1, e2, g⟩ := g
    exact ⟨z, a, zs, rfl, rfl, SqL.of (by rw [g1, dns_strs g2 e1]), e2, q _ _ _ _ g (Same.refl H) (.str _)⟩
  · exact g.elim⟩
def gSp : Str → D → QD → Prop := fun z d Q => match d with
  | .str y => ((y.length == 0) = false ∧ z.length ≤ 1000000) ∧ Q (.list ((Txt.split z y).map PyData.str)) (.own [])
  | _ => False
theorem dns_str {H : Hp} : ∀ zs : List Str, Dns K H (zs.map V.str) (zs.map PyData.str)
  | [] => .nil
  | _ :: r => .cons (.str _) (dns_str r)
theorem dmm_sp : DMm X K "str.split" gSp := ⟨_, mt_sp, fun ν Hs H z v d Qf Q hl e h g q => by
  unfold gSp at g
  split at g
  · cases h
    refine ⟨z, _, rfl, rfl, g.1.1, g.1.2, fun p hp => q _ _ _ _ g.2 (Same.new hp) ⟨[p], .lst upd_same (ows_flat (dns_str _) (flats_strs _)), by simp, fun a ha => ?_⟩⟩
    rw [List.mem_singleton] at ha
    subst ha
    exact .inl (e.gone hp)
  · exact g.elim⟩
/-- i not in z, both texts -/
def fNiS : F2 := fun d _ e _ Q => match d, e with
  | .str i, .str j => Q (.bool (!(!(Builtin.Str.occurrences j i 0 j.length 1).isEmpty))) .old
  | _, _ => False
theorem dop_notinS : DOp X K (compareOp .NotIn) fNiS := ⟨_, op_notin_str, fun Z ν Hs H x y d k e l Qf Q _ _ _ h3 h4 h5 h6 => by
  unfold fNiS at h5
  split at h5
  · have a := h3.den
    have b := h4.den
    cases a
    cases b
    exact ⟨_, _, rfl, rfl, h6 _ _ _ _ h5 (Same.refl H) (.bl _)⟩
  · exact h5.elim⟩
/-! x.reverse() -/
def dRvs (i : Nat) : TSD := fun Dd ρ _ => ∃ ds, ρ[i]? = some (some (true, .list ds)) ∧ Dd.nx (ρ.set i (some (true, .list ds.reverse)))
/-! the walk's steps -/
variable {ρ : Ren} {Q : QD} {Xd : XD} {k l : Kd} {z y : Str} {i j : Int} {ds : List D} {Dd : EndsD} {n : Nat}
theorem w_strI (h : i.natAbs.log2 < 1920 ∧ Q (.str (toString i)) .old) : fStrI [.int i] k Q := h
theorem w_intS (h : z.length ≤ 640 ∧ ∃ n, PySem.intText? z = some n ∧ Q (.int n) .old) : fIntS [.str z] k Q := h
theorem w_dm (h : CDivB i j ∧ Q (.tuple [.int (i / j), .int (i % j)]) .old) : fDm [.int i, .int j] k Q := h
theorem w_mm {g : Str → D → QD → Prop} (h : to ρ (fun d _ => onX d fun z => te ρ (fun e _ => g z e Q) Xd) Xd) : dMm g to te ρ Q Xd := h
theorem w_zf (h : PadOk i = true ∧ Q (.str (Txt.zfill z i)) .old) : gZf z (.int i) Q := h
theorem w_sw (h : Q (.bool (Txt.startswith z y)) .old) : gSw z (.str y) Q := h
theorem w_jnS (h : ∃ zs, strsD ds = some zs ∧ JoinOk z zs = true ∧ Q (.str (Txt.join z zs)) .old) : gJn z (.list ds) Q := h
theorem w_sp (h : ((y.length == 0) = false ∧ z.length ≤ 1000000) ∧ Q (.list ((Txt.split z y).map PyData.str)) (.own [])) : gSp z (.str y) Q := h
theorem w_niS (h : Q (.bool (!(!(Builtin.Str.occurrences y z 0 y.length 1).isEmpty))) .old) : fNiS (.str z) k (.str y) l Q := h
end
end DL

/-! ### < and >= of tuples of ints and texts -/
namespace L2
open PySem PySem.Spec PyProof.Rows HT
section
variable {P : Program} {w : World} {A : Around} {E : Value → Shared → Prop}
/-- what a comparison of two of a kind gives -/
def CmpV (P : Program) (w : World) (A : Around) (E : Value → Shared → Prop) (op : CmpOp) (f : Bool → Bool) : Prop := ∀ (a b : V) (x y : Value) (s : Shared) (Q : Value → Shared → Prop), RelV a x → RelV b y → sameK a b = true → a ≠ b → Q (.bool (f (ltV a b))) s → wpAny (model P w) A (richCompare op x y) Q E s
end
section
variable {X : Cx}
def rCmpT (K : PySem.W.Frag) (f : Bool → Bool) : R2 := fun x y H Q => ∃ a b us ws, x = .ref a ∧ y = .ref b ∧ SqT K H a us ∧ SqT K H b ws ∧ sameKs us ws = true ∧ Q (.bl (f (lexV us ws))) H
end
end L2
namespace DL
open PySem PySem.Spec PyProof.Rows L2
section
variable {X : Cx} {K : PySem.W.Frag} {E : XK}
def vOf : D → Option V
  | .int i => some (.int i)
  | .str z => some (.str z)
  | _ => none
def vsOf : List D → Option (List V)
  | [] => some []
  | d :: r => match vOf d, vsOf r with
    | some v, some vs => some (v :: vs)
    | _, _ => none
def fCmpT (f : Bool → Bool) : F2 := fun d _ e _ Q => match d, e with
  | .tuple ds, .tuple es => ∃ us ws, (vsOf ds = some us ∧ vsOf es = some ws ∧ sameKs us ws = true) ∧ Q (.bool (f (lexV us ws))) .old
  | _, _ => False
end
end DL

/-! ### x in, not in a list of deep data -/
namespace L2
open PySem PySem.Spec PyProof.Rows
section
variable {X : Cx} {pins : List (Addr × Obj)} {σ : St} {H : Hp} {s : Shared}
def rInD (K : PySem.W.Frag) (neg : Bool) : R2 := fun x y H Q => ∃ a dx vs ds, y = .ref a ∧ Den K H x dx ∧ SqL K H a vs ∧ Dens K H vs ds ∧ dx.canLay0 = true ∧ dx.depth ≤ 32 ∧ PyData.canLayAll0 ds = true ∧ Q (.bl (xor neg (ds.any fun d => PyData.eqv d dx))) H
open Classical in
noncomputable def eIn (K : PySem.W.Frag) (H : Hp) (dx : PyData) (y : Value) : Bool := decide (∃ v d, RelV v y ∧ Den K H v d ∧ PyData.eqv d dx = true)
end
end L2
namespace DL
open PySem PySem.Spec PyProof.Rows L2
section
variable {X : Cx} {K : PySem.W.Frag}
def fInDp (neg : Bool) : F2 := fun d _ e _ Q => match e with
  | .list es => (d.canLay0 = true ∧ d.depth ≤ 32 ∧ PyData.canLayAll0 es = true) ∧ Q (.bool (xor neg (inD d es))) .old
  | _ => False
end
end DL

namespace DL
open PySem PySem.Spec PyProof.Rows L2
section
variable {X : Cx} {K : PySem.W.Frag} {E : XK} {pos px apos cpos : Pos} {e1 e2 : Expr} {t1 t2 te : TD} {x : Str}
/-! ### x.insert(e1, e2), what is put in without lists -/
def dIns (i : Nat) (t1 t2 : TD) : TSD := fun Dd ρ Xd => ∃ ds, ρ[i]? = some (some (true, .list ds)) ∧ ds.length < 1000000 ∧ t1 ρ (fun y _ => onI y fun z => (0 ≤ z ∧ z ≤ ds.length) ∧ t2 ρ (fun d _ => flat d = true ∧ Dd.nx (ρ.set i (some (true, .list (ds.take z.toNat ++ [d] ++ ds.drop z.toNat))))) Xd) Xd
/-! ### x[e1], x[e2] = .., two things without lists -/
def dSwp (i : Nat) (t1 t2 te : TD) : TSD := fun Dd ρ Xd => te ρ (fun d _ => ∃ a b ds, d = .tuple [a, b] ∧ flats [a, b] = true ∧ ρ[i]? = some (some (true, .list ds)) ∧ t1 ρ (fun y _ => onI y fun z1 => ∃ j1, ixN ds.length z1 = some j1 ∧ t2 (ρ.set i (some (true, .list (ds.set j1 a)))) (fun y _ => onI y fun z2 => ∃ j2, ixN ds.length z2 = some j2 ∧ Dd.nx ((ρ.set i (some (true, .list (ds.set j1 a)))).set i (some (true, .list ((ds.set j1 a).set j2 b))))) Xd) Xd) Xd
end
end DL

namespace DL
open PySem PySem.Spec PyProof.Rows L2
section
variable {X : Cx} {K : PySem.W.Frag} {E : XK} {pos : Pos} {x y : Str}
/-! a, b = e1, e2: what is new or flat -/
def dPar (i j : Nat) (ta : TDA) : TSD := fun Dd ρ Xd => ta ρ (fun ds k => k = .own [] ∧ ds.length = 2 ∧ Dd.nx (setAll true ρ [i, j] ds)) Xd
end
end DL

namespace L2
open PySem PySem.Spec PyProof.Rows PySem.W PySem.Calls
/-! ### {k: v for x in xs}: one clause, no test -/
section
variable {prog : Program} {w : World} {A : Around} {R : Result → Shared → Prop} {s : Shared}
end
section
variable {X : Cx} {pins : List (Addr × Obj)} {σ : St} {H : Hp} {s : Shared} {a : Addr} {y v : V} {u r : Value} {A : Around} {E : Value → Shared → Prop}
end
section
variable {Y : Cx} {acc : Addr} {scope : Scope} {pos : Pos} {ke ve : Expr}
def tEmitD (acc : Addr) (tk tv : TE) : TS := fun D σ H => tk σ H fun k H1 => tv σ H1 fun v H2 => ∃ kvs k', k = kV k' ∧ H2 acc = some (.dK kvs) ∧ kvs.length < sizeLine ∧ D.nx σ (upd H2 acc (.dK (putK kvs k' v)))
end
def tDC (wi : TI) (g : TG) (tk tv : TE) (own : List Str) (cap : List (Str × Nat)) : TE := fun σ H Q => wi σ H fun J H1 => ∀ acc, H1 acc = none →
  loopT J g (tEmitD acc tk tv) { nx := fun _ H' => Q (.ref acc) H', rt := fun _ _ => False } (capS own cap σ) (upd H1 acc (.dK []))
end L2
namespace DL
open PySem PySem.Spec PyProof.Rows L2
/-! ### {x: True for x in xs} -/
def trueD (es : List (Key × D)) : List Key → List (Key × D)
  | [] => es
  | k :: r => trueD (putD es k (.bool true)) r
def dDC (ti : TDI) : TD := fun ρ Q Xd => ti ρ (fun ds b => ∃ ks : List Key, ds = ks.map keyV ∧ ks.length < 1000000 ∧ Q (dKD (trueD [] ks)) (.own [])) Xd
section
variable {X : Cx} {K : PySem.W.Frag} {E : XK} {pos p0 p1 p2 : Pos} {iter : Expr} {scope : Scope} {ti : TDI} {y : Str}
end
end DL

namespace L2
open PySem PySem.Spec PyProof.Rows PySem.W
/-! ### the sort puts keys in order -/
section
variable {κ : Nat → Int} {p : Array Nat}
def kk (κ : Nat → Int) (p : Array Nat) (i : Nat) : Int := κ (p.getD i 0)
def ltI (κ : Nat → Int) (i j : Nat) : Bool := decide (κ i < κ j)
def Up (κ : Nat → Int) (p : Array Nat) (n : Nat) : Prop := ∀ i j, i ≤ j → j < n → kk κ p i ≤ kk κ p j
def Dn (κ : Nat → Int) (p : Array Nat) (n : Nat) : Prop := ∀ i j, i ≤ j → j < n → kk κ p j ≤ kk κ p i
theorem Up.succ {n : Nat} (h : Up κ p n) (h1 : 1 ≤ n) (l : kk κ p (n - 1) ≤ kk κ p n) : Up κ p (n + 1) := fun i j hij hj => by
  by_cases e : j < n
  · exact h i j hij e
  · have ej : j = n := by omega
    by_cases e2 : i = n
    · rw [e2, ej]; omega
    · have := h i (n - 1) (by omega) (by omega)
      rw [ej]; omega
theorem Dn.succ {n : Nat} (h : Dn κ p n) (h1 : 1 ≤ n) (l : kk κ p n ≤ kk κ p (n - 1)) : Dn κ p (n + 1) := fun i j hij hj => by
  by_cases e : j < n
  · exact h i j hij e
  · have ej : j = n := by omega
    by_cases e2 : i = n
    · rw [e2, ej]; omega
    · have := h i (n - 1) (by omega) (by omega)
      rw [ej]; omega
def TailEq (κ : Nat → Int) (p : Array Nat) (m q : Nat) : Prop := ∀ k, m - (q + 1) ≤ k → k < m → kk κ p k = kk κ p (m - 1)
end
end L2

namespace L2
open PySem
/-! ### the table of a set of whole numbers below 6 -/
def bitsOf (m : Nat) : List Nat := (List.range 6).filter fun i => m.testBit i
def addB (m v : Nat) : Nat := m ||| 2 ^ v
def smT (m : Nat) (led : Bool) : SetTable := { mask := if (bitsOf m).length < 5 then 7 else 31, place := (bitsOf m).toArray, dummies := #[], finger := 0, led := led, moves := if (bitsOf m).length < 5 then 0 else 1, plain := true }
def hashOf (l : List Nat) : Array Int := (l.map fun (i : Nat) => (i : Int)).toArray
def putOk (m v : Nat) (led : Bool) : Bool :=
  let t := smT m led
  let p := (t.put v).2
  let t1 := (t.put v).1
  let b := bitsOf (addB m v)
  decide (t.freeSlot (v : Int) = some (v, false)) && t1.fits b.length && decide (b = (bitsOf m).take p ++ v :: (bitsOf m).drop p) && t1.plain && decide (addB m v < 64) &&
    (if t1.tooFull = true then decide (t1.relaid (hashOf b) (SetTable.grown b.length) = some (smT (addB m v) led, (List.range b.length).toArray)) && coversAll (List.range b.length).toArray b.length && (smT (addB m v) led).fits b.length else decide (t1 = smT (addB m v) led))
def slotAt (m : Nat) : Nat → Nat
  | 0 => 0
  | i + 1 => (bitsOf m).getD i 0 + 1
end L2

namespace L2
open PySem PySem.Spec PyProof.Rows PySem.W PySem.Calls
/-! ### a set of whole numbers below 6, made of a list, walked -/
inductive EsR : List Nat → List (Int × Value) → Prop
  | nil : EsR [] []
  | cons (v : Nat) (t : Tok) {r l} : EsR r l → EsR (v :: r) (((v : Int), Value.int (v : Int) t) :: l)
theorem EsR.len {S : List Nat} {l : List (Int × Value)} (h : EsR S l) : l.length = S.length := by
  induction h with
  | nil => rfl
  | cons _ _ _ ih => simp [ih]
theorem EsR.at {S : List Nat} {l : List (Int × Value)} (h : EsR S l) : ∀ {i : Nat} {e : Int × Value}, l[i]? = some e → ∃ v t, S[i]? = some v ∧ e = ((v : Int), Value.int (v : Int) t) := by
  induction h with
  | nil => intro i e h; simp at h
  | cons v t _ ih =>
    intro i e h
    cases i with
    | zero => cases h; exact ⟨v, t, rfl, rfl⟩
    | succ i => exact ih (by simpa using h)
theorem EsR.ins {S : List Nat} {l : List (Int × Value)} (h : EsR S l) (v : Nat) (t : Tok) : ∀ p, EsR (S.take p ++ v :: S.drop p) (l.take p ++ ((v : Int), Value.int (v : Int) t) :: l.drop p) := by
  induction h with
  | nil => intro p; simpa using EsR.cons v t .nil
  | cons u tu r ih =>
    intro p
    cases p with
    | zero => exact .cons v t (.cons u tu r)
    | succ p => exact .cons u tu (ih p)
/-- the set at a: the numbers whose bits m has -/
def SmAt (led : Bool) (h : Heap) (a : Addr) (m ep : Nat) (es : Array (Int × Value)) : Prop := m < 64 ∧ ∃ o, h.get? a = some o ∧ o.ExactSet ∧ o.data = .set es ep (smT m led) ∧ EsR (bitsOf m) es.toList
theorem SmAt.keep {led : Bool} {h h' : Heap} {a : Addr} {m ep : Nat} {es : Array (Int × Value)} (x : SmAt led h a m ep es) (k : ∀ o, h.get? a = some o → h'.get? a = some o) : SmAt led h' a m ep es := let ⟨y, o, e, r⟩ := x; ⟨y, o, k o e, r⟩
theorem SmAt.size {led : Bool} {h : Heap} {a : Addr} {m ep : Nat} {es : Array (Int × Value)} (x : SmAt led h a m ep es) : es.size = (bitsOf m).length := by
  obtain ⟨_, o, _, _, _, r⟩ := x
  have := r.len
  rwa [Array.length_toList] at this
section
variable {prog : Program} {w : World} {A : Around} {E : Value → Shared → Prop} {s : Shared} {a : Addr} {m v ep : Nat} {t : Tok} {led : Bool} {es : Array (Int × Value)}
end
end L2

namespace L2
open PySem PySem.Spec PyProof.Rows PySem.W PySem.Calls
def addAll (m : Nat) : List Nat → Nat
  | [] => m
  | v :: r => addAll (addB m v) r
def btx (w : World) : Bool := w.params.followText "set-order"
section
variable {prog : Program} {w : World} {A : Around} {E : Value → Shared → Prop} {s : Shared} {led : Bool}
end
end L2

namespace L2
open PySem PySem.Spec PyProof.Rows PySem.W PySem.Calls
section
variable {prog : Program} {w : World} {A : Around} {E : Value → Shared → Prop} {s : Shared}
abbrev newS (w : World) : Obj := { cls := .type "set", dict := none, data := .set #[] 0 (.fresh 0 0 (!btx w)) }
end
end L2

namespace L2
open PySem PySem.Spec PyProof.Rows PySem.W PySem.Calls
/-! ### a set walked -/
def SetIt (h : Heap) (it a : Addr) (i slot n ep : Nat) : Prop := ∃ o, h.get? it = some o ∧ o.cls = .type "set_iterator" ∧ o.data = .fields #[.int slot 0, .int i 0, .ref a, .int n 0, .int ep 0]
theorem SetIt.at {h h' : Heap} {it a : Addr} {i slot n ep : Nat} (x : SetIt h it a i slot n ep) (k : ∀ o, h.get? it = some o → h'.get? it = some o) : SetIt h' it a i slot n ep := let ⟨o, e, r⟩ := x; ⟨o, k o e, r⟩
/-- the order in which the set is walked -/
def ordE (w : World) (a : Addr) (ep : Nat) (es : Array (Int × Value)) : Array (Int × Value) := if btx w = true then pickOrder (w.params.setOrder a ep) es else es
def slotW (w : World) (m i : Nat) : Nat := if btx w = true then 0 else slotAt m i
section
variable {prog : Program} {w : World} {A : Around} {E : Value → Shared → Prop} {s : Shared} {a it : Addr} {m ep i : Nat} {es : Array (Int × Value)}
end
end L2

namespace L2
open PySem PySem.Spec PyProof.Rows PySem.W PySem.Calls
section
variable {prog : Program} {w : World} {A : Around} {E : Value → Shared → Prop} {s : Shared} {a it : Addr} {m ep i : Nat} {es : Array (Int × Value)}
end
end L2

namespace L2
open PySem PySem.Spec PyProof.Rows PySem.W PySem.Calls
section
variable {prog : Program} {w : World} {A : Around} {E : Value → Shared → Prop} {s : Shared} {a it : Addr} {m ep i : Nat} {es : Array (Int × Value)}
end
end L2

/-! ### whole numbers in order -/
namespace L2
open PySem PySem.Spec PyProof.Rows PySem.W PySem.Calls
def insI (a : Int) : List Int → List Int
  | [] => [a]
  | b :: r => if a ≤ b then a :: b :: r else b :: insI a r
def isort : List Int → List Int
  | [] => []
  | a :: r => insI a (isort r)
def ltN (ns : List Int) : Nat → Nat → Bool := fun i j => decide (ns.getD i 0 < ns.getD j 0)
end L2

namespace L2
open PySem PySem.Spec PyProof.Rows PySem.W PySem.Calls
/-! ### sorted(set(xs)), whole numbers from 0 to 5 -/
def setI (ns : List Int) : List Int := (bitsOf (addAll 0 (ns.map Int.toNat))).map fun (n : Nat) => (n : Int)
def Six (ns : List Int) : Prop := ∀ n ∈ ns, 0 ≤ n ∧ n < 6
section
variable {X : Cx} {e : Expr} {te : TE} {p1 p2 pos1 pos2 : Pos}
def tSS (K : PySem.W.Frag) (te : TE) : TE := fun σ H Q => te σ H fun v H1 => ∃ p ns, v = .ref p ∧ SqL K H1 p (ns.map V.int) ∧ Six ns ∧ ∀ l, H1 l = none → Q (.ref l) (upd H1 l (.lst ((setI ns).map V.int)))
end
section
/-- sorted(d) of a dict whose keys are whole numbers -/
def rSortDI : List V → Hp → VK → Prop := fun xs H Q => ∃ a kvs ns, xs = [.ref a] ∧ H a = some (.dK kvs) ∧ kvs.map (·.1) = ns.map Sum.inl ∧ kvs.length < 64 ∧ ∀ l, H l = none → Q (.ref l) (upd H l (.lst ((isort ns).map V.int)))
end
end L2
namespace DL
open PySem PySem.Spec PyProof.Rows L2
section
variable {X : Cx} {K : PySem.W.Frag} {E : XK} {e : Expr} {te : TD} {p1 p2 pos1 pos2 : Pos}
def dSS (te : TD) : TD := fun ρ Q Xd => te ρ (fun d _ => ∃ ns, d = iD ns ∧ Six ns ∧ Q (iD (setI ns)) (.own [])) Xd
def fSortDI : FA := fun ds _ Q => ∃ (es : List (Key × D)) (ns : List Int), ds = [dKD es] ∧ es.map (·.1) = ns.map Sum.inl ∧ es.length < 64 ∧ Q (iD (isort ns)) (.own [])
end
end DL

namespace L2
open PySem PySem.Spec PyProof.Rows PySem.W PySem.Calls
section
variable {X : Cx} {ke : Expr} {tk : TE} {pos p2 : Pos} {j : Int} {k2 : Nat}
/-- {k: j}, k a tuple -/
def tDOneT (tk : TE) (j : Int) : TE := fun σ H Q => ∀ p, H p = none → tk σ (upd H p (.dT [])) fun y H2 => ∃ b ks, y = .ref b ∧ H2 b = some (.tup (ks.map kV)) ∧ H2 p = some (.dT []) ∧ Q (.ref p) (upd H2 p (.dT [(ks, .int j)]))
/-- xs.index(x), deep data -/
def rIdxD (K : PySem.W.Frag) : V → List V → Hp → VK → Prop := fun l xs H Q => ∃ a x dx vs ds j, l = .ref a ∧ xs = [x] ∧ Den K H x dx ∧ SqL K H a vs ∧ Dens K H vs ds ∧ dx.canLay0 = true ∧ dx.depth ≤ 32 ∧ PyData.canLayAll0 ds = true ∧ (ds.findIdx? fun d => PyData.eqv d dx) = some j ∧ Q (.int (j : Nat)) H
end
end L2
namespace DL
open PySem PySem.Spec PyProof.Rows L2
section
variable {X : Cx} {K : PySem.W.Frag} {E : XK} {e o : Expr} {te to : TD} {tk : TKy} {p p2 pos apos cpos : Pos}
/-! ### tuple(xs) as a key; {k: j} -/
def kyL (te : TD) : TKy := fun ρ Q Xd => te ρ (fun d _ => ∃ ks : List Key, d = .list (ks.map keyV) ∧ Q (.inr ks)) Xd
def dDOneT (tk : TKy) (j : Int) : TD := fun ρ Q Xd => tk ρ (fun k => ∃ ks, k = .inr ks ∧ Q (dTD [(ks, .int j)]) (.own [])) Xd
/-! ### xs.index(x) -/
def dIdx (to te : TD) : TD := fun ρ Q Xd => to ρ (fun d _ => onL d fun ds => te ρ (fun x _ => (x.canLay0 = true ∧ x.depth ≤ 32 ∧ PyData.canLayAll0 ds = true) ∧ ∃ j : Nat, (ds.findIdx? fun y => PyData.eqv y x) = some j ∧ Q (.int j) .old) Xd) Xd
end
/-! ### what is ours is changed, and forgotten -/
section
variable {K : PySem.W.Frag} {H0 H H' : Hp} {ν : Nat → List Addr} {ρ : Ren} {σ : L2.St}
theorem StOk.forget (S : StOk K Z0 H0 ν ρ σ H) (i : Nat) (k : ∀ a o, H a = some o → a ∉ ν i → H' a = some o) : StOk K Z0 H0 (fun j => if j = i then [] else ν j) (ρ.set i none) σ H' where
  sm := fun a o ha => k a o (S.sm a o ha) fun z => by rw [(S.fr i a z).1] at ha; cases ha
  len := by rw [List.length_set]; exact S.len
  sl := fun j b c hj => by
    have ne : j ≠ i := fun z => by
      subst z
      by_cases hl : j < ρ.length
      · rw [List.getElem?_set_self hl] at hj; cases hj
      · rw [List.getElem?_eq_none (by rw [List.length_set]; omega)] at hj; cases hj
    rw [List.getElem?_set_ne (Ne.symm ne)] at hj
    obtain ⟨v, h1, h2⟩ := S.sl j b c hj
    refine ⟨v, h1, ?_⟩
    cases b with
    | true =>
      have h2 : Ow K H v c (ν j) := h2
      show Ow K H' v c (if j = i then [] else ν j)
      rw [if_neg ne]
      refine h2.kept ⟨fun a ha => ?_, fun a o ho hm => k a o ho fun z => ?_⟩
      · obtain ⟨_, _, o, ho⟩ := S.fr j a ha
        rw [ho]
        exact k a _ ho fun z => ne (S.dj j i a ha z)
      · obtain ⟨_, _, m⟩ := S.fr i a z
        exact m.no ho hm
    | false =>
      have h2 : Dn K (hid (Hd Z0 ν) H) v c := h2
      refine Dn.same (fun a o ho => ?_) h2
      obtain ⟨q1, q2⟩ := of_hid ho
      refine hid_of (k a o q1 fun z => q2 (.inr ⟨i, z⟩)) fun z => ?_
      rcases z with z | ⟨l, z⟩
      · exact z
      · have z : a ∈ (if l = i then [] else ν l) := z
        by_cases e : l = i
        · rw [if_pos e] at z; cases z
        · rw [if_neg e] at z; exact q2 (.inr ⟨l, z⟩)
  nd := fun j => by
    show (if j = i then [] else ν j).Nodup
    split
    · exact List.nodup_nil
    · exact S.nd j
  dj := fun j l a h1 h2 => by
    have h1 : a ∈ (if j = i then [] else ν j) := h1
    have h2 : a ∈ (if l = i then [] else ν l) := h2
    split at h1
    · cases h1
    · split at h2
      · cases h2
      · exact S.dj j l a h1 h2
  fr := fun j a h => by
    have h : a ∈ (if j = i then [] else ν j) := h
    split at h
    · cases h
    · rename_i ne
      obtain ⟨f1, f2, o, f3⟩ := S.fr j a h
      exact ⟨f1, f2, o, k a _ f3 fun z => ne (S.dj j i a h z)⟩
  zf := fun a z => z.elim
end
end DL

namespace DL
open PySem PySem.Spec PyProof.Rows L2
section
variable {X : Cx} {K : PySem.W.Frag} {E : XK}
theorem sqt_upd {H : Hp} {t a : Addr} {xs us vs : List V} (h : SqT K H t xs) (e : H a = some (.lst us)) : SqT K (upd H a (.lst vs)) t xs := by
  refine Kept.sqt (ns := []) ⟨fun _ z => (by cases z), fun b o hb hm => ?_⟩ h
  rw [upd_ne (fun z => by rw [z, e] at hb; cases hb; cases (show true = false from hm))]; exact hb
/-- x[0][0].append(0); x[0].reverse(); x[1][1].append((0, 'a', 0)), x a tuple of ours, forgotten behind -/
def dMut3 (i : Nat) : TSD := fun Dd ρ Xd => ∃ r ss n ways, ρ[i]? = some (some (true, .tuple [.list (.list r :: ss), .tuple [n, .list ways]])) ∧ r.length < 1000000 ∧ ways.length < 1000000 ∧ Dd.nx (ρ.set i none)
abbrev tR0 (K : PySem.W.Frag) (i : Nat) : TE := tOp (rIxT K) (tVar i) (tC (.int 0))
abbrev tR00 (K : PySem.W.Frag) (i : Nat) : TE := tOp (rIxL K) (tR0 K i) (tC (.int 0))
abbrev tR11 (K : PySem.W.Frag) (i : Nat) : TE := tOp (rIxT K) (tOp (rIxT K) (tVar i) (tC (.int 1))) (tC (.int 1))
end
end DL

namespace L2
open PySem PySem.Spec PyProof.Rows PySem.W PySem.Calls
/-! ### f"{x} {y}" of texts -/
section
variable {X : Cx} {e : Expr} {te : TE} {es : List Expr} {pos : Pos}
abbrev TJ := St → Hp → Str → VK → Prop
structure PJ (X : Cx) (es : List Expr) (t : TJ) : Prop where
  h : ∀ (pins : List (Addr × Obj)) (s : Shared) (σ : St) (H : Hp) (out : Str) (Q : VK), Inv X pins σ H s → t σ H out Q → wpAny (model X.prog X.w) X.A (joinParts out (evalEach es X.env)) (EP X pins σ Q) X.xe s
theorem line_le {n : Nat} (h : n ≤ 1000000) : n ≤ sizeLine := by rw [sizeLine_eq]; omega
theorem pj_nil : PJ X [] (fun σ H out Q => out.length ≤ 1000000 ∧ Q (.str out) H) := ⟨fun pins s σ H out Q I h =>
  joinParts_nil ⟨.str out, H, I.tok _, ⟨_, rfl⟩, h.2⟩ (line_le h.1)⟩
theorem pj_cons {tj : TJ} (he : PE X e te) (hj : PJ X es tj) : PJ X (e :: es) (fun σ H out Q => te σ H fun v H1 => ∃ y, v = .str y ∧ (out ++ y).length ≤ 1000000 ∧ tj σ H1 (out ++ y) Q) := ⟨fun pins s σ H out Q I h => by
  refine joinParts_cons (wpAny_mono (he pins s σ H _ I h) (fun u s1 hu => ?_) fun _ _ x => x)
  obtain ⟨v, H1, I1, r, y, rfl, hy, q⟩ := hu
  obtain ⟨t, rfl⟩ := r
  exact ⟨line_le hy, hj.h pins s1 σ H1 _ Q I1 q⟩⟩
theorem pe_fv (he : PE X e te) : PE X (.FormattedValue e (-1) none pos) (fun σ H Q => te σ H fun v H1 => ∃ y, v = .str y ∧ y.length ≤ 1000000 ∧ Q (.str y) H1) := by
  intro pins s σ H Q I h
  refine FormattedValue_plain (wpAny_mono (he pins s σ H _ I h) (fun u s1 hu => ?_) fun _ _ x => x)
  obtain ⟨v, H1, I1, r, y, rfl, hy, q⟩ := hu
  obtain ⟨t, rfl⟩ := r
  exact formatField_str (fun t' tk => ⟨.str y, H1, I1.tok _, ⟨_, rfl⟩, q⟩) (line_le hy)
theorem pe_fstr {v1 v2 : Expr} {tj : TJ} (hj : PJ X (v1 :: v2 :: es) tj) : PE X (.JoinedStr (v1 :: v2 :: es) pos) (fun σ H Q => tj σ H Str.empty Q) := fun pins s σ H Q I h => JoinedStr_many (hj.h pins s σ H _ Q I h)
end
end L2
namespace DL
open PySem PySem.Spec PyProof.Rows L2
section
variable {X : Cx} {K : PySem.W.Frag} {E : XK} {e : Expr} {te : TD} {es : List Expr} {pos : Pos}
abbrev TDJ := Ren → Str → QD → XD → Prop
def LJ (K : PySem.W.Frag) (E : XK) (t : TDJ) : TJ := fun σ H out Q => ∃ H0 ν ρ Qd Xd, StOk K Z0 H0 ν ρ σ H ∧ t ρ out Qd Xd ∧ (∀ d k v H', Qd d k → Same H H' → Res K Z0 ν H H' k v d → Q v H') ∧ ∀ C H', Xd C → Same H0 H' → E (.ref C) none H'
structure DJ (X : Cx) (K : PySem.W.Frag) (E : XK) (es : List Expr) (t : TDJ) : Prop where
  q : PJ X es (LJ K E t)
theorem pj_imp {t t' : TJ} (h : PJ X es t) (i : ∀ σ H out Q, t' σ H out Q → t σ H out Q) : PJ X es t' := ⟨fun pins s σ H out Q I w => h.h pins s σ H out Q I (i σ H out Q w)⟩
def dJ0 : TDJ := fun _ out Q _ => out.length ≤ 1000000 ∧ Q (.str out) .old
def dJ1 (te : TD) (tj : TDJ) : TDJ := fun ρ out Q Xd => te ρ (fun d _ => onX d fun y => (out ++ y).length ≤ 1000000 ∧ tj ρ (out ++ y) Q Xd) Xd
theorem dj_nil : DJ X K E [] dJ0 := ⟨pj_imp pj_nil fun σ H out Q h => by
  obtain ⟨H0, ν, ρ, Qd, Xd, S, h1, q, x⟩ := h
  exact ⟨h1.1, q _ _ _ H h1.2 (Same.refl _) (.str _)⟩⟩
theorem dj_cons {tj : TDJ} (he : DE X K E e te) (hj : DJ X K E es tj) : DJ X K E (e :: es) (dJ1 te tj) := ⟨pj_imp (pj_cons he.q.h hj.q) fun σ H out Q h => by
  obtain ⟨H0, ν, ρ, Qd, Xd, S, h1, q, x⟩ := h
  refine ⟨H0, ν, ρ, _, Xd, S, h1, fun d k u H1 g1 e1 r1 => ?_, x⟩
  obtain ⟨y, rfl, g1, g2⟩ := onX_ex g1
  have hu := r1.den
  cases hu
  exact ⟨y, rfl, g1, H0, ν, ρ, Qd, Xd, S.same e1, g2, fun d2 k2 v H2 a b c => q d2 k2 v H2 a (e1.trans b) (Res.later c e1), x⟩⟩
def dFv (te : TD) : TD := fun ρ Q Xd => te ρ (fun d _ => onX d fun y => y.length ≤ 1000000 ∧ Q (.str y) .old) Xd
theorem dpe_fv (he : DE X K E e te) : DE X K E (.FormattedValue e (-1) none pos) (dFv te) := ⟨qe_imp ⟨pe_fv he.q.h⟩ fun σ H Q h => by
  obtain ⟨H0, ν, ρ, Qd, Xd, S, h1, q, x⟩ := h
  refine ⟨H0, ν, ρ, _, Xd, S, h1, fun d k u H1 g1 e1 r1 => ?_, x⟩
  obtain ⟨y, rfl, g1, g2⟩ := onX_ex g1
  have hu := r1.den
  cases hu
  exact ⟨y, rfl, g1, q _ _ _ _ g2 e1 (.str _)⟩⟩
def dFs (tj : TDJ) : TD := fun ρ Q Xd => tj ρ Str.empty Q Xd
theorem dpe_fstr {v1 v2 : Expr} {tj : TDJ} (hj : DJ X K E (v1 :: v2 :: es) tj) : DE X K E (.JoinedStr (v1 :: v2 :: es) pos) (dFs tj) := ⟨qe_imp ⟨pe_fstr hj.q⟩ fun σ H Q h => h⟩
variable {ρ : Ren} {Q : QD} {Xd : XD} {tj : TDJ} {out : Str}
theorem w_fs (h : tj ρ Str.empty Q Xd) : dFs tj ρ Q Xd := h
theorem w_fv (h : te ρ (fun d _ => onX d fun y => y.length ≤ 1000000 ∧ Q (.str y) .old) Xd) : dFv te ρ Q Xd := h
theorem w_j0 (h : out.length ≤ 1000000 ∧ Q (.str out) .old) : dJ0 ρ out Q Xd := h
theorem w_j1 (h : te ρ (fun d _ => onX d fun y => (out ++ y).length ≤ 1000000 ∧ tj ρ (out ++ y) Q Xd) Xd) : dJ1 te tj ρ out Q Xd := h
end
end DL

namespace L2
open PySem PySem.Spec PyProof.Rows PySem.W PySem.Calls
section
variable {X : Cx}
/-! ### x.partition(y) -/
def prt (z y : Str) : Str × Str × Str := match Builtin.Str.occurrences z y 0 z.length 1 with
  | i :: _ => (Builtin.Str.strSub z 0 i, y, Builtin.Str.strSub z (i + y.length) z.length)
  | [] => (z, Str.empty, Str.empty)
def rPt : V → List V → Hp → VK → Prop := fun x vs H Q => ∃ z y, x = .str z ∧ vs = [.str y] ∧ (y.length == 0) = false ∧ z.length ≤ 1000000 ∧ ∀ p, H p = none → Q (.ref p) (upd H p (.tup [.str (prt z y).1, .str (prt z y).2.1, .str (prt z y).2.2]))
theorem mt_pt : MtR X "str.partition" rPt := by
  intro pins s σ H x vs v us Q I rx rv h
  obtain ⟨z, y, rfl, rfl, hy, hz, q⟩ := h
  obtain ⟨t, rfl⟩ := rx
  obtain ⟨u, rfl, t', rfl⟩ := rv.one
  have big : z.length ≤ sizeLine := by rw [sizeLine_eq]; omega
  refine call_meets PySem.F.slot_str_partition (typeIs_str _ _ _) PySem.F.entry_str_partition (PySem.F.args_str_partition_2 _ _) (meets_str_partition z y t t' hy big) ?_
  have fin : ∀ (a b c : Str) (t1 t2 t3 : Tok) (k : Nat), prt z y = (a, b, c) → EP X pins σ Q (.ref s.heap.objs.size) { s with toks := k, heap := s.heap.push { cls := .type "tuple", data := .seq [.str a t1, .str b t2, .str c t3].toArray } } := fun a b c t1 t2 t3 k e => by
    rw [e] at q
    refine ⟨.ref s.heap.objs.size, _, I.laid (o := .tup [.str a, .str b, .str c]) (fun b ob w => Heap.get?_push_of_some _ w) (Nat.le_refl _) ?_, rfl, q _ (I.hok.fresh (Nat.le_refl _))⟩
    exact ⟨(by show 3 ≤ sizeLine; decide), [.str a t1, .str b t2, .str c t3], .cons ⟨_, rfl⟩ (.cons ⟨_, rfl⟩ (.cons ⟨_, rfl⟩ .nil)), _, Heap.get?_push_size _ rfl, rfl, _, rfl⟩
  unfold prt at fin
  cases ho : Builtin.Str.occurrences z y 0 z.length 1 with
  | nil => rw [ho] at fin; exact fin _ _ _ _ _ _ _ rfl
  | cons i r => rw [ho] at fin; exact fin _ _ _ _ _ _ _ rfl
end
end L2
namespace DL
open PySem PySem.Spec PyProof.Rows L2
section
variable {X : Cx} {K : PySem.W.Frag} {E : XK}
def gPt : Str → D → QD → Prop := fun z d Q => match d with
  | .str y => ((y.length == 0) = false ∧ z.length ≤ 1000000) ∧ Q (.tuple [.str (prt z y).1, .str (prt z y).2.1, .str (prt z y).2.2]) .old
  | _ => False
theorem dmm_pt : DMm X K "str.partition" gPt := ⟨_, mt_pt, fun ν Hs H z v d Qf Q hl e h g q => by
  unfold gPt at g
  split at g
  · cases h
    refine ⟨z, _, rfl, rfl, g.1.1, g.1.2, fun p hp => q _ _ _ _ g.2 (Same.new hp) ?_⟩
    refine den_hid (fun a z => ?_) (.tup (.inl (.inl upd_same)) (.cons (.str _) (.cons (.str _) (.cons (.str _) .nil)))) rfl
    obtain ⟨w, e⟩ := hl a z
    exact ⟨w, Same.new hp _ _ e⟩
  · exact g.elim⟩
variable {Q : QD} {z y : Str}
theorem w_pt (h : ((y.length == 0) = false ∧ z.length ≤ 1000000) ∧ Q (.tuple [.str (prt z y).1, .str (prt z y).2.1, .str (prt z y).2.2]) .old) : gPt z (.str y) Q := h
end
end DL

namespace L2
open PySem PySem.Spec PyProof.Rows PySem.W PySem.Calls
/-! ### x.replace(y, z), y and z written; dicts of the module, texts to ints -/
section
variable {prog : Program} {w : World} {A : Around} {E : Value → Shared → Prop} {s : Shared}
open Builtin.Str in
theorem call_rep {x y z : Str} {t u v : Tok} {Q : Value → Shared → Prop} (hu : u ≠ 0) (hv : v ≠ 0) (huv : u ≠ v) (hyz : (y == z) = false) (hb : x.length + (x.length + 1) * z.length ≤ 16777216)
    (hq : ∀ t' k, Q (.str (Txt.replace x y z) t') { s with toks := k }) : wpAny (model prog w) A (call (.builtin "str.replace") [.str x t, .str y u, .str z v]) Q E s := by
  have hl : tooLong (x.length + (occurrences x y 0 x.length (x.length + 1)).length * z.length) = false := by
    have h1 := StrLaws.occ_length_le x y 0 x.length (x.length + 1)
    have h2 : (occurrences x y 0 x.length (x.length + 1)).length * z.length ≤ (x.length + 1) * z.length := Nat.mul_le_mul_right _ h1
    unfold tooLong sizeLine
    exact decide_eq_false (by omega)
  refine call_gives F.slot_str_replace (typeIs_str _ _ _) F.entry_str_replace (F.args_str_replace_3 _ _ _) (gives_str_replace x y z t u v fun _ => ⟨by simp [hu, hv], by simp [huv], hyz, hl⟩) ?_
  have hq' := hq
  unfold Txt.replace at hq'
  cases hc : ((occurrences x y 0 x.length (x.length + 1)).isEmpty || (y.length == 0 && z.length == 0))
  · rw [hc] at hq'
    simp only [Bool.false_eq_true, if_false] at hq' ⊢
    exact ⟨fits_replaced y hb, hq' _ _⟩
  · rw [hc] at hq'
    simp only [if_true] at hq' ⊢
    exact hq' t s.toks
end
section
variable {X : Cx} {e a b o : Expr} {te ta tb to : TE} {pos cpos apos p p2 : Pos} {x y z : Str}
/-- as PE, and tokens have been given out -/
structure PEg (X : Cx) (e : Expr) (t : TE) : Prop where
  h : ∀ (pins : List (Addr × Obj)) (s : Shared) (σ : St) (H : Hp) (Q : VK), Inv X pins σ H s → t σ H Q → wpAny (model X.prog X.w) X.A (eval e X.env) (fun u s' => EP X pins σ Q u s' ∧ 0 < s'.toks) X.xe s
/-- as PE, where tokens have been given out -/
structure PEn (X : Cx) (e : Expr) (t : TE) : Prop where
  h : ∀ (pins : List (Addr × Obj)) (s : Shared) (σ : St) (H : Hp) (Q : VK), Inv X pins σ H s → 0 < s.toks → t σ H Q → wpAny (model X.prog X.w) X.A (eval e X.env) (EP X pins σ Q) X.xe s
theorem var_st {i : Nat} {x : Str} {pos : Pos} {v : V} {pins : List (Addr × Obj)} {s : Shared} {σ : St} {H : Hp} {Q : Value → Shared → Prop} {E : Value → Shared → Prop} (I : Inv X pins σ H s) (e : σ[i]? = some (some v)) (hN : X.N[i]? = some x) (hv : Vis X.env.scope x) (fin : ∀ u, RelV v u → Q u s)
    (hd : (x == ("__debug__" : Str)) = false := by decide) (hcd : (x == ("__classdict__" : Str)) = false := by decide) : wpAny (model X.prog X.w) X.A (eval (.Name x pos) X.env) Q E s := by
  obtain ⟨m, hn, hl⟩ := I.loc
  obtain ⟨u, r, l⟩ := hl i x v hN e hv
  rcases l with ⟨hk, hm⟩ | ⟨hk, c, hc, hcell⟩
  · exact wpAny_Name (wpAny_loadName_local I.ok.kind hk hn hm (fin u r)) hd
  · rcases hk with hk | hk
    · exact wpAny_Name (wpAny_loadName_cell I.ok.kind hk hc hcell (fin u r)) hd
    · exact wpAny_Name (wpAny_loadName_free I.ok.kind hk hc hcell (fin u r) hcd) hd
/-- the call behind the text -/
def tRep (y z : Str) (to : TE) : TE := fun σ H Q => to σ H fun v H1 => ∃ x, v = .str x ∧ x.length ≤ 1000 ∧ Q (.str (Txt.replace x y z)) H1
theorem rep_tail {j1 j2 : Nat} {p1 p2 : Pos} {pins : List (Addr × Obj)} {s : Shared} {σ : St} {H : Hp} {Q : VK} {x : Str} {t : Tok} (I : Inv X pins σ H s) (hp : 0 < s.toks) (hx : x.length ≤ 1000) (hyz : (y == z) = false) (hz : z.length ≤ 10) (q : Q (.str (Txt.replace x y z)) H)
    (hs : starEach [.Constant (.str y) j1 p1, .Constant (.str z) j2 p2] X.env = [(false, eval (.Constant (.str y) j1 p1) X.env), (false, eval (.Constant (.str z) j2 p2) X.env)] := by rfl) :
    wpAny (model X.prog X.w) X.A (callWith cpos (.builtin "str.replace") [.str x t] (backTo cpos (starEach [.Constant (.str y) j1 p1, .Constant (.str z) j2 p2] X.env)) (backToKw cpos (keywordEach [] X.env))) (EP X pins σ Q) X.xe s := by
  rw [hs]
  refine Calls.callWith_builtin (by rfl) (Calls.evalArgs_plain ?_)
  show wpAny _ _ (spliced ((false, eval (.Constant (.str y) j1 p1) X.env) :: backTo cpos [(false, eval (.Constant (.str z) j2 p2) X.env)])) _ _ s
  refine Calls.spliced_cons (Calls.Constant_str ?_)
  show wpAny _ _ (spliced ((false, eval (.Constant (.str z) j2 p2) X.env) :: backTo cpos [])) _ _ _
  refine Calls.spliced_cons (Calls.Constant_str ?_)
  refine Calls.spliced_nil ?_
  have hm : (x.length + 1) * z.length ≤ 1001 * 10 := Nat.mul_le_mul (by omega) hz
  exact call_rep (by show s.toks ≠ 0; omega) (by show s.toks + 1 ≠ 0; omega) (by show s.toks ≠ s.toks + 1; omega) hyz (by omega) fun t' k => ⟨.str _, H, (I.tok _), ⟨t', rfl⟩, q⟩
theorem pe_repG {j1 j2 : Nat} {p1 p2 : Pos} (ho : PEg X o to) (hyz : (y == z) = false) (hz : z.length ≤ 10)
    (hbase : attributeBase o "replace" X.env (eval o X.env) = eval o X.env := by rfl)
    (hfew : ((backTo cpos (starEach [.Constant (.str y) j1 p1, .Constant (.str z) j2 p2] X.env)).all (fun x => !x.1) && (backToKw cpos (keywordEach [] X.env)).all (fun x => x.1.isSome)
      && decide (([.Constant (.str y) j1 p1, .Constant (.str z) j2 p2] : List Expr).length + ([] : List Keyword).length + (if ([] : List Keyword).isEmpty then 0 else 1) < 30)) = true := by rfl)
    (hline : (apos.endLine == cpos.line) = true := by rfl) : PE X (.Call (.Attribute o "replace" apos) [.Constant (.str y) j1 p1, .Constant (.str z) j2 p2] [] cpos) (tRep y z to) := by
  intro pins s σ H Q I h
  refine wpAny_Call_method_late hbase hfew hline rfl (thn (ho.h pins s σ H _ I h) fun v s1 ⟨⟨x', H1, I1, r1, x, e, hx, q1⟩, hp⟩ => ?_)
  subst e
  obtain ⟨h1, h2⟩ := tyV_is (T := "str") I1 r1 rfl
  obtain ⟨t, rfl⟩ := r1
  exact ⟨"str", "str.replace", PySem.F.plainAttrs_str, PySem.F.slot_str_replace, PySem.F.type_str_replace, h1, h2, rep_tail I1 hp hx hyz hz q1⟩
theorem pe_repN {i : Nat} {j1 j2 : Nat} {p1 p2 : Pos} (hN : X.N[i]? = some x) (hv : Vis X.env.scope x) (hyz : (y == z) = false) (hz : z.length ≤ 10) (hd : (x == ("__debug__" : Str)) = false := by decide) (hcd : (x == ("__classdict__" : Str)) = false := by decide)
    (hbase : attributeBase (.Name x p) "replace" X.env (eval (.Name x p) X.env) = eval (.Name x p) X.env := by rfl)
    (hfew : ((backTo cpos (starEach [.Constant (.str y) j1 p1, .Constant (.str z) j2 p2] X.env)).all (fun x => !x.1) && (backToKw cpos (keywordEach [] X.env)).all (fun x => x.1.isSome)
      && decide (([.Constant (.str y) j1 p1, .Constant (.str z) j2 p2] : List Expr).length + ([] : List Keyword).length + (if ([] : List Keyword).isEmpty then 0 else 1) < 30)) = true := by rfl)
    (hline : (apos.endLine == cpos.line) = true := by rfl) : PEn X (.Call (.Attribute (.Name x p) "replace" apos) [.Constant (.str y) j1 p1, .Constant (.str z) j2 p2] [] cpos) (tRep y z (tVar i)) := ⟨by
  intro pins s σ H Q I hp h
  obtain ⟨v, e, x', rfl, hx, q1⟩ := h
  refine wpAny_Call_method_late hbase hfew hline rfl (var_st I e hN hv (fun u r1 => ?_) hd hcd)
  obtain ⟨h1, h2⟩ := tyV_is (T := "str") I r1 rfl
  obtain ⟨t, rfl⟩ := r1
  exact ⟨"str", "str.replace", PySem.F.plainAttrs_str, PySem.F.slot_str_replace, PySem.F.type_str_replace, h1, h2, rep_tail I hp hx hyz hz q1⟩⟩
/-- x[0], x a tuple: the 0 has a token -/
theorem pg_ix0 {i : Nat} {j : Nat} {n : Int} (hN : X.N[i]? = some x) (hv : Vis X.env.scope x) (hs : PlainIx (.Constant (.int n) j p2)) (hd : (x == ("__debug__" : Str)) = false := by decide) (hcd : (x == ("__classdict__" : Str)) = false := by decide) :
    PEg X (.Subscript (.Name x p) (.Constant (.int n) j p2) pos) (tOp (rIxT X.K) (tVar i) (tC (.int n))) := ⟨by
  intro pins s σ H Q I h
  obtain ⟨v, e, pp, xs, i', z, rfl, e2, hq, he, q⟩ := h
  cases e2
  refine Subscript_ (var_st I e hN hv (fun u r1 => ?_) hd hcd)
  refine wpAny_Constant_int ?_
  cases r1
  have I2 : Inv X pins σ H { s with toks := s.toks + 1 } := I.tok _
  obtain ⟨its, r, pl, hz⟩ := I2.tuple hq
  obtain ⟨j', h1, h2, h3, h4, h5⟩ := atI_get he
  obtain ⟨w, ew, rw'⟩ := r.get h2
  have hl := r.length
  have hn := line63
  have fin : EP X pins σ Q w { s with toks := s.toks + 1 } ∧ 0 < ({ s with toks := s.toks + 1 } : Shared).toks := ⟨⟨z, H, I2, rw', q⟩, Nat.succ_pos _⟩
  exact subscriptTail_builtinR (x := w) pl.typeIs slot_tuple_getitem.lookup
    (getItem_tuple (j := j') (Q := fun r s' => r = w ∧ (EP X pins σ Q r s' ∧ 0 < s'.toks)) pl (by omega) (by omega) (by rw [List.size_toArray, ← hl]; exact h1) (by simpa using ew) ⟨rfl, fin⟩) (hs _ _)⟩
/-! where tokens have been given out -/
theorem pn_lst (h : PEn X e te) (hs : starEach [e] X.env = (false, eval e X.env) :: starEach [] X.env := by rfl) : PEn X (.List [e] pos) (tLst (tCons te tNil)) := ⟨by
  intro pins s σ H Q I hp hq
  have hA : wpAny (model X.prog X.w) X.A (spliced (backTo pos (starEach [e] X.env))) (AP X pins σ fun xs H1 => xs.length ≤ sizeLine ∧ ∀ p, H1 p = none → Q (.ref p) (upd H1 p (.lst xs))) X.xe s := by
    rw [hs]
    show wpAny _ _ (spliced ((false, eval e X.env) :: backTo pos (starEach [] X.env))) _ _ s
    refine Calls.spliced_cons (thn (h.h pins s σ H _ I hp hq) fun u s1 ⟨x, H1, I1, r1, q1⟩ => ?_)
    exact thn (pa_nil pos pins s1 σ H1 _ I1 q1) fun us s2 ⟨xs, H2, I2, r2, q2⟩ => ⟨x :: xs, H2, I2, .cons r1 r2, q2⟩
  refine wpAny_List_spliced (thn hA fun us s1 ⟨xs, H1, I1, r, z, q⟩ => ⟨by rw [← r.length]; exact z, ?_⟩)
  have hf : H1 s1.heap.objs.size = none := I1.hok.fresh (Nat.le_refl _)
  refine ⟨.ref s1.heap.objs.size, upd H1 s1.heap.objs.size (.lst xs), I1.laid (t' := s1.toks) (fun b u e => Heap.get?_push_of_some _ e) (Nat.le_refl _) ?_, rfl, q _ hf⟩
  exact ⟨z, us, 0, r, Heap.get?_push_size _ rfl⟩⟩
theorem pn_op {op : Operator} {r : R2} (ho : OpR X (binaryOp op) r) (ha : PEn X a ta) (hb : PE X b tb) : PEn X (.BinOp a op b pos) (tOp r ta tb) := ⟨by
  intro pins s σ H Q I hp h
  refine wpAny_BinOp (thn (ha.h pins s σ H _ I hp h) fun v s1 ⟨x, H1, I1, r1, q1⟩ => ?_)
  refine thn (hb pins s1 σ H1 _ I1 q1) fun u s2 ⟨y, H2, I2, r2, q2⟩ => ?_
  exact ho pins s2 σ H2 x y v u Q I2 r1 r2 q2⟩
theorem pn_callTy {T : String} {r : List V → Hp → VK → Prop} (hc : CallR X (.type T) r) (hg : Gl X x) (hm : X.mg x = none) (hv : bootBuiltins x = some (.type T)) (h : PEn X e te) (hn : x ≠ "__name__" := by decide) (hdb : (x == ("__debug__" : Str)) = false := by decide)
    (he : starEach [e] X.env = (false, eval e X.env) :: starEach [] X.env := by rfl) (hpl : (backTo pos (starEach [] X.env)).any (·.1) = false := by rfl) : PEn X (.Call (.Name x p) [e] [] pos) (tCB r (tCons te tNil)) := ⟨by
  intro pins s σ H Q I hp hq
  have hA : wpAny (model X.prog X.w) X.A (spliced (backTo pos (starEach [e] X.env))) (AP X pins σ fun vs H1 => r vs H1 Q) X.xe s := by
    rw [he]
    show wpAny _ _ (spliced ((false, eval e X.env) :: backTo pos (starEach [] X.env))) _ _ s
    refine Calls.spliced_cons (thn (h.h pins s σ H _ I hp hq) fun u s1 ⟨x, H1, I1, r1, q1⟩ => ?_)
    exact thn (pa_nil pos pins s1 σ H1 _ I1 q1) fun us s2 ⟨xs, H2, I2, r2, q2⟩ => ⟨x :: xs, H2, I2, .cons r1 r2, q2⟩
  refine wpAny_Call_Name_kw (ld_blt I hg hm hv ?_ hn hdb)
  exact PyProof.Rows.callWith_type1 (thn hA fun us s1 ⟨vs, H1, I1, r1, q1⟩ => hc pins s1 σ H1 vs us Q I1 r1 q1) he hpl⟩
end
end L2

namespace L2
open PySem PySem.Spec PyProof.Rows PySem.W PySem.Calls
/-! ### dicts of the module: texts to ints -/
def lkI (D : List (Str × Int)) (z : Str) : Option Int := (D.find? fun p => p.1 == z).map (·.2)
def rowsI : List DictEntry → List (Str × Int) → Bool
  | [], [] => true
  | e :: es, (x, i) :: D => (match e.key, e.val with
    | .str y _, .int j _ => y == x && j == i
    | _, _ => false) && rowsI es D
  | _, _ => false
structure GDct (P : Params) (K : PySem.W.Frag) (mg : Str → Option Value) (x : Str) (D : List (Str × Int)) : Prop where
  ex : ∃ a es n, mg x = some (.ref a) ∧ (a == sysModules) = false ∧ K.lookup a = some ⟨.type "dict", none, .dict es n, #[]⟩ ∧ PySem.W.KeysLit P es.toList ∧ rowsI es.toList D = true
theorem rows_find : ∀ {es : List DictEntry} {D : List (Str × Int)}, rowsI es D = true → ∀ z, (∃ i t, lkI D z = some i ∧ (es.find? fun d => Value.isStrOf z d.key).map (·.val) = some (.int i t)) ∨ (lkI D z = none ∧ (es.find? fun d => Value.isStrOf z d.key).map (·.val) = none)
  | [], [], _, z => .inr ⟨rfl, rfl⟩
  | [], _ :: _, h, _ => by cases h
  | _ :: _, [], h, _ => by cases h
  | e :: es, (x, i) :: D, h, z => by
    unfold rowsI at h
    rw [Bool.and_eq_true] at h
    obtain ⟨h1, h2⟩ := h
    split at h1
    · rename_i y t j t' e1 e2
      rw [Bool.and_eq_true] at h1
      have ex : y = x := eq_of_beq h1.1
      have ei : j = i := eq_of_beq h1.2
      subst ex ei
      have ek : Value.isStrOf z e.key = (y == z) := by rw [e1]; first | rfl | (unfold Value.isStrOf; simp [eq_comm])
      by_cases hz : (y == z) = true
      · refine .inl ⟨j, t', ?_, ?_⟩
        · unfold lkI; rw [List.find?_cons_of_pos (p := fun p : Str × Int => p.1 == z) hz]; rfl
        · rw [List.find?_cons_of_pos (by rw [ek]; exact hz)]; show some e.val = _; rw [e2]
      · have a1 : lkI ((y, j) :: D) z = lkI D z := by unfold lkI; rw [List.find?_cons_of_neg (p := fun p : Str × Int => p.1 == z) hz]
        have a2 : ((e :: es).find? fun d => Value.isStrOf z d.key) = es.find? fun d => Value.isStrOf z d.key := List.find?_cons_of_neg (by rw [ek]; exact hz)
        rw [a1, a2]
        exact rows_find h2 z
    · cases h1
theorem find_by {es : Array DictEntry} {D : List (Str × Int)} (h : rowsI es.toList D = true) (z : Str) : (∃ i t, lkI D z = some i ∧ findBy Value.isStrOf es z = some (.int i t)) ∨ (lkI D z = none ∧ findBy Value.isStrOf es z = none) := by
  obtain ⟨l⟩ := es
  unfold findBy
  rw [List.find?_toArray]
  exact rows_find h z
section
variable {X : Cx} {e el : Expr} {te : TE} {pos p p2 p3 p4 : Pos} {x g : Str} {D : List (Str × Int)}
def rGin (a : Addr) (D : List (Str × Int)) : R2 := fun x y H Q => ∃ z, x = .str z ∧ y = .ref a ∧ Q (.bl (lkI D z).isSome) H
theorem op_gin {a : Addr} {es : Array DictEntry} {n : Nat} (lo : (a == sysModules) = false) (hl : X.K.lookup a = some ⟨.type "dict", none, .dict es n, #[]⟩) (hk : PySem.W.KeysLit X.w.params es.toList) (hr : rowsI es.toList D = true) : OpR X (compareOp .In) (rGin a D) := by
  intro pins s σ H x y v u Q I rx ry h
  obtain ⟨z, rfl, rfl, q⟩ := h
  obtain ⟨t, rfl⟩ := rx
  cases ry
  refine wpAny_in_of (strKind_is X.prog X.w z t) lo (mapOf_K (prog := X.prog) I.kIn hl hk) ?_
  have e : (findBy Value.isStrOf es z).isSome = (lkI D z).isSome := by
    rcases find_by hr z with ⟨i, t, a1, a2⟩ | ⟨a1, a2⟩
    · rw [a1, a2]; rfl
    · rw [a1, a2]; rfl
  exact ⟨.bl _, H, I.tok _, by rw [e]; rfl, q⟩
def tGit (D : List (Str × Int)) (j : Nat) : TE := fun σ H Q => ∃ z i, σ[j]? = some (some (.str z)) ∧ lkI D z = some i ∧ Q (.int i) H
theorem pg_gitem {j : Nat} (G : GDct X.w.params X.K X.mg g D) (hg : Gl X g) (hN : X.N[j]? = some x) (hv : Vis X.env.scope x) (hs : PlainIx (.Name x p2)) (hd : (g == ("__debug__" : Str)) = false := by decide) (hd2 : (x == ("__debug__" : Str)) = false := by decide) (hcd : (x == ("__classdict__" : Str)) = false := by decide) :
    PEg X (.Subscript (.Name g p) (.Name x p2) pos) (tGit D j) := ⟨by
  intro pins s σ H Q I h
  obtain ⟨z, i, e, e2, q⟩ := h
  obtain ⟨a, es, n, hm, lo, hl, hk, hr⟩ := G.ex
  refine Subscript_ (ld_glob I hg hm ?_ hd)
  refine var_st I e hN hv (fun u r1 => ?_) hd2 hcd
  obtain ⟨t, rfl⟩ := r1
  have hm' := mapOf_K (prog := X.prog) I.kIn hl hk
  have hf : ∃ t', findBy Value.isStrOf es z = some (.int i t') := by
    rcases find_by hr z with ⟨i', t', a1, a2⟩ | ⟨a1, a2⟩
    · rw [e2] at a1; cases a1; exact ⟨t', a2⟩
    · rw [e2] at a1; cases a1
  obtain ⟨t', hf⟩ := hf
  exact tail_any hm'.typeIs slot_dict_getitem.lookup (wpAny_getItem_of (strKind_is X.prog X.w z t) hm' hf ⟨⟨.int i, H, I.tok _, ⟨t', rfl⟩, q⟩, Nat.succ_pos _⟩) (hs _ _)⟩
/-- if len(x) != g[w]: ..; return e -/
def tNums (D : List (Str × Int)) (i j : Nat) (te : TE) : TS := fun Dd σ H => ∃ a us z, σ[i]? = some (some (.ref a)) ∧ H a = some (.lst us) ∧ σ[j]? = some (some (.str z)) ∧ lkI D z = some (us.length : Int) ∧ te σ H Dd.rt
theorem pss_nums {K : PySem.W.Frag} {r : Expr} {i j : Nat} {body : List Stmt} (hK : X.K = K) (hlen : PE X el (tCB (rLen K) (tCons (tVar i) tNil))) (hit : PEg X e (tGit D j)) (hret : PEn X r te) (hm : behindInMarks .NotEq e = false) :
    PSs X [.If (.Compare el [.NotEq] [e] p) body [] p2, .Return (some r) p3] (tNums D i j te) := by
  intro pins s σ H Dd I h
  obtain ⟨a, us, z, e1, e2, e3, e4, h⟩ := h
  have key : wpAny (model X.prog X.w) X.A (isTrue (.Compare el [.NotEq] [e] p) X.env (eval (.Compare el [.NotEq] [e] p) X.env)) (fun b s' => b = false ∧ Inv X pins σ H s' ∧ 0 < s'.toks) X.xe s := by
    refine wpAny_isTrue_Compare1 ?_ hm
    refine thn (hlen pins s σ H (fun v H1 => v = .int us.length ∧ H1 = H) I ⟨_, e1, a, us, rfl, .inl (SqL.of e2), rfl, rfl⟩) fun v s1 ⟨x, H1, I1, r1, e5, e6⟩ => ?_
    subst e5 e6
    obtain ⟨t, rfl⟩ := r1
    refine thn (hit.h pins s1 σ H1 (fun v H2 => v = .int us.length ∧ H2 = H1) I1 ⟨z, _, e3, e4, rfl, rfl⟩) fun u s2 ⟨⟨y, H2, I2, r2, e7, e8⟩, hp⟩ => ?_
    subst e7 e8
    obtain ⟨t', rfl⟩ := r2
    refine PyProof.Rows.ne_int ?_
    rw [bne_self_eq_false]
    exact wpAny_truthy_bool ⟨rfl, I2, hp⟩
  refine wpAny_execs_cons (wpAny_If (thn key fun b s1 ⟨eb, I1, hp⟩ => ?_))
  subst eb
  refine wpAny_execs_nil ?_
  refine wpAny_execs_cons (wpAny_Return_some (thn (hret.h pins s1 σ H _ I1 hp h) fun v s2 ⟨x, H1, I2, r1, q1⟩ => ?_))
  exact ⟨x, σ, H1, I2, r1, q1⟩
end
end L2
namespace DL
open PySem PySem.Spec PyProof.Rows L2
section
variable {X : Cx} {K : PySem.W.Frag} {E : XK} {pos apos cpos p p1 p2 p3 : Pos} {x g y z : Str} {o e a b el r : Expr} {to te ta tb : TD} {D : List (Str × Int)}
/-- x.replace(y, z) -/
def dRep (y z : Str) (to : TD) : TD := fun ρ Q Xd => to ρ (fun d _ => onX d fun x => x.length ≤ 1000 ∧ Q (.str (Txt.replace x y z)) .old) Xd
theorem le_rep : ∀ σ H Q, LE K E (dRep y z to) σ H Q → tRep y z (LE K E to) σ H Q := fun σ H Q h => by
  obtain ⟨H0, ν, ρ, Qd, Xd, S, h1, q, x⟩ := h
  refine ⟨H0, ν, ρ, _, Xd, S, h1, fun d k u H1 g1 e1 r1 => ?_, x⟩
  obtain ⟨y, rfl, g1, g2⟩ := onX_ex g1
  have hu := r1.den
  cases hu
  exact ⟨y, rfl, g1, q _ _ _ _ g2 e1 (.str _)⟩
structure DEn (X : Cx) (K : PySem.W.Frag) (E : XK) (e : Expr) (t : TD) : Prop where
  q : PEn X e (LE K E t)
structure DEg (X : Cx) (K : PySem.W.Frag) (E : XK) (e : Expr) (t : TD) : Prop where
  q : PEg X e (LE K E t)
theorem pen_imp {t t' : TE} (h : PEn X e t) (i : ∀ σ H Q, t' σ H Q → t σ H Q) : PEn X e t' := ⟨fun pins s σ H Q I hp w => h.h pins s σ H Q I hp (i σ H Q w)⟩
theorem peg_imp {t t' : TE} (h : PEg X e t) (i : ∀ σ H Q, t' σ H Q → t σ H Q) : PEg X e t' := ⟨fun pins s σ H Q I w => h.h pins s σ H Q I (i σ H Q w)⟩
theorem le_var (i : Nat) : ∀ σ H Q, LE K E (dVar i) σ H Q → tVar i σ H Q := fun σ H Q h => by
  obtain ⟨H0, ν, ρ, Qd, Xd, S, ⟨b, d, h1, h2⟩, q, _⟩ := h
  obtain ⟨v, g1, g2⟩ := S.sl i b d h1
  refine ⟨v, g1, q d _ v H h2 (Same.refl H) ?_⟩
  cases b with
  | true => exact ⟨ν i, g2, S.nd i, fun a ha => .inr ⟨i, by simp, ha⟩⟩
  | false => exact g2
/-- x[n].replace(y, z), x a tuple -/
def dIx0 (i : Nat) (n : Int) : TD := fun ρ Q _ => ∃ b ds d, ρ[i]? = some (some (b, .tuple ds)) ∧ atI ds n = some d ∧ flat d = true ∧ Q d .old
theorem dpe_repG (i : Nat) {n : Int} {j j1 j2 : Nat} (hK : X.K = K) (hyz : (y == z) = false := by decide) (hz : z.length ≤ 10 := by decide) (hN : X.N[i]? = some x := by rfl) (hv : Vis X.env.scope x := by first | exact Or.inl rfl | exact Or.inr (Or.inl rfl) | exact Or.inr (Or.inr rfl)) (hs : PlainIx (.Constant (.int n) j p2) := by exact fun _ _ => rfl) (hd : (x == ("__debug__" : Str)) = false := by decide) (hcd : (x == ("__classdict__" : Str)) = false := by decide)
    (hbase : attributeBase (.Subscript (.Name x p) (.Constant (.int n) j p2) pos) "replace" X.env (eval (.Subscript (.Name x p) (.Constant (.int n) j p2) pos) X.env) = eval (.Subscript (.Name x p) (.Constant (.int n) j p2) pos) X.env := by rfl)
    (hfew : ((backTo cpos (starEach [.Constant (.str y) j1 p1, .Constant (.str z) j2 p3] X.env)).all (fun x => !x.1) && (backToKw cpos (keywordEach [] X.env)).all (fun x => x.1.isSome)
      && decide (([.Constant (.str y) j1 p1, .Constant (.str z) j2 p3] : List Expr).length + ([] : List Keyword).length + (if ([] : List Keyword).isEmpty then 0 else 1) < 30)) = true := by rfl)
    (hline : (apos.endLine == cpos.line) = true := by rfl) :
    DE X K E (.Call (.Attribute (.Subscript (.Name x p) (.Constant (.int n) j p2) pos) "replace" apos) [.Constant (.str y) j1 p1, .Constant (.str z) j2 p3] [] cpos) (dRep y z (dIx0 i n)) := ⟨by
  subst hK
  have hg : PEg X (.Subscript (.Name x p) (.Constant (.int n) j p2) pos) (LE X.K E (dIx0 i n)) := peg_imp (pg_ix0 hN hv hs hd hcd) fun σ H Q h => by
    obtain ⟨H0, ν, ρ, Qd, Xd, S, ⟨b, ds, d, h1, h2, h3, h4⟩, q, _⟩ := h
    obtain ⟨v, g1, g2⟩ := S.get h1
    obtain ⟨a, us, rfl, g3, g4⟩ := dns_of_tup g2
    obtain ⟨k, e1, e2⟩ := atI_nth h2
    obtain ⟨u, e3, e4⟩ := g4.get e2
    exact ⟨_, g1, a, us, n, u, rfl, rfl, g3, atI_of (by rw [g4.length]; exact e1) e3, q _ _ _ _ h4 (Same.refl H) (den_hid S.hl e4 h3)⟩
  exact qe_imp ⟨pe_repG hg hyz hz hbase hfew hline⟩ le_rep⟩
theorem den_rep (i : Nat) {j1 j2 : Nat} (hyz : (y == z) = false := by decide) (hz : z.length ≤ 10 := by decide) (hN : X.N[i]? = some x := by rfl) (hv : Vis X.env.scope x := by first | exact Or.inl rfl | exact Or.inr (Or.inl rfl) | exact Or.inr (Or.inr rfl)) (hd : (x == ("__debug__" : Str)) = false := by decide) (hcd : (x == ("__classdict__" : Str)) = false := by decide)
    (hbase : attributeBase (.Name x p) "replace" X.env (eval (.Name x p) X.env) = eval (.Name x p) X.env := by rfl)
    (hfew : ((backTo cpos (starEach [.Constant (.str y) j1 p1, .Constant (.str z) j2 p2] X.env)).all (fun x => !x.1) && (backToKw cpos (keywordEach [] X.env)).all (fun x => x.1.isSome)
      && decide (([.Constant (.str y) j1 p1, .Constant (.str z) j2 p2] : List Expr).length + ([] : List Keyword).length + (if ([] : List Keyword).isEmpty then 0 else 1) < 30)) = true := by rfl)
    (hline : (apos.endLine == cpos.line) = true := by rfl) : DEn X K E (.Call (.Attribute (.Name x p) "replace" apos) [.Constant (.str y) j1 p1, .Constant (.str z) j2 p2] [] cpos) (dRep y z (dVar i)) :=
  ⟨pen_imp (pe_repN hN hv hyz hz hd hcd hbase hfew hline) fun σ H Q h => by
    have h2 := le_rep σ H Q h
    exact le_var i σ H _ h2⟩
theorem den_lst (h : DEn X K E e te) (hs : starEach [e] X.env = (false, eval e X.env) :: starEach [] X.env := by rfl) : DEn X K E (.List [e] pos) (dLst (dCons te dNil)) := ⟨pen_imp (pn_lst h.q hs) fun σ H Q h => by
  obtain ⟨H0, ν, ρ, Qd, Xd, S, h1, q, x⟩ := h
  refine ⟨H0, ν, ρ, _, Xd, S, h1, fun d k v H1 g1 e1 r1 => ?_, x⟩
  have g1 : ([d] : List D).length ≤ 1000 ∧ Qd (.list [d]) (kcons d k (.own [])) := g1
  have r2 : RsL K Z0 ν H H1 (kcons d k (.own [])) [v] [d] := rsl_cons S.hl S.dj e1 (Same.refl _) r1 ⟨[], .nil, List.nodup_nil, fun _ z => by cases z⟩
  exact ⟨by show 1 ≤ sizeLine; decide, fun p hp => q _ _ _ _ g1.2 (e1.trans (Same.new hp)) (res_newL (S.same e1).hl e1 hp r2)⟩⟩
theorem den_op {op : Operator} {f : F2} (ho : DOp X K (binaryOp op) f) (ha : DEn X K E a ta) (hb : DE X K E b tb) : DEn X K E (.BinOp a op b pos) (dOp f ta tb) := by
  obtain ⟨r, o, p⟩ := ho.ex
  exact ⟨pen_imp (pn_op o ha.q hb.q.h) (le_two p)⟩
theorem den_callTy {T : String} {g : FA} (hc : DCl X K (.type T) g) (hg : Gl X x) (hm : X.mg x = none) (hv : bootBuiltins x = some (.type T)) (h : DEn X K E e te) (hn : x ≠ "__name__" := by decide) (hdb : (x == ("__debug__" : Str)) = false := by decide)
    (he : starEach [e] X.env = (false, eval e X.env) :: starEach [] X.env := by rfl) (hpl : (backTo pos (starEach [] X.env)).any (·.1) = false := by rfl) : DEn X K E (.Call (.Name x p) [e] [] pos) (dCB g (dCons te dNil)) := by
  obtain ⟨r, c, pr⟩ := hc.ex
  refine ⟨pen_imp (pn_callTy c hg hm hv h.q hn hdb he hpl) fun σ H Q h => ?_⟩
  obtain ⟨H0, ν, ρ, Qd, Xd, S, h1, q, x⟩ := h
  refine ⟨H0, ν, ρ, _, Xd, S, h1, fun d k v H1 g1 e1 r1 => ?_, x⟩
  have g1 : g [d] (kcons d k (.own [])) Qd := g1
  have r2 : RsL K Z0 ν H H1 (kcons d k (.own [])) [v] [d] := rsl_cons S.hl S.dj e1 (Same.refl _) r1 ⟨[], .nil, List.nodup_nil, fun _ z => by cases z⟩
  exact pr Z0 ν H H1 [v] [d] _ _ _ (S.same e1).hl S.hl e1 r2 g1 fun d k v H' a1 a2 a3 => q d k v H' a1 (e1.trans a2) a3
/-- e in g -/
def dGin (D : List (Str × Int)) (te : TD) : TDT := fun ρ Q Xd => te ρ (fun d _ => onX d fun z => Q (lkI D z).isSome) Xd
theorem dpt_gin (hK : X.K = K) (G : GDct X.w.params K X.mg g D) (hg : Gl X g) (he : DE X K E e te) (hd : (g == ("__debug__" : Str)) = false := by decide) (hm : behindInMarks .In (.Name g p) = false := by rfl) : DT X K E (.Compare e [.In] [.Name g p] pos) (dGin D te) := by
  subst hK
  obtain ⟨a, es, n, hmg, lo, hl, hk, hr⟩ := G.ex
  refine ⟨qt_imp (⟨pt_cmpR (op_gin lo hl hk hr) he.q.h (pe_glob hg hmg (v := .ref a) rfl hd) hm⟩ : QT X _ _) fun σ H Q h => ?_⟩
  obtain ⟨H0, ν, ρ, Qd, Xd, S, h1, q, x⟩ := h
  refine ⟨H0, ν, ρ, _, Xd, S, h1, fun d k u H1 g1 e1 r1 => ?_, x⟩
  obtain ⟨y, rfl, g1⟩ := onX_ex g1
  have hu := r1.den
  cases hu
  exact ⟨y, rfl, rfl, _, rfl, q _ _ g1 e1⟩
/-- if len(x) != g[w]: ..; return r -/
def dNums (D : List (Str × Int)) (i j : Nat) (te : TD) : TSD := fun Dd ρ Xd => ∃ b c ds z, ρ[i]? = some (some (b, .list ds)) ∧ ρ[j]? = some (some (c, .str z)) ∧ lkI D z = some (ds.length : Int) ∧ dRet te Dd ρ Xd
theorem dss_nums (i j : Nat) {body : List Stmt} (hK : X.K = K) (G : GDct X.w.params K X.mg g D) (hg : Gl X g) (hlen : QE X el (tCB (rLen K) (tCons (tVar i) tNil))) (hret : DEn X K E r te) (hN : X.N[j]? = some x := by rfl) (hv : Vis X.env.scope x := by first | exact Or.inl rfl | exact Or.inr (Or.inl rfl) | exact Or.inr (Or.inr rfl))
    (hs : PlainIx (.Name x p2) := by exact fun _ _ => rfl) (hd : (g == ("__debug__" : Str)) = false := by decide) (hd2 : (x == ("__debug__" : Str)) = false := by decide) (hcd : (x == ("__classdict__" : Str)) = false := by decide) (hm : behindInMarks .NotEq (.Subscript (.Name g p) (.Name x p2) p3) = false := by rfl) :
    DSs X K E [.If (.Compare el [.NotEq] [.Subscript (.Name g p) (.Name x p2) p3] p1) body [] pos, .Return (some r) cpos] (dNums D i j te) := ⟨qss_imp ⟨pss_nums hK hlen.h (pg_gitem (hK ▸ G) hg hN hv hs hd hd2 hcd) hret.q hm⟩ fun En σ H h => by
  obtain ⟨H0, ν, ρ, Dd, Xd, S, ⟨b, c, ds, z, h1, h2, h3, h4⟩, ok, x⟩ := h
  obtain ⟨v, g1, g2⟩ := S.get h1
  obtain ⟨a, us, rfl, g3, g4⟩ := dns_of_lst g2
  obtain ⟨w', g5, g6⟩ := S.get h2
  cases g6
  exact ⟨a, us, z, g1, g3, g5, by rw [g4.length]; exact h3, H0, ν, ρ, _, Xd, S, h4, fun d k v H' a1 a2 a3 => ok.rt _ _ _ _ a1 (S.sm.trans a2) (rr_of S a2 a3), x⟩⟩
variable {ρ : Ren} {Q : QD} {Qt : Bool → Prop} {Xd : XD} {i j : Nat} {n : Int} {Dd : EndsD}
theorem w_rep (h : to ρ (fun d _ => onX d fun x => x.length ≤ 1000 ∧ Q (.str (Txt.replace x y z)) .old) Xd) : dRep y z to ρ Q Xd := h
theorem w_ix0 {b : Bool} {ds : List DL.D} {d : DL.D} (h1 : ρ[i]? = some (some (b, .tuple ds))) (h2 : atI ds n = some d) (h3 : flat d = true) (h : Q d .old) : dIx0 i n ρ Q Xd := ⟨b, ds, d, h1, h2, h3, h⟩
theorem w_gin (h : te ρ (fun d _ => onX d fun z => Qt (lkI D z).isSome) Xd) : dGin D te ρ Qt Xd := h
end
end DL

namespace L2
open PySem PySem.Spec PyProof.Rows PySem.W PySem.Calls
/-! ### first, *rest = a list -/
section
variable {prog : Program} {w : World} {A : Around} {E : Value → Shared → Prop} {s : Shared}
theorem walks_from {A : Around} (hh : A.handled = none) (I ax : Addr) (hne : ax ≠ I) (items : Array Value) (k : Nat) :
    Walks prog w A I [I, ax] [I] (items.size - k) (fun i v => items[k + i]? = some v) (fun i h => h.IsListIter I ax (k + i) ∧ k ≤ items.size ∧ h.IsList ax items) where
  sub := fun b hb => by simp at hb; simp [hb]
  frame := fun i h h' st hk => ⟨((Walks.list (prog := prog) (w := w) hh I ax hne items).frame (k + i) h h' ⟨st.1, st.2.2⟩ hk).1, st.2.1, ((Walks.list (prog := prog) (w := w) hh I ax hne items).frame (k + i) h h' ⟨st.1, st.2.2⟩ hk).2⟩
  item := fun i s Q E hi st hQ => (Walks.list hh I ax hne items).item (k + i) s Q E (by omega) ⟨st.1, st.2.2⟩ fun v h' tk hP st' hk => hQ v h' tk hP ⟨st'.1, st.2.1, st'.2⟩ hk
  done := fun s Q E st hQ => (Walks.list hh I ax hne items).done s Q E ⟨by have := st.1; rw [show k + (items.size - k) = items.size by have := st.2.1; omega] at this; exact this, st.2.2⟩ hQ
  self := fun i s Q E st hQ => (Walks.list hh I ax hne items).self (k + i) s Q E ⟨st.1, st.2.2⟩ hQ
theorem kun_star {l : Addr} {items : Array Value} {v0 : Value} {Q : List Value → Shared → Prop} (hh : A.handled = none) (hl : s.heap.IsList l items) (h0 : items[0]? = some v0) (hz : items.size ≤ sizeLine)
    (hQ : ∀ (h' : Heap) (tk : Nat), (∀ b o, s.heap.get? b = some o → h'.get? b = some o) → Q [v0, .ref h'.objs.size] { s with heap := h'.push { cls := .type "list", data := .seq (items.toList.drop 1).toArray }, toks := tk }) :
    wpAny (model prog w) A (unpackItems (.ref l) 2 (some 1)) Q E s := by
  have h1 : 1 ≤ items.size := by have := (Array.getElem?_eq_some_iff.mp h0).1; omega
  have hlt : l ≠ s.heap.objs.size := by obtain ⟨o, ho, _⟩ := hl; exact Nat.ne_of_lt (Heap.lt_size ho)
  unfold unpackItems
  refine wpAny_bind ?_
  unfold notIterableAtAll
  refine wpAny_bind (wpAny_specialOf hl.typeIs slot_list_iter.lookup ?_)
  refine wpAny_pure ?_
  simp only [Bool.false_eq_true, if_false]
  refine wpAny_bind (wpAny_holding (wpAny_pyIter_list hl ?_))
  refine wpAny_bind (wpAny_holding (kun_draw hlt 1 0 _ _ ⟨_, Heap.get?_push_size _ rfl, rfl, rfl⟩ (hl.push _) (by omega) fun h₁ hit₁ hs₁ => ?_))
  have hf : List.take 1 (List.drop 0 items.toList) = [v0] := by
    rw [List.drop_zero]
    have : items.toList[0]? = some v0 := by rw [Array.getElem?_toList]; exact h0
    cases e : items.toList with
    | nil => rw [e] at this; cases this
    | cons a r => rw [e] at this; cases this; rfl
  rw [hf]
  rw [if_neg (by simp)]
  have hl₁ : h₁.IsList l items := (hl.push _).extBut hs₁.extBut hlt
  have hlt₁ : ∀ b ∈ [s.heap.objs.size, l], b < h₁.objs.size := fun b hb => by
    rcases List.mem_cons.mp hb with e | hb
    · obtain ⟨o, ho, _⟩ := hit₁; rw [e]; exact Heap.lt_size ho
    · obtain ⟨o, ho, _⟩ := hl₁; rw [List.mem_singleton.mp hb]; exact Heap.lt_size ho
  refine wpAny_bind (wpAny_holding (wpAny_collect_iter (s := { s with heap := h₁ }) (.inr (.inr (.inl rfl))) (walks_from (A := A.in1) hh s.heap.objs.size l hlt items 1).toS (fun _ _ st => let ⟨o, ho, hc, _⟩ := st.1; ⟨o, ho, hc⟩) ⟨hit₁, h1, hl₁⟩ hlt₁ (List.mem_cons_self ..) (fun s' acc hm ha => ?_) (by omega)))
  have ea : acc.toList = items.toList.drop 1 := by
    refine List.ext_getElem? fun j => ?_
    rw [Array.getElem?_toList, List.getElem?_drop, Array.getElem?_toList]
    by_cases hj : j < acc.size
    · rw [Array.getElem?_eq_getElem hj, ha.2 j acc[j] (Array.getElem?_eq_getElem hj)]
    · rw [Array.getElem?_eq_none (by omega), Array.getElem?_eq_none (by have := ha.1; omega)]
  rw [ea]
  rw [if_neg (by omega)]
  have em : (items.toList.drop 1).length - (2 - 1 - 1) = (items.toList.drop 1).length := rfl
  rw [em, List.take_length, List.drop_length]
  refine wpAny_bind (wpAny_newObj_type (wpAny_pure ?_) (by
    show (items.toList.drop 1).toArray.size ≤ sizeLine
    rw [List.size_toArray, List.length_drop, Array.length_toList]
    omega))
  have es : s' = { s with heap := s'.heap, toks := s'.toks } := by
    obtain ⟨a, b, c, d, e⟩ := s'
    have g1 : b = s.gens := hm.gens
    have g2 : c = s.drawn := hm.drawn
    have g3 : e = s.os := hm.os
    subst g1 g2 g3
    rfl
  have := hQ s'.heap s'.toks fun b o e => hm.heap b o (fun z => by rw [List.mem_singleton] at z; subst z; exact absurd (Heap.lt_size e) (Nat.lt_irrefl _)) (hs₁.extBut b o (Nat.ne_of_lt (Heap.lt_size e)) (Heap.get?_push_of_some _ e))
  rw [es]
  exact this
end
section
variable {X : Cx} {pos : Pos}
/-- the targets of first, *rest = v -/
def gStar (K : PySem.W.Frag) (t : TGs) : TG := fun v σ H Q => ∃ a x xs, v = .ref a ∧ SqL K H a (x :: xs) ∧ ∀ p, H p = none → t [x, .ref p] σ (upd H p (.lst xs)) Q
theorem qpg_star (K : PySem.W.Frag) (hK : X.K = K) {e1 e2 : Expr} {k : Nat} {p2 : Pos} {t : TGs} (hc : X.calm = true) (h : QGs X [e1, e2] t) (ha : assignEach [e1, .Starred e2 p2] X.env = [(false, assign e1 X.env), (true, assign e2 X.env)]) (hb : assignEach [e1, e2] X.env = [(false, assign e1 X.env), (false, assign e2 X.env)]) : QG X (.Tuple [e1, .Starred e2 p2] k pos) (gStar K t) := ⟨by
  subst hK
  intro pins s σ H v u Q I r hw
  obtain ⟨a, x, xs, e1', hq, hw⟩ := hw
  subst e1'
  cases r
  obtain ⟨its, rv, pl, hz⟩ := I.list hq
  rw [assign_Tuple]
  refine wpAny_bind (wpAny_standAt ?_)
  unfold unpack
  rw [ha]
  cases rv with
  | cons r1 r2 =>
  rename_i u0 us
  have hsz : ((u0 :: us).toArray).size ≤ sizeLine := by rw [List.size_toArray, List.length_cons, ← r2.length]; rw [List.length_cons] at hz; exact hz
  refine wpAny_bind (wpAny_holding (kun_star (items := (u0 :: us).toArray) (I.ok.hd hc) pl.isList (v0 := u0) rfl hsz fun h' tk hk => ?_))
  have I1 : Inv X pins σ H { s with heap := h', toks := s.toks } := I.kept (t' := s.toks) hk
  have I2 := I1.laid (a := h'.objs.size) (o := .lst xs) (h' := h'.push { cls := .type "list", data := .seq us.toArray }) (t' := tk) (fun b o e => Heap.get?_push_of_some _ e) (Nat.le_refl _) ⟨by rw [List.length_cons] at hz; omega, us, 0, r2, Heap.get?_push_size _ rfl⟩
  have hf : H h'.objs.size = none := I1.hok.fresh (Nat.le_refl _)
  have := h.h pins _ σ _ [x, .ref h'.objs.size] [u0, .ref h'.objs.size] Q I2 (.cons r1 (.cons rfl .nil)) (hw _ hf)
  rw [hb] at this
  exact this⟩
end
end L2
namespace DL
open PySem PySem.Spec PyProof.Rows L2
section
variable {X : Cx} {K : PySem.W.Frag} {E : XK} {pos : Pos} {e : Expr} {te : TD}
/-- x, *y = a list without lists -/
def dStar (i j : Nat) (te : TD) : TSD := fun Dd ρ Xd => te ρ (fun d _ => onL d fun ds => ∃ x xs, ds = x :: xs ∧ flat x = true ∧ flats xs = true ∧ Dd.nx (((frz ρ).set i (some (false, x))).set j (some (false, .list xs)))) Xd
theorem dps_star (i j : Nat) {e1 e2 : Expr} {kt : Nat} {pt p2 : Pos} (hK : X.K = K) (hc : X.calm = true) (hg : QGs X [e1, e2] (gNames [i, j])) (ha : assignEach [e1, .Starred e2 p2] X.env = [(false, assign e1 X.env), (true, assign e2 X.env)]) (hb : assignEach [e1, e2] X.env = [(false, assign e1 X.env), (false, assign e2 X.env)]) (he : DE X K E e te)
    (hs : swapsWithSole [.Tuple [e1, .Starred e2 p2] kt pt] e pos.line X.env = pure false := by rfl) (hw : swappedStores [.Tuple [e1, .Starred e2 p2] kt pt] e X.env = pure none := by rfl) (h1 : (assignEach [.Tuple [e1, .Starred e2 p2] kt pt] X.env).map (·.2) = [assign (.Tuple [e1, .Starred e2 p2] kt pt) X.env] := by rfl) :
    DS X K E (.Assign [.Tuple [e1, .Starred e2 p2] kt pt] e pos) (dStar i j te) := ⟨qs_imp (qps_asg he.q (qpg_star K hK hc hg ha hb) hs hw h1) fun En σ H h => by
  obtain ⟨H0, ν, ρ, Dd, Xd, S, h1, ok, x⟩ := h
  refine ⟨H0, ν, ρ, _, Xd, S, h1, fun d k v H' q1 e1 r1 => ?_, x⟩
  obtain ⟨ds, rfl, y, ys, rfl, f1, f2, q1⟩ := onL_ex' q1
  obtain ⟨a, us, rfl, g1, g2⟩ := dns_of_lst r1.den
  cases g2 with
  | @cons v0 vs0 _ _ g3 g4 =>
  refine ⟨a, _, _, rfl, SqL.of g1, fun p hp => ?_⟩
  have sm : Same H' (upd H' p (.lst vs0)) := Same.new hp
  have S1 := ((S.same e1).same sm).frz
  have d1 : Dn K (hid (Hd Z0 fun _ => []) (upd H' p (.lst vs0))) _ y := Dn.same hid_z0 (g3.same sm)
  have S2 := S1.setOld i d1
  have d2 : Dn K (hid (Hd Z0 fun _ => []) (upd H' p (.lst vs0))) (.ref p) (.list ys) := Dn.same hid_z0 (.lst upd_same (g4.same sm))
  have S3 := S2.setOld j d2
  exact gNames_of [i, j] [v0, .ref p] σ _ _ rfl (ok.nx _ _ _ _ q1 S3)⟩
theorem w_star {i j : Nat} {Dd : EndsD} {ρ : Ren} {Xd : XD} (h : te ρ (fun d _ => onL d fun ds => ∃ x xs, ds = x :: xs ∧ flat x = true ∧ flats xs = true ∧ Dd.nx (((frz ρ).set i (some (false, x))).set j (some (false, .list xs)))) Xd) : dStar i j te Dd ρ Xd := h
end
end DL

namespace L2
open PySem PySem.Spec PyProof.Rows PySem.W PySem.Calls
section
variable {X : Cx}
/-! ### {x: y, z: w} of texts; d.get(k, e) -/
def tDTwo (x1 y1 x2 y2 : Str) : TE := fun _ H Q => ∀ p, H p = none → Q (.ref p) (upd H p (.dK [(Sum.inr x1, .str y1), (Sum.inr x2, .str y2)]))
theorem pe_dTwo {x1 y1 x2 y2 : Str} {k1 k2 k3 k4} {p1 p2 p3 p4 pos : Pos} (hne : x1 ≠ x2) : PE X (.Dict [some (.Constant (.str x1) k1 p1), some (.Constant (.str x2) k2 p2)] [.Constant (.str y1) k3 p3, .Constant (.str y2) k4 p4] pos) (tDTwo x1 y1 x2 y2) := by
  intro pins s σ H Q I h
  refine wpAny_Dict_pairs (knd := mixKind X.prog X.w) (pairs := [(eval (.Constant (.str x1) k1 p1) X.env, do let x ← eval (.Constant (.str y1) k3 p3) X.env; standAt pos; pure x), (eval (.Constant (.str x2) k2 p2) X.env, do let x ← eval (.Constant (.str y2) k4 p4) X.env; standAt pos; pure x)]) rfl (by simp) (by show 2 ≤ 15; decide) ?_
  unfold evalPairs
  refine wpAny_bind (wpAny_Constant_str ?_)
  refine wpAny_bind (wpAny_holding (wpAny_bind (wpAny_Constant_str (wpAny_bind (wpAny_standAt (wpAny_pure ?_))))))
  unfold evalPairs
  refine wpAny_bind (wpAny_holding (wpAny_bind (wpAny_Constant_str ?_)))
  refine wpAny_bind (wpAny_holding (wpAny_bind (wpAny_Constant_str (wpAny_bind (wpAny_standAt (wpAny_pure ?_))))))
  unfold evalPairs
  refine wpAny_bind (wpAny_holding (wpAny_pure (wpAny_pure (wpAny_pure ?_))))
  refine ⟨[(Sum.inr x1, _), (Sum.inr x2, _)], ⟨kV_is (k := Sum.inr x1) ⟨_, rfl⟩, rfl, kV_is (k := Sum.inr x2) ⟨_, rfl⟩, rfl, trivial⟩, Heap.DictOf.new _, fun h' hm' hs' => ?_⟩
  refine ⟨.ref s.heap.objs.size, _, I.laid (a := s.heap.objs.size) (o := .dK [(Sum.inr x1, .str y1), (Sum.inr x2, .str y2)]) (t' := _) (fun b ob q => (hs'.2 b (Nat.ne_of_lt (Heap.lt_size q))).trans (Heap.get?_push_of_some _ q)) (Nat.le_refl _) ?_, rfl, h _ (I.hok.fresh (Nat.le_refl _))⟩
  have e : ∀ v1 v2 : Value, merged ([] : List (Key × Value)) [(Sum.inr x1, v1), (Sum.inr x2, v2)] = [(Sum.inr x1, v1), (Sum.inr x2, v2)] := fun v1 v2 => by
    simp [merged, stored, hne]
  rw [e] at hm'
  exact ⟨by show 2 ≤ sizeLine; decide, beq_eq_false_iff_ne.mpr (Ne.symm (Nat.ne_of_lt I.big)), _, .cons ⟨rfl, ⟨_, rfl⟩⟩ (.cons ⟨rfl, ⟨_, rfl⟩⟩ .nil), hm'⟩
def rDGet : V → List V → Hp → VK → Prop := fun x xs H Q => ∃ a kvs k dv, x = .ref a ∧ xs = [kV k, dv] ∧ H a = some (.dK kvs) ∧ Q ((valV kvs k).getD dv) H
theorem mt_dget : MtR X "dict.get" rDGet := by
  intro pins s σ H x xs v us Q I rx rv h
  obtain ⟨a, kvs, k, dv, rfl, rfl, e, q⟩ := h
  cases rx
  obtain ⟨u1, u2, rfl, r1, r2⟩ := vals2 rv
  obtain ⟨z, hd, vs, rel, dd⟩ := dk_of I.hok e
  refine call_meetsIn PySem.F.slot_dict_get dd.typeIs PySem.F.entry_dict_get (PySem.F.args_dict_get_3 _ _ _) (meets_dict_get_default (mixKind X.prog X.w) a (kV_is r1) hd u2) ⟨_, dd.mapOf, ?_⟩
  have rel := rel.val k
  refine ⟨(valV kvs k).getD dv, H, I.tok _, ?_, q⟩
  revert rel
  cases valV kvs k <;> cases e2 : valueAt vs k <;> intro rel
  · exact r2
  · exact rel.elim
  · exact rel.elim
  · exact rel
end
end L2
namespace DL
open PySem PySem.Spec PyProof.Rows L2
section
variable {X : Cx} {K : PySem.W.Frag} {E : XK} {pos apos cpos p1 p2 p3 p4 : Pos} {o e1 e2 : Expr} {to t1 t2 : TD}
def dDTwo (x1 y1 x2 y2 : Str) : TD := fun _ Q _ => Q (dKD [(Sum.inr x1, .str y1), (Sum.inr x2, .str y2)]) (.own [])
theorem dpe_dTwo {x1 y1 x2 y2 : Str} {k1 k2 k3 k4} (hne : x1 ≠ x2 := by decide) : DE X K E (.Dict [some (.Constant (.str x1) k1 p1), some (.Constant (.str x2) k2 p2)] [.Constant (.str y1) k3 p3, .Constant (.str y2) k4 p4] pos) (dDTwo x1 y1 x2 y2) := ⟨qe_imp ⟨pe_dTwo hne⟩ fun σ H Q h => by
  obtain ⟨H0, ν, ρ, Qd, Xd, S, h1, q, x⟩ := h
  intro d hd
  exact q _ _ _ _ h1 (Same.new hd) ⟨[d], ow_dK upd_same (.cons rfl (.cons rfl .nil)), by simp, fun a ha => by rw [List.mem_singleton] at ha; subst ha; exact .inl hd⟩⟩
/-- d.get(k, e) -/
def dDGet2 (to t1 t2 : TD) : TD := fun ρ Q Xd => to ρ (fun d _ => ∃ es, d = dKD es ∧ t1 ρ (fun k _ => ∃ key, k = keyV key ∧ t2 ρ (fun e _ => flat e = true ∧ Q ((look es key).getD e) .old) Xd) Xd) Xd
theorem valD_dn {H : Hp} {d : D} {v : V} (h : valD d = some v) : Dn K H v d ∧ flat d = true := by
  cases d <;> simp [valD] at h <;> subst h
  · exact ⟨.non, rfl⟩
  · exact ⟨.bl _, rfl⟩
  · exact ⟨.int _, rfl⟩
  · exact ⟨.str _, rfl⟩
theorem dpe_dget2 (hK : X.K = K) (ho : DE X K E o to) (h1 : DE X K E e1 t1) (h2 : DE X K E e2 t2)
    (hb : attributeBase o "get" X.env (eval o X.env) = eval o X.env := by rfl) (hfew : ((backTo cpos (starEach [e1, e2] X.env)).all (fun x => !x.1) && (backToKw cpos (keywordEach [] X.env)).all (fun x => x.1.isSome) && decide (([e1, e2] : List Expr).length + ([] : List Keyword).length + (if ([] : List Keyword).isEmpty then 0 else 1) < 30)) = true := by rfl) (hline : (apos.endLine == cpos.line) = true := by rfl) (hs : starEach [e1, e2] X.env = (false, eval e1 X.env) :: starEach [e2] X.env := by rfl) (hs2 : starEach [e2] X.env = (false, eval e2 X.env) :: starEach [] X.env := by rfl) (hplain : (backTo cpos (starEach [e2] X.env)).any (·.1) = false := by rfl) :
    DE X K E (.Call (.Attribute o "get" apos) [e1, e2] [] cpos) (dDGet2 to t1 t2) := by
  subst hK
  refine ⟨qe_imp (⟨pe_bm PySem.F.plainAttrs_dict PySem.F.slot_dict_get PySem.F.type_dict_get mt_dget ho.q.h (qpa_cons h1.q (qpa_cons h2.q qpa_nil hs2) hs).h hb hfew hline hs hplain⟩ : QE X _ _) fun σ H Q h => ?_⟩
  obtain ⟨H0, ν, ρ, Qd, Xd, S, h1, q, x⟩ := h
  refine ⟨H0, ν, ρ, _, Xd, S, h1, fun d k u H1 g1 e1 r1 => ?_, x⟩
  obtain ⟨es, rfl, g1⟩ := g1
  obtain ⟨a, kvs, rfl, l1, l2⟩ := dn_dK r1.den
  refine ⟨.inr (.inr (.inl ⟨rfl, .inl ⟨kvs, l1⟩⟩)), H0, ν, ρ, _, Xd, S.same e1, g1, fun d2 k2 v H2 g2 e2 r2 => ?_, x⟩
  obtain ⟨key, rfl, g2⟩ := g2
  refine ⟨H0, ν, ρ, _, Xd, S.same (e1.trans e2), g2, fun d3 k3 v3 H3 g3 e3 r3 => ?_, x⟩
  have ek := dn_keyV r2.den
  subst ek
  refine ⟨a, kvs, key, v3, rfl, rfl, e3 _ _ (e2 _ _ l1), ?_⟩
  have ee := (e1.trans e2).trans e3
  have hl := (S.same ee).hl
  rcases l2.look key with ⟨d', v', a1, a2, a3⟩ | ⟨a1, a2⟩
  · rw [a2]
    rw [a1] at g3
    exact q _ _ _ _ g3.2 ee (den_hid hl (valD_dn a3).1 (valD_dn (K := X.K) (H := H3) a3).2)
  · rw [a2]
    rw [a1] at g3
    exact q _ _ _ _ g3.2 ee (den_hid hl r3.den g3.1)
variable {ρ : Ren} {Q : QD} {Xd : XD}
theorem w_dTwo {x1 y1 x2 y2 : Str} (h : Q (dKD [(Sum.inr x1, .str y1), (Sum.inr x2, .str y2)]) (.own [])) : dDTwo x1 y1 x2 y2 ρ Q Xd := h
theorem w_dget2 (h : to ρ (fun d _ => ∃ es, d = dKD es ∧ t1 ρ (fun k _ => ∃ key, k = keyV key ∧ t2 ρ (fun e _ => flat e = true ∧ Q ((look es key).getD e) .old) Xd) Xd) Xd) : dDGet2 to t1 t2 ρ Q Xd := h
end
end DL

namespace DL
open PySem PySem.Spec PyProof.Rows L2
section
variable {X : Cx} {K : PySem.W.Frag} {E : XK} {pos : Pos}
/-! ### t[lo:hi], any tuple -/
def ksl (k : Kd) : Kd := if k.isOld = true then .old else .mix
theorem ksl_old : ksl .old = .old := rfl
theorem ksl_own : ksl (.own []) = .old := rfl
def fSlD : F3 := fun d k lo hi Q => match d with
  | .tuple ds => Q (.tuple (cutD ds lo hi)) (ksl k)
  | _ => False
theorem cut_all {α : Type} {ds : List D} {us : List V} {l u : Option Int} (hd : us.length = ds.length) (hw : HT.sIx us.length 0 l = 0 ∧ HT.sIx us.length us.length u = us.length) : cutD ds l u = ds := by
  unfold cutD
  rw [← hd, hw.1, hw.2, List.drop_zero, Nat.sub_zero, List.take_of_length_le (by rw [hd]; exact Nat.le_refl _)]
theorem dpe_sliceD {e : Expr} {lo hi : Option Expr} {te : TD} {tl th : TDO} {p2 : Pos} (hK : X.K = K) (he : DE X K E e te) (hl : DO X K E lo tl) (hu : DO X K E hi th) : DE X K E (.Subscript e (.Slice lo hi none p2) pos) (dSl fSlD te tl th) := ⟨by
  subst hK
  refine qe_imp (qpe_slice (sl_all.or sl_tup) he.q hl.q hu.q) fun σ H Q h => ?_
  obtain ⟨H0, ν, ρ, Qd, Xd, S, h1, q, x⟩ := h
  refine ⟨H0, ν, ρ, _, Xd, S, h1, fun d k v H1 g1 e1 r1 => ?_, x⟩
  refine ⟨H0, ν, ρ, _, Xd, S.same e1, g1, fun l H2 g2 e2 => ?_, x⟩
  refine ⟨H0, ν, ρ, _, Xd, S.same (e1.trans e2), g2, fun u H3 g3 e3 => ?_, x⟩
  have e03 := (e1.trans e2).trans e3
  have hl3 := (S.same e03).hl
  have r3 := (r1.same e2).same e3
  cases d with
  | tuple ds =>
    have g3 : Qd (.tuple (cutD ds l u)) (ksl k) := g3
    unfold ksl at g3
    by_cases ho : k.isOld = true
    · rw [if_pos ho] at g3
      obtain ⟨a, us, rfl, ht, hd⟩ := dns_of_tup (Res.old hl3 S.hl r3 ho)
      have ht' : SqT X.K H3 a us := Same.tup hid_same ht
      by_cases hw : HT.sIx us.length 0 l = 0 ∧ HT.sIx us.length us.length u = us.length
      · refine .inl ⟨a, us, rfl, ht', hw, q _ _ _ _ g3 e03 ?_⟩
        rw [cut_all (α := Nat) hd.length hw]
        exact .tup ht hd
      · refine .inr ⟨a, us, rfl, ht', hw, fun p hp => q _ _ _ _ g3 (e03.trans (Same.new hp)) ?_⟩
        have hz : ¬ Hd Z0 ν p := fun z => by obtain ⟨us, q⟩ := hl3 p z; rw [hp] at q; cases q
        refine .tup (SqT.of (hid_of upd_same hz)) ?_
        unfold cutV cutD
        rw [hd.length]
        exact ((hd.same (hid_mono (Same.new hp))).drop _).take _
    · rw [if_neg ho] at g3
      obtain ⟨a, us, rfl, ht, hd⟩ := dns_of_tup r3.den
      by_cases hw : HT.sIx us.length 0 l = 0 ∧ HT.sIx us.length us.length u = us.length
      · refine .inl ⟨a, us, rfl, ht, hw, q _ _ _ _ g3 e03 ?_⟩
        rw [cut_all (α := Nat) hd.length hw]
        exact .tup ht hd
      · refine .inr ⟨a, us, rfl, ht, hw, fun p hp => q _ _ _ _ g3 (e03.trans (Same.new hp)) ?_⟩
        refine .tup (SqT.of upd_same) ?_
        unfold cutV cutD
        rw [hd.length]
        exact ((hd.same (Same.new hp)).drop _).take _
  | _ => exact g3.elim⟩
theorem w_slD {x : List D} {k : Kd} {lo hi : Option Int} {Q : QD} (h : Q (.tuple (cutD x lo hi)) (ksl k)) : fSlD (.tuple x) k lo hi Q := h
/-! ### for x in y[2:]: if isinstance(x, list): x.append(None), y a tuple of ours, forgotten behind -/
def dMutSl (i t : Nat) : TSD := fun Dd ρ Xd => i ≠ t ∧ t < ρ.length ∧ ∃ b ds, ρ[i]? = some (some (b, .tuple ds)) ∧ (∀ d ∈ ds, (∃ es, b = true ∧ d = .list es ∧ es.length < 1000000) ∨ (∃ n, d = .int n) ∨ ∃ z, d = .str z) ∧ ds.length < 1000000 ∧ Dd.nx ((ρ.set i none).set t none)
theorem ows_all {H : Hp} {us : List V} {ds : List D} {ns : List Addr} (h : Ows K H us ds ns) (hd : ∀ d ∈ ds, (∃ es, d = .list es ∧ es.length < 1000000) ∨ (∃ n, d = .int n) ∨ ∃ z, d = .str z) : ∀ v ∈ us, (∃ a ws, v = .ref a ∧ a ∈ ns ∧ H a = some (.lst ws) ∧ ws.length < 1000000) ∨ (∃ n, v = .int n) ∨ ∃ z, v = .str z := fun v hv => by
  obtain ⟨j, hj, ej⟩ := List.mem_iff_getElem.mp hv
  have hl := h.den.length
  obtain ⟨d, hd'⟩ : ∃ d, ds[j]? = some d := ⟨ds[j]'(by omega), List.getElem?_eq_getElem _⟩
  obtain ⟨u, ms, e1, e2, e3, _⟩ := ows_get h hd'
  have eu : u = v := by rw [List.getElem?_eq_getElem hj, ej] at e1; cases e1; rfl
  subst eu
  rcases hd d (List.mem_iff_getElem?.mpr ⟨j, hd'⟩) with ⟨es, rfl, hl⟩ | ⟨n, rfl⟩ | ⟨z, rfl⟩
  · cases e2 with
    | lst g1 g2 => exact .inl ⟨_, _, rfl, e3 _ List.mem_cons_self, g1, by rw [g2.den.length]; exact hl⟩
  · cases e2; exact .inr (.inl ⟨_, rfl⟩)
  · cases e2; exact .inr (.inr ⟨_, rfl⟩)
theorem dps_mutsl (i t : Nat) {x y : Str} {c : Expr} {px py pt p2 p3 pc pe apos cpos : Pos} {j j2 : Nat} (hp : PassesOwn (model X.prog X.w) X.A X.env X.xe) (hc : X.calm = true) (hK : X.K = K) (hy : QE X (.Name y py) (tVar i)) (hx : QE X (.Name x px) (tVar t)) (hg : QG X (.Name x pt) (gName t))
    (hT : QT X c (tB (tCB (rIsi K) (tCons (tVar t) (tCons (tC (.ty "list")) tNil))))) (hs : starEach [.Constant .none j2 pe] X.env = [(false, eval (.Constant .none j2 pe) X.env)] := by rfl) (hbase : attributeBase (.Name x px) "append" X.env (eval (.Name x px) X.env) = eval (.Name x px) X.env := by rfl) (hline : (apos.endLine == cpos.line) = true := by rfl)
    (hsw : swapsWith (.Call (.Attribute (.Name x px) "append" apos) [.Constant .none j2 pe] [] cpos) none pc.line X.env = pure false := by rfl) (hf : ∀ z, foldedSetIterable (.Subscript (.Name y py) (.Slice (some (.Constant (.int 2) j p2)) none none p3) pos) X.env z = pure z := by intro _; rfl) {pf pi : Pos} :
    DS X K E (.For (.Name x pt) (.Subscript (.Name y py) (.Slice (some (.Constant (.int 2) j p2)) none none p3) pos) [.If c [.Expr (.Call (.Attribute (.Name x px) "append" apos) [.Constant .none j2 pe] [] cpos) pc] [] pi] [] pf) (dMutSl i t) := ⟨by
  subst hK
  refine qs_imp (qps_for hp hc (qpi_tupK X.K rfl (qpe_slice (sl_all.or sl_tup) hy (qpo_some qpe_int) qpo_none)) hg (qpss_one (qps_if hT (qpss_one (qps_expr (qpm_appendK X.K rfl hx qpe_non hs hbase hline) hsw)) qpss_nil)) hf) fun En σ H h => ?_
  obtain ⟨H0, ν, ρ, Dd, Xd, S, ⟨hit, htl, b0, ds, h1, hall, hdl, fin⟩, ok, xx⟩ := h
  have htl : t < σ.length := by rw [S.len]; exact htl
  obtain ⟨a, us, N, g1, ht, hsz, hus, ends⟩ : ∃ (a : Addr) (us : List V) (N : List Addr), σ[i]? = some (some (.ref a)) ∧ SqT X.K H a us ∧ us.length < 1000000 ∧ (∀ v ∈ us, (∃ a ws, v = .ref a ∧ a ∈ N ∧ H a = some (.lst ws) ∧ ws.length < 1000000) ∨ (∃ n, v = .int n) ∨ ∃ z, v = .str z) ∧ ∀ σ' H', (σ' = σ ∨ ∃ w, σ' = σ.set t (some w)) → (∀ a o, H a = some o → a ∉ N → H' a = some o) → En.nx σ' H' := by
    have junk : ∀ (ν' : Nat → List Addr) (H' : Hp) (σ' : L2.St), StOk X.K Z0 H0 ν' ((ρ.set i none).set t none) σ H' → (σ' = σ ∨ ∃ w, σ' = σ.set t (some w)) → En.nx σ' H' := fun ν' H' σ' S1 hs' => by
      refine ok.nx ν' _ _ _ fin ?_
      rcases hs' with rfl | ⟨w, rfl⟩
      · exact S1
      · refine S1.junk (t := t) (fun b d z => ?_) (some w)
        by_cases hl : t < (ρ.set i none).length
        · rw [List.getElem?_set_self hl] at z; cases z
        · rw [List.getElem?_eq_none (by rw [List.length_set]; omega)] at z; cases z
    cases b0 with
    | true =>
      obtain ⟨v, g1, g2⟩ := S.sl i true _ h1
      have g2 : Ow X.K H v _ (ν i) := g2
      generalize hN : ν i = N at g2
      cases g2 with
      | @tup a us _ _ ht hq =>
        refine ⟨a, us, N, g1, ht, by rw [hq.den.length]; exact hdl, ows_all hq (fun d hd => by
          rcases hall d hd with ⟨es, _, h⟩ | h
          · exact .inl ⟨es, h⟩
          · exact .inr h), fun σ' H' hs' hk => junk _ H' σ' ((S.forget i (H' := H') fun a o ho ha => hk a o ho (by rw [← hN]; exact ha)).drop t) hs'⟩
    | false =>
      obtain ⟨v, g1, g2⟩ := S.get h1
      obtain ⟨a, us, rfl, ht, hq⟩ := dns_of_tup g2
      refine ⟨a, us, [], g1, ht, by rw [hq.length]; exact hdl, fun v hv => ?_, fun σ' H' hs' hk => junk _ H' σ' (((S.same (H' := H') fun a o ho => hk a o ho (by simp)).drop i).drop t) hs'⟩
      obtain ⟨j, hj, ej⟩ := List.mem_iff_getElem.mp hv
      obtain ⟨d, hd'⟩ : ∃ d, ds[j]? = some d := ⟨ds[j]'(by have := hq.length; omega), List.getElem?_eq_getElem _⟩
      obtain ⟨u, e1, e2⟩ := hq.get hd'
      have eu : u = v := by rw [List.getElem?_eq_getElem hj, ej] at e1; cases e1; rfl
      subst eu
      rcases hall d (List.mem_iff_getElem?.mpr ⟨j, hd'⟩) with ⟨es, z, _⟩ | ⟨n, rfl⟩ | ⟨z, rfl⟩
      · cases z
      · cases e2; exact .inr (.inl ⟨_, rfl⟩)
      · cases e2; exact .inr (.inr ⟨_, rfl⟩)
  -- the loop over the items vs of the tuple b
  have go : ∀ (b : Addr) (vs : List V) (H1 : Hp), Same H H1 → SqT X.K H1 b vs → vs.length ≤ us.length → (∀ v ∈ vs, v ∈ us) → loopT (Itt X.K b) (gName t) (tIfS (tB (tCB (rIsi X.K) (tCons (tVar t) (tCons (tC (.ty "list")) tNil)))) (tDrop (tBM X.K "list" rAppend (tVar t) (tCons (tC .non) tNil))) tNext) En σ H1 := fun b vs H1 sm hb hvl hvs => by
    refine loop_tup vs (fun k σ' H' => (σ' = σ ∨ ∃ w, σ' = σ.set t (some w)) ∧ (∀ a o, H1 a = some o → a ∉ N → H' a = some o) ∧ SqT X.K H' b vs ∧ ∀ v ∈ vs, (∃ a ws, v = .ref a ∧ a ∈ N ∧ H' a = some (.lst ws) ∧ ws.length < 1000000 + k) ∨ (∃ n, v = .int n) ∨ ∃ z, v = .str z) ?_ ?_ ?_ ?_
    · refine ⟨.inl rfl, fun _ _ e _ => e, hb, fun v hv => ?_⟩
      rcases hus v (hvs v hv) with ⟨a, ws, e1, e2, e3, e4⟩ | e | e
      · exact .inl ⟨a, ws, e1, e2, sm _ _ e3, e4⟩
      · exact .inr (.inl e)
      · exact .inr (.inr e)
    · exact fun _ _ _ _ h => h.2.2.1
    · rintro k v σ' H' hv ⟨hs', hk, hb', hi'⟩
      have hvm : v ∈ vs := List.mem_iff_getElem?.mpr ⟨k, hv⟩
      have hs2 : (σ'.set t (some v)) = σ.set t (some v) := by
        rcases hs' with rfl | ⟨w, rfl⟩
        · rfl
        · exact List.set_set ..
      show tIfS _ _ _ _ (σ'.set t (some v)) H'
      rw [hs2]
      have hvt : (σ.set t (some v))[t]? = some (some v) := List.getElem?_set_self htl
      have stay : ∀ v ∈ vs, (∃ a ws, v = .ref a ∧ a ∈ N ∧ H' a = some (.lst ws) ∧ ws.length < 1000000 + (k + 1)) ∨ (∃ n, v = .int n) ∨ ∃ z, v = .str z := fun v hv => by
        rcases hi' v hv with ⟨a, ws, e1, e2, e3, e4⟩ | e
        · exact .inl ⟨a, ws, e1, e2, e3, by omega⟩
        · exact .inr e
      rcases hi' v hvm with ⟨a, ws, rfl, e2, e3, e4⟩ | ⟨n, rfl⟩ | ⟨z, rfl⟩
      · refine ⟨_, hvt, _, "list", _, true, rfl, .lst e3, rfl, true, rfl, ?_⟩
        have hlen : ws.length < sizeLine := by
          have hk' := (List.getElem?_eq_some_iff.mp hv).1
          have hvl := hsz
          rw [sizeLine_eq]
          omega
        refine ⟨_, hvt, tyl (SqL.of e3), a, ws, .non, rfl, rfl, e3, hlen, .inr ⟨_, rfl⟩, fun b' o ho hb2 => ?_, sqt_upd hb' e3, fun v hv => ?_⟩
        · rw [upd_ne (fun z : b' = a => hb2 (by rw [z]; exact e2))]; exact hk b' o ho hb2
        · rcases stay v hv with ⟨a2, ws2, f1, f2, f3, f4⟩ | e
          · by_cases z : a2 = a
            · subst z
              rw [e3] at f3
              cases f3
              exact .inl ⟨a2, _, f1, f2, upd_same, by rw [List.length_append]; show ws.length + 1 < _; omega⟩
            · exact .inl ⟨a2, ws2, f1, f2, by rw [upd_ne z]; exact f3, f4⟩
          · exact .inr e
      · exact ⟨_, hvt, _, "list", _, false, rfl, .int _, rfl, false, rfl, .inr ⟨_, rfl⟩, hk, hb', stay⟩
      · exact ⟨_, hvt, _, "list", _, false, rfl, .str _, rfl, false, rfl, .inr ⟨_, rfl⟩, hk, hb', stay⟩
    · rintro σ' H' ⟨hs', hk, _, _⟩
      exact ends σ' H' hs' fun a o ho ha => hk a o (sm _ _ ho) ha
  rw [tFor_eq]
  refine ⟨_, g1, 2, rfl, ?_⟩
  have hcut : ∀ v ∈ cutV us (some 2) none, v ∈ us := fun v hv => List.mem_of_mem_drop (List.mem_of_mem_take hv)
  have hcl := cutV_length us (some 2) none
  by_cases hw : HT.sIx us.length 0 (some 2) = 0 ∧ HT.sIx us.length us.length none = us.length
  · exact .inl ⟨a, us, rfl, ht, hw, a, rfl, ⟨us, ht⟩, go a us H (Same.refl H) ht (by omega) fun _ h => h⟩
  · refine .inr ⟨a, us, rfl, ht, hw, fun p hp => ?_⟩
    have hn : SqT X.K (upd H p (.tup (cutV us (some 2) none))) p (cutV us (some 2) none) := SqT.of upd_same
    exact ⟨p, rfl, ⟨_, hn⟩, go p _ _ (Same.new hp) hn (by omega) hcut⟩⟩
theorem w_mutsl {i t : Nat} {Dd : EndsD} {ρ : Ren} {Xd : XD} (h : i ≠ t ∧ t < ρ.length ∧ ∃ b ds, ρ[i]? = some (some (b, .tuple ds)) ∧ (∀ d ∈ ds, (∃ es, b = true ∧ d = .list es ∧ es.length < 1000000) ∨ (∃ n, d = .int n) ∨ ∃ z, d = .str z) ∧ ds.length < 1000000 ∧ Dd.nx ((ρ.set i none).set t none)) : dMutSl i t Dd ρ Xd := h
/-! ### for .. in a list or a tuple -/
theorem qi_or {tg l : Expr} {t t' : TI} (h : QI X tg l t) (h' : QI X tg l t') : QI X tg l (fun σ H R => t σ H R ∨ t' σ H R) := ⟨fun pins s σ H R I w => w.elim (h.h pins s σ H R I) (h'.h pins s σ H R I)⟩
def iLT (te : TD) : TDI := fun ρ Q Xd => iL te ρ Q Xd ∨ iT te ρ Q Xd
theorem dpi_seq {tg l : Expr} {te : TD} (hK : X.K = K) (hl : DE X K E l te) : DI X K E tg l (iLT te) := ⟨qi_imp (qi_or (dpi_list (tg := tg) hK hl).q (dpi_tup (tg := tg) hK hl).q) fun σ H R h => by
  obtain ⟨H0, ν, ρ, Qd, Xd, S, h1, q, x⟩ := h
  rcases h1 with h1 | h1
  · exact .inl ⟨H0, ν, ρ, Qd, Xd, S, h1, q, x⟩
  · exact .inr ⟨H0, ν, ρ, Qd, Xd, S, h1, q, x⟩⟩
theorem w_sqL {te : TD} {ρ : Ren} {Q : List D → Bool → Prop} {Xd : XD} (h : iL te ρ Q Xd) : iLT te ρ Q Xd := .inl h
theorem w_sqT {te : TD} {ρ : Ren} {Q : List D → Bool → Prop} {Xd : XD} (h : iT te ρ Q Xd) : iLT te ρ Q Xd := .inr h
end
end DL

set_option maxHeartbeats 1000000
/-! ### numbers written in tens, plain -/
namespace M82
open PySem PySem.NumText
def dg (m : Nat) : List Nat := (Nat.toDigits 10 m).map Char.toNat
theorem dg_digits (m : Nat) : AllDigits (dg m) := fun c hc => by
  obtain ⟨ch, hch, e⟩ := List.mem_map.mp hc
  have h := Nat.isDigit_of_mem_toDigits (by decide) (by decide) hch
  rw [← e]
  exact PyProof.Rows.digit_range h
theorem dg_val (m : Nat) : digitsVal (dg m) = m := PySem.W.KIN.val_back m
theorem dg_ne (m : Nat) : dg m ≠ [] := fun h => by
  have := dg_val m
  rw [h] at this
  have e : m = 0 := this.symm
  subst e
  revert h
  decide
theorem val_app (a b : List Nat) : digitsVal (a ++ b) = digitsVal a * 10 ^ b.length + digitsVal b := by
  have key : ∀ (b : List Nat) (k : Nat), b.foldl (fun acc c => acc * 10 + (c - 48)) k = k * 10 ^ b.length + digitsVal b := by
    intro b
    induction b with
    | nil => intro k; simp [digitsVal]
    | cons c r ih =>
      intro k
      have e1 : digitsVal (c :: r) = (0 * 10 + (c - 48)) * 10 ^ r.length + digitsVal r := by
        show r.foldl _ _ = _
        exact ih _
      rw [List.foldl_cons, ih, e1, List.length_cons, Nat.pow_succ, Nat.zero_mul, Nat.zero_add, Nat.add_mul, Nat.mul_assoc, Nat.mul_comm 10, Nat.add_assoc]
  show (a ++ b).foldl _ 0 = _
  rw [List.foldl_append]
  exact key b _
theorem dg_of {cs : List Nat} (h : AllDigits cs) (hh : ∃ c r, cs = c :: r ∧ 49 ≤ c) : dg (digitsVal cs) = cs := by
  obtain ⟨c, r, rfl, hc⟩ := hh
  unfold dg
  rw [toDigits_digitsVal r.length (c :: r) rfl h (.inr ⟨c, r, rfl, hc⟩), List.map_map]
  have : ∀ l : List Nat, AllDigits l → l.map (Char.toNat ∘ Char.ofNat) = l := by
    intro l
    induction l with
    | nil => intro _; rfl
    | cons d r ih =>
      intro hl
      rw [List.map_cons, ih hl.tail]
      have hd := hl.head
      have : (Char.toNat ∘ Char.ofNat) d = d := by
        show (Char.ofNat d).toNat = d
        have c10 : d = 48 ∨ d = 49 ∨ d = 50 ∨ d = 51 ∨ d = 52 ∨ d = 53 ∨ d = 54 ∨ d = 55 ∨ d = 56 ∨ d = 57 := by omega
        rcases c10 with rfl | rfl | rfl | rfl | rfl | rfl | rfl | rfl | rfl | rfl <;> decide
      rw [this]
  exact this _ h
theorem dg_head {m : Nat} (h : 0 < m) : ∃ c r, dg m = c :: r ∧ 49 ≤ c := by
  cases e : dg m with
  | nil => exact absurd e (dg_ne m)
  | cons c r =>
    refine ⟨c, r, rfl, ?_⟩
    have hd := dg_digits m
    rw [e] at hd
    have hc := hd.head
    by_cases e48 : c = 48
    · exfalso
      subst e48
      have hv := dg_val m
      rw [e, digitsVal_zero] at hv
      have t := toDigits_all (48 :: r) hd
      rw [digitsVal_zero, hv, List.dropWhile_cons] at t
      simp only [beq_self_eq_true, if_true] at t
      have el : (Nat.toDigits 10 m).length = r.length + 1 := by
        have := congrArg List.length e
        unfold dg at this
        rw [List.length_map] at this
        exact this
      rw [t] at el
      have hdl : ∀ l : List Nat, (l.dropWhile (· == 48)).length ≤ l.length := fun l => (List.dropWhile_sublist _).length_le
      have h1 := hdl r
      revert el h1
      cases hdw : r.dropWhile (· == 48) with
      | nil =>
        intro el h1
        have : r = [] := List.eq_nil_of_length_eq_zero (by have e : 1 = r.length + 1 := el; omega)
        rw [this] at hv
        have : m = 0 := hv.symm
        omega
      | cons a b =>
        intro el h1
        simp at el h1
        omega
    · omega
theorem dg_zero : dg 0 = [48] := by decide
theorem dg_len {m k : Nat} (hk : 0 < k) (h : m < 10 ^ k) : (dg m).length ≤ k := by
  by_cases h0 : m = 0
  · subst h0; rw [dg_zero]; exact hk
  obtain ⟨c, r, e, hc⟩ := dg_head (m := m) (by omega)
  apply Classical.byContradiction
  intro hn
  have hv := dg_val m
  rw [e] at hv hn
  have e2 := val_app [c] r
  have h1 : digitsVal [c] = c - 48 := by simp [digitsVal]
  rw [List.singleton_append, h1, hv] at e2
  have hl : k ≤ r.length := by rw [List.length_cons] at hn; omega
  have : 10 ^ k ≤ 10 ^ r.length := Nat.pow_le_pow_right (by decide) hl
  have : 1 * 10 ^ r.length ≤ (c - 48) * 10 ^ r.length := Nat.mul_le_mul_right _ (by omega)
  omega
/-- in two parts -/
theorem dg_two {q r k : Nat} (hk : 0 < k) (hq : 0 < q) (hr : r < 10 ^ k) : dg (q * 10 ^ k + r) = dg q ++ (List.replicate (k - (dg r).length) 48 ++ dg r) := by
  have hl := dg_len hk hr
  have z : ∀ n, digitsVal (List.replicate n 48) = 0 := by
    intro n
    induction n with
    | zero => rfl
    | succ n ih => rw [List.replicate_succ, digitsVal_zero]; exact ih
  have hA : AllDigits (dg q ++ (List.replicate (k - (dg r).length) 48 ++ dg r)) := fun c hc => by
    rcases List.mem_append.mp hc with hc | hc
    · exact dg_digits q c hc
    · rcases List.mem_append.mp hc with hc | hc
      · rw [List.eq_of_mem_replicate hc]; decide
      · exact dg_digits r c hc
  have hV : digitsVal (dg q ++ (List.replicate (k - (dg r).length) 48 ++ dg r)) = q * 10 ^ k + r := by
    rw [val_app, val_app, z, dg_val, dg_val, Nat.zero_mul, Nat.zero_add, List.length_append, List.length_replicate, Nat.sub_add_cancel hl]
  obtain ⟨c, t, e, hc⟩ := dg_head hq
  rw [← hV]
  exact dg_of hA ⟨c, t ++ (List.replicate (k - (dg r).length) 48 ++ dg r), by rw [e]; rfl, hc⟩
/-! ### as texts -/
def dec (n : Int) : Str := Str.ofString (toString n)
theorem sx {a b : Str} (h : a.cps.toList = b.cps.toList) : a = b := Str.ext' (Array.toList_inj.mp h)
theorem app_l (a b : Str) : (a ++ b).cps.toList = a.cps.toList ++ b.cps.toList := by
  show (a.cps ++ b.cps).toList = _
  simp
theorem dec_pos (m : Nat) : (dec (m : Int)).cps.toList = dg m := PySem.W.KIN.signs_num m
theorem dec_neg {m : Nat} (h : 0 < m) : (dec (-(m : Int))).cps.toList = 45 :: dg m := by
  obtain ⟨k, rfl⟩ : ∃ k, m = k + 1 := ⟨m - 1, by omega⟩
  unfold dec
  rw [PyProof.Rows.signs_ofString]
  show (toString (Int.negSucc k)).toList.map Char.toNat = _
  have e : toString (Int.negSucc k) = "-" ++ Nat.repr (k + 1) := rfl
  rw [e, String.toList_append, List.map_append, Nat.toList_repr]
  rfl
/-- a number's text: a sign, and figures -/
theorem dec_is (n : Int) : (dec n).cps.toList = (if n < 0 then [45] else []) ++ dg n.natAbs := by
  by_cases h : n < 0
  · rw [if_pos h]
    obtain ⟨m, rfl⟩ : ∃ m : Nat, n = -(m : Int) := ⟨n.natAbs, by omega⟩
    rw [dec_neg (by omega), Int.natAbs_neg, Int.natAbs_natCast]; rfl
  · rw [if_neg h]
    obtain ⟨m, rfl⟩ : ∃ m : Nat, n = (m : Int) := ⟨n.natAbs, by omega⟩
    rw [dec_pos, Int.natAbs_natCast]; rfl
theorem dec_len {n : Int} {k : Nat} (hk : 0 < k) (h : n.natAbs < 10 ^ k) : (dec n).length ≤ k + 1 := by
  have e : (dec n).length = (dec n).cps.toList.length := by rw [Array.length_toList]; rfl
  rw [e, dec_is, List.length_append]
  have := dg_len hk h
  split <;> simp <;> omega
theorem dec_signs (n : Int) : ∀ c ∈ (dec n).cps.toList, c = 45 ∨ (48 ≤ c ∧ c ≤ 57) := fun c hc => by
  rw [dec_is] at hc
  rcases List.mem_append.mp hc with hc | hc
  · split at hc
    · exact .inl (List.mem_singleton.mp hc)
    · cases hc
  · exact .inr (dg_digits _ c hc)
theorem zf_is (r : Nat) : (Txt.zfill (dec (r : Int)) 64).cps.toList = List.replicate (64 - (dg r).length) 48 ++ dg r := by
  have el : (dec (r : Int)).length = (dg r).length := by rw [← dec_pos, Array.length_toList]; rfl
  unfold Txt.zfill
  split
  · rename_i h
    rw [el] at h
    rw [dec_pos, show 64 - (dg r).length = 0 by omega]; rfl
  · rename_i h
    unfold zfilled
    have h0 : ∃ c, (dec (r : Int)).cps[0]? = some c ∧ 48 ≤ c ∧ c ≤ 57 := by
      rw [← Array.getElem?_toList, dec_pos]
      cases e : dg r with
      | nil => exact absurd e (dg_ne r)
      | cons c t =>
        have := dg_digits r
        rw [e] at this
        exact ⟨c, rfl, this.head⟩
    obtain ⟨c, e, h1, h2⟩ := h0
    split
    · rename_i e2; rw [e] at e2; cases e2; omega
    · rename_i e2; rw [e] at e2; cases e2; omega
    · show (Array.replicate _ 48 ++ (dec (r : Int)).cps ++ Array.replicate 0 48).toList = _
      rw [el]
      simp only [Array.toList_append, Array.toList_replicate, List.replicate_zero, List.append_nil]
      rw [dec_pos]
      rfl
/-! ### pieces between a sign -/
theorem join_snoc (sep y : Str) : ∀ (x : Str) (xs : List Str), Str.join sep ((x :: xs) ++ [y]) = Str.join sep (x :: xs) ++ sep ++ y
  | x, [] => rfl
  | x, z :: xs => by
    show x ++ sep ++ Str.join sep ((z :: xs) ++ [y]) = (x ++ sep ++ Str.join sep (z :: xs)) ++ sep ++ y
    rw [join_snoc sep y z xs]
    simp only [Str.append_assoc]
theorem first_c {c : Nat} : ∀ {a b r s : List Nat}, c ∉ a → c ∉ b → a ++ c :: r = b ++ c :: s → a = b ∧ r = s
  | [], [], r, s, _, _, h => by simp at h; exact ⟨rfl, h⟩
  | [], y :: b, r, s, _, hb, h => by simp at h; exact absurd h.1 (fun e => hb (by rw [e]; exact List.mem_cons_self))
  | x :: a, [], r, s, ha, _, h => by simp at h; exact absurd h.1.symm (fun e => ha (by rw [e]; exact List.mem_cons_self))
  | x :: a, y :: b, r, s, ha, hb, h => by
    simp only [List.cons_append, List.cons.injEq] at h
    obtain ⟨e1, e2⟩ := first_c (fun z => ha (List.mem_cons_of_mem _ z)) (fun z => hb (List.mem_cons_of_mem _ z)) h.2
    exact ⟨by rw [h.1, e1], e2⟩
theorem join_l (c : Nat) (x y : Str) (r : List Str) : (Str.join ⟨#[c]⟩ (x :: y :: r)).cps.toList = x.cps.toList ++ c :: (Str.join ⟨#[c]⟩ (y :: r)).cps.toList := by
  show (x ++ ⟨#[c]⟩ ++ Str.join ⟨#[c]⟩ (y :: r)).cps.toList = _
  rw [app_l, app_l]
  simp
theorem join_inj {c : Nat} : ∀ {ps qs : List Str}, ps ≠ [] → qs ≠ [] → (∀ p ∈ ps, c ∉ p.cps.toList) → (∀ p ∈ qs, c ∉ p.cps.toList) → Str.join ⟨#[c]⟩ ps = Str.join ⟨#[c]⟩ qs → ps = qs
  | [], _, h, _, _, _, _ => absurd rfl h
  | _ :: _, [], _, h, _, _, _ => absurd rfl h
  | [x], [y], _, _, _, _, e => by rw [show x = y from e]
  | [x], y :: z :: r, _, _, hp, _, e => by
    have e2 : x.cps.toList = _ := (congrArg (fun s : Str => s.cps.toList) (show x = _ from e)).trans (join_l c y z r)
    exact absurd (show c ∈ x.cps.toList by rw [e2]; simp) (hp x List.mem_cons_self)
  | x :: z :: r, [y], _, _, _, hq, e => by
    have e2 : y.cps.toList = _ := (congrArg (fun s : Str => s.cps.toList) (show y = _ from e.symm)).trans (join_l c x z r)
    exact absurd (show c ∈ y.cps.toList by rw [e2]; simp) (hq y List.mem_cons_self)
  | x :: z :: r, y :: u :: t, _, _, hp, hq, e => by
    have e2 := congrArg (fun s : Str => s.cps.toList) e
    simp only [join_l] at e2
    obtain ⟨a, b⟩ := first_c (hp x List.mem_cons_self) (hq y List.mem_cons_self) e2
    have := join_inj (ps := z :: r) (qs := u :: t) (by simp) (by simp) (fun p h => hp p (List.mem_cons_of_mem _ h)) (fun p h => hq p (List.mem_cons_of_mem _ h)) (sx b)
    rw [sx a, this]
theorem split_join {c : Nat} {ps : List Str} (h0 : ps ≠ []) (h : ∀ p ∈ ps, c ∉ p.cps.toList) : Txt.split (Str.join ⟨#[c]⟩ ps) ⟨#[c]⟩ = ps :=
  join_inj (c := c) (fun e => by
    have := StrLaws.split_free
    have l := PyProof.Rows.split_pos (Str.join ⟨#[c]⟩ ps) ⟨#[c]⟩
    rw [e] at l
    exact absurd l (by decide)) h0 (StrLaws.split_free _ c) h (StrLaws.join_split _ _)
end M82

/-! ### pieces between ' / '; what stands ahead of the first blank -/
namespace M83
open PySem PySem.StrLaws M82 Builtin.Str
def SEP : Str := ⟨#[32, 47, 32]⟩
theorem len_l (x : Str) : x.cps.toList.length = x.length := Array.length_toList ..
theorem at_sep (x : Str) (i : Nat) : At x SEP x.length i ↔ i + 3 ≤ x.length ∧ (x.cps.toList.drop i).take 3 = [32, 47, 32] := by
  unfold At
  rw [subAt_eq]
  show (i + 3 ≤ x.length ∧ ((x.cps.toList.drop i).take 3 == [32, 47, 32]) = true) ↔ _
  rw [beq_iff_eq]
theorem at_mid {x : Str} {i : Nat} (h : At x SEP x.length i) : x.cps.toList[i + 1]? = some 47 := by
  have h2 := ((at_sep x i).mp h).2
  have e : ((x.cps.toList.drop i).take 3)[1]? = some 47 := by rw [h2]; rfl
  rw [List.getElem?_take_of_lt (by decide), List.getElem?_drop] at e
  exact e
theorem chain_uniq {s sub : Str} {hi : Nat} : ∀ {a : Nat} {cuts cuts' : List Nat} {f f' : Nat}, ChainG s sub hi a cuts f → (∀ k, f ≤ k → ¬ At s sub hi k) → ChainG s sub hi a cuts' f' → (∀ k, f' ≤ k → ¬ At s sub hi k) → cuts = cuts'
  | a, [], [], _, _, _, _, _, _ => rfl
  | a, [], d :: t, f, f', h, hn, h', hn' => by
    have e : f = a := h
    subst e
    exact absurd h'.2.1 (hn d h'.1)
  | a, c :: r, [], f, f', h, hn, h', hn' => by
    have e : f' = a := h'
    subst e
    exact absurd h.2.1 (hn' c h.1)
  | a, c :: r, d :: t, f, f', h, hn, h', hn' => by
    have e : c = d := by
      rcases Nat.lt_trichotomy c d with q | q | q
      · exact absurd h.2.1 (h'.2.2.1 c h.1 q)
      · exact q
      · exact absurd h'.2.1 (h.2.2.1 d h'.1 q)
    subst e
    rw [chain_uniq h.2.2.2 hn h'.2.2.2 hn']
theorem join_sep (t u : Str) (r : List Str) : (Str.join SEP (t :: u :: r)).cps.toList = t.cps.toList ++ 32 :: 47 :: 32 :: (Str.join SEP (u :: r)).cps.toList := by
  show (t ++ SEP ++ Str.join SEP (u :: r)).cps.toList = _
  rw [app_l, app_l]
  simp [SEP]
theorem chain_join (x : Str) : ∀ (ps : List Str) (a : Nat), ps ≠ [] → (∀ p ∈ ps, 47 ∉ p.cps.toList) → x.cps.toList.drop a = (Str.join SEP ps).cps.toList →
    ∃ cuts f, ChainG x SEP x.length a cuts f ∧ (∀ k, f ≤ k → ¬ At x SEP x.length k) ∧ partsFrom x 3 a cuts = ps
  | [], _, h, _, _ => absurd rfl h
  | [t], a, _, hp, e => by
    have e : x.cps.toList.drop a = t.cps.toList := e
    refine ⟨[], a, rfl, fun k hk hA => ?_, ?_⟩
    · have h1 := at_mid hA
      have h2 : (x.cps.toList.drop a)[k + 1 - a]? = some 47 := by rw [List.getElem?_drop, show a + (k + 1 - a) = k + 1 by omega]; exact h1
      rw [e] at h2
      exact hp t List.mem_cons_self (List.mem_iff_getElem?.mpr ⟨_, h2⟩)
    · show [strSub x a x.length] = [t]
      rw [show strSub x a x.length = t from sx (by rw [strSub_toList, List.take_of_length_le (by rw [List.length_drop, len_l]; exact Nat.le_refl _)]; exact e)]
  | t :: u :: r, a, _, hp, e => by
    rw [join_sep] at e
    have hl : x.length - a = t.length + (3 + (Str.join SEP (u :: r)).length) := by
      have := congrArg List.length e
      rw [List.length_drop, len_l, List.length_append, len_l] at this
      simp only [List.length_cons, len_l] at this
      omega
    have e2 : x.cps.toList.drop (a + t.length) = 32 :: 47 :: 32 :: (Str.join SEP (u :: r)).cps.toList := by
      rw [← List.drop_drop, e, ← len_l t, List.drop_left]
    have e3 : x.cps.toList.drop (a + t.length + 3) = (Str.join SEP (u :: r)).cps.toList := by
      rw [← List.drop_drop, e2]; rfl
    obtain ⟨cuts, f, h1, h2, h3⟩ := chain_join x (u :: r) (a + t.length + 3) (by simp) (fun p h => hp p (List.mem_cons_of_mem _ h)) e3
    refine ⟨(a + t.length) :: cuts, f, ⟨by omega, (at_sep x _).mpr ⟨by omega, by rw [e2]; rfl⟩, fun k k1 k2 hA => ?_, h1⟩, h2, ?_⟩
    · have g1 := at_mid hA
      have g2 : (x.cps.toList.drop a)[k + 1 - a]? = some 47 := by rw [List.getElem?_drop, show a + (k + 1 - a) = k + 1 by omega]; exact g1
      rw [e] at g2
      by_cases q : k + 1 - a < t.cps.toList.length
      · rw [List.getElem?_append_left q] at g2
        exact hp t List.mem_cons_self (List.mem_iff_getElem?.mpr ⟨_, g2⟩)
      · have q2 : k + 1 - a = t.cps.toList.length := by rw [len_l] at *; omega
        rw [q2, List.getElem?_append_right (Nat.le_refl _), Nat.sub_self] at g2
        cases g2
    · show strSub x a (a + t.length) :: partsFrom x 3 (a + t.length + 3) cuts = _
      rw [h3, show strSub x a (a + t.length) = t from sx (by rw [strSub_toList, e, Nat.add_sub_cancel_left, ← len_l t, List.take_left])]
theorem kind_pos (x : Str) : 1 ≤ Builtin.Str.strKind x := by
  unfold Builtin.Str.strKind
  split
  · decide
  · split <;> decide
theorem split_sep {ps : List Str} (h0 : ps ≠ []) (h : ∀ p ∈ ps, 47 ∉ p.cps.toList) : Txt.split (Str.join SEP ps) SEP = ps := by
  generalize ex : Str.join SEP ps = x
  obtain ⟨f, hG, hn⟩ := occ_tight x SEP (by decide)
  obtain ⟨cuts, f', hG', hn', hp⟩ := chain_join x ps 0 h0 h (by rw [ex]; rfl)
  have e := chain_uniq hG hn hG' hn'
  have whole : cuts = [] → [x] = ps := fun z => by
    rw [z] at hp
    rw [← hp]
    show [x] = [strSub x 0 x.length]
    rw [sub_whole]
  unfold Txt.split
  split
  · rename_i hc
    rw [Bool.or_eq_true, decide_eq_true_eq, decide_eq_true_eq] at hc
    refine whole ?_
    rcases hc with hc | hc
    · cases cuts with
      | nil => rfl
      | cons c r =>
        have := hG'.2.1.1
        omega
    · have := kind_pos x
      have e1 : Builtin.Str.strKind SEP = 1 := by decide +kernel
      omega
  · split
    · rename_i he
      rw [e] at he
      exact whole (List.isEmpty_iff.mp he)
    · rw [partsBetween_eq, e]
      exact hp
/-- ahead of the first blank, and behind it -/
theorem first_sp (w r : Str) (h : 32 ∉ w.cps.toList) : ∃ l, occurrences (w ++ ⟨#[32]⟩ ++ r) ⟨#[32]⟩ 0 (w ++ ⟨#[32]⟩ ++ r).length 1 = w.length :: l ∧ strSub (w ++ ⟨#[32]⟩ ++ r) 0 w.length = w ∧ strSub (w ++ ⟨#[32]⟩ ++ r) (w.length + 1) (w ++ ⟨#[32]⟩ ++ r).length = r := by
  generalize ex : w ++ ⟨#[32]⟩ ++ r = x
  have el : x.cps.toList = w.cps.toList ++ 32 :: r.cps.toList := by rw [← ex, app_l, app_l]; simp
  have hA : At x ⟨#[32]⟩ x.length w.length := (subAt_one x 32 w.length).mpr (by rw [el, ← len_l w, List.getElem?_append_right (Nat.le_refl _), Nat.sub_self]; rfl)
  have hx : x.length = w.length + (1 + r.length) := by
    have := congrArg List.length el
    rw [len_l, List.length_append, len_l, List.length_cons, len_l] at this
    omega
  refine ?_
  have e1 : strSub x 0 w.length = w := sx (by rw [strSub_toList, el, List.drop_zero, Nat.sub_zero, ← len_l w, List.take_left])
  have e2 : strSub x (w.length + 1) x.length = r := sx (by rw [strSub_toList, ← List.drop_drop, el, ← len_l w, List.drop_left]; exact List.take_of_length_le (by rw [List.drop_succ_cons, List.drop_zero, len_l, len_l]; omega))
  rcases occ_head x ⟨#[32]⟩ 1 (Nat.le_refl _) with ⟨_, hn⟩ | ⟨i, l, e, hi, hn⟩
  · exact absurd hA (hn _)
  · have : i = w.length := by
      rcases Nat.lt_trichotomy i w.length with q | q | q
      · have g := (subAt_one x 32 i).mp hi
        rw [el, List.getElem?_append_left (by rw [len_l]; exact q)] at g
        exact absurd (List.mem_iff_getElem?.mpr ⟨_, g⟩) h
      · exact q
      · exact absurd hA (hn _ q)
    subst this
    exact ⟨l, e, e1, e2⟩
end M83

local macro_rules | `(tactic| walk_at "d") => `(tactic| repeat (first | with_reducible refine DL.w_nx ?_ | with_reducible refine DL.w_fs ?_ | with_reducible refine DL.w_fv ?_ | with_reducible refine DL.w_j0 ?_ | with_reducible refine DL.w_j1 ?_ | with_reducible refine DL.w_pt ?_ | with_reducible refine DL.w_rep ?_ | with_reducible refine DL.w_gin ?_ | with_reducible refine DL.w_star ?_ | with_reducible refine DL.w_dTwo ?_ | with_reducible refine DL.w_dget2 ?_ | with_reducible refine DL.w_slD ?_ | with_reducible refine DL.w_slT ?_ | with_reducible refine DL.w_strI ?_ | with_reducible refine DL.w_intS ?_ | with_reducible refine DL.w_dm ?_ | with_reducible refine DL.w_mm ?_ | with_reducible refine DL.w_onX ?_ | with_reducible refine DL.w_zf ?_ | with_reducible refine DL.w_sw ?_ | with_reducible refine DL.w_jnS ?_ | with_reducible refine DL.w_sp ?_ | with_reducible refine DL.w_niS ?_ | with_reducible refine DL.w_rt ?_ | with_reducible refine DL.w_seq ?_ | with_reducible refine DL.w_set ?_ | with_reducible refine DL.w_ret ?_ | with_reducible refine DL.w_next ?_ | with_reducible refine DL.w_ifS ?_ | with_reducible refine DL.w_frz ?_ | with_reducible refine DL.w_c ?_ | with_reducible refine DL.w_op ?_ | with_reducible refine DL.w_fI0 ?_ | with_reducible refine DL.w_fI ?_ | with_reducible refine DL.w_addI ?_ | with_reducible refine DL.w_addL ?_ | with_reducible refine DL.w_addS ?_ | with_reducible refine DL.w_ixL ?_ | with_reducible refine DL.w_ixLi ?_ | with_reducible refine DL.w_ixT ?_ | with_reducible refine DL.w_slX ?_ | with_reducible refine DL.w_eqI ?_ | with_reducible refine DL.w_eq ?_ | with_reducible refine DL.w_inT ?_ | with_reducible refine DL.w_neg ?_ | with_reducible refine DL.w_andV ?_ | with_reducible refine DL.w_B ?_ | with_reducible refine DL.w_and ?_ | with_reducible refine DL.w_or ?_ | with_reducible refine DL.w_not ?_ | with_reducible refine DL.w_true ?_ | with_reducible refine DL.w_if ?_ | with_reducible refine DL.w_nil ?_ | with_reducible refine DL.w_cons ?_ | with_reducible refine DL.w_ints ?_ | with_reducible refine DL.w_tup ?_ | with_reducible refine DL.w_lst ?_ | with_reducible refine DL.w_call0 ?_ | with_reducible refine DL.w_cb ?_ | with_reducible refine DL.w_len ?_ | with_reducible refine DL.w_lenI ?_ | with_reducible refine DL.w_lenT ?_ | with_reducible refine DL.w_lenS ?_ | with_reducible refine DL.w_bls ?_ | with_reducible refine DL.w_abs ?_ | with_reducible refine DL.w_listI ?_ | with_reducible refine DL.w_list ?_ | with_reducible refine DL.w_isi ?_ | with_reducible refine DL.w_sl ?_ | with_reducible refine DL.w_noPart ?_ | with_reducible refine DL.w_part ?_ | with_reducible refine DL.w_rev ?_ | with_reducible refine DL.w_bName ?_ | with_reducible refine DL.w_bTup ?_ | with_reducible refine DL.w_bCons ?_ | with_reducible refine DL.w_bNil ?_ | with_reducible refine DL.w_for ?_ | with_reducible refine DL.w_iL ?_ | with_reducible refine DL.w_iT ?_ | with_reducible refine DL.w_iS ?_ | with_reducible refine DL.w_onS ?_ | with_reducible refine DL.w_on1I ?_ | with_reducible refine DL.w_iR1 ?_ | with_reducible refine DL.w_unp ?_ | with_reducible refine DL.w_lc ?_ | with_reducible refine DL.w_emit ?_ | with_reducible refine DL.w_ift ?_ | with_reducible refine DL.w_iff ?_ | with_reducible refine DL.w_onB ?_ | with_reducible refine DL.w_onI ?_ | with_reducible refine DL.w_onL ?_ | with_reducible refine DL.w_onLi ?_ | with_reducible refine DL.w_onT ?_ | with_reducible refine DL.w_v0 ?_ | with_reducible refine DL.w_v1 ?_ | with_reducible refine DL.w_v2 ?_ | with_reducible refine DL.w_v3 ?_ | with_reducible refine DL.w_v4 ?_ | with_reducible refine DL.w_v5 ?_ | with_reducible refine DL.w_v6 ?_ | with_reducible refine DL.w_v8 ?_ | with_reducible refine DL.w_o1 ?_ | with_reducible refine DL.w_o2 ?_ | with_reducible refine DL.w_o3 ?_ | with_reducible refine DL.w_o4 ?_ | with_reducible refine DL.w_o5 ?_ | with_reducible refine DL.w_o7 ?_ | with_reducible refine DL.w_o8 ?_ | with_reducible refine DL.w_o9 ?_ | ((with_reducible refine And.intro ?c ?_); (case c => first | exact trivial | exact Nat.le_of_ble_eq_true rfl | decide | (unfold L2.CPow; decide) | (unfold L2.CDiv; decide) | exact L2.CMul.ok (.inl ⟨by decide, by decide⟩) | exact L2.CMul.ok (.inr ⟨by decide, by decide⟩) | exact rfl | omega)) | simp only [DL.kels2_flat, DL.kels_strs, DL.setK_ownK, DL.setK_oldK, DL.flat_dK, DL.ksl_old, DL.ksl_own, DL.setK_int, DL.setK_bool, DL.setK_str, DL.setK_non, DL.setK_own, DL.setK_old, DL.setK_mix, DL.setK_ownI, DL.setK_oldI, DL.setK_mixI, DL.setK_ownG, DL.setK_oldG, DL.setK_mixG, DL.setK_tup, DL.rtK_int, DL.rtK_bool, DL.rtK_str, DL.rtK_non, DL.rtK_own, DL.rtK_tup, DL.kcons_flat, DL.kcons_int, DL.kcons_boo, DL.kcons_st, DL.kcons_nn, DL.one_iD, DL.two_iD, DL.kcons_own, DL.kcons_old, DL.frz_nil, DL.frz1_0, DL.frz1_s, DL.frz_some, DL.frz_none, DL.dropS_nil, DL.dropS_cons, DL.kRet_t, DL.kRet_f, DL.sub_own, DL.sub_old, DL.sub_ownc, DL.sub_mix, DL.isOld_own, DL.isOld_old, DL.isOld_mix, DL.isOld_ownc, DL.eff_int, DL.eff_bool, DL.eff_str, DL.eff_tup, DL.eff_ltc, DL.eff_iD, DL.eff_gD, DL.isOwnK_own, DL.isOwnK_old, DL.unpK_own, DL.unpK_flat, DL.setAll_cons, DL.setAll_nil, DL.app_iD, DL.app_gD, DL.list_iD, DL.list_gD, DL.flat_int, DL.flat_bool, DL.flat_str, DL.flat_non, DL.flat_list, DL.flat_tuple, DL.flats_nil, DL.flats_cons, DL.flat_iD, DL.flat_gD, List.set_cons_zero, List.set_cons_succ, List.append_nil, List.nil_append, Bool.and_true, Bool.true_and, Bool.and_self, Bool.not_true, Bool.not_false, DL.capR, DL.capOk, List.map_cons, List.map_nil, List.cons_append, List.getElem?_cons_zero, List.getElem?_cons_succ, Option.join_some, Option.map_some, List.all_cons, List.all_nil]))
namespace K83
open PySem PySem.Spec PyProof.Rows L2 DL M82 M83 PySem.NumText
def top (i : Nat) : Stmt := PySem.Challenge.pw_foreverrows_k83_texts_of_moves.main.body.getD i (.Pass ⟨0, 0, 0, 0⟩)
structure Blt (mg : Str → Option Value) : Prop where
  len : mg "len" = none
  range : mg "range" = none
  list : mg "list" = none
  int : mg "int" = none
  bool : mg "bool" = none
  isinstance : mg "isinstance" = none
  any : mg "any" = none
  abs : mg "abs" = none
  divmod : mg "divmod" = none
  str : mg "str" = none
  tuple : mg "tuple" = none
section
variable {P : Program} {w : World} {K : PySem.W.Frag} {mg : Str → Option Value} {base : Heap}
def scr (ns : List Int) : D := .dict [(.none, .list (ns.map .int))]
-- _law_cell_at  N = [(0, '_law_script'), (1, '_law_k')]  cells = []
abbrev s_l_cell_at : Stmt := top 16
theorem sc_l_cell_at : FnScope ["_law_script", "_law_k"] ["_law_script", "_law_k"] (defScope s_l_cell_at) := ⟨rfl, rfl, rfl, by decide +kernel, rfl, by decide +kernel, by decide +kernel⟩
def sp_cell : SpD := fun ds Q _ => ∃ (ns : List Int) (k : Int), ds = [scr ns, .int k] ∧ 0 ≤ k ∧ ∀ z : Int, Q (.int z) true
theorem ok_l_cell_at {f : Addr} {fd : FuncData} (F : Fun K "_law_cell_at" "_law_cell_at" s_l_cell_at f fd) (T : Blt mg) : FnOk P w K mg base CX0 1 f fd ["_law_script", "_law_k"] (SpL K sp_cell) := by
  refine ok0 F sc_l_cell_at (fun ds Q X h => ?_) (fun cdv A outer s H E hr => ?_) fun ds Qd Xd h => h
  · obtain ⟨ns, k, rfl, _⟩ := h; rfl
  refine ⟨_, (dpss_cons (dps_if (dpt_cmp dop_lt (dpv 1) (dpe_callB (dcl_len (by rfl)) (by rfl) (by exact T.len) (by decide +kernel) (dpa_cons (dpv 0) dpa_nil)) (nomark _)) (dpss_one (dps_ret (dpe_ix (dix (by rfl)) (dpv 0) (dpv 1) (fun _ _ => rfl)))) dpss_nil)
      (dpss_one (dps_ret dpe_int))), fun ds Qd h => ?_⟩
  obtain ⟨ns, k, rfl, hk, q⟩ := h
  show (_ : TSD) _ [some (false, .dict [(.none, .list (ns.map .int))]), some (false, .int k)] _
  walk_at "d"
  refine ite2 (fun h1 => ?_) fun _ => ?_
  · walk_at "d"
    have hlt : k.toNat < ns.length := by simp at h1; omega
    refine ⟨.int ns[k.toNat], ?_, ?_⟩
    · have := atI_nat (xs := ns.map PyData.int) (j := k.toNat) (v := PyData.int ns[k.toNat]) (by simp [hlt])
      rw [show ((k.toNat : Nat) : Int) = k from Int.toNat_of_nonneg hk] at this
      exact this
    · exact q _
  · walk_at "d"
    exact q _
-- _law_big  N = [(0, '_law_script'), (1, '_law_at'), (2, '_law_cell'), (3, '_law_primes'), (4, '_law_big_here'), (5, '_law_k'), (6, '_law_one')]  cells = []
abbrev s_l_big : Stmt := top 17
theorem sc_l_big : FnScope ["_law_script", "_law_at", "_law_cell", "_law_primes", "_law_big_here", "_law_k", "_law_one"] ["_law_script", "_law_at"] (defScope s_l_big) := ⟨rfl, rfl, rfl, by decide +kernel, rfl, by decide +kernel, by decide +kernel⟩
def sp_big : SpD := fun ds Q _ => ∃ (ns : List Int) (k : Int), ds = [scr ns, .int k] ∧ 0 ≤ k ∧ ∀ z : Int, 0 ≤ z → Q (.int z) true
theorem ok_l_big {f : Addr} {fd : FuncData} (F : Fun K "_law_big" "_law_big" s_l_big f fd) (T : Blt mg) (D_l_cell_at : Df P w K mg base "_law_cell_at" ["_law_script", "_law_k"] 1 (SpL K sp_cell)) : FnOk P w K mg base CX0 2 f fd ["_law_script", "_law_at"] (SpL K sp_big) := by
  refine ok0 F sc_l_big (fun ds Q X h => ?_) (fun cdv A outer s H E hr => ?_) fun ds Qd Xd h => h
  · obtain ⟨ns, k, rfl, _⟩ := h; rfl
  refine ⟨_, (dpss_cons (dpset 2 sc_l_big.nd (dpe_df (by exact D_l_cell_at) (by exact hr.mono (by omega)) (dpa_cons (dpv 0) (dpa_cons (dpv 1) dpa_nil))))
      (dpss_cons (dps_if (dpt_cmp dop_ge (dpv 2) (dpe_op dop_pow dpe_int dpe_int) (nomark _)) (dpss_one (dps_ret (dpv 2))) dpss_nil)
      (dpss_cons (dpset 3 sc_l_big.nd (dpe_tup (dpa_ints (by rfl))))
      (dpss_cons (dpset 4 sc_l_big.nd dpe_int)
      (dpss_cons (dps_for PassesOwn.never rfl (dpi_range1 (by rfl) (by exact T.range) (dpa_cons dpe_int dpa_nil)) (dpgn 5 sc_l_big.nd) (dpss_cons (dpset 6 sc_l_big.nd (dpe_op dop_add (dpe_op dop_add (dpe_op dop_mod (dpe_df (by exact D_l_cell_at) (by exact hr.mono (by omega)) (dpa_cons (dpv 0) (dpa_cons (dpe_op dop_add (dpv 1) (dpe_op dop_mod (dpv 5) dpe_int)) dpa_nil))) (dpe_op dop_pow dpe_int dpe_int)) (dpe_op dop_mul dpe_int (dpv 5))) dpe_int))
      (dpss_one (dpset 4 sc_l_big.nd (dpe_op dop_add (dpe_op dop_mul (dpv 4) dpe_int) (dpe_op dop_mod (dpe_op dop_mul (dpe_op dop_mod (dpe_op dop_add (dpe_op dop_mul (dpv 6) (dpv 6)) (dpe_op dop_mul dpe_int (dpv 5))) (dpe_ix (dix (by rfl)) (dpv 3) (dpe_op dop_mod (dpv 5) dpe_int) (fun _ _ => rfl))) (dpe_op dop_add (dpv 5) dpe_int)) dpe_int))))))
      (dpss_one (dps_ret (dpv 4)))))))), fun ds Qd h => ?_⟩
  obtain ⟨ns, k, rfl, hk, q⟩ := h
  show (_ : TSD) _ [some (false, scr ns), some (false, .int k), none, none, none, none, none] _
  walk_at "d"
  refine ⟨ns, k, rfl, hk, fun z => ?_⟩
  walk_at "d"
  refine ite2 (fun h1 => ?_) fun h1 => ?_
  · walk_at "d"
    refine q z ?_
    have : (0 : Int) ≤ 10 ^ Int.toNat 18 := by decide
    simp at h1; omega
  walk_at "d"
  refine lp_rng (fun i ρ => ∃ (b : Int) (x y : Option (Bool × D)), ρ = [some (false, scr ns), some (false, .int k), some (false, .int z), some (false, .tuple [.int 99989, .int 99971, .int 99961, .int 99929, .int 99923, .int 99907, .int 99901, .int 99881, .int 99877]), some (false, .int b), x, y] ∧ 0 ≤ b) ⟨0, _, _, rfl, by decide⟩ ?_ ?_
  · rintro i ρ hi ⟨b, x, y, rfl, hb⟩
    walk_at "d"
    have h9 := Int.emod_nonneg (0 + (i : Int)) (show (9 : Int) ≠ 0 by decide)
    have h9' := Int.emod_lt_of_pos (0 + (i : Int)) (show (0 : Int) < 9 by decide)
    refine ⟨ns, _, rfl, by omega, fun c => ?_⟩
    walk_at "d"
    have c1 : (10 : Int) ^ Int.toNat 18 = 1000000000000000000 := by decide
    rw [c1]
    have hi' : i < 64 := hi
    have h0 := Int.emod_nonneg c (show (1000000000000000000 : Int) ≠ 0 by decide)
    have h1 := Int.emod_lt_of_pos c (show (0 : Int) < 1000000000000000000 by decide)
    refine ⟨CMul.ok (.inl ⟨by omega, by omega⟩), ?_⟩
    walk_at "d"
    obtain ⟨m, hm, em⟩ : ∃ m : Nat, m < 9 ∧ (0 + (i : Int)) % 9 = (m : Int) := ⟨((0 + (i : Int)) % 9).toNat, by omega, by omega⟩
    obtain ⟨pr, hpr, hpp⟩ : ∃ pr : Int, [PyData.int 99989, .int 99971, .int 99961, .int 99929, .int 99923, .int 99907, .int 99901, .int 99881, .int 99877][m]? = some (PyData.int pr) ∧ 0 < pr ∧ pr < 100000 := by
      match m, hm with
      | 0, _ => exact ⟨_, rfl, by decide, by decide⟩
      | 1, _ => exact ⟨_, rfl, by decide, by decide⟩
      | 2, _ => exact ⟨_, rfl, by decide, by decide⟩
      | 3, _ => exact ⟨_, rfl, by decide, by decide⟩
      | 4, _ => exact ⟨_, rfl, by decide, by decide⟩
      | 5, _ => exact ⟨_, rfl, by decide, by decide⟩
      | 6, _ => exact ⟨_, rfl, by decide, by decide⟩
      | 7, _ => exact ⟨_, rfl, by decide, by decide⟩
      | 8, _ => exact ⟨_, rfl, by decide, by decide⟩
    refine ⟨.int pr, by rw [em]; exact atI_nat hpr, ?_⟩
    walk_at "d"
    refine ⟨CMul.ok (.inr ⟨by omega, by omega⟩), ?_⟩
    walk_at "d"
    refine ⟨_, _, _, rfl, ?_⟩
    have := Int.emod_nonneg (((c % 1000000000000000000 + 7 * (0 + (i : Int)) + 1) * (c % 1000000000000000000 + 7 * (0 + (i : Int)) + 1) + 31 * (0 + (i : Int))) % pr * (0 + (i : Int) + 3)) (show (8191 : Int) ≠ 0 by decide)
    omega
  · rintro ρ ⟨b, x, y, rfl, hb⟩
    walk_at "d"
    exact q b hb
theorem at_any {os : List Int} {z : Int} (h : -(os.length : Int) ≤ z) (h' : z < os.length) : ∃ a, a ∈ os ∧ atI (os.map PyData.int) z = some (.int a) := by
  have hl : (os.map PyData.int).length = os.length := List.length_map _
  obtain ⟨j, hj, e⟩ : ∃ j, j < os.length ∧ ixN os.length z = some j := by
    unfold ixN
    by_cases h0 : 0 ≤ z
    · exact ⟨z.toNat, by omega, by rw [if_pos h0, if_pos h']⟩
    · exact ⟨(z + os.length).toNat, by omega, by rw [if_neg h0, if_pos h]⟩
  exact ⟨os[j], List.getElem_mem hj, atI_of (by rw [hl]; exact e) (by rw [List.getElem?_map, List.getElem?_eq_getElem hj]; rfl)⟩
/-! ### a number written -/
def Nm (n : Int) : Prop := n.natAbs < 10 ^ 100
theorem nm_log {m : Nat} (h : m < 10 ^ 100) : m.log2 < 1920 := by
  by_cases h0 : m = 0
  · subst h0; decide
  · exact (Nat.log2_lt h0).mpr (Nat.lt_of_lt_of_le h (by decide +kernel))
theorem dec_two {q r : Nat} (hq : 0 < q) (hr : r < 10 ^ 64) : dec (q : Int) ++ Txt.zfill (dec (r : Int)) 64 = dec ((q * 10 ^ 64 + r : Nat) : Int) := by
  refine sx ?_
  rw [app_l, dec_pos, zf_is, dec_pos, dg_two (by decide) hq hr]
theorem sgn_dec (n : Int) : (if n < 0 then Str.ofString "-" else Str.ofString "") ++ dec (n.natAbs : Int) = dec n := by
  refine sx ?_
  rw [app_l, dec_pos, dec_is]
  by_cases h : n < 0
  · rw [if_pos h, if_pos h]
    have e : (Str.ofString "-").cps.toList = [45] := by decide +kernel
    rw [e]
  · rw [if_neg h, if_neg h]
    have e : (Str.ofString "").cps.toList = [] := by decide +kernel
    rw [e]
theorem join_e1 (a : Str) : Txt.join (Str.ofString "") [a] = a := rfl
theorem join_e2 (a b : Str) : Txt.join (Str.ofString "") [a, b] = a ++ b := by
  refine sx ?_
  unfold Txt.join
  rw [StrLaws.glued_eq_join]
  show (a ++ Str.ofString "" ++ b).cps.toList = _
  have e : (Str.ofString "").cps.toList = [] := by decide +kernel
  rw [app_l, app_l, app_l, e, List.append_nil]
theorem join_ok {sep : Str} {ts : List Str} {N : Nat} (h1 : ∀ y ∈ ts, y.length ≤ N) (h2 : ts.length * N + ts.length * sep.length ≤ 16777216) : JoinOk sep ts = true := by
  unfold JoinOk
  rw [Bool.not_eq_true']
  exact StrLaws.joinFits h1 h2
theorem zf_len {r : Nat} (h : r < 10 ^ 64) : (Txt.zfill (dec (r : Int)) 64).length ≤ 200 := by
  have e : (Txt.zfill (dec (r : Int)) 64).length = (Txt.zfill (dec (r : Int)) 64).cps.toList.length := by rw [Array.length_toList]; rfl
  have := dg_len (k := 64) (by decide) h
  rw [e, zf_is, List.length_append, List.length_replicate]
  omega
theorem nm_len {n : Int} (h : Nm n) : (dec n).length ≤ 101 := dec_len (by decide) h
-- number_shown  N = [(0, 'number'), (1, 'left'), (2, 'written'), (3, 'chunk')]  cells = []
abbrev s_number_shown : Stmt := top 6
theorem sc_number_shown : FnScope ["number", "left", "written", "chunk"] ["number"] (defScope s_number_shown) := ⟨rfl, rfl, rfl, by decide +kernel, rfl, by decide +kernel, by decide +kernel⟩
def sp_shown : SpD := fun ds Q _ => ∃ n : Int, ds = [.int n] ∧ Nm n ∧ Q (.str (dec n)) true
theorem ok_number_shown {f : Addr} {fd : FuncData} (F : Fun K "number_shown" "number_shown" s_number_shown f fd) (T : Blt mg) : FnOk P w K mg base CX0 1 f fd ["number"] (SpL K sp_shown) := by
  refine ok0 F sc_number_shown (fun ds Q X h => ?_) (fun cdv A outer s H E hr => ?_) fun ds Qd Xd h => h
  · obtain ⟨n, rfl, _⟩ := h; rfl
  refine ⟨_, (dpss_cons (dpset 1 sc_number_shown.nd (dpe_callB dcl_abs (by rfl) (by exact T.abs) (by decide +kernel) (dpa_cons (dpv 0) dpa_nil)))
      (dpss_cons (dpset 2 sc_number_shown.nd (dpe_lst dpa_nil))
      (dpss_cons (dps_while PassesOwn.never (dpt_cmp dop_ge (dpv 1) (dpe_op dop_pow dpe_int dpe_int) (nomark _)) (dpss_cons (dps_unp [1, 3] 2 rfl (by rfl) (by rfl) (qpgs_cons (qpgn 1 sc_number_shown.nd) (qpgs_cons (qpgn 3 sc_number_shown.nd) qpgs_nil)) (by rfl) (by rfl) (dpe_callB dcl_dm (by rfl) (by exact T.divmod) (by decide +kernel) (dpa_cons (dpv 1) (dpa_cons (dpe_op dop_pow dpe_int dpe_int) dpa_nil))))
      (dpss_one (dps_append 2 (by rfl) (qpv 2) (dpe_mm (by rfl) PySem.F.slot_str_zfill PySem.F.type_str_zfill dmm_zf (dpe_callTy dcl_str (by rfl) (by exact T.str) (by decide +kernel) (dpa_cons (dpv 3) dpa_nil)) dpe_int) (by rfl) (by rfl) (by rfl)))))
      (dpss_cons (dps_append 2 (by rfl) (qpv 2) (dpe_callTy dcl_str (by rfl) (by exact T.str) (by decide +kernel) (dpa_cons (dpv 1) dpa_nil)) (by rfl) (by rfl) (by rfl))
      (dpss_one (dps_ret (dpe_op dop_add (dpe_ifExp (dpt_cmp dop_lt (dpv 0) dpe_int (nomark _)) dpe_str dpe_str) (dpe_mm (by rfl) PySem.F.slot_str_join PySem.F.type_str_join (dmm_jn (by rfl)) dpe_str (dpe_rev (by rfl) (dpv 2) (dpe_neg dpe_int)))))))))), fun ds Qd h => ?_⟩
  obtain ⟨n, rfl, hn, q⟩ := h
  show (_ : TSD) _ [some (false, .int n), none, none, none] _
  walk_at "d"
  obtain ⟨m, hm, em⟩ : ∃ m : Nat, (if n < 0 then -n else n) = (m : Int) ∧ m = n.natAbs := ⟨n.natAbs, by split <;> omega, rfl⟩
  rw [hm]
  have hmb : m < 10 ^ 100 := by rw [em]; exact hn
  obtain ⟨B, hB, eB⟩ : ∃ B : Nat, (10 : Int) ^ Int.toNat 64 = (B : Int) ∧ B = 10 ^ 64 := ⟨10 ^ 64, by decide +kernel, rfl⟩
  have hB0 : 0 < B := by rw [eB]; decide +kernel
  have e0 : (Str.ofString "").length = 0 := by decide +kernel
  have e45 : (Str.ofString "-").length = 1 := by decide +kernel
  rw [← sgn_dec n, ← em] at q
  refine ⟨fun k ρ => (k = 1 ∧ ρ = [some (false, .int n), some (false, .int (m : Int)), some (true, .list []), none]) ∨ (k = 0 ∧ ∃ a r : Nat, m = a * B + r ∧ 0 < a ∧ a < B ∧ r < B ∧ ρ = [some (false, .int n), some (false, .int (a : Int)), some (true, .list [.str (Txt.zfill (dec (r : Int)) 64)]), some (false, .int (r : Int))]), ⟨1, .inl ⟨rfl, rfl⟩⟩, ?_⟩
  rintro k ρ (⟨rfl, rfl⟩ | ⟨rfl, a, r, hm2, ha, haB, hrB, rfl⟩)
  · walk_at "d"
    rw [hB]
    refine iteb (fun h1 => ?_) fun h1 => ?_
    · have h1 : B ≤ m := by simp at h1; omega
      have e1 : (m : Int) / (B : Int) = ((m / B : Nat) : Int) := (Int.natCast_ediv m B).symm
      have e2 : (m : Int) % (B : Int) = ((m % B : Nat) : Int) := (Int.natCast_emod m B).symm
      walk_at "d"
      rw [hB]
      refine ⟨⟨by omega, 300, by decide, by rw [← hB]; decide +kernel⟩, ?_⟩
      rw [e1, e2]
      walk_at "d"
      refine ⟨[], rfl, by decide, ?_⟩
      walk_at "d"
      have hr : m % B < B := Nat.mod_lt _ hB0
      refine ⟨nm_log (by rw [Int.natAbs_natCast]; exact Nat.lt_of_lt_of_le hr (by rw [eB]; decide +kernel)), ?_⟩
      walk_at "d"
      refine ⟨0, by decide, .inr ⟨rfl, m / B, m % B, ?_, Nat.div_pos h1 hB0, ?_, hr, rfl⟩⟩
      · rw [Nat.mul_comm]; exact (Nat.div_add_mod m B).symm
      · refine Nat.div_lt_of_lt_mul (Nat.lt_of_lt_of_le hmb ?_)
        rw [eB]; decide +kernel
    · walk_at "d"
      refine ⟨[], rfl, by decide, ?_⟩
      walk_at "d"
      refine ⟨nm_log (by rw [Int.natAbs_natCast]; exact hmb), ?_⟩
      walk_at "d"
      have hl : (Str.ofString (toString (m : Int))).length ≤ 101 := nm_len (n := (m : Int)) (by unfold Nm; rw [Int.natAbs_natCast]; exact hmb)
      have ok : JoinOk (Str.ofString "") [Str.ofString (toString (m : Int))] = true := join_ok (N := 101) (fun y hy => by rw [List.mem_singleton.mp hy]; exact hl) (by rw [e0]; exact Nat.le_of_ble_eq_true rfl)
      refine iteb (fun h2 => ?_) fun h2 => ?_
      · rw [if_pos (by simpa using h2)] at q
        walk_at "d"
        refine ⟨rfl, [Str.ofString (toString (m : Int))], rfl, ok, ?_, ?_⟩
        · rw [join_e1, e45]; omega
        · rw [join_e1]; exact q
      · rw [if_neg (by simpa using h2)] at q
        walk_at "d"
        refine ⟨rfl, [Str.ofString (toString (m : Int))], rfl, ok, ?_, ?_⟩
        · rw [join_e1, e0]; omega
        · rw [join_e1]; exact q
  · walk_at "d"
    rw [hB, if_neg (by simp; omega)]
    walk_at "d"
    refine ⟨_, rfl, Nat.le_of_ble_eq_true rfl, ?_⟩
    walk_at "d"
    refine ⟨nm_log (by rw [Int.natAbs_natCast]; exact Nat.lt_of_lt_of_le haB (by rw [eB]; decide +kernel)), ?_⟩
    walk_at "d"
    have hl : (Str.ofString (toString (a : Int))).length ≤ 101 := nm_len (n := (a : Int)) (by unfold Nm; rw [Int.natAbs_natCast]; exact Nat.lt_of_lt_of_le haB (by rw [eB]; decide +kernel))
    have hz := zf_len (r := r) (by rw [← eB]; exact hrB)
    have ok : JoinOk (Str.ofString "") [Str.ofString (toString (a : Int)), Txt.zfill (dec (r : Int)) 64] = true := join_ok (N := 200) (fun y hy => by
      simp only [List.mem_cons, List.not_mem_nil, or_false] at hy
      rcases hy with rfl | rfl <;> omega) (by rw [e0]; exact Nat.le_of_ble_eq_true rfl)
    have e2 := dec_two (q := a) (r := r) ha (by rw [← eB]; exact hrB)
    rw [← eB, ← hm2] at e2
    have hl2 := nm_len (n := (m : Int)) (by unfold Nm; rw [Int.natAbs_natCast]; exact hmb)
    refine iteb (fun h2 => ?_) fun h2 => ?_
    · rw [if_pos (by simpa using h2)] at q
      walk_at "d"
      refine ⟨rfl, [Str.ofString (toString (a : Int)), Txt.zfill (dec (r : Int)) 64], rfl, ok, ?_, ?_⟩
      · rw [join_e2, show Str.ofString (toString (a : Int)) = dec (a : Int) from rfl, e2, e45]; omega
      · rw [join_e2, show Str.ofString (toString (a : Int)) = dec (a : Int) from rfl, e2]; exact q
    · rw [if_neg (by simpa using h2)] at q
      walk_at "d"
      refine ⟨rfl, [Str.ofString (toString (a : Int)), Txt.zfill (dec (r : Int)) 64], rfl, ok, ?_, ?_⟩
      · rw [join_e2, show Str.ofString (toString (a : Int)) = dec (a : Int) from rfl, e2, e0]; omega
      · rw [join_e2, show Str.ofString (toString (a : Int)) = dec (a : Int) from rfl, e2]; exact q
end
end K83

namespace K83
open PySem PySem.Spec PyProof.Rows L2 DL M82 M83 PySem.NumText
section
variable {P : Program} {w : World} {K : PySem.W.Frag} {mg : Str → Option Value} {base : Heap}
theorem sw_is (x : Str) (c : Nat) : Txt.startswith x ⟨#[c]⟩ = decide (x.cps.toList[0]? = some c) := by
  rw [Bool.eq_iff_iff, decide_eq_true_iff, ← StrLaws.subAt_one x c 0]
  unfold Txt.startswith
  rw [Bool.and_eq_true, decide_eq_true_iff]
theorem e_min : Str.ofString "-" = ⟨#[45]⟩ := by decide +kernel
theorem e_nil : Str.ofString "0" = ⟨#[48]⟩ := by decide +kernel
theorem e_sp : Str.ofString " " = ⟨#[32]⟩ := by decide +kernel
theorem dec_sw (n : Int) : Txt.startswith (dec n) (Str.ofString "-") = decide (n < 0) := by
  rw [e_min, sw_is, Bool.eq_iff_iff, decide_eq_true_iff, decide_eq_true_iff, dec_is]
  by_cases h : n < 0
  · rw [if_pos h]; exact ⟨fun _ => h, fun _ => rfl⟩
  · rw [if_neg h, List.nil_append]
    refine ⟨fun e => ?_, fun e => absurd e h⟩
    have := dg_digits n.natAbs 45 (List.mem_iff_getElem?.mpr ⟨0, e⟩)
    omega
theorem figs {n : Int} (h : n < 0) : Txt.slice (dec n) (some 1) none = dec (n.natAbs : Int) := by
  have hl : (1 : Int) ≤ ((dec n).cps.toList.length : Int) := by rw [dec_is, if_pos h]; simp; omega
  have e : Txt.slice (dec n) (some 1) none = StrLaws.sliceText (dec n) (some 1) none := rfl
  rw [e, StrLaws.sliceText_from ⟨by decide, hl⟩]
  refine sx ?_
  rw [dec_pos]
  show ((dec n).cps.toList.drop 1).take (((dec n).cps.toList.length : Int) - 1).toNat = _
  rw [dec_is, if_pos h]
  show (dg n.natAbs).take _ = _
  exact List.take_of_length_le (by simp)
theorem dec_asc (n : Int) : PyData.strOk (dec n) = true := by
  unfold PyData.strOk
  rw [Array.all_eq_true_iff_forall_mem]
  intro c hc
  have := dec_signs n c (by simpa using hc)
  simp; omega
theorem lay_s {z : Str} (h : PyData.strOk z = true) : (PyData.str z).canLay0 = true := by simp [PyData.canLay0, h]
theorem depth_s (z : Str) : (PyData.str z).depth ≤ 32 := by simp [PyData.depth]
theorem eqv_s (a b : Str) : (PyData.str a).eqv (.str b) = decide (a = b) := by
  rw [Bool.eq_iff_iff]
  simp [PyData.eqv]
theorem boolsD_fun {α : Type} (f : α → Bool) (r : List α) : boolsD (r.map fun x => PyData.bool (f x)) = some (r.map f) := by
  induction r with
  | nil => rfl
  | cons x r ih => simp [boolsD, ih]
def FIG : Str := Str.ofString "0123456789"
theorem fig_in {c : Nat} (h : 48 ≤ c ∧ c ≤ 57) : (!(!(Builtin.Str.occurrences FIG ⟨#[c]⟩ 0 FIG.length 1).isEmpty)) = false := by
  rw [StrLaws.found_one]
  have e : FIG.cps.toList = [48, 49, 50, 51, 52, 53, 54, 55, 56, 57] := by decide +kernel
  rw [e, Bool.not_eq_false', decide_eq_true_iff]
  simp; omega
theorem int_one {c : Nat} (h : 48 ≤ c ∧ c ≤ 57) : PySem.intText? ⟨#[c]⟩ = some ((c - 48 : Nat) : Int) := by
  have := intText_digits (x := ⟨#[c]⟩) (fun d hd => by
    have e : d = c := (by simpa using hd)
    rw [e]; exact h) (by simp) (by show 1 ≤ 4300; decide)
  rw [this]
  simp [digitsVal]
-- number_read  N = [(0, 'text'), (1, 'figures'), (2, 'number'), (3, 'sign')]  cells = []
abbrev s_number_read : Stmt := top 7
theorem sc_number_read : FnScope ["text", "figures", "number", "sign"] ["text"] (defScope s_number_read) := ⟨rfl, rfl, rfl, by decide +kernel, rfl, by decide +kernel, by decide +kernel⟩
def sp_read : SpD := fun ds Q _ => ∃ n : Int, ds = [.str (dec n)] ∧ Nm n ∧ Q (.int n) true
theorem ok_number_read {f : Addr} {fd : FuncData} (F : Fun K "number_read" "number_read" s_number_read f fd) (T : Blt mg) (G_FIGURES : GStr mg "FIGURES" FIG) : FnOk P w K mg base CX0 1 f fd ["text"] (SpL K sp_read) := by
  refine ok0 F sc_number_read (fun ds Q X h => ?_) (fun cdv A outer s H E hr => ?_) fun ds Qd Xd h => h
  · obtain ⟨n, rfl, _⟩ := h; rfl
  refine ⟨_, (dpss_cons (dps_jn (dpset 1 sc_number_read.nd (dpe_ifExp (dpt_val (dpe_mm (by rfl) PySem.F.slot_str_startswith PySem.F.type_str_startswith dmm_sw (dpv 0) dpe_str)) (dpe_sliceS (dpv 0) (dpo_some dpe_int) dpo_none) (dpv 0))))
      (dpss_cons (dps_if (dPWpt (dpw_or (dpt_cmp (dop_eq (by rfl) (by exact hr.units)) (dpv 1) dpe_str (nomark _)) (dpw_or1 (dpt_val (dpe_callB (dcl_any (by rfl) (by rfl)) (by rfl) (by exact T.any) (by decide +kernel) (dpa_cons (dpe_lc ["sign"] [] rfl (LcScope.of (by kernel_rfl)) (dpi_str (dpv 1)) (fun _ _ _ _ => ⟨(dpgn 0 (nd_of (by kernel_rfl))), dpts_nil, (dpb_emit (by rfl) (by rfl) (dpe_cmp dop_notinS (dpv 0) (dpe_gstr (by exact G_FIGURES) (by rfl)) rfl))⟩)) dpa_nil)))))) (dpss_one dps_raiseF) dpss_nil)
      (dpss_cons (dps_jn (dps_if (dPWpt (dpw_and (dpt_val (dpe_mm (by rfl) PySem.F.slot_str_startswith PySem.F.type_str_startswith dmm_sw (dpv 1) dpe_str)) (dpw_and1 (dpt_cmp (dop_ne (by rfl) (by exact hr.units)) (dpv 0) dpe_str (nomark _))))) (dpss_one dps_raiseF) dpss_nil))
      (dpss_cons (dpset 2 sc_number_read.nd dpe_int)
      (dpss_cons (dps_frz 1 (dps_for PassesOwn.never rfl (dpi_str (dpv 1)) (dpgn 3 sc_number_read.nd) (dpss_one (dpset 2 sc_number_read.nd (dpe_op dop_add (dpe_op dop_mul dpe_int (dpv 2)) (dpe_callTy dcl_intS (by rfl) (by exact T.int) (by decide +kernel) (dpa_cons (dpv 3) dpa_nil)))))))
      (dpss_one (dps_ret (dpe_ifExp (dpt_val (dpe_mm (by rfl) PySem.F.slot_str_startswith PySem.F.type_str_startswith dmm_sw (dpv 0) dpe_str)) (dpe_neg (dpv 2)) (dpv 2))))))))), fun ds Qd h => ?_⟩
  obtain ⟨n, rfl, hn, q⟩ := h
  show (_ : TSD) _ [some (false, .str (dec n)), none, none, none] _
  have hl := nm_len hn
  obtain ⟨m, em⟩ : ∃ m : Nat, m = n.natAbs := ⟨_, rfl⟩
  have hlm : (dec (m : Int)).length ≤ 101 := nm_len (n := (m : Int)) (by unfold Nm; rw [Int.natAbs_natCast, em]; exact hn)
  walk_at "d"
  refine w_jn (fun ρ => ρ = [some (false, .str (dec n)), some (false, .str (dec (m : Int))), none, none]) (fun N hN => ?_) ?_
  · walk_at "d"
    rw [dec_sw]
    by_cases h : n < 0
    · rw [decide_eq_true h]
      walk_at "d"
      rw [figs h, ← em]
      exact hN _ rfl
    · rw [decide_eq_false h]
      walk_at "d"
      exact hN _ (by rw [show (m : Int) = n by omega])
  rintro ρ rfl
  have sm : (dec (m : Int)).cps.toList = dg m := dec_pos m
  have hdm := dg_digits m
  walk_at "d"
  refine ⟨⟨lay_s (dec_asc _), lay_s (by decide +kernel), depth_s _⟩, ?_⟩
  rw [eqv_s, decide_eq_false (fun e => dg_ne m (by rw [← sm, e]; decide +kernel))]
  walk_at "d"
  rw [if_neg (by decide)]
  walk_at "d"
  unfold DL.signs
  rw [sm]
  refine lc_mapA (L := dg m) (fun c => PyData.str ⟨#[c]⟩) (fun c => .bool false) (fun c hc es Q' hl' q' => ?_) (by have : (dec (m : Int)).cps.toList.length = (dec (m : Int)).length := Array.length_toList ..; rw [sm] at this; omega) ?_
  · walk_at "d"
    rw [fig_in (hdm c hc)]
    exact q'
  walk_at "d"
  refine ⟨_, boolsD_fun (fun _ => false) _, ?_⟩
  rw [show ((dg m).map fun _ => false).any id = false from by rw [List.any_eq_false]; intro b hb; obtain ⟨_, _, rfl⟩ := List.mem_map.mp hb; simp]
  walk_at "d"
  refine w_jn (fun ρ => ρ = [some (false, .str (dec n)), some (false, .str (dec (m : Int))), none, none]) (fun N hN => ?_) ?_
  · walk_at "d"
    rw [e_nil, sw_is, sm]
    by_cases h0 : (dg m)[0]? = some 48
    · rw [decide_eq_true h0]
      have m0 : m = 0 := by
        apply Classical.byContradiction
        intro hm
        obtain ⟨c, r, e, hc⟩ := dg_head (m := m) (by omega)
        rw [e] at h0
        have : c = 48 := by simpa using h0
        omega
      have n0 : n = 0 := by omega
      subst n0
      walk_at "d"
      refine ⟨⟨lay_s (dec_asc _), lay_s (by decide +kernel), depth_s _⟩, ?_⟩
      rw [eqv_s, decide_eq_true (by decide +kernel)]
      walk_at "d"
      exact hN _ rfl
    · rw [decide_eq_false h0]
      walk_at "d"
      exact hN _ rfl
  rintro ρ rfl
  walk_at "d"
  unfold DL.signs
  rw [sm]
  refine lp_list (fun j ρ => ∃ z : Option (Bool × D), ρ = [some (false, .str (dec n)), some (false, .str (dec (m : Int))), some (false, .int ((digitsVal ((dg m).take j) : Nat) : Int)), z]) ⟨_, rfl⟩ ?_ ?_
  · rintro j d ρ hd ⟨z, rfl⟩
    obtain ⟨c, hc, rfl⟩ : ∃ c, (dg m)[j]? = some c ∧ d = .str ⟨#[c]⟩ := by
      rw [List.getElem?_map] at hd
      cases e : (dg m)[j]? with
      | none => rw [e] at hd; cases hd
      | some r => rw [e] at hd; cases hd; exact ⟨r, rfl, rfl⟩
    have hcd := hdm c (List.mem_iff_getElem?.mpr ⟨j, hc⟩)
    have e1 : Str.length ⟨#[c]⟩ = 1 := rfl
    have ev : digitsVal ((dg m).take (j + 1)) = digitsVal ((dg m).take j) * 10 + (c - 48) := by rw [List.take_succ, hc]; exact digitsVal_snoc _ _
    walk_at "d"
    refine ⟨_, int_one hcd, ?_⟩
    walk_at "d"
    have e3 : 10 * ((digitsVal ((dg m).take j) : Nat) : Int) + ((c - 48 : Nat) : Int) = ((digitsVal ((dg m).take (j + 1)) : Nat) : Int) := by rw [ev]; omega
    exact ⟨_, by rw [e3]⟩
  · rintro ρ ⟨z, rfl⟩
    rw [List.length_map, List.take_length, dg_val]
    walk_at "d"
    rw [dec_sw]
    by_cases h : n < 0
    · rw [decide_eq_true h]
      walk_at "d"
      rw [show -(m : Int) = n by omega]
      exact q
    · rw [decide_eq_false h]
      walk_at "d"
      rw [show (m : Int) = n by omega]
      exact q
/-! ### rows and tables -/
def spl (r : List Int) : Str := Str.join ⟨#[32]⟩ (r.map dec)
def RwN (r : List Int) : Prop := r ≠ [] ∧ r.length ≤ 8 ∧ ∀ x ∈ r, Nm x
theorem sum_le {N : Nat} : ∀ {ts : List Str}, (∀ y ∈ ts, y.length ≤ N) → (ts.map (·.length)).sum ≤ ts.length * N
  | [], _ => by simp
  | y :: r, h => by
    have := sum_le (ts := r) fun z hz => h z (List.mem_cons_of_mem _ hz)
    have h1 := h y List.mem_cons_self
    simp only [List.map_cons, List.sum_cons, List.length_cons, Nat.succ_mul]
    omega
theorem join_len {c N : Nat} {ts : List Str} (h : ∀ y ∈ ts, y.length ≤ N) (hl : ts.length ≤ 8) : (Str.join ⟨#[c]⟩ ts).length ≤ 8 * N + 8 := by
  have h1 := StrLaws.join_length_le ⟨#[c]⟩ ts
  have h2 := sum_le h
  have h3 : ts.length * N ≤ 8 * N := Nat.mul_le_mul_right _ hl
  have e1 : Str.length ⟨#[c]⟩ = 1 := rfl
  rw [e1] at h1
  omega
theorem spl_len {r : List Int} (h : RwN r) : (spl r).length ≤ 816 := join_len (N := 101) (fun y hy => by obtain ⟨x, hx, rfl⟩ := List.mem_map.mp hy; exact nm_len (h.2.2 x hx)) (by rw [List.length_map]; exact h.2.1)
theorem join_txt (sep : Str) (ts : List Str) : Txt.join sep ts = Str.join sep ts := StrLaws.glued_eq_join sep ts
theorem join_mem {c d : Nat} : ∀ {ts : List Str}, d ∈ (Str.join ⟨#[c]⟩ ts).cps.toList → d = c ∨ ∃ t ∈ ts, d ∈ t.cps.toList
  | [], h => by cases h
  | [x], h => .inr ⟨x, List.mem_cons_self, h⟩
  | x :: y :: r, h => by
    rw [join_l] at h
    rcases List.mem_append.mp h with h | h
    · exact .inr ⟨x, List.mem_cons_self, h⟩
    · rcases List.mem_cons.mp h with h | h
      · exact .inl h
      · rcases join_mem h with h | ⟨t, ht, h⟩
        · exact .inl h
        · exact .inr ⟨t, List.mem_cons_of_mem _ ht, h⟩
theorem spl_signs {r : List Int} {c : Nat} (h : c ∈ (spl r).cps.toList) : c = 32 ∨ c = 45 ∨ (48 ≤ c ∧ c ≤ 57) := by
  rcases join_mem h with h | ⟨t, ht, h⟩
  · exact .inl h
  · obtain ⟨x, _, rfl⟩ := List.mem_map.mp ht
    exact .inr (dec_signs x c h)
theorem spl_split {r : List Int} (h : RwN r) : Txt.split (spl r) ⟨#[32]⟩ = r.map dec := split_join (by simpa using h.1) fun p hp hc => by
  obtain ⟨x, _, rfl⟩ := List.mem_map.mp hp
  have := dec_signs x 32 hc
  omega
-- numbers_shown  N = [(0, 'numbers')]  cells = []
abbrev s_numbers_shown : Stmt := top 8
theorem sc_numbers_shown : FnScope ["numbers"] ["numbers"] (defScope s_numbers_shown) := ⟨rfl, rfl, rfl, by decide +kernel, rfl, by decide +kernel, by decide +kernel⟩
/-- a list or a tuple of numbers -/
def SeqI (d : D) (r : List Int) : Prop := d = iD r ∨ d = .tuple (r.map .int)
def sp_shs : SpD := fun ds Q _ => ∃ (d : D) (r : List Int), ds = [d] ∧ SeqI d r ∧ RwN r ∧ Q (.str (spl r)) true
theorem ok_numbers_shown {f : Addr} {fd : FuncData} (F : Fun K "numbers_shown" "numbers_shown" s_numbers_shown f fd) (T : Blt mg) (D_number_shown : Df P w K mg base "number_shown" ["number"] 1 (SpL K sp_shown)) : FnOk P w K mg base CX0 2 f fd ["numbers"] (SpL K sp_shs) := by
  refine ok0 F sc_numbers_shown (fun ds Q X h => ?_) (fun cdv A outer s H E hr => ?_) fun ds Qd Xd h => h
  · obtain ⟨d, r, rfl, _⟩ := h; rfl
  refine ⟨_, (dpss_one (dps_ret (dpe_mm (by rfl) PySem.F.slot_str_join PySem.F.type_str_join (dmm_jn (by rfl)) dpe_str (dpe_lc ["number"] [] rfl (LcScope.of (by kernel_rfl)) (dpi_seq (by rfl) (dpv 0)) (fun _ _ _ _ => ⟨(dpgn 0 (nd_of (by kernel_rfl))), dpts_nil, (dpb_emit (by rfl) (by rfl) (dpe_df (by exact D_number_shown) (by exact hr.mono (by omega)) (dpa_cons (dpv 0) dpa_nil)))⟩))))), fun ds Qd h => ?_⟩
  obtain ⟨d, r, rfl, hd, hr8, q⟩ := h
  show (_ : TSD) _ [some (false, d)] _
  have hl := hr8.2.1
  have e1 : Str.length ⟨#[32]⟩ = 1 := rfl
  rcases hd with rfl | rfl
  · walk_at "d"
    refine w_sqL ?_
    walk_at "d"
    refine lc_mapA (L := r) PyData.int (fun x => .str (dec x)) (fun x hx es Q' hl' q' => ?_) (by omega) ?_
    · walk_at "d"
      refine ⟨x, rfl, hr8.2.2 x hx, ?_⟩
      walk_at "d"
      exact q'
    · walk_at "d"
      rw [e_sp]
      refine ⟨r.map dec, by rw [← strsD_map (r.map dec), List.map_map]; rfl, join_ok (N := 101) (fun y hy => by obtain ⟨x, hx, rfl⟩ := List.mem_map.mp hy; exact nm_len (hr8.2.2 x hx)) (by rw [List.length_map, e1]; omega), ?_⟩
      rw [join_txt]
      exact q
  · walk_at "d"
    refine w_sqT ?_
    walk_at "d"
    refine lc_mapA (L := r) PyData.int (fun x => .str (dec x)) (fun x hx es Q' hl' q' => ?_) (by omega) ?_
    · walk_at "d"
      refine ⟨x, rfl, hr8.2.2 x hx, ?_⟩
      walk_at "d"
      exact q'
    · walk_at "d"
      rw [e_sp]
      refine ⟨r.map dec, by rw [← strsD_map (r.map dec), List.map_map]; rfl, join_ok (N := 101) (fun y hy => by obtain ⟨x, hx, rfl⟩ := List.mem_map.mp hy; exact nm_len (hr8.2.2 x hx)) (by rw [List.length_map, e1]; omega), ?_⟩
      rw [join_txt]
      exact q
-- numbers_read  N = [(0, 'text')]  cells = []
abbrev s_numbers_read : Stmt := top 9
theorem sc_numbers_read : FnScope ["text"] ["text"] (defScope s_numbers_read) := ⟨rfl, rfl, rfl, by decide +kernel, rfl, by decide +kernel, by decide +kernel⟩
def sp_rds : SpD := fun ds Q _ => ∃ r : List Int, ds = [.str (spl r)] ∧ RwN r ∧ Q (iD r) true
theorem ok_numbers_read {f : Addr} {fd : FuncData} (F : Fun K "numbers_read" "numbers_read" s_numbers_read f fd) (T : Blt mg) (D_number_read : Df P w K mg base "number_read" ["text"] 1 (SpL K sp_read)) : FnOk P w K mg base CX0 2 f fd ["text"] (SpL K sp_rds) := by
  refine ok0 F sc_numbers_read (fun ds Q X h => ?_) (fun cdv A outer s H E hr => ?_) fun ds Qd Xd h => h
  · obtain ⟨r, rfl, _⟩ := h; rfl
  refine ⟨_, (dpss_one (dps_ret (dpe_lc ["word"] [] rfl (LcScope.of (by kernel_rfl)) (dpi_list (by rfl) (dpe_mm (by rfl) PySem.F.slot_str_split PySem.F.type_str_split dmm_sp (dpv 0) dpe_str)) (fun _ _ _ _ => ⟨(dpgn 0 (nd_of (by kernel_rfl))), dpts_nil, (dpb_emit (by rfl) (by rfl) (dpe_df (by exact D_number_read) (by exact hr.mono (by omega)) (dpa_cons (dpv 0) dpa_nil)))⟩)))), fun ds Qd h => ?_⟩
  obtain ⟨r, rfl, hr8, q⟩ := h
  show (_ : TSD) _ [some (false, .str (spl r))] _
  have hl := hr8.2.1
  have hs := spl_len hr8
  walk_at "d"
  rw [e_sp, spl_split hr8, List.map_map]
  refine ⟨⟨by decide, by omega⟩, ?_⟩
  walk_at "d"
  refine lc_mapA (L := r) (fun x => PyData.str (dec x)) (fun x => .int x) (fun x hx es Q' hl' q' => ?_) (by omega) ?_
  · walk_at "d"
    refine ⟨x, rfl, hr8.2.2 x hx, ?_⟩
    walk_at "d"
    exact q'
  · exact q
end
end K83

namespace K83
open PySem PySem.Spec PyProof.Rows L2 DL M82 M83 PySem.NumText
section
variable {P : Program} {w : World} {K : PySem.W.Frag} {mg : Str → Option Value} {base : Heap}
theorem len_app' (a b : Str) : (a ++ b).length = a.length + b.length := Str.length_append a b
-- _law_number  N = [(0, '_law_big_here'), (1, '_law_size')]  cells = []
abbrev s_l_number : Stmt := top 18
theorem sc_l_number : FnScope ["_law_big_here", "_law_size"] ["_law_big_here"] (defScope s_l_number) := ⟨rfl, rfl, rfl, by decide +kernel, rfl, by decide +kernel, by decide +kernel⟩
def sp_number : SpD := fun ds Q _ => ∃ b : Int, ds = [.int b] ∧ 0 ≤ b ∧ ∀ v b' : Int, Nm v → 0 ≤ b' → Q (.tuple [.int v, .int b']) true
theorem ok_l_number {f : Addr} {fd : FuncData} (F : Fun K "_law_number" "_law_number" s_l_number f fd) (T : Blt mg) : FnOk P w K mg base CX0 1 f fd ["_law_big_here"] (SpL K sp_number) := by
  refine ok0 F sc_l_number (fun ds Q X h => ?_) (fun cdv A outer s H E hr => ?_) fun ds Qd Xd h => h
  · obtain ⟨b, rfl, _⟩ := h; rfl
  refine ⟨_, (dpss_cons (dpset 1 sc_l_number.nd (dpe_ix (dix (by rfl)) (dpe_tup (dpa_cons dpe_int (dpa_cons dpe_int (dpa_cons dpe_int (dpa_cons (dpe_op dop_pow dpe_int dpe_int) (dpa_cons (dpe_op dop_pow dpe_int dpe_int) (dpa_cons (dpe_op dop_mul (dpe_op dop_pow dpe_int dpe_int) (dpe_op dop_pow dpe_int dpe_int)) dpa_nil))))))) (dpe_op dop_mod (dpv 0) dpe_int) (fun _ _ => rfl)))
      (dpss_cons (dpset 0 sc_l_number.nd (dpe_op dop_fdiv (dpv 0) dpe_int))
      (dpss_one (dps_ret (dpe_tup (dpa_cons (dpe_op dop_sub (dpe_op dop_mod (dpv 0) (dpe_op dop_sub (dpe_op dop_mul dpe_int (dpv 1)) dpe_int)) (dpe_op dop_sub (dpv 1) dpe_int)) (dpa_cons (dpe_op dop_fdivB (dpv 0) (dpe_op dop_sub (dpe_op dop_mul dpe_int (dpv 1)) dpe_int)) dpa_nil))))))), fun ds Qd h => ?_⟩
  obtain ⟨b, rfl, hb, q⟩ := h
  show (_ : TSD) _ [some (false, .int b), none] _
  walk_at "d"
  refine ⟨mulB (m := 200) (n := 200) (by decide +kernel) (by decide +kernel) (by decide +kernel) (by decide +kernel) (by decide), ?_⟩
  walk_at "d"
  obtain ⟨v, hv, ev⟩ := at_any (os := [3, 12, 1000, 10 ^ Int.toNat 9, 10 ^ Int.toNat 30, 10 ^ Int.toNat 50 * 10 ^ Int.toNat 50]) (z := b % 6) (by have := Int.emod_nonneg b (show (6 : Int) ≠ 0 by decide); show -(6 : Int) ≤ _; omega) (by have := Int.emod_lt_of_pos b (show (0 : Int) < 6 by decide); show _ < (6 : Int); omega)
  have hb100 : ∀ v ∈ ([3, 12, 1000, 10 ^ Int.toNat 9, 10 ^ Int.toNat 30, 10 ^ Int.toNat 50 * 10 ^ Int.toNat 50] : List Int), 3 ≤ v ∧ v ≤ ((10 ^ 100 : Nat) : Int) := by decide +kernel
  have hv2 := hb100 v hv
  obtain ⟨B, eB⟩ : ∃ B : Nat, B = 10 ^ 100 := ⟨_, rfl⟩
  have hB : (B : Int) < 2 ^ 400 := by rw [eB]; decide +kernel
  rw [← eB] at hv2
  refine ⟨_, ev, ?_⟩
  have hb1 : 0 ≤ b / 6 := Int.ediv_nonneg hb (by decide)
  walk_at "d"
  have p1 : 0 < 2 * v - 1 := by omega
  have e402 : (2 : Int) ^ 402 = 4 * 2 ^ 400 := by decide +kernel
  have a1 := Int.emod_nonneg (b / 6) (Int.ne_of_gt p1)
  have a2 := Int.emod_lt_of_pos (b / 6) p1
  refine ⟨⟨p1, 402, by decide, by rw [e402]; omega⟩, ?_⟩
  walk_at "d"
  exact q _ _ (by unfold Nm; rw [← eB]; omega) (Int.ediv_nonneg hb1 (by omega))
/-! ### moves -/
abbrev Ar := Int × Int × Int
def arD (a : Ar) : D := .tuple [.int a.1, .int a.2.1, .int a.2.2]
def pcD (p : List Ar) : D := .list (p.map arD)
def psD (ps : List (List Ar)) : D := .list (ps.map pcD)
def NN (n : Int) : Prop := 0 ≤ n ∧ Nm n
def ArN (a : Ar) : Prop := NN a.1 ∧ NN a.2.1 ∧ NN a.2.2
def PcN (p : List Ar) : Prop := p ≠ [] ∧ p.length ≤ 3 ∧ ∀ a ∈ p, ArN a
def PsN (ps : List (List Ar)) : Prop := 2 ≤ ps.length ∧ ps.length ≤ 5 ∧ ∀ p ∈ ps, PcN p
-- _law_places  N = [(0, '_law_big_here'), (1, '_law_many'), (2, '_law_most'), (3, '_law_found'), (4, '_law_k')]  cells = []
abbrev s_l_places : Stmt := top 19
theorem sc_l_places : FnScope ["_law_big_here", "_law_many", "_law_most", "_law_found", "_law_k"] ["_law_big_here", "_law_many", "_law_most"] (defScope s_l_places) := ⟨rfl, rfl, rfl, by decide +kernel, rfl, by decide +kernel, by decide +kernel⟩
def sp_places : SpD := fun ds Q _ => ∃ b m : Int, ds = [.int b, .int 3, .int m] ∧ 0 ≤ b ∧ 0 < m ∧ m ≤ ((10 ^ 30 : Nat) : Int) ∧ ∀ (i j k b' : Int), ArN (i, j, k) → 0 ≤ b' → Q (.tuple [iD [i, j, k], .int b']) true
theorem ok_l_places {f : Addr} {fd : FuncData} (F : Fun K "_law_places" "_law_places" s_l_places f fd) (T : Blt mg) : FnOk P w K mg base CX0 1 f fd ["_law_big_here", "_law_many", "_law_most"] (SpL K sp_places) := by
  refine ok0 F sc_l_places (fun ds Q X h => ?_) (fun cdv A outer s H E hr => ?_) fun ds Qd Xd h => h
  · obtain ⟨b, m, rfl, _⟩ := h; rfl
  refine ⟨_, (dpss_cons (dpset 3 sc_l_places.nd (dpe_lst dpa_nil))
      (dpss_cons (dps_for PassesOwn.never rfl (dpi_range1 (by rfl) (by exact T.range) (dpa_cons (dpv 1) dpa_nil)) (dpgn 4 sc_l_places.nd) (dpss_cons (dps_append 3 (by rfl) (qpv 3) (dpe_op dop_mod (dpv 0) (dpv 2)) (by rfl) (by rfl) (by rfl))
      (dpss_one (dpset 0 sc_l_places.nd (dpe_op dop_fdivB (dpv 0) (dpv 2))))))
      (dpss_one (dps_ret (dpe_tup (dpa_cons (dpv 3) (dpa_cons (dpv 0) dpa_nil))))))), fun ds Qd h => ?_⟩
  obtain ⟨b, m, rfl, hb, hm0, hm, q⟩ := h
  show (_ : TSD) _ [some (false, .int b), some (false, .int 3), some (false, .int m), none, none] _
  have hmB : m < 2 ^ 110 := Int.lt_of_le_of_lt hm (by decide +kernel)
  walk_at "d"
  refine lp_rng (fun i ρ => ∃ (b : Int) (r : List Int) (z : Option (Bool × D)), ρ = [some (false, .int b), some (false, .int 3), some (false, .int m), some (true, iD r), z] ∧ 0 ≤ b ∧ r.length = i ∧ ∀ x ∈ r, NN x) ⟨b, [], _, rfl, hb, rfl, fun _ z => by cases z⟩ ?_ ?_
  · rintro i ρ hi ⟨b, r, z, rfl, hb, hrl, hr⟩
    have a1 := Int.emod_nonneg b (Int.ne_of_gt hm0)
    have a2 := Int.emod_lt_of_pos b hm0
    have hi : i < 3 := hi
    walk_at "d"
    refine ⟨r.map .int, rfl, by rw [List.length_map]; omega, ?_⟩
    walk_at "d"
    refine ⟨⟨hm0, 110, by decide, hmB⟩, ?_⟩
    walk_at "d"
    refine ⟨b / m, r ++ [b % m], _, rfl, Int.ediv_nonneg hb (by omega), by rw [List.length_append, hrl]; rfl, fun x hx => ?_⟩
    rcases List.mem_append.mp hx with hx | hx
    · exact hr x hx
    · rw [List.mem_singleton.mp hx]
      refine ⟨a1, ?_⟩
      unfold Nm
      have : (10 ^ 30 : Nat) ≤ 10 ^ 100 := by decide +kernel
      omega
  · rintro ρ ⟨b, r, z, rfl, hb, hrl, hr⟩
    have hrl : r.length = 3 := hrl
    match r, hrl with
    | [x, y, z'], _ =>
      walk_at "d"
      exact q x y z' b ⟨hr _ (by simp), hr _ (by simp), hr _ (by simp)⟩ hb
-- _law_some  N = [(0, '_law_big_here'), (1, '_law_found'), (2, '_law_many'), (3, '_law_k'), (4, '_law_one')]  cells = []
abbrev s_l_some : Stmt := top 21
theorem sc_l_some : FnScope ["_law_big_here", "_law_found", "_law_many", "_law_k", "_law_one"] ["_law_big_here"] (defScope s_l_some) := ⟨rfl, rfl, rfl, by decide +kernel, rfl, by decide +kernel, by decide +kernel⟩
def sp_some : SpD := fun ds Q _ => ∃ b : Int, ds = [.int b] ∧ 0 ≤ b ∧ ∀ (r : List Int) (b' : Int), RwN r → 0 ≤ b' → Q (.tuple [iD r, .int b']) true
theorem ok_l_some {f : Addr} {fd : FuncData} (F : Fun K "_law_some" "_law_some" s_l_some f fd) (T : Blt mg) (D_l_number : Df P w K mg base "_law_number" ["_law_big_here"] 1 (SpL K sp_number)) : FnOk P w K mg base CX0 2 f fd ["_law_big_here"] (SpL K sp_some) := by
  refine ok0 F sc_l_some (fun ds Q X h => ?_) (fun cdv A outer s H E hr => ?_) fun ds Qd Xd h => h
  · obtain ⟨b, rfl, _⟩ := h; rfl
  refine ⟨_, (dpss_cons (dpset 1 sc_l_some.nd (dpe_lst dpa_nil))
      (dpss_cons (dpset 2 sc_l_some.nd (dpe_op dop_add dpe_int (dpe_op dop_mod (dpv 0) dpe_int)))
      (dpss_cons (dpset 0 sc_l_some.nd (dpe_op dop_fdiv (dpv 0) dpe_int))
      (dpss_cons (dps_for PassesOwn.never rfl (dpi_range1 (by rfl) (by exact T.range) (dpa_cons (dpv 2) dpa_nil)) (dpgn 3 sc_l_some.nd) (dpss_cons (dps_unp [4, 0] 2 rfl (by rfl) (by rfl) (qpgs_cons (qpgn 4 sc_l_some.nd) (qpgs_cons (qpgn 0 sc_l_some.nd) qpgs_nil)) (by rfl) (by rfl) (dpe_df (by exact D_l_number) (by exact hr.mono (by omega)) (dpa_cons (dpv 0) dpa_nil)))
      (dpss_one (dps_append 1 (by rfl) (qpv 1) (dpv 4) (by rfl) (by rfl) (by rfl)))))
      (dpss_one (dps_ret (dpe_tup (dpa_cons (dpv 1) (dpa_cons (dpv 0) dpa_nil))))))))), fun ds Qd h => ?_⟩
  obtain ⟨b, rfl, hb, q⟩ := h
  show (_ : TSD) _ [some (false, .int b), none, none, none, none] _
  have a6 := Int.emod_nonneg b (show (6 : Int) ≠ 0 by decide)
  have a6' := Int.emod_lt_of_pos b (show (0 : Int) < 6 by decide)
  obtain ⟨m, em, hm1, hm8⟩ : ∃ m : Nat, 1 + b % 6 = (m : Int) ∧ 1 ≤ m ∧ m ≤ 6 := ⟨(1 + b % 6).toNat, by omega, by omega, by omega⟩
  have hb1 : 0 ≤ b / 6 := Int.ediv_nonneg hb (by decide)
  walk_at "d"
  rw [em]
  refine lp_rng (fun j ρ => ∃ (bb : Int) (r : List Int) (x5 x6 : Option (Bool × D)), ρ = [some (false, .int bb), some (true, iD r), some (false, .int (m : Int)), x5, x6] ∧ 0 ≤ bb ∧ r.length = j ∧ ∀ x ∈ r, Nm x) ⟨b / 6, [], _, _, rfl, hb1, rfl, fun _ z => by cases z⟩ ?_ ?_
  · rintro j ρ hj ⟨bb, r, x5, x6, rfl, hbb, hrl, hr⟩
    rw [Int.toNat_natCast] at hj
    walk_at "d"
    refine ⟨bb, rfl, hbb, fun v b' hv hb' => ?_⟩
    walk_at "d"
    refine ⟨r.map .int, rfl, by rw [List.length_map]; omega, ?_⟩
    walk_at "d"
    refine ⟨b', r ++ [v], _, _, rfl, hb', by rw [List.length_append, hrl]; rfl, fun x hx => ?_⟩
    rcases List.mem_append.mp hx with hx | hx
    · exact hr x hx
    · rw [List.mem_singleton.mp hx]; exact hv
  · rintro ρ ⟨bb, r, x5, x6, rfl, hbb, hrl, hr⟩
    rw [Int.toNat_natCast] at hrl
    walk_at "d"
    exact q r bb ⟨fun z => by rw [z] at hrl; simp at hrl; omega, by omega, hr⟩ hbb
-- _law_pieces  N = [(0, '_law_big_here'), (1, '_law_pieces_here'), (2, '_law_most'), (3, '_law_many'), (4, '_law_k'), (5, '_law_piece'), (6, '_law_size'), (7, '_law_j'), (8, '_law_arrow')]  cells = []
abbrev s_l_pieces : Stmt := top 20
theorem sc_l_pieces : FnScope ["_law_big_here", "_law_pieces_here", "_law_most", "_law_many", "_law_k", "_law_piece", "_law_size", "_law_j", "_law_arrow"] ["_law_big_here"] (defScope s_l_pieces) := ⟨rfl, rfl, rfl, by decide +kernel, rfl, by decide +kernel, by decide +kernel⟩
def sp_pieces : SpD := fun ds Q _ => ∃ b : Int, ds = [.int b] ∧ 0 ≤ b ∧ ∀ ps, PsN ps → Q (psD ps) true
theorem ok_l_pieces {f : Addr} {fd : FuncData} (F : Fun K "_law_pieces" "_law_pieces" s_l_pieces f fd) (T : Blt mg) (D_l_places : Df P w K mg base "_law_places" ["_law_big_here", "_law_many", "_law_most"] 1 (SpL K sp_places)) : FnOk P w K mg base CX0 2 f fd ["_law_big_here"] (SpL K sp_pieces) := by
  refine ok0 F sc_l_pieces (fun ds Q X h => ?_) (fun cdv A outer s H E hr => ?_) fun ds Qd Xd h => h
  · obtain ⟨b, rfl, _⟩ := h; rfl
  refine ⟨_, (dpss_cons (dpset 1 sc_l_pieces.nd (dpe_lst dpa_nil))
      (dpss_cons (dpset 2 sc_l_pieces.nd (dpe_ix (dix (by rfl)) (dpe_tup (dpa_cons dpe_int (dpa_cons dpe_int (dpa_cons (dpe_op dop_pow dpe_int dpe_int) dpa_nil)))) (dpe_op dop_mod (dpv 0) dpe_int) (fun _ _ => rfl)))
      (dpss_cons (dpset 3 sc_l_pieces.nd (dpe_op dop_add dpe_int (dpe_op dop_mod (dpe_op dop_fdiv (dpv 0) dpe_int) dpe_int)))
      (dpss_cons (dpset 0 sc_l_pieces.nd (dpe_op dop_fdiv (dpv 0) dpe_int))
      (dpss_cons (dps_for PassesOwn.never rfl (dpi_range1 (by rfl) (by exact T.range) (dpa_cons (dpv 3) dpa_nil)) (dpgn 4 sc_l_pieces.nd) (dpss_cons (dpset 5 sc_l_pieces.nd (dpe_lst dpa_nil))
      (dpss_cons (dpset 6 sc_l_pieces.nd (dpe_op dop_add dpe_int (dpe_op dop_mod (dpv 0) dpe_int)))
      (dpss_cons (dpset 0 sc_l_pieces.nd (dpe_op dop_fdiv (dpv 0) dpe_int))
      (dpss_cons (dps_for PassesOwn.never rfl (dpi_range1 (by rfl) (by exact T.range) (dpa_cons (dpv 6) dpa_nil)) (dpgn 7 sc_l_pieces.nd) (dpss_cons (dps_unp [8, 0] 2 rfl (by rfl) (by rfl) (qpgs_cons (qpgn 8 sc_l_pieces.nd) (qpgs_cons (qpgn 0 sc_l_pieces.nd) qpgs_nil)) (by rfl) (by rfl) (dpe_df (by exact D_l_places) (by exact hr.mono (by omega)) (dpa_cons (dpv 0) (dpa_cons dpe_int (dpa_cons (dpv 2) dpa_nil)))))
      (dpss_one (dps_append 5 (by rfl) (qpv 5) (dpe_callTy (dcl_tuple (by rfl)) (by rfl) (by exact T.tuple) (by decide +kernel) (dpa_cons (dpv 8) dpa_nil)) (by rfl) (by rfl) (by rfl)))))
      (dpss_one (dps_append 1 (by rfl) (qpv 1) (dpv 5) (by rfl) (by rfl) (by rfl))))))))
      (dpss_one (dps_ret (dpv 1)))))))), fun ds Qd h => ?_⟩
  obtain ⟨b, rfl, hb, q⟩ := h
  show (_ : TSD) _ [some (false, .int b), none, none, none, none, none, none, none, none] _
  walk_at "d"
  obtain ⟨v, hv, ev⟩ := at_any (os := [3, 12, 10 ^ Int.toNat 30]) (z := b % 3) (by have := Int.emod_nonneg b (show (3 : Int) ≠ 0 by decide); show -(3 : Int) ≤ _; omega) (by have := Int.emod_lt_of_pos b (show (0 : Int) < 3 by decide); show _ < (3 : Int); omega)
  have hb30 : ∀ v ∈ ([3, 12, 10 ^ Int.toNat 30] : List Int), 0 < v ∧ v ≤ ((10 ^ 30 : Nat) : Int) := by decide +kernel
  have hv2 := hb30 v hv
  refine ⟨_, ev, ?_⟩
  have a4 := Int.emod_nonneg (b / 3) (show (4 : Int) ≠ 0 by decide)
  have a4' := Int.emod_lt_of_pos (b / 3) (show (0 : Int) < 4 by decide)
  obtain ⟨m, em, hm1, hm8⟩ : ∃ m : Nat, 2 + b / 3 % 4 = (m : Int) ∧ 2 ≤ m ∧ m ≤ 5 := ⟨(2 + b / 3 % 4).toNat, by omega, by omega, by omega⟩
  walk_at "d"
  rw [em]
  refine lp_rng (fun i ρ => ∃ (b : Int) (ps : List (List Ar)) (x1 x2 x3 x4 x5 : Option (Bool × D)), ρ = [some (false, .int b), some (true, psD ps), some (false, .int v), some (false, .int (m : Int)), x1, x2, x3, x4, x5] ∧ 0 ≤ b ∧ ps.length = i ∧ ∀ p ∈ ps, PcN p) ⟨b / 12, [], _, _, _, _, _, rfl, Int.ediv_nonneg hb (by decide), rfl, fun _ z => by cases z⟩ ?_ ?_
  · rintro i ρ hi ⟨b, ps, x1, x2, x3, x4, x5, rfl, hb, hpl, hps⟩
    rw [Int.toNat_natCast] at hi
    have a3 := Int.emod_nonneg b (show (3 : Int) ≠ 0 by decide)
    have a3' := Int.emod_lt_of_pos b (show (0 : Int) < 3 by decide)
    obtain ⟨n, en, hn1, hn3⟩ : ∃ n : Nat, 1 + b % 3 = (n : Int) ∧ 1 ≤ n ∧ n ≤ 3 := ⟨(1 + b % 3).toNat, by omega, by omega, by omega⟩
    walk_at "d"
    rw [en]
    refine lp_rng (fun j ρ => ∃ (b : Int) (p : List Ar) (x4 x5 : Option (Bool × D)), ρ = [some (false, .int b), some (true, psD ps), some (false, .int v), some (false, .int (m : Int)), some (false, .int (0 + (i : Int))), some (true, pcD p), some (false, .int (n : Int)), x4, x5] ∧ 0 ≤ b ∧ p.length = j ∧ ∀ a ∈ p, ArN a) ⟨b / 3, [], _, _, rfl, Int.ediv_nonneg hb (by decide), rfl, fun _ z => by cases z⟩ ?_ ?_
    · rintro j ρ hj ⟨b, p, x4, x5, rfl, hb, hpl2, hp⟩
      rw [Int.toNat_natCast] at hj
      walk_at "d"
      refine ⟨b, v, rfl, hb, hv2.1, hv2.2, fun i' j' k' b' ha hb' => ?_⟩
      walk_at "d"
      refine ⟨p.map arD, rfl, by rw [List.length_map]; omega, ?_⟩
      walk_at "d"
      refine ⟨by simp, ?_⟩
      walk_at "d"
      refine ⟨b', p ++ [(i', j', k')], _, _, by unfold pcD; rw [List.map_append]; rfl, hb', by rw [List.length_append, hpl2]; rfl, fun a ha' => ?_⟩
      rcases List.mem_append.mp ha' with hx | hx
      · exact hp a hx
      · rw [List.mem_singleton.mp hx]; exact ha
    · rintro ρ ⟨b, p, x4, x5, rfl, hb, hpl2, hp⟩
      rw [Int.toNat_natCast] at hpl2
      walk_at "d"
      refine ⟨ps.map pcD, rfl, by rw [List.length_map]; omega, ?_⟩
      walk_at "d"
      refine ⟨by simp, ?_⟩
      walk_at "d"
      refine ⟨b, ps ++ [p], _, _, _, _, _, by unfold psD; rw [List.map_append]; rfl, hb, by rw [List.length_append, hpl]; rfl, fun x hx => ?_⟩
      rcases List.mem_append.mp hx with hx | hx
      · exact hps x hx
      · rw [List.mem_singleton.mp hx]; exact ⟨fun z => by rw [z] at hpl2; simp at hpl2; omega, by omega, hp⟩
  · rintro ρ ⟨b, ps, x1, x2, x3, x4, x5, rfl, hb, hpl, hps⟩
    rw [Int.toNat_natCast] at hpl
    walk_at "d"
    exact q ps ⟨by omega, by omega, hps⟩
end
end K83

namespace K83
open PySem PySem.Spec PyProof.Rows L2 DL M82 M83 PySem.NumText
section
variable {P : Program} {w : World} {K : PySem.W.Frag} {mg : Str → Option Value} {base : Heap}
inductive Mv where
  | nums (w s : Str) (ns : List Int)
  | cut (w : Str) (n : Int) (ps : List (List Ar))
  | lay (n : Int) (a b : List Int)
def WDS : List (Str × Str × Nat) := [("swap", "swap", 2), ("join out", "join-out", 2), ("join in", "join-in", 2), ("draw", "draw", 1), ("row", "row", 3), ("column", "column", 3)]
def MOk : Mv → Prop
  | .nums w s ns => (w, s, ns.length) ∈ WDS ∧ ∀ x ∈ ns, Nm x
  | .cut w n ps => (w = "out" ∨ w = "in") ∧ Nm n ∧ PsN ps
  | .lay n a b => Nm n ∧ RwN a ∧ RwN b
def mD : Mv → D
  | .nums w _ ns => .tuple (.str w :: ns.map .int)
  | .cut w n ps => .tuple [.str w, .int n, psD ps]
  | .lay n a b => .tuple [.str "lay", .int n, iD a, iD b]
theorem at_str {os : List Str} {z : Int} (h : 0 ≤ z) (h' : z < os.length) : ∃ a, a ∈ os ∧ atI (os.map PyData.str) z = some (.str a) := by
  have hl : (os.map PyData.str).length = os.length := List.length_map _
  have hj : z.toNat < os.length := by omega
  refine ⟨os[z.toNat], List.getElem_mem hj, atI_of (j := z.toNat) ?_ (by rw [List.getElem?_map, List.getElem?_eq_getElem hj]; rfl)⟩
  rw [hl]
  unfold ixN
  rw [if_pos h, if_pos h']
-- _law_move  N = [(0, '_law_script'), (1, '_law_at'), (2, '_law_big_here'), (3, '_law_word'), (4, '_law_one'), (5, '_law_other'), (6, '_law_third'), (7, '_law_ins'), (8, '_law_rest'), (9, '_law_outs')]  cells = []
abbrev s_l_move : Stmt := top 22
theorem sc_l_move : FnScope ["_law_script", "_law_at", "_law_big_here", "_law_word", "_law_one", "_law_other", "_law_third", "_law_ins", "_law_rest", "_law_outs"] ["_law_script", "_law_at"] (defScope s_l_move) := ⟨rfl, rfl, rfl, by decide +kernel, rfl, by decide +kernel, by decide +kernel⟩
def sp_move : SpD := fun ds Q _ => ∃ (ns : List Int) (k : Int), ds = [scr ns, .int k] ∧ 0 ≤ k ∧ ∀ m, MOk m → Q (mD m) true
theorem ok_l_move {f : Addr} {fd : FuncData} (F : Fun K "_law_move" "_law_move" s_l_move f fd) (T : Blt mg) (D_l_big : Df P w K mg base "_law_big" ["_law_script", "_law_at"] 2 (SpL K sp_big)) (D_l_number : Df P w K mg base "_law_number" ["_law_big_here"] 1 (SpL K sp_number)) (D_l_pieces : Df P w K mg base "_law_pieces" ["_law_big_here"] 2 (SpL K sp_pieces)) (D_l_some : Df P w K mg base "_law_some" ["_law_big_here"] 2 (SpL K sp_some)) : FnOk P w K mg base CX0 3 f fd ["_law_script", "_law_at"] (SpL K sp_move) := by
  refine ok0 F sc_l_move (fun ds Q X h => ?_) (fun cdv A outer s H E hr => ?_) fun ds Qd Xd h => h
  · obtain ⟨ns, k, rfl, _⟩ := h; rfl
  refine ⟨_, (dpss_cons (dpset 2 sc_l_move.nd (dpe_df (by exact D_l_big) (by exact hr.mono (by omega)) (dpa_cons (dpv 0) (dpa_cons (dpv 1) dpa_nil))))
      (dpss_cons (dpset 3 sc_l_move.nd (dpe_ix (dix (by rfl)) (dpe_tup (dpa_cons dpe_str (dpa_cons dpe_str (dpa_cons dpe_str (dpa_cons dpe_str (dpa_cons dpe_str (dpa_cons dpe_str (dpa_cons dpe_str (dpa_cons dpe_str (dpa_cons dpe_str dpa_nil)))))))))) (dpe_op dop_mod (dpv 2) dpe_int) (fun _ _ => rfl)))
      (dpss_cons (dps_unp [4, 2] 2 rfl (by rfl) (by rfl) (qpgs_cons (qpgn 4 sc_l_move.nd) (qpgs_cons (qpgn 2 sc_l_move.nd) qpgs_nil)) (by rfl) (by rfl) (dpe_df (by exact D_l_number) (by exact hr.mono (by omega)) (dpa_cons (dpe_op dop_fdiv (dpv 2) dpe_int) dpa_nil)))
      (dpss_cons (dps_unp [5, 2] 2 rfl (by rfl) (by rfl) (qpgs_cons (qpgn 5 sc_l_move.nd) (qpgs_cons (qpgn 2 sc_l_move.nd) qpgs_nil)) (by rfl) (by rfl) (dpe_df (by exact D_l_number) (by exact hr.mono (by omega)) (dpa_cons (dpv 2) dpa_nil)))
      (dpss_cons (dps_unp [6, 2] 2 rfl (by rfl) (by rfl) (qpgs_cons (qpgn 6 sc_l_move.nd) (qpgs_cons (qpgn 2 sc_l_move.nd) qpgs_nil)) (by rfl) (by rfl) (dpe_df (by exact D_l_number) (by exact hr.mono (by omega)) (dpa_cons (dpv 2) dpa_nil)))
      (dpss_cons (dps_if (dpt_cmp (dop_in (by rfl)) (dpv 3) (dpe_tup (dpa_cons dpe_str (dpa_cons dpe_str dpa_nil))) rfl) (dpss_one (dps_ret (dpe_tup (dpa_cons (dpv 3) (dpa_cons (dpv 4) (dpa_cons (dpe_df (by exact D_l_pieces) (by exact hr.mono (by omega)) (dpa_cons (dpe_df (by exact D_l_big) (by exact hr.mono (by omega)) (dpa_cons (dpv 0) (dpa_cons (dpe_op dop_add (dpv 1) dpe_int) dpa_nil))) dpa_nil)) dpa_nil)))))) dpss_nil)
      (dpss_cons (dps_if (dpt_cmp (dop_eq (by rfl) (by exact hr.units)) (dpv 3) dpe_str (nomark _)) (dpss_cons (dps_unp [7, 8] 2 rfl (by rfl) (by rfl) (qpgs_cons (qpgn 7 sc_l_move.nd) (qpgs_cons (qpgn 8 sc_l_move.nd) qpgs_nil)) (by rfl) (by rfl) (dpe_df (by exact D_l_some) (by exact hr.mono (by omega)) (dpa_cons (dpe_df (by exact D_l_big) (by exact hr.mono (by omega)) (dpa_cons (dpv 0) (dpa_cons (dpe_op dop_add (dpv 1) dpe_int) dpa_nil))) dpa_nil)))
      (dpss_cons (dps_unp [9, 8] 2 rfl (by rfl) (by rfl) (qpgs_cons (qpgn 9 sc_l_move.nd) (qpgs_cons (qpgn 8 sc_l_move.nd) qpgs_nil)) (by rfl) (by rfl) (dpe_df (by exact D_l_some) (by exact hr.mono (by omega)) (dpa_cons (dpv 8) dpa_nil)))
      (dpss_one (dps_ret (dpe_tup (dpa_cons (dpv 3) (dpa_cons (dpv 4) (dpa_cons (dpv 7) (dpa_cons (dpv 9) dpa_nil))))))))) dpss_nil)
      (dpss_cons (dps_if (dpt_cmp (dop_eq (by rfl) (by exact hr.units)) (dpv 3) dpe_str (nomark _)) (dpss_one (dps_ret (dpe_tup (dpa_cons (dpv 3) (dpa_cons (dpv 4) dpa_nil))))) dpss_nil)
      (dpss_cons (dps_if (dpt_cmp (dop_in (by rfl)) (dpv 3) (dpe_tup (dpa_cons dpe_str (dpa_cons dpe_str dpa_nil))) rfl) (dpss_one (dps_ret (dpe_tup (dpa_cons (dpv 3) (dpa_cons (dpv 4) (dpa_cons (dpv 5) (dpa_cons (dpv 6) dpa_nil))))))) dpss_nil)
      (dpss_one (dps_ret (dpe_tup (dpa_cons (dpv 3) (dpa_cons (dpv 4) (dpa_cons (dpv 5) dpa_nil))))))))))))))), fun ds Qd h => ?_⟩
  obtain ⟨ns, k, rfl, hk, q⟩ := h
  show (_ : TSD) _ [some (false, scr ns), some (false, .int k), none, none, none, none, none, none, none, none] _
  walk_at "d"
  refine ⟨ns, k, rfl, hk, fun b hb => ?_⟩
  walk_at "d"
  obtain ⟨v, hv, ev⟩ := at_str (os := ["swap", "out", "in", "join out", "join in", "draw", "lay", "row", "column"]) (z := b % 9) (Int.emod_nonneg b (by decide)) (by have := Int.emod_lt_of_pos b (show (0 : Int) < 9 by decide); show _ < (9 : Int); omega)
  refine ⟨_, ev, ?_⟩
  have hb9 : 0 ≤ b / 9 := Int.ediv_nonneg hb (by decide)
  walk_at "d"
  refine ⟨b / 9, rfl, hb9, fun n1 b1 hn1 hb1 => ?_⟩
  walk_at "d"
  refine ⟨b1, rfl, hb1, fun n2 b2 hn2 hb2 => ?_⟩
  walk_at "d"
  refine ⟨b2, rfl, hb2, fun n3 b3 hn3 hb3 => ?_⟩
  clear ev
  simp only [List.mem_cons, List.not_mem_nil, or_false] at hv
  rcases hv with rfl | rfl | rfl | rfl | rfl | rfl | rfl | rfl | rfl
  · walk_at "d"
    rw [if_neg (by decide +kernel)]
    walk_at "d"
    refine ⟨⟨lay_s (by decide +kernel), lay_s (by decide +kernel), depth_s _⟩, ?_⟩
    rw [eqv_s, decide_eq_false (by decide +kernel), id_eq]
    walk_at "d"
    refine ⟨⟨lay_s (by decide +kernel), lay_s (by decide +kernel), depth_s _⟩, ?_⟩
    rw [eqv_s, decide_eq_false (by decide +kernel), id_eq]
    walk_at "d"
    rw [if_neg (by decide +kernel)]
    walk_at "d"
    exact q (.nums "swap" "swap" [n1, n2]) ⟨(show (("swap" : Str), ("swap" : Str), (2 : Nat)) ∈ WDS from by decide +kernel), fun x hx => by simp only [List.mem_cons, List.not_mem_nil, or_false] at hx; rcases hx with rfl | rfl <;> assumption⟩
  · walk_at "d"
    rw [if_pos (by decide +kernel)]
    walk_at "d"
    refine ⟨ns, k + 1, rfl, by omega, fun c hc => ?_⟩
    walk_at "d"
    refine ⟨c, rfl, hc, fun ps hps => ?_⟩
    walk_at "d"
    exact q (.cut "out" n1 ps) ⟨.inl rfl, hn1, hps⟩
  · walk_at "d"
    rw [if_pos (by decide +kernel)]
    walk_at "d"
    refine ⟨ns, k + 1, rfl, by omega, fun c hc => ?_⟩
    walk_at "d"
    refine ⟨c, rfl, hc, fun ps hps => ?_⟩
    walk_at "d"
    exact q (.cut "in" n1 ps) ⟨.inr rfl, hn1, hps⟩
  · walk_at "d"
    rw [if_neg (by decide +kernel)]
    walk_at "d"
    refine ⟨⟨lay_s (by decide +kernel), lay_s (by decide +kernel), depth_s _⟩, ?_⟩
    rw [eqv_s, decide_eq_false (by decide +kernel), id_eq]
    walk_at "d"
    refine ⟨⟨lay_s (by decide +kernel), lay_s (by decide +kernel), depth_s _⟩, ?_⟩
    rw [eqv_s, decide_eq_false (by decide +kernel), id_eq]
    walk_at "d"
    rw [if_neg (by decide +kernel)]
    walk_at "d"
    exact q (.nums "join out" "join-out" [n1, n2]) ⟨(show (("join out" : Str), ("join-out" : Str), (2 : Nat)) ∈ WDS from by decide +kernel), fun x hx => by simp only [List.mem_cons, List.not_mem_nil, or_false] at hx; rcases hx with rfl | rfl <;> assumption⟩
  · walk_at "d"
    rw [if_neg (by decide +kernel)]
    walk_at "d"
    refine ⟨⟨lay_s (by decide +kernel), lay_s (by decide +kernel), depth_s _⟩, ?_⟩
    rw [eqv_s, decide_eq_false (by decide +kernel), id_eq]
    walk_at "d"
    refine ⟨⟨lay_s (by decide +kernel), lay_s (by decide +kernel), depth_s _⟩, ?_⟩
    rw [eqv_s, decide_eq_false (by decide +kernel), id_eq]
    walk_at "d"
    rw [if_neg (by decide +kernel)]
    walk_at "d"
    exact q (.nums "join in" "join-in" [n1, n2]) ⟨(show (("join in" : Str), ("join-in" : Str), (2 : Nat)) ∈ WDS from by decide +kernel), fun x hx => by simp only [List.mem_cons, List.not_mem_nil, or_false] at hx; rcases hx with rfl | rfl <;> assumption⟩
  · walk_at "d"
    rw [if_neg (by decide +kernel)]
    walk_at "d"
    refine ⟨⟨lay_s (by decide +kernel), lay_s (by decide +kernel), depth_s _⟩, ?_⟩
    rw [eqv_s, decide_eq_false (by decide +kernel), id_eq]
    walk_at "d"
    refine ⟨⟨lay_s (by decide +kernel), lay_s (by decide +kernel), depth_s _⟩, ?_⟩
    rw [eqv_s, decide_eq_true (by decide +kernel), id_eq]
    walk_at "d"
    exact q (.nums "draw" "draw" [n1]) ⟨(show (("draw" : Str), ("draw" : Str), (1 : Nat)) ∈ WDS from by decide +kernel), fun x hx => by rw [List.mem_singleton.mp hx]; exact hn1⟩
  · walk_at "d"
    rw [if_neg (by decide +kernel)]
    walk_at "d"
    refine ⟨⟨lay_s (by decide +kernel), lay_s (by decide +kernel), depth_s _⟩, ?_⟩
    rw [eqv_s, decide_eq_true (by decide +kernel), id_eq]
    walk_at "d"
    refine ⟨ns, k + 1, rfl, by omega, fun c hc => ?_⟩
    walk_at "d"
    refine ⟨c, rfl, hc, fun r1 c1 hr1 hc1 => ?_⟩
    walk_at "d"
    refine ⟨c1, rfl, hc1, fun r2 c2 hr2 hc2 => ?_⟩
    walk_at "d"
    exact q (.lay n1 r1 r2) ⟨hn1, hr1, hr2⟩
  · walk_at "d"
    rw [if_neg (by decide +kernel)]
    walk_at "d"
    refine ⟨⟨lay_s (by decide +kernel), lay_s (by decide +kernel), depth_s _⟩, ?_⟩
    rw [eqv_s, decide_eq_false (by decide +kernel), id_eq]
    walk_at "d"
    refine ⟨⟨lay_s (by decide +kernel), lay_s (by decide +kernel), depth_s _⟩, ?_⟩
    rw [eqv_s, decide_eq_false (by decide +kernel), id_eq]
    walk_at "d"
    rw [if_pos (by decide +kernel)]
    walk_at "d"
    exact q (.nums "row" "row" [n1, n2, n3]) ⟨(show (("row" : Str), ("row" : Str), (3 : Nat)) ∈ WDS from by decide +kernel), fun x hx => by simp only [List.mem_cons, List.not_mem_nil, or_false] at hx; rcases hx with rfl | rfl | rfl <;> assumption⟩
  · walk_at "d"
    rw [if_neg (by decide +kernel)]
    walk_at "d"
    refine ⟨⟨lay_s (by decide +kernel), lay_s (by decide +kernel), depth_s _⟩, ?_⟩
    rw [eqv_s, decide_eq_false (by decide +kernel), id_eq]
    walk_at "d"
    refine ⟨⟨lay_s (by decide +kernel), lay_s (by decide +kernel), depth_s _⟩, ?_⟩
    rw [eqv_s, decide_eq_false (by decide +kernel), id_eq]
    walk_at "d"
    rw [if_pos (by decide +kernel)]
    walk_at "d"
    exact q (.nums "column" "column" [n1, n2, n3]) ⟨(show (("column" : Str), ("column" : Str), (3 : Nat)) ∈ WDS from by decide +kernel), fun x hx => by simp only [List.mem_cons, List.not_mem_nil, or_false] at hx; rcases hx with rfl | rfl | rfl <;> assumption⟩
end
end K83

namespace K83
open PySem PySem.Spec PyProof.Rows L2 DL M82 M83 PySem.NumText
section
variable {P : Program} {w : World} {K : PySem.W.Frag} {mg : Str → Option Value} {base : Heap}
-- _law_spelled  N = [(0, '_law_numbers'), (1, '_law_text'), (2, '_law_k')]  cells = []
abbrev s_l_spelled : Stmt := top 23
theorem sc_l_spelled : FnScope ["_law_numbers", "_law_text", "_law_k"] ["_law_numbers"] (defScope s_l_spelled) := ⟨rfl, rfl, rfl, by decide +kernel, rfl, by decide +kernel, by decide +kernel⟩
theorem ok_l_spelled {f : Addr} {fd : FuncData} (F : Fun K "_law_spelled" "_law_spelled" s_l_spelled f fd) (T : Blt mg) : FnOk P w K mg base CX0 1 f fd ["_law_numbers"] (SpL K sp_shs) := by
  refine ok0 F sc_l_spelled (fun ds Q X h => ?_) (fun cdv A outer s H E hr => ?_) fun ds Qd Xd h => h
  · obtain ⟨d, r, rfl, _⟩ := h; rfl
  refine ⟨_, (dpss_cons (dpset 1 sc_l_spelled.nd dpe_str)
      (dpss_cons (dps_for PassesOwn.never rfl (dpi_range1 (by rfl) (by exact T.range) (dpa_cons (dpe_callB (dcl_len (by rfl)) (by rfl) (by exact T.len) (by decide +kernel) (dpa_cons (dpv 0) dpa_nil)) dpa_nil)) (dpgn 2 sc_l_spelled.nd) (dpss_cons (dps_jn (dps_if (dpt_cmp dop_gt (dpv 2) dpe_int (nomark _)) (dpss_one (dpset 1 sc_l_spelled.nd (dpe_op dop_add (dpv 1) dpe_str))) dpss_nil))
      (dpss_one (dpset 1 sc_l_spelled.nd (dpe_op dop_add (dpv 1) (dpe_callTy dcl_str (by rfl) (by exact T.str) (by decide +kernel) (dpa_cons (dpe_ix (dix (by rfl)) (dpv 0) (dpv 2) (fun _ _ => rfl)) dpa_nil)))))))
      (dpss_one (dps_ret (dpv 1))))), fun ds Qd h => ?_⟩
  obtain ⟨d, r, rfl, hd, hr8, q⟩ := h
  show (_ : TSD) _ [some (false, d), none, none] _
  have hl := hr8.2.1
  have jl : ∀ j, (Str.join ⟨#[32]⟩ ((r.take j).map dec)).length ≤ 816 := fun j => join_len (N := 101) (fun y hy => by obtain ⟨x, hx, rfl⟩ := List.mem_map.mp hy; exact nm_len (hr8.2.2 x (List.mem_of_mem_take hx))) (by rw [List.length_map, List.length_take]; omega)
  have e32 : Str.length ⟨#[32]⟩ = 1 := rfl
  rcases hd with rfl | rfl
  · walk_at "d"
    rw [show Str.ofString "" = Str.join ⟨#[32]⟩ ((r.take 0).map dec) from by show _ = Str.empty; decide +kernel]
    refine lp_rng (fun j ρ => ∃ z : Option (Bool × D), ρ = [some (false, iD r), some (false, .str (Str.join ⟨#[32]⟩ ((r.take j).map dec))), z]) ⟨_, rfl⟩ ?_ ?_
    · rintro j ρ hj ⟨z, rfl⟩
      rw [Int.toNat_natCast] at hj
      have hlj := jl j
      obtain ⟨x, hx⟩ : ∃ x, r[j]? = some x := ⟨r[j], List.getElem?_eq_getElem hj⟩
      have hxn := hr8.2.2 x (List.mem_iff_getElem?.mpr ⟨j, hx⟩)
      have hxl := nm_len hxn
      walk_at "d"
      refine w_jn (fun ρ => ∃ t : Str, t.length ≤ 1000 ∧ t ++ dec x = Str.join ⟨#[32]⟩ ((r.take (j + 1)).map dec) ∧ ρ = [some (false, iD r), some (false, .str t), some (false, .int (0 + (j : Int)))]) (fun N hN => ?_) ?_
      · have et : (r.take (j + 1)).map dec = (r.take j).map dec ++ [dec x] := by rw [List.take_succ, hx, List.map_append]; rfl
        walk_at "d"
        refine iteb (fun h1 => ?_) fun h1 => ?_
        · walk_at "d"
          rw [e_sp]
          refine ⟨by omega, ?_⟩
          walk_at "d"
          refine hN _ ⟨_, by rw [len_app', e32]; omega, ?_, rfl⟩
          rw [et]
          cases e : (r.take j).map dec with
          | nil =>
            have := congrArg List.length e
            rw [List.length_map, List.length_take, List.length_nil] at this
            have h1' : 0 < j := by simpa using h1
            omega
          | cons a b => exact (join_snoc ⟨#[32]⟩ (dec x) a b).symm
        · walk_at "d"
          have j0 : j = 0 := by simp at h1; omega
          subst j0
          refine hN _ ⟨_, by omega, ?_, rfl⟩
          rw [et]
          exact Str.empty_append _
      rintro ρ ⟨t, ht, et, rfl⟩
      walk_at "d"
      refine ⟨.int x, by rw [Int.zero_add]; exact atI_nat (by rw [List.getElem?_map, hx]; rfl), ?_⟩
      walk_at "d"
      refine ⟨nm_log hxn, ?_⟩
      rw [show Str.ofString (toString x) = dec x from rfl]
      walk_at "d"
      rw [et]
      exact ⟨_, rfl⟩
    · rintro ρ ⟨z, rfl⟩
      rw [Int.toNat_natCast, List.take_length]
      walk_at "d"
      exact q
  · walk_at "d"
    rw [show Str.ofString "" = Str.join ⟨#[32]⟩ ((r.take 0).map dec) from by show _ = Str.empty; decide +kernel]
    rw [List.length_map]
    refine ⟨⟨by omega, by omega⟩, trivial, ?_⟩
    refine lp_rng (fun j ρ => ∃ z : Option (Bool × D), ρ = [some (false, (PyData.tuple (r.map PyData.int))), some (false, .str (Str.join ⟨#[32]⟩ ((r.take j).map dec))), z]) ⟨_, rfl⟩ ?_ ?_
    · rintro j ρ hj ⟨z, rfl⟩
      rw [Int.toNat_natCast] at hj
      have hlj := jl j
      obtain ⟨x, hx⟩ : ∃ x, r[j]? = some x := ⟨r[j], List.getElem?_eq_getElem hj⟩
      have hxn := hr8.2.2 x (List.mem_iff_getElem?.mpr ⟨j, hx⟩)
      have hxl := nm_len hxn
      walk_at "d"
      refine w_jn (fun ρ => ∃ t : Str, t.length ≤ 1000 ∧ t ++ dec x = Str.join ⟨#[32]⟩ ((r.take (j + 1)).map dec) ∧ ρ = [some (false, (PyData.tuple (r.map PyData.int))), some (false, .str t), some (false, .int (0 + (j : Int)))]) (fun N hN => ?_) ?_
      · have et : (r.take (j + 1)).map dec = (r.take j).map dec ++ [dec x] := by rw [List.take_succ, hx, List.map_append]; rfl
        walk_at "d"
        refine iteb (fun h1 => ?_) fun h1 => ?_
        · walk_at "d"
          rw [e_sp]
          refine ⟨by omega, ?_⟩
          walk_at "d"
          refine hN _ ⟨_, by rw [len_app', e32]; omega, ?_, rfl⟩
          rw [et]
          cases e : (r.take j).map dec with
          | nil =>
            have := congrArg List.length e
            rw [List.length_map, List.length_take, List.length_nil] at this
            have h1' : 0 < j := by simpa using h1
            omega
          | cons a b => exact (join_snoc ⟨#[32]⟩ (dec x) a b).symm
        · walk_at "d"
          have j0 : j = 0 := by simp at h1; omega
          subst j0
          refine hN _ ⟨_, by omega, ?_, rfl⟩
          rw [et]
          exact Str.empty_append _
      rintro ρ ⟨t, ht, et, rfl⟩
      walk_at "d"
      refine ⟨.int x, by rw [Int.zero_add]; exact atI_nat (by rw [List.getElem?_map, hx]; rfl), ?_⟩
      walk_at "d"
      refine ⟨nm_log hxn, ?_⟩
      rw [show Str.ofString (toString x) = dec x from rfl]
      walk_at "d"
      rw [et]
      exact ⟨_, rfl⟩
    · rintro ρ ⟨z, rfl⟩
      rw [Int.toNat_natCast, List.take_length]
      walk_at "d"
      exact q
theorem cut1 (x : D) (xs : List D) : DL.cutD (x :: xs) (some 1) none = xs := by
  unfold DL.cutD
  have e : HT.sIx (x :: xs).length 0 (some 1) = 1 := by simp [HT.sIx]
  rw [e, HT.sIx_none, List.length_cons, Nat.add_sub_cancel, List.drop_one, List.tail_cons, List.take_length]
/-! ### texts of moves -/
def arT (a : Ar) : Str := Str.join ⟨#[45]⟩ [dec a.1, dec a.2.1, dec a.2.2]
def pcT (p : List Ar) : Str := Str.join ⟨#[32]⟩ (p.map arT)
def mW : Mv → Str
  | .nums _ s _ => s
  | .cut w _ _ => w
  | .lay _ _ _ => "lay"
def mR : Mv → Str
  | .nums _ _ ns => spl ns
  | .cut _ n ps => Str.join SEP (dec n :: ps.map pcT)
  | .lay n a b => Str.join SEP [dec n, spl a, spl b]
def mT (m : Mv) : Str := mW m ++ ⟨#[32]⟩ ++ mR m
def spx : List Str → Str
  | [] => Str.ofString ""
  | x :: r => ⟨#[32]⟩ ++ Str.join ⟨#[32]⟩ (x :: r)
theorem e_empty : Str.ofString "" = Str.empty := by decide +kernel
theorem spx_snoc (l : List Str) (y : Str) : spx (l ++ [y]) = spx l ++ ⟨#[32]⟩ ++ y := by
  cases l with
  | nil =>
    show ⟨#[32]⟩ ++ y = Str.ofString "" ++ ⟨#[32]⟩ ++ y
    rw [e_empty, Str.empty_append]
  | cons x r =>
    show ⟨#[32]⟩ ++ Str.join ⟨#[32]⟩ ((x :: r) ++ [y]) = ⟨#[32]⟩ ++ Str.join ⟨#[32]⟩ (x :: r) ++ ⟨#[32]⟩ ++ y
    rw [join_snoc]
    simp only [Str.append_assoc]
theorem arT_is (a : Ar) : arT a = dec a.1 ++ ⟨#[45]⟩ ++ dec a.2.1 ++ ⟨#[45]⟩ ++ dec a.2.2 := by
  show dec a.1 ++ ⟨#[45]⟩ ++ (dec a.2.1 ++ ⟨#[45]⟩ ++ dec a.2.2) = _
  simp only [Str.append_assoc]
theorem arT_len {a : Ar} (h : ArN a) : (arT a).length ≤ 305 := by
  have e45 : Str.length ⟨#[45]⟩ = 1 := rfl
  have h1 := nm_len h.1.2
  have h2 := nm_len h.2.1.2
  have h3 := nm_len h.2.2.2
  rw [arT_is, len_app', len_app', len_app', len_app', e45]
  omega
theorem pcT_len {p : List Ar} (h : PcN p) : (pcT p).length ≤ 2448 := join_len (N := 305) (fun y hy => by obtain ⟨x, hx, rfl⟩ := List.mem_map.mp hy; exact arT_len (h.2.2 x hx)) (by rw [List.length_map]; have := h.2.1; omega)
theorem spx_len {l : List Str} {N : Nat} (h : ∀ y ∈ l, y.length ≤ N) (hl : l.length ≤ 8) : (spx l).length ≤ 8 * N + 9 := by
  cases l with
  | nil => have e : (Str.ofString "").length = 0 := by decide +kernel
           show (Str.ofString "").length ≤ _
           omega
  | cons x r =>
    have e32 : Str.length ⟨#[32]⟩ = 1 := rfl
    have := join_len (c := 32) h hl
    show (⟨#[32]⟩ ++ Str.join ⟨#[32]⟩ (x :: r) : Str).length ≤ _
    rw [len_app', e32]
    omega
-- _law_piece_text  N = [(0, '_law_piece'), (1, '_law_text'), (2, '_law_i'), (3, '_law_j'), (4, '_law_k')]  cells = []
abbrev s_l_piece_text : Stmt := top 24
theorem sc_l_piece_text : FnScope ["_law_piece", "_law_text", "_law_i", "_law_j", "_law_k"] ["_law_piece"] (defScope s_l_piece_text) := ⟨rfl, rfl, rfl, by decide +kernel, rfl, by decide +kernel, by decide +kernel⟩
def sp_ptx : SpD := fun ds Q _ => ∃ p : List Ar, ds = [pcD p] ∧ PcN p ∧ Q (.str (⟨#[32]⟩ ++ pcT p)) true
theorem ok_l_piece_text {f : Addr} {fd : FuncData} (F : Fun K "_law_piece_text" "_law_piece_text" s_l_piece_text f fd) (T : Blt mg) : FnOk P w K mg base CX0 1 f fd ["_law_piece"] (SpL K sp_ptx) := by
  refine ok0 F sc_l_piece_text (fun ds Q X h => ?_) (fun cdv A outer s H E hr => ?_) fun ds Qd Xd h => h
  · obtain ⟨p, rfl, _⟩ := h; rfl
  refine ⟨_, (dpss_cons (dpset 1 sc_l_piece_text.nd dpe_str)
      (dpss_cons (dps_frz 0 (dps_for PassesOwn.never rfl (dpi_list (by rfl) (dpv 0)) (dpg_tup 3 (by rfl) (by rfl) (dpgs_cons (dpgn 2 sc_l_piece_text.nd) (dpgs_cons (dpgn 3 sc_l_piece_text.nd) (dpgs_cons (dpgn 4 sc_l_piece_text.nd) dpgs_nil))) (by rfl) (by rfl)) (dpss_one (dpset 1 sc_l_piece_text.nd (dpe_op dop_add (dpe_op dop_add (dpe_op dop_add (dpe_op dop_add (dpe_op dop_add (dpe_op dop_add (dpv 1) dpe_str) (dpe_callTy dcl_str (by rfl) (by exact T.str) (by decide +kernel) (dpa_cons (dpv 2) dpa_nil))) dpe_str) (dpe_callTy dcl_str (by rfl) (by exact T.str) (by decide +kernel) (dpa_cons (dpv 3) dpa_nil))) dpe_str) (dpe_callTy dcl_str (by rfl) (by exact T.str) (by decide +kernel) (dpa_cons (dpv 4) dpa_nil)))))))
      (dpss_one (dps_ret (dpv 1))))), fun ds Qd h => ?_⟩
  obtain ⟨p, rfl, hp, q⟩ := h
  show (_ : TSD) _ [some (false, .list (p.map arD)), none, none, none, none] _
  have hl := hp.2.1
  have e32 : Str.length ⟨#[32]⟩ = 1 := rfl
  have e45 : Str.length ⟨#[45]⟩ = 1 := rfl
  walk_at "d"
  refine lp_list (fun j ρ => ∃ x1 x2 x3 : Option (Bool × D), ρ = [some (false, .list (p.map arD)), some (false, .str (spx ((p.take j).map arT))), x1, x2, x3]) ⟨_, _, _, rfl⟩ ?_ ?_
  · rintro j d ρ hd ⟨x1, x2, x3, rfl⟩
    obtain ⟨a, ha, rfl⟩ : ∃ a, p[j]? = some a ∧ d = arD a := by
      rw [List.getElem?_map] at hd
      cases e : p[j]? with
      | none => rw [e] at hd; cases hd
      | some r => rw [e] at hd; cases hd; exact ⟨r, rfl, rfl⟩
    have hN := hp.2.2 a (List.mem_iff_getElem?.mpr ⟨j, ha⟩)
    have h1 := nm_len hN.1.2
    have h2 := nm_len hN.2.1.2
    have h3 := nm_len hN.2.2.2
    have hs : (spx ((p.take j).map arT)).length ≤ 8 * 305 + 9 := spx_len (fun y hy => by obtain ⟨x, hx, rfl⟩ := List.mem_map.mp hy; exact arT_len (hp.2.2 x (List.mem_of_mem_take hx))) (by rw [List.length_map, List.length_take]; omega)
    have et : spx ((p.take (j + 1)).map arT) = spx ((p.take j).map arT) ++ ⟨#[32]⟩ ++ dec a.1 ++ ⟨#[45]⟩ ++ dec a.2.1 ++ ⟨#[45]⟩ ++ dec a.2.2 := by
      rw [List.take_succ, ha, List.map_append]
      show spx ((p.take j).map arT ++ [arT a]) = _
      rw [spx_snoc, arT_is]
      simp only [Str.append_assoc]
    rw [show arD a = .tuple [.int a.1, .int a.2.1, .int a.2.2] from rfl]
    walk_at "d"
    rw [e_sp]
    refine ⟨by omega, ?_⟩
    walk_at "d"
    refine ⟨nm_log hN.1.2, ?_⟩
    rw [show Str.ofString (toString a.1) = dec a.1 from rfl]
    walk_at "d"
    refine ⟨(by simp only [len_app', e32, e45]; omega), ?_⟩
    walk_at "d"
    rw [e_min]
    refine ⟨(by simp only [len_app', e32, e45]; omega), ?_⟩
    walk_at "d"
    refine ⟨nm_log hN.2.1.2, ?_⟩
    rw [show Str.ofString (toString a.2.1) = dec a.2.1 from rfl]
    walk_at "d"
    refine ⟨(by simp only [len_app', e32, e45]; omega), ?_⟩
    walk_at "d"
    refine ⟨(by simp only [len_app', e32, e45]; omega), ?_⟩
    walk_at "d"
    refine ⟨nm_log hN.2.2.2, ?_⟩
    rw [show Str.ofString (toString a.2.2) = dec a.2.2 from rfl]
    walk_at "d"
    refine ⟨(by simp only [len_app', e32, e45]; omega), ?_⟩
    walk_at "d"
    exact ⟨_, _, _, by rw [et]⟩
  · rintro ρ ⟨x1, x2, x3, rfl⟩
    rw [List.length_map, List.take_length]
    walk_at "d"
    cases p with
    | nil => exact absurd rfl hp.1
    | cons a r => exact q
end
end K83

namespace K83
open PySem PySem.Spec PyProof.Rows L2 DL M82 M83 PySem.NumText
section
variable {P : Program} {w : World} {K : PySem.W.Frag} {mg : Str → Option Value} {base : Heap}
theorem e_sep : Str.ofString " / " = SEP := by decide +kernel
theorem e_sl : Str.ofString " /" = ⟨#[32, 47]⟩ := by decide +kernel
theorem sep_is : SEP = ⟨#[32, 47]⟩ ++ ⟨#[32]⟩ := by decide +kernel
theorem e_lay : Str.ofString "lay " = Str.ofString "lay" ++ ⟨#[32]⟩ := by decide +kernel
theorem cut_in {w : Str} (h : w = "out" ∨ w = "in") : inD (.str w) [.str "out", .str "in"] = true := by rcases h with rfl | rfl <;> decide +kernel
theorem cut_len {w : Str} (h : w = "out" ∨ w = "in") : w.length ≤ 8 := by rcases h with rfl | rfl <;> decide +kernel
theorem wd_all {w s : Str} {c : Nat} (h : (w, s, c) ∈ WDS) : inD (.str w) [.str "out", .str "in"] = false ∧ w ≠ "lay" ∧ s ≠ "lay" ∧ w.length ≤ 8 ∧ s.length ≤ 8 ∧ 1 ≤ c ∧ c ≤ 3 ∧ PyData.strOk w = true ∧ PyData.strOk s = true ∧ 32 ∉ s.cps.toList ∧ (if Str.ofString "join out" = w then Str.ofString "join-out" else if Str.ofString "join in" = w then Str.ofString "join-in" else w) = s ∧ Txt.replace w " " "-" = s ∧ Txt.replace s "-" " " = w := by
  have key : ∀ x ∈ WDS, inD (.str x.1) [.str "out", .str "in"] = false ∧ x.1 ≠ "lay" ∧ x.2.1 ≠ "lay" ∧ x.1.length ≤ 8 ∧ x.2.1.length ≤ 8 ∧ 1 ≤ x.2.2 ∧ x.2.2 ≤ 3 ∧ PyData.strOk x.1 = true ∧ PyData.strOk x.2.1 = true ∧ 32 ∉ x.2.1.cps.toList ∧ (if Str.ofString "join out" = x.1 then Str.ofString "join-out" else if Str.ofString "join in" = x.1 then Str.ofString "join-in" else x.1) = x.2.1 ∧ Txt.replace x.1 " " "-" = x.2.1 ∧ Txt.replace x.2.1 "-" " " = x.1 := by decide +kernel
  exact key _ h
theorem look2 (a b x y w : Str) : (look [((Sum.inr a : Key), PyData.str x), (Sum.inr b, .str y)] (Sum.inr w)).getD (.str w) = .str (if a = w then x else if b = w then y else w) := by
  unfold look
  by_cases h1 : a = w
  · subst h1
    rw [if_pos rfl, List.find?_cons_of_pos (by simp)]; rfl
  · rw [if_neg h1, List.find?_cons_of_neg (by simp [h1])]
    by_cases h2 : b = w
    · subst h2
      rw [if_pos rfl, List.find?_cons_of_pos (by simp)]; rfl
    · rw [if_neg h2, List.find?_cons_of_neg (by simp [h2])]; rfl
theorem nums_rw {w s : Str} {ns : List Int} (h : MOk (.nums w s ns)) : RwN ns := by
  have h : (w, s, ns.length) ∈ WDS ∧ ∀ x ∈ ns, Nm x := h
  have h1 := (wd_all h.1).2.2.2.2.2.1
  have h2 := (wd_all h.1).2.2.2.2.2.2.1
  exact ⟨fun z => by rw [z] at h1; exact absurd h1 (by decide), by omega, h.2⟩
theorem flats_ints (ns : List Int) : flats (ns.map PyData.int) = true := flats_iff.mpr fun d hd => by obtain ⟨x, _, rfl⟩ := List.mem_map.mp hd; rfl
theorem len_s {c : Nat} : Str.length ⟨#[c]⟩ = 1 := rfl
theorem join_sep_len {N : Nat} {ts : List Str} (h : ∀ y ∈ ts, y.length ≤ N) (hl : ts.length ≤ 8) : (Str.join SEP ts).length ≤ 8 * N + 24 := by
  have h1 := StrLaws.join_length_le SEP ts
  have h2 := sum_le h
  have h3 : ts.length * N ≤ 8 * N := Nat.mul_le_mul_right _ hl
  have e1 : SEP.length = 3 := rfl
  rw [e1] at h1
  omega
theorem cuts_len {n : Int} {ps : List (List Ar)} (hn : Nm n) (h : ∀ p ∈ ps, PcN p) (hl : ps.length ≤ 5) : (Str.join SEP (dec n :: ps.map pcT)).length ≤ 8 * 2448 + 24 := join_sep_len (fun y hy => by
  rcases List.mem_cons.mp hy with rfl | hy
  · have := nm_len hn; omega
  · obtain ⟨x, hx, rfl⟩ := List.mem_map.mp hy; exact pcT_len (h x hx)) (by rw [List.length_cons, List.length_map]; omega)
-- _law_move_text  N = [(0, '_law_move_here'), (1, '_law_words'), (2, '_law_word'), (3, '_law_text'), (4, '_law_piece')]  cells = []
abbrev s_l_move_text : Stmt := top 25
theorem sc_l_move_text : FnScope ["_law_move_here", "_law_words", "_law_word", "_law_text", "_law_piece"] ["_law_move_here"] (defScope s_l_move_text) := ⟨rfl, rfl, rfl, by decide +kernel, rfl, by decide +kernel, by decide +kernel⟩
def sp_mtx : SpD := fun ds Q _ => ∃ m : Mv, ds = [mD m] ∧ MOk m ∧ Q (.str (mT m)) true
theorem ok_l_move_text {f : Addr} {fd : FuncData} (F : Fun K "_law_move_text" "_law_move_text" s_l_move_text f fd) (T : Blt mg) (D_l_piece_text : Df P w K mg base "_law_piece_text" ["_law_piece"] 1 (SpL K sp_ptx)) (D_l_spelled : Df P w K mg base "_law_spelled" ["_law_numbers"] 1 (SpL K sp_shs)) : FnOk P w K mg base CX0 2 f fd ["_law_move_here"] (SpL K sp_mtx) := by
  refine ok0 F sc_l_move_text (fun ds Q X h => ?_) (fun cdv A outer s H E hr => ?_) fun ds Qd Xd h => h
  · obtain ⟨m, rfl, _⟩ := h; rfl
  refine ⟨_, (dpss_cons (dpset 1 sc_l_move_text.nd dpe_dTwo)
      (dpss_cons (dpset 2 sc_l_move_text.nd (dpe_ix (dix (by rfl)) (dpv 0) dpe_int (fun _ _ => rfl)))
      (dpss_cons (dps_if (dpt_cmp (dop_in (by rfl)) (dpv 2) (dpe_tup (dpa_cons dpe_str (dpa_cons dpe_str dpa_nil))) rfl) (dpss_cons (dpset 3 sc_l_move_text.nd (dpe_op dop_add (dpe_op dop_add (dpv 2) dpe_str) (dpe_callTy dcl_str (by rfl) (by exact T.str) (by decide +kernel) (dpa_cons (dpe_ix (dix (by rfl)) (dpv 0) dpe_int (fun _ _ => rfl)) dpa_nil))))
      (dpss_cons (dps_frz 0 (dps_for PassesOwn.never rfl (dpi_list (by rfl) (dpe_ix (dix (by rfl)) (dpv 0) dpe_int (fun _ _ => rfl))) (dpgn 4 sc_l_move_text.nd) (dpss_one (dpset 3 sc_l_move_text.nd (dpe_op dop_add (dpe_op dop_add (dpv 3) dpe_str) (dpe_df (by exact D_l_piece_text) (by exact hr.mono (by omega)) (dpa_cons (dpv 4) dpa_nil)))))))
      (dpss_one (dps_ret (dpv 3))))) dpss_nil)
      (dpss_cons (dps_if (dpt_cmp (dop_eq (by rfl) (by exact hr.units)) (dpv 2) dpe_str (nomark _)) (dpss_cons (dpset 3 sc_l_move_text.nd (dpe_op dop_add (dpe_op dop_add (dpe_op dop_add dpe_str (dpe_callTy dcl_str (by rfl) (by exact T.str) (by decide +kernel) (dpa_cons (dpe_ix (dix (by rfl)) (dpv 0) dpe_int (fun _ _ => rfl)) dpa_nil))) dpe_str) (dpe_df (by exact D_l_spelled) (by exact hr.mono (by omega)) (dpa_cons (dpe_ix (dix (by rfl)) (dpv 0) dpe_int (fun _ _ => rfl)) dpa_nil))))
      (dpss_one (dps_ret (dpe_op dop_add (dpe_op dop_add (dpv 3) dpe_str) (dpe_df (by exact D_l_spelled) (by exact hr.mono (by omega)) (dpa_cons (dpe_ix (dix (by rfl)) (dpv 0) dpe_int (fun _ _ => rfl)) dpa_nil)))))) dpss_nil)
      (dpss_one (dps_ret (dpe_op dop_add (dpe_op dop_add (dpe_dget2 (by rfl) (dpv 1) (dpv 2) (dpv 2)) dpe_str) (dpe_df (by exact D_l_spelled) (by exact hr.mono (by omega)) (dpa_cons (dpe_sliceT (by rfl) (dpv 0) (dpo_some dpe_int) dpo_none) dpa_nil))))))))), fun ds Qd h => ?_⟩
  obtain ⟨m, rfl, hm, q⟩ := h
  cases m with
  | nums w s ns =>
    have hR := nums_rw hm
    have hs := spl_len hR
    obtain ⟨a1, a2, a3, a4, a5, a6, a7, a8, a9, a10, a11, _⟩ := wd_all hm.1
    show (_ : TSD) _ [some (false, .tuple (.str w :: ns.map .int)), none, none, none, none] _
    walk_at "d"
    refine ⟨.str w, atI_nat (j := 0) rfl, ?_⟩
    walk_at "d"
    refine ⟨⟨rfl, rfl⟩, ?_⟩
    rw [a1, id_eq]
    walk_at "d"
    refine ⟨⟨lay_s a8, lay_s (by decide +kernel), depth_s _⟩, ?_⟩
    rw [eqv_s, decide_eq_false a2, id_eq]
    walk_at "d"
    refine ⟨_, rfl, ?_⟩
    walk_at "d"
    refine ⟨.inr w, rfl, ?_⟩
    walk_at "d"
    rw [look2, a11]
    walk_at "d"
    rw [e_sp]
    refine ⟨by rw [len_s]; omega, ?_⟩
    walk_at "d"
    refine ⟨flats_ints ns, ?_⟩
    rw [cut1]
    walk_at "d"
    refine ⟨_, ns, rfl, .inr rfl, hR, ?_⟩
    walk_at "d"
    refine ⟨by rw [len_app', len_s]; omega, ?_⟩
    walk_at "d"
    exact q
  | cut w n ps =>
    obtain ⟨hw, hn, hps⟩ := hm
    have hwl := cut_len hw
    have hnl := nm_len hn
    show (_ : TSD) _ [some (false, .tuple [.str w, .int n, .list (ps.map pcD)]), none, none, none, none] _
    walk_at "d"
    refine ⟨.str w, atI_nat (j := 0) rfl, ?_⟩
    walk_at "d"
    refine ⟨⟨rfl, rfl⟩, ?_⟩
    rw [cut_in hw, id_eq]
    walk_at "d"
    rw [e_sp]
    refine ⟨by rw [len_s]; omega, ?_⟩
    walk_at "d"
    refine ⟨.int n, atI_nat (j := 1) rfl, ?_⟩
    walk_at "d"
    refine ⟨nm_log hn, ?_⟩
    rw [show Str.ofString (toString n) = dec n from rfl]
    walk_at "d"
    refine ⟨by rw [len_app', len_s]; omega, ?_⟩
    walk_at "d"
    refine ⟨.list (ps.map pcD), atI_nat (j := 2) rfl, ?_⟩
    walk_at "d"
    refine lp_list (fun j ρ => ∃ (x1 x2 : Option (Bool × D)), ρ = [some (false, .tuple [.str w, .int n, .list (ps.map pcD)]), x1, some (false, .str w), some (false, .str (w ++ ⟨#[32]⟩ ++ Str.join SEP (dec n :: (ps.take j).map pcT))), x2]) ⟨_, _, rfl⟩ ?_ ?_
    · rintro j d ρ hd ⟨x1, x2, rfl⟩
      obtain ⟨p, hp, rfl⟩ : ∃ p, ps[j]? = some p ∧ d = pcD p := by
        rw [List.getElem?_map] at hd
        cases e : ps[j]? with
        | none => rw [e] at hd; cases hd
        | some r => rw [e] at hd; cases hd; exact ⟨r, rfl, rfl⟩
      have hpN := hps.2.2 p (List.mem_iff_getElem?.mpr ⟨j, hp⟩)
      have hpl := pcT_len hpN
      have hJ := cuts_len (ps := ps.take j) hn (fun p hp => hps.2.2 p (List.mem_of_mem_take hp)) (by rw [List.length_take]; have := hps.2.1; omega)
      have et : w ++ ⟨#[32]⟩ ++ Str.join SEP (dec n :: (ps.take (j + 1)).map pcT) = w ++ ⟨#[32]⟩ ++ Str.join SEP (dec n :: (ps.take j).map pcT) ++ ⟨#[32, 47]⟩ ++ (⟨#[32]⟩ ++ pcT p) := by
        rw [List.take_succ, hp]
        rw [show dec n :: (ps.take j ++ (some p).toList).map pcT = (dec n :: (ps.take j).map pcT) ++ [pcT p] from by simp, join_snoc, sep_is]
        simp only [Str.append_assoc]
      walk_at "d"
      rw [e_sl]
      refine ⟨by rw [len_app', len_app', len_s, show Str.length ⟨#[32, 47]⟩ = 2 from rfl]; omega, ?_⟩
      walk_at "d"
      refine ⟨p, rfl, hpN, ?_⟩
      walk_at "d"
      refine ⟨by rw [len_app', len_app', len_app', len_app', len_s, show Str.length ⟨#[32, 47]⟩ = 2 from rfl]; omega, ?_⟩
      walk_at "d"
      exact ⟨_, _, by rw [et]⟩
    · rintro ρ ⟨x1, x2, rfl⟩
      rw [List.length_map, List.take_length]
      walk_at "d"
      exact q
  | lay n a b =>
    obtain ⟨hn, ha, hb⟩ := hm
    have hnl := nm_len hn
    have hal := spl_len ha
    have hbl := spl_len hb
    show (_ : TSD) _ [some (false, .tuple [.str "lay", .int n, iD a, iD b]), none, none, none, none] _
    walk_at "d"
    refine ⟨.str "lay", atI_nat (j := 0) rfl, ?_⟩
    walk_at "d"
    rw [if_neg (by decide +kernel)]
    walk_at "d"
    refine ⟨⟨lay_s (by decide +kernel), lay_s (by decide +kernel), depth_s _⟩, ?_⟩
    rw [eqv_s, decide_eq_true rfl, id_eq]
    walk_at "d"
    refine ⟨.int n, atI_nat (j := 1) rfl, ?_⟩
    walk_at "d"
    refine ⟨nm_log hn, ?_⟩
    rw [show Str.ofString (toString n) = dec n from rfl]
    walk_at "d"
    rw [e_lay]
    refine ⟨by rw [len_app', len_s, show (Str.ofString "lay").length = 3 from by decide +kernel]; omega, ?_⟩
    walk_at "d"
    rw [e_sep]
    refine ⟨by rw [len_app', len_app', len_s, show (Str.ofString "lay").length = 3 from by decide +kernel, show SEP.length = 3 from rfl]; omega, ?_⟩
    walk_at "d"
    refine ⟨iD a, atI_nat (j := 2) rfl, ?_⟩
    walk_at "d"
    refine ⟨_, a, rfl, .inl rfl, ha, ?_⟩
    walk_at "d"
    refine ⟨by rw [len_app', len_app', len_app', len_s, show (Str.ofString "lay").length = 3 from by decide +kernel, show SEP.length = 3 from rfl]; omega, ?_⟩
    walk_at "d"
    refine ⟨by rw [len_app', len_app', len_app', len_app', len_s, show (Str.ofString "lay").length = 3 from by decide +kernel, show SEP.length = 3 from rfl]; omega, ?_⟩
    walk_at "d"
    refine ⟨iD b, atI_nat (j := 3) rfl, ?_⟩
    walk_at "d"
    refine ⟨_, b, rfl, .inl rfl, hb, ?_⟩
    walk_at "d"
    refine ⟨by rw [len_app', len_app', len_app', len_app', len_app', len_s, show (Str.ofString "lay").length = 3 from by decide +kernel, show SEP.length = 3 from rfl]; omega, ?_⟩
    walk_at "d"
    have e : Str.ofString "lay" ++ ⟨#[32]⟩ ++ dec n ++ SEP ++ spl a ++ SEP ++ spl b = mT (.lay n a b) := by
      show _ = Str.ofString "lay" ++ ⟨#[32]⟩ ++ (dec n ++ SEP ++ (spl a ++ SEP ++ spl b))
      simp only [Str.append_assoc]
    rw [e]
    exact q
end
end K83

namespace K83
open PySem PySem.Spec PyProof.Rows L2 DL M82 M83 PySem.NumText
section
variable {P : Program} {w : World} {K : PySem.W.Frag} {mg : Str → Option Value} {base : Heap}
theorem flats_ars (p : List Ar) : flats (p.map arD) = true := flats_iff.mpr fun d hd => by obtain ⟨x, _, rfl⟩ := List.mem_map.mp hd; rfl
theorem kels_ars (p : List Ar) (k : Kd) : kels (p.map arD) k = .own [] := by unfold kels; rw [flats_ars]; rfl
-- _law_copied  N = [(0, '_law_move_here')]  cells = []
abbrev s_l_copied : Stmt := top 26
theorem sc_l_copied : FnScope ["_law_move_here"] ["_law_move_here"] (defScope s_l_copied) := ⟨rfl, rfl, rfl, by decide +kernel, rfl, by decide +kernel, by decide +kernel⟩
def sp_copied : SpD := fun ds Q _ => ∃ m : Mv, ds = [mD m] ∧ MOk m ∧ Q (mD m) true
theorem ok_l_copied {f : Addr} {fd : FuncData} (F : Fun K "_law_copied" "_law_copied" s_l_copied f fd) (T : Blt mg) : FnOk P w K mg base CX0 1 f fd ["_law_move_here"] (SpL K sp_copied) := by
  refine ok0 F sc_l_copied (fun ds Q X h => ?_) (fun cdv A outer s H E hr => ?_) fun ds Qd Xd h => h
  · obtain ⟨m, rfl, _⟩ := h; rfl
  refine ⟨_, (dpss_cons (dps_if (dpt_cmp (dop_in (by rfl)) (dpe_ix (dix (by rfl)) (dpv 0) dpe_int (fun _ _ => rfl)) (dpe_tup (dpa_cons dpe_str (dpa_cons dpe_str dpa_nil))) rfl) (dpss_one (dps_ret (dpe_tup (dpa_cons (dpe_ix (dix (by rfl)) (dpv 0) dpe_int (fun _ _ => rfl)) (dpa_cons (dpe_ix (dix (by rfl)) (dpv 0) dpe_int (fun _ _ => rfl)) (dpa_cons (dpe_lc ["_law_piece"] [] rfl (LcScope.of (by kernel_rfl)) (dpi_list (by rfl) (dpe_ix (dix (by rfl)) (dpv 0) dpe_int (fun _ _ => rfl))) (fun _ _ _ _ => ⟨(dpgn 0 (nd_of (by kernel_rfl))), dpts_nil, (dpb_emit (by rfl) (by rfl) (dpe_callTy (dcl_list (by rfl)) (by rfl) (by exact T.list) (by decide +kernel) (dpa_cons (dpv 0) dpa_nil)))⟩)) dpa_nil)))))) dpss_nil)
      (dpss_cons (dps_if (dpt_cmp (dop_eq (by rfl) (by exact hr.units)) (dpe_ix (dix (by rfl)) (dpv 0) dpe_int (fun _ _ => rfl)) dpe_str (nomark _)) (dpss_one (dps_ret (dpe_tup (dpa_cons (dpe_ix (dix (by rfl)) (dpv 0) dpe_int (fun _ _ => rfl)) (dpa_cons (dpe_ix (dix (by rfl)) (dpv 0) dpe_int (fun _ _ => rfl)) (dpa_cons (dpe_callTy (dcl_list (by rfl)) (by rfl) (by exact T.list) (by decide +kernel) (dpa_cons (dpe_ix (dix (by rfl)) (dpv 0) dpe_int (fun _ _ => rfl)) dpa_nil)) (dpa_cons (dpe_callTy (dcl_list (by rfl)) (by rfl) (by exact T.list) (by decide +kernel) (dpa_cons (dpe_ix (dix (by rfl)) (dpv 0) dpe_int (fun _ _ => rfl)) dpa_nil)) dpa_nil))))))) dpss_nil)
      (dpss_one (dps_ret (dpv 0))))), fun ds Qd h => ?_⟩
  obtain ⟨m, rfl, hm, q⟩ := h
  cases m with
  | nums w s ns =>
    obtain ⟨a1, a2, a3, a4, a5, a6, a7, a8, a9, a10, a11, _⟩ := wd_all hm.1
    show (_ : TSD) _ [some (false, .tuple (.str w :: ns.map .int))] _
    walk_at "d"
    refine ⟨.str w, atI_nat (j := 0) rfl, ?_⟩
    walk_at "d"
    refine ⟨⟨rfl, rfl⟩, ?_⟩
    rw [a1, id_eq]
    walk_at "d"
    refine ⟨.str w, atI_nat (j := 0) rfl, ?_⟩
    walk_at "d"
    refine ⟨⟨lay_s a8, lay_s (by decide +kernel), depth_s _⟩, ?_⟩
    rw [eqv_s, decide_eq_false a2, id_eq]
    walk_at "d"
    rw [show rtK (PyData.tuple (PyData.str w :: ns.map PyData.int)) Kd.old = true from by unfold rtK; rw [show flat (PyData.tuple (PyData.str w :: ns.map PyData.int)) = true from flats_ints ns, Bool.true_or]]
    exact q
  | cut w n ps =>
    obtain ⟨hw, hn, hps⟩ := hm
    have hpl := hps.2.1
    show (_ : TSD) _ [some (false, .tuple [.str w, .int n, .list (ps.map pcD)])] _
    walk_at "d"
    refine ⟨.str w, atI_nat (j := 0) rfl, ?_⟩
    walk_at "d"
    refine ⟨⟨rfl, rfl⟩, ?_⟩
    rw [cut_in hw, id_eq]
    walk_at "d"
    refine ⟨.str w, atI_nat (j := 0) rfl, ?_⟩
    walk_at "d"
    refine ⟨.int n, atI_nat (j := 1) rfl, ?_⟩
    walk_at "d"
    refine ⟨.list (ps.map pcD), atI_nat (j := 2) rfl, ?_⟩
    walk_at "d"
    refine lc_mapA (L := ps) pcD pcD (fun p hp es Q' hl q' => ?_) (by omega) ?_
    · rw [show pcD p = .list (p.map arD) from rfl]
      walk_at "d"
      rw [kels_ars]
      exact ⟨rfl, q'⟩
    · walk_at "d"
      exact q
  | lay n a b =>
    obtain ⟨hn, ha, hb⟩ := hm
    show (_ : TSD) _ [some (false, .tuple [.str "lay", .int n, iD a, iD b])] _
    walk_at "d"
    refine ⟨.str "lay", atI_nat (j := 0) rfl, ?_⟩
    walk_at "d"
    rw [if_neg (by decide +kernel)]
    walk_at "d"
    refine ⟨.str "lay", atI_nat (j := 0) rfl, ?_⟩
    walk_at "d"
    refine ⟨⟨lay_s (by decide +kernel), lay_s (by decide +kernel), depth_s _⟩, ?_⟩
    rw [eqv_s, decide_eq_true rfl, id_eq]
    walk_at "d"
    refine ⟨.str "lay", atI_nat (j := 0) rfl, ?_⟩
    walk_at "d"
    refine ⟨.int n, atI_nat (j := 1) rfl, ?_⟩
    walk_at "d"
    refine ⟨iD a, atI_nat (j := 2) rfl, ?_⟩
    walk_at "d"
    refine ⟨iD b, atI_nat (j := 3) rfl, ?_⟩
    walk_at "d"
    exact q
-- arrow_shown  N = [(0, 'arrow')]  cells = []
abbrev s_arrow_shown : Stmt := top 11
theorem sc_arrow_shown : FnScope ["arrow"] ["arrow"] (defScope s_arrow_shown) := ⟨rfl, rfl, rfl, by decide +kernel, rfl, by decide +kernel, by decide +kernel⟩
def sp_ash : SpD := fun ds Q _ => ∃ a : Ar, ds = [arD a] ∧ ArN a ∧ Q (.str (arT a)) true
theorem ok_arrow_shown {f : Addr} {fd : FuncData} (F : Fun K "arrow_shown" "arrow_shown" s_arrow_shown f fd) (T : Blt mg) (D_number_shown : Df P w K mg base "number_shown" ["number"] 1 (SpL K sp_shown)) : FnOk P w K mg base CX0 2 f fd ["arrow"] (SpL K sp_ash) := by
  refine ok0 F sc_arrow_shown (fun ds Q X h => ?_) (fun cdv A outer s H E hr => ?_) fun ds Qd Xd h => h
  · obtain ⟨a, rfl, _⟩ := h; rfl
  refine ⟨_, (dpss_one (dps_ret (dpe_mm (by rfl) PySem.F.slot_str_join PySem.F.type_str_join (dmm_jn (by rfl)) dpe_str (dpe_lc ["number"] [] rfl (LcScope.of (by kernel_rfl)) (dpi_tup (by rfl) (dpv 0)) (fun _ _ _ _ => ⟨(dpgn 0 (nd_of (by kernel_rfl))), dpts_nil, (dpb_emit (by rfl) (by rfl) (dpe_df (by exact D_number_shown) (by exact hr.mono (by omega)) (dpa_cons (dpv 0) dpa_nil)))⟩))))), fun ds Qd h => ?_⟩
  obtain ⟨a, rfl, ha, q⟩ := h
  show (_ : TSD) _ [some (false, .tuple ([a.1, a.2.1, a.2.2].map PyData.int))] _
  have hN : ∀ x ∈ [a.1, a.2.1, a.2.2], Nm x := fun x hx => by
    simp only [List.mem_cons, List.not_mem_nil, or_false] at hx
    rcases hx with rfl | rfl | rfl
    · exact ha.1.2
    · exact ha.2.1.2
    · exact ha.2.2.2
  generalize hr : [a.1, a.2.1, a.2.2] = r at hN
  have hl : r.length = 3 := by rw [← hr]; rfl
  walk_at "d"
  refine lc_mapA (L := r) PyData.int (fun x => .str (dec x)) (fun x hx es Q' hl' q' => ?_) (by omega) ?_
  · walk_at "d"
    refine ⟨x, rfl, hN x hx, ?_⟩
    walk_at "d"
    exact q'
  · walk_at "d"
    rw [e_min]
    refine ⟨r.map dec, by rw [← strsD_map (r.map dec), List.map_map]; rfl, join_ok (N := 101) (fun y hy => by obtain ⟨x, hx, rfl⟩ := List.mem_map.mp hy; exact nm_len (hN x hx)) (by rw [List.length_map, len_s]; omega), ?_⟩
    rw [join_txt, ← hr]
    exact q
end
end K83

namespace K83
open PySem PySem.Spec PyProof.Rows L2 DL M82 M83 PySem.NumText
section
variable {P : Program} {w : World} {K : PySem.W.Frag} {mg : Str → Option Value} {base : Heap}
def BEH : List (Str × Int) := [("swap", 2), ("join-out", 2), ("join-in", 2), ("draw", 1), ("row", 3), ("column", 3)]
theorem beh_of {w s : Str} {c : Nat} (h : (w, s, c) ∈ WDS) : lkI BEH s = some (c : Int) := by
  have key : ∀ x ∈ WDS, lkI BEH x.2.1 = some (x.2.2 : Int) := by decide +kernel
  exact key _ h
theorem beh_cut {w : Str} (h : w = "out" ∨ w = "in") : lkI BEH w = none := by rcases h with rfl | rfl <;> decide +kernel
theorem beh_lay : lkI BEH "lay" = none := by decide +kernel
theorem rep_cut {w : Str} (h : w = "out" ∨ w = "in") : Txt.replace w " " "-" = w ∧ w ≠ "lay" ∧ PyData.strOk w = true ∧ 32 ∉ w.cps.toList ∧ w.length ≤ 1000 := by rcases h with rfl | rfl <;> decide +kernel
theorem rep_lay : Txt.replace "lay" " " "-" = "lay" := by decide +kernel
theorem cut2 (x y : D) (xs : List D) : DL.cutD (x :: y :: xs) (some 2) none = xs := by
  unfold DL.cutD
  have e : HT.sIx (x :: y :: xs).length 0 (some 2) = 2 := by simp [HT.sIx]
  rw [e, HT.sIx_none, List.length_cons, List.length_cons, show xs.length + 1 + 1 - 2 = xs.length from rfl, List.drop_succ_cons, List.drop_succ_cons, List.drop_zero, List.take_length]
theorem join_head (sep a t : Str) : ∀ r : List Str, Str.join sep ((a ++ t) :: r) = a ++ Str.join sep (t :: r)
  | [] => rfl
  | y :: r => by
    show a ++ t ++ sep ++ Str.join sep (y :: r) = a ++ (t ++ sep ++ Str.join sep (y :: r))
    simp only [Str.append_assoc]
-- move_shown  N = [(0, 'move'), (1, 'word'), (2, 'parts')]  cells = []
abbrev s_move_shown : Stmt := top 10
theorem sc_move_shown : FnScope ["move", "word", "parts"] ["move"] (defScope s_move_shown) := ⟨rfl, rfl, rfl, by decide +kernel, rfl, by decide +kernel, by decide +kernel⟩
theorem ok_move_shown {f : Addr} {fd : FuncData} (F : Fun K "move_shown" "move_shown" s_move_shown f fd) (T : Blt mg) (G_NUMBERS_BEHIND : GDct w.params K mg "NUMBERS_BEHIND" BEH) (D_numbers_shown : Df P w K mg base "numbers_shown" ["numbers"] 2 (SpL K sp_shs)) (D_number_shown : Df P w K mg base "number_shown" ["number"] 1 (SpL K sp_shown)) (D_arrow_shown : Df P w K mg base "arrow_shown" ["arrow"] 2 (SpL K sp_ash)) : FnOk P w K mg base CX0 3 f fd ["move"] (SpL K sp_mtx) := by
  refine ok0 F sc_move_shown (fun ds Q X h => ?_) (fun cdv A outer s H E hr => ?_) fun ds Qd Xd h => h
  · obtain ⟨m, rfl, _⟩ := h; rfl
  refine ⟨_, (dpss_cons (dpset 1 sc_move_shown.nd (dpe_repG 0 (by rfl)))
      (dpss_cons (dps_if (dpt_gin (by rfl) (by exact G_NUMBERS_BEHIND) (by rfl) (dpv 1)) (dpss_one (dps_ret (dpe_fstr (dj_cons (dpe_fv (dpv 1)) (dj_cons dpe_str (dj_cons (dpe_fv (dpe_df (by exact D_numbers_shown) (by exact hr.mono (by omega)) (dpa_cons (dpe_sliceT (by rfl) (dpv 0) (dpo_some dpe_int) dpo_none) dpa_nil))) dj_nil)))))) dpss_nil)
      (dpss_cons (dps_if (dpt_cmp (dop_eq (by rfl) (by exact hr.units)) (dpv 1) dpe_str (nomark _)) (dpss_one (dps_setlc (i := 2) (hN := sc_move_shown.nd) (hyi := rfl) (hy := rfl) (hc := rfl) (own := ["numbers"]) (cap := []) (L := LcScope.of (by kernel_rfl)) (hi := (dpi_tup (by rfl) (dpe_sliceD (by rfl) (dpv 0) (dpo_some dpe_int) dpo_none))) (hin := (fun _ _ _ _ => ⟨(dpgn 0 (nd_of (by kernel_rfl))), dpts_nil, (dpb_emit (by rfl) (by rfl) (dpe_df (by exact D_numbers_shown) (by exact hr.mono (by omega)) (dpa_cons (dpv 0) dpa_nil)))⟩)))) (dpss_one (dps_setlc (i := 2) (hN := sc_move_shown.nd) (hyi := rfl) (hy := rfl) (hc := rfl) (own := ["piece"]) (cap := []) (L := LcScope.of (by kernel_rfl)) (hi := (dpi_list (by rfl) (dpe_ix (dix (by rfl)) (dpv 0) dpe_int (fun _ _ => rfl)))) (hin := (fun _ _ _ _ => ⟨(dpgn 0 (nd_of (by kernel_rfl))), dpts_nil, (dpb_emit (by rfl) (by rfl) (dpe_mm (by rfl) PySem.F.slot_str_join PySem.F.type_str_join (dmm_jn (by rfl)) dpe_str (dpe_lc ["arrow"] [] rfl (LcScope.of (by kernel_rfl)) (dpi_list (by rfl) (dpv 0)) (fun _ _ _ _ => ⟨(dpgn 0 (nd_of (by kernel_rfl))), dpts_nil, (dpb_emit (by rfl) (by rfl) (dpe_df (by exact D_arrow_shown) (by exact hr.mono (by omega)) (dpa_cons (dpv 0) dpa_nil)))⟩))))⟩)))))
      (dpss_one (dps_ret (dpe_mm (by rfl) PySem.F.slot_str_join PySem.F.type_str_join (dmm_jn (by rfl)) dpe_str (dpe_op dop_add (dpe_lst (dpa_cons (dpe_fstr (dj_cons (dpe_fv (dpv 1)) (dj_cons dpe_str (dj_cons (dpe_fv (dpe_df (by exact D_number_shown) (by exact hr.mono (by omega)) (dpa_cons (dpe_ix (dix (by rfl)) (dpv 0) dpe_int (fun _ _ => rfl)) dpa_nil))) dj_nil)))) dpa_nil)) (dpv 2)))))))), fun ds Qd h => ?_⟩
  obtain ⟨m, rfl, hm, q⟩ := h
  cases m with
  | nums w s ns =>
    have hR := nums_rw hm
    have hs := spl_len hR
    obtain ⟨a1, a2, a3, a4, a5, a6, a7, a8, a9, a10, a11, a12, a13⟩ := wd_all hm.1
    show (_ : TSD) _ [some (false, .tuple (.str w :: ns.map .int)), none, none] _
    walk_at "d"
    refine w_ix0 rfl (atI_nat (j := 0) rfl) rfl ?_
    walk_at "d"
    rw [a12, beh_of hm.1, Option.isSome_some]
    walk_at "d"
    rw [Str.empty_append]
    refine ⟨by omega, ?_⟩
    walk_at "d"
    rw [e_sp]
    refine ⟨by rw [len_app', len_s]; omega, ?_⟩
    walk_at "d"
    refine ⟨flats_ints ns, ?_⟩
    rw [cut1]
    walk_at "d"
    refine ⟨_, ns, rfl, .inr rfl, hR, ?_⟩
    walk_at "d"
    have hle : (s ++ ⟨#[32]⟩ ++ spl ns).length ≤ 1000000 := by rw [len_app', len_app', len_s]; omega
    refine ⟨hle, ?_⟩
    walk_at "d"
    exact q
  | cut w n ps =>
    obtain ⟨hw, hn, hps⟩ := hm
    have hpl := hps.2.1
    have hnl := nm_len hn
    obtain ⟨b1, b2, b3, b4, b5⟩ := rep_cut hw
    show (_ : TSD) _ [some (false, .tuple [.str w, .int n, .list (ps.map pcD)]), none, none] _
    walk_at "d"
    refine w_ix0 rfl (atI_nat (j := 0) rfl) rfl ?_
    walk_at "d"
    rw [b1, beh_cut hw, if_neg (by decide)]
    walk_at "d"
    refine ⟨⟨lay_s b3, lay_s (by decide +kernel), depth_s _⟩, ?_⟩
    rw [eqv_s, decide_eq_false b2, id_eq]
    walk_at "d"
    refine ⟨.list (ps.map pcD), atI_nat (j := 2) rfl, ?_⟩
    walk_at "d"
    refine lc_mapA (L := ps) pcD (fun p => .str (pcT p)) (fun p hp es Q' hl q' => ?_) (by omega) ?_
    · have hpN := hps.2.2 p hp
      have hp3 := hpN.2.1
      rw [show pcD p = .list (p.map arD) from rfl]
      walk_at "d"
      refine lc_mapA (L := p) arD (fun a => .str (arT a)) (fun a ha es Q' hl q' => ?_) (by omega) ?_
      · walk_at "d"
        refine ⟨a, rfl, hpN.2.2 a ha, ?_⟩
        walk_at "d"
        exact q'
      · walk_at "d"
        rw [e_sp]
        refine ⟨p.map arT, by rw [← strsD_map (p.map arT), List.map_map]; rfl, join_ok (N := 305) (fun y hy => by obtain ⟨x, hx, rfl⟩ := List.mem_map.mp hy; exact arT_len (hpN.2.2 x hx)) (by rw [List.length_map, len_s]; omega), ?_⟩
        rw [join_txt]
        walk_at "d"
        exact q'
    · walk_at "d"
      rw [Str.empty_append]
      refine ⟨by omega, ?_⟩
      walk_at "d"
      rw [e_sp]
      refine ⟨by rw [len_app', len_s]; omega, ?_⟩
      walk_at "d"
      refine ⟨.int n, atI_nat (j := 1) rfl, ?_⟩
      walk_at "d"
      refine ⟨n, rfl, hn, ?_⟩
      walk_at "d"
      have hle : (w ++ ⟨#[32]⟩ ++ dec n).length ≤ 1000 := by rw [len_app', len_app', len_s]; have := cut_len hw; omega
      refine ⟨by omega, ?_⟩
      walk_at "d"
      refine ⟨by rw [List.length_map]; show 1 + _ ≤ _; omega, ?_⟩
      walk_at "d"
      rw [e_sep]
      refine ⟨(w ++ ⟨#[32]⟩ ++ dec n) :: ps.map pcT, by rw [← strsD_map ((w ++ ⟨#[32]⟩ ++ dec n) :: ps.map pcT), List.map_cons, List.map_map]; rfl, join_ok (N := 2448) (fun y hy => by
        rcases List.mem_cons.mp hy with rfl | hy
        · omega
        · obtain ⟨x, hx, rfl⟩ := List.mem_map.mp hy; exact pcT_len (hps.2.2 x hx)) (by rw [List.length_cons, List.length_map, show SEP.length = 3 from rfl]; omega), ?_⟩
      rw [join_txt, join_head]
      exact q
  | lay n a b =>
    obtain ⟨hn, ha, hb⟩ := hm
    have hnl := nm_len hn
    show (_ : TSD) _ [some (false, .tuple [.str "lay", .int n, iD a, iD b]), none, none] _
    walk_at "d"
    refine w_ix0 rfl (atI_nat (j := 0) rfl) rfl ?_
    walk_at "d"
    rw [rep_lay, beh_lay, if_neg (by decide)]
    walk_at "d"
    refine ⟨⟨lay_s (by decide +kernel), lay_s (by decide +kernel), depth_s _⟩, ?_⟩
    rw [eqv_s, decide_eq_true rfl, id_eq]
    walk_at "d"
    rw [cut2]
    have hab : ∀ p ∈ [a, b], RwN p := fun p hp => by
      simp only [List.mem_cons, List.not_mem_nil, or_false] at hp
      rcases hp with rfl | rfl <;> assumption
    refine lc_mapA (L := [a, b]) iD (fun p => .str (spl p)) (fun p hp es Q' hl q' => ?_) (Nat.le_of_ble_eq_true rfl) ?_
    · walk_at "d"
      refine ⟨_, p, rfl, .inl rfl, hab p hp, ?_⟩
      walk_at "d"
      exact q'
    · walk_at "d"
      refine ⟨.int n, atI_nat (j := 1) rfl, ?_⟩
      walk_at "d"
      refine ⟨n, rfl, hn, ?_⟩
      rw [Str.empty_append, e_sp]
      have hle : (Str.ofString "lay" ++ ⟨#[32]⟩ ++ dec n).length ≤ 1000 := by rw [len_app', len_app', len_s, show (Str.ofString "lay").length = 3 from by decide +kernel]; omega
      walk_at "d"
      rw [e_sep]
      refine ⟨(Str.ofString "lay" ++ ⟨#[32]⟩ ++ dec n) :: [a, b].map spl, rfl, join_ok (N := 1000) (fun y hy => by
        rcases List.mem_cons.mp hy with rfl | hy
        · exact hle
        · obtain ⟨x, hx, rfl⟩ := List.mem_map.mp hy; have := spl_len (hab x hx); omega) (by rw [List.length_cons, List.length_map, show SEP.length = 3 from rfl]; exact Nat.le_of_ble_eq_true rfl), ?_⟩
      rw [join_txt, join_head]
      exact q
end
end K83

namespace K83
open PySem PySem.Spec PyProof.Rows L2 DL M82 M83 PySem.NumText
section
variable {P : Program} {w : World} {K : PySem.W.Frag} {mg : Str → Option Value} {base : Heap}
theorem dec_nn {n : Int} (h : 0 ≤ n) : 45 ∉ (dec n).cps.toList := fun hc => by
  rw [dec_is, if_neg (by omega), List.nil_append] at hc
  have := dg_digits n.natAbs 45 hc
  omega
theorem ar_split {a : Ar} (h : ArN a) : Txt.split (arT a) ⟨#[45]⟩ = [a.1, a.2.1, a.2.2].map dec := split_join (by simp) fun p hp => by
  simp only [List.mem_cons, List.not_mem_nil, or_false] at hp
  rcases hp with rfl | rfl | rfl
  · exact dec_nn h.1.1
  · exact dec_nn h.2.1.1
  · exact dec_nn h.2.2.1
theorem arT_signs {a : Ar} {c : Nat} (h : c ∈ (arT a).cps.toList) : c = 45 ∨ (48 ≤ c ∧ c ≤ 57) := by
  rcases join_mem h with h | ⟨t, ht, h⟩
  · exact .inl h
  · simp only [List.mem_cons, List.not_mem_nil, or_false] at ht
    rcases ht with rfl | rfl | rfl <;> exact dec_signs _ c h
theorem pc_split {p : List Ar} (h : PcN p) : Txt.split (pcT p) ⟨#[32]⟩ = p.map arT := split_join (by simpa using h.1) fun q hq hc => by
  obtain ⟨x, _, rfl⟩ := List.mem_map.mp hq
  have := arT_signs hc
  omega
theorem pcT_signs {p : List Ar} {c : Nat} (h : c ∈ (pcT p).cps.toList) : c = 32 ∨ c = 45 ∨ (48 ≤ c ∧ c ≤ 57) := by
  rcases join_mem h with h | ⟨t, ht, h⟩
  · exact .inl h
  · obtain ⟨x, _, rfl⟩ := List.mem_map.mp ht
    exact .inr (arT_signs h)
theorem cuts_split (n : Int) (ps : List (List Ar)) : Txt.split (Str.join SEP (dec n :: ps.map pcT)) SEP = dec n :: ps.map pcT := split_sep (by simp) fun p hp hc => by
  rcases List.mem_cons.mp hp with rfl | hp
  · have := dec_signs n 47 hc; omega
  · obtain ⟨x, _, rfl⟩ := List.mem_map.mp hp
    have := pcT_signs hc
    omega
theorem lays_split (n : Int) (a b : List Int) : Txt.split (Str.join SEP [dec n, spl a, spl b]) SEP = [dec n, spl a, spl b] := split_sep (by simp) fun p hp hc => by
  simp only [List.mem_cons, List.not_mem_nil, or_false] at hp
  rcases hp with rfl | rfl | rfl
  · have := dec_signs n 47 hc; omega
  · have := spl_signs hc; omega
  · have := spl_signs hc; omega
theorem prt_sp {w : Str} (r : Str) (h : 32 ∉ w.cps.toList) : prt (w ++ ⟨#[32]⟩ ++ r) ⟨#[32]⟩ = (w, ⟨#[32]⟩, r) := by
  obtain ⟨l, e1, e2, e3⟩ := first_sp w r h
  unfold prt
  rw [e1]
  show (Builtin.Str.strSub _ 0 w.length, _, Builtin.Str.strSub _ (w.length + 1) _) = _
  rw [e2, e3]
theorem cut_in3 {w : Str} (h : w = "out" ∨ w = "in") : inD (.str w) [.str "out", .str "in", .str "lay"] = true := by rcases h with rfl | rfl <;> decide +kernel
-- arrow_read  N = [(0, 'text'), (1, 'numbers')]  cells = []
abbrev s_arrow_read : Stmt := top 14
theorem sc_arrow_read : FnScope ["text", "numbers"] ["text"] (defScope s_arrow_read) := ⟨rfl, rfl, rfl, by decide +kernel, rfl, by decide +kernel, by decide +kernel⟩
def sp_ard : SpD := fun ds Q _ => ∃ a : Ar, ds = [.str (arT a)] ∧ ArN a ∧ Q (arD a) true
theorem ok_arrow_read {f : Addr} {fd : FuncData} (F : Fun K "arrow_read" "arrow_read" s_arrow_read f fd) (T : Blt mg) (D_number_read : Df P w K mg base "number_read" ["text"] 1 (SpL K sp_read)) : FnOk P w K mg base CX0 2 f fd ["text"] (SpL K sp_ard) := by
  refine ok0 F sc_arrow_read (fun ds Q X h => ?_) (fun cdv A outer s H E hr => ?_) fun ds Qd Xd h => h
  · obtain ⟨a, rfl, _⟩ := h; rfl
  refine ⟨_, (dpss_cons (dps_setlc (i := 1) (hN := sc_arrow_read.nd) (hyi := rfl) (hy := rfl) (hc := rfl) (own := ["part"]) (cap := []) (L := LcScope.of (by kernel_rfl)) (hi := (dpi_list (by rfl) (dpe_mm (by rfl) PySem.F.slot_str_split PySem.F.type_str_split dmm_sp (dpv 0) dpe_str))) (hin := (fun _ _ _ _ => ⟨(dpgn 0 (nd_of (by kernel_rfl))), dpts_nil, (dpb_emit (by rfl) (by rfl) (dpe_df (by exact D_number_read) (by exact hr.mono (by omega)) (dpa_cons (dpv 0) dpa_nil)))⟩)))
      (dpss_cons (dps_if (dpt_cmp (dop_ne (by rfl) (by exact hr.units)) (dpe_callB (dcl_len (by rfl)) (by rfl) (by exact T.len) (by decide +kernel) (dpa_cons (dpv 1) dpa_nil)) dpe_int (nomark _)) (dpss_one dps_raiseF) dpss_nil)
      (dpss_one (dps_ret (dpe_callTy (dcl_tuple (by rfl)) (by rfl) (by exact T.tuple) (by decide +kernel) (dpa_cons (dpv 1) dpa_nil)))))), fun ds Qd h => ?_⟩
  obtain ⟨a, rfl, ha, q⟩ := h
  show (_ : TSD) _ [some (false, .str (arT a)), none] _
  have hs := arT_len ha
  have hN : ∀ x ∈ [a.1, a.2.1, a.2.2], Nm x := fun x hx => by
    simp only [List.mem_cons, List.not_mem_nil, or_false] at hx
    rcases hx with rfl | rfl | rfl
    · exact ha.1.2
    · exact ha.2.1.2
    · exact ha.2.2.2
  walk_at "d"
  rw [e_min, ar_split ha, List.map_map]
  refine ⟨⟨by decide, by omega⟩, ?_⟩
  walk_at "d"
  refine lc_mapA (L := [a.1, a.2.1, a.2.2]) (fun x => PyData.str (dec x)) (fun x => .int x) (fun x hx es Q' hl' q' => ?_) (Nat.le_of_ble_eq_true rfl) ?_
  · walk_at "d"
    refine ⟨x, rfl, hN x hx, ?_⟩
    walk_at "d"
    exact q'
  · walk_at "d"
    rw [if_neg (by simp)]
    walk_at "d"
    exact q
-- lay_read  N = [(0, 'first'), (1, 'parts')]  cells = []
abbrev s_lay_read : Stmt := top 13
theorem sc_lay_read : FnScope ["first", "parts"] ["first", "parts"] (defScope s_lay_read) := ⟨rfl, rfl, rfl, by decide +kernel, rfl, by decide +kernel, by decide +kernel⟩
def sp_lrd : SpD := fun ds Q _ => ∃ (n : Int) (a b : List Int), ds = [.str (dec n), .list [.str (spl a), .str (spl b)]] ∧ Nm n ∧ RwN a ∧ RwN b ∧ Q (mD (.lay n a b)) true
theorem ok_lay_read {f : Addr} {fd : FuncData} (F : Fun K "lay_read" "lay_read" s_lay_read f fd) (T : Blt mg) (D_number_read : Df P w K mg base "number_read" ["text"] 1 (SpL K sp_read)) (D_numbers_read : Df P w K mg base "numbers_read" ["text"] 2 (SpL K sp_rds)) : FnOk P w K mg base CX0 3 f fd ["first", "parts"] (SpL K sp_lrd) := by
  refine ok0 F sc_lay_read (fun ds Q X h => ?_) (fun cdv A outer s H E hr => ?_) fun ds Qd Xd h => h
  · obtain ⟨n, a, b, rfl, _⟩ := h; rfl
  refine ⟨_, (dpss_cons (dps_if (dpt_cmp (dop_ne (by rfl) (by exact hr.units)) (dpe_callB (dcl_len (by rfl)) (by rfl) (by exact T.len) (by decide +kernel) (dpa_cons (dpv 1) dpa_nil)) dpe_int (nomark _)) (dpss_one dps_raiseF) dpss_nil)
      (dpss_one (dps_ret (dpe_tup (dpa_cons dpe_str (dpa_cons (dpe_df (by exact D_number_read) (by exact hr.mono (by omega)) (dpa_cons (dpv 0) dpa_nil)) (dpa_cons (dpe_df (by exact D_numbers_read) (by exact hr.mono (by omega)) (dpa_cons (dpe_ix (dix (by rfl)) (dpv 1) dpe_int (fun _ _ => rfl)) dpa_nil)) (dpa_cons (dpe_df (by exact D_numbers_read) (by exact hr.mono (by omega)) (dpa_cons (dpe_ix (dix (by rfl)) (dpv 1) dpe_int (fun _ _ => rfl)) dpa_nil)) dpa_nil)))))))), fun ds Qd h => ?_⟩
  obtain ⟨n, a, b, rfl, hn, ha, hb, q⟩ := h
  show (_ : TSD) _ [some (false, .str (dec n)), some (false, .list [.str (spl a), .str (spl b)])] _
  walk_at "d"
  rw [if_neg (by simp)]
  walk_at "d"
  refine ⟨n, rfl, hn, ?_⟩
  walk_at "d"
  refine ⟨.str (spl a), atI_nat (j := 0) rfl, ?_⟩
  walk_at "d"
  refine ⟨a, rfl, ha, ?_⟩
  walk_at "d"
  refine ⟨.str (spl b), atI_nat (j := 1) rfl, ?_⟩
  walk_at "d"
  refine ⟨b, rfl, hb, ?_⟩
  walk_at "d"
  exact q
-- move_read  N = [(0, 'text'), (1, 'word'), (2, 'blank'), (3, 'rest'), (4, 'numbers'), (5, 'first'), (6, 'parts')]  cells = []
abbrev s_move_read : Stmt := top 12
theorem sc_move_read : FnScope ["text", "word", "blank", "rest", "numbers", "first", "parts"] ["text"] (defScope s_move_read) := ⟨rfl, rfl, rfl, by decide +kernel, rfl, by decide +kernel, by decide +kernel⟩
def sp_mrd : SpD := fun ds Q _ => ∃ m : Mv, ds = [.str (mT m)] ∧ MOk m ∧ Q (mD m) true
theorem ok_move_read {f : Addr} {fd : FuncData} (F : Fun K "move_read" "move_read" s_move_read f fd) (T : Blt mg) (G_NUMBERS_BEHIND : GDct w.params K mg "NUMBERS_BEHIND" BEH) (D_numbers_read : Df P w K mg base "numbers_read" ["text"] 2 (SpL K sp_rds)) (D_number_read : Df P w K mg base "number_read" ["text"] 1 (SpL K sp_read)) (D_lay_read : Df P w K mg base "lay_read" ["first", "parts"] 3 (SpL K sp_lrd)) (D_arrow_read : Df P w K mg base "arrow_read" ["text"] 2 (SpL K sp_ard)) : FnOk P w K mg base CX0 4 f fd ["text"] (SpL K sp_mrd) := by
  refine ok0 F sc_move_read (fun ds Q X h => ?_) (fun cdv A outer s H E hr => ?_) fun ds Qd Xd h => h
  · obtain ⟨m, rfl, _⟩ := h; rfl
  refine ⟨_, (dpss_cons (dps_unp [1, 2, 3] 3 rfl (by rfl) (by rfl) (qpgs_cons (qpgn 1 sc_move_read.nd) (qpgs_cons (qpgn 2 sc_move_read.nd) (qpgs_cons (qpgn 3 sc_move_read.nd) qpgs_nil))) (by rfl) (by rfl) (dpe_mm (by rfl) PySem.F.slot_str_partition PySem.F.type_str_partition dmm_pt (dpv 0) dpe_str))
      (dpss_cons (dps_if (dpt_gin (by rfl) (by exact G_NUMBERS_BEHIND) (by rfl) (dpv 1)) (dpss_cons (dpset 4 sc_move_read.nd (dpe_df (by exact D_numbers_read) (by exact hr.mono (by omega)) (dpa_cons (dpv 3) dpa_nil)))
      (dss_nums 4 1 (by rfl) (by exact G_NUMBERS_BEHIND) (by rfl) (qpe_callB (call_lenK K (by rfl)) (by rfl) (by exact T.len) (by decide +kernel) (qpa_cons (qpv 4) qpa_nil)) (den_callTy (dcl_tuple (by rfl)) (by rfl) (by exact T.tuple) (by decide +kernel) (den_op dop_add (den_lst (den_rep 1)) (dpv 4))))) dpss_nil)
      (dpss_cons (dps_if (dpt_cmp (dop_notin (by rfl)) (dpv 1) (dpe_tup (dpa_cons dpe_str (dpa_cons dpe_str (dpa_cons dpe_str dpa_nil)))) rfl) (dpss_one dps_raiseF) dpss_nil)
      (dpss_cons (dps_star 5 6 (by rfl) (by rfl) (qpgs_cons (qpgn 5 sc_move_read.nd) (qpgs_cons (qpgn 6 sc_move_read.nd) qpgs_nil)) (by rfl) (by rfl) (dpe_mm (by rfl) PySem.F.slot_str_split PySem.F.type_str_split dmm_sp (dpv 3) dpe_str))
      (dpss_cons (dps_if (dpt_cmp (dop_eq (by rfl) (by exact hr.units)) (dpv 1) dpe_str (nomark _)) (dpss_one (dps_ret (dpe_df (by exact D_lay_read) (by exact hr.mono (by omega)) (dpa_cons (dpv 5) (dpa_cons (dpv 6) dpa_nil))))) dpss_nil)
      (dpss_cons (dps_if (dpt_cmp dop_lt (dpe_callB (dcl_len (by rfl)) (by rfl) (by exact T.len) (by decide +kernel) (dpa_cons (dpv 6) dpa_nil)) dpe_int (nomark _)) (dpss_one dps_raiseF) dpss_nil)
      (dpss_one (dps_ret (dpe_tup (dpa_cons (dpv 1) (dpa_cons (dpe_df (by exact D_number_read) (by exact hr.mono (by omega)) (dpa_cons (dpv 5) dpa_nil)) (dpa_cons (dpe_lc ["part"] [] rfl (LcScope.of (by kernel_rfl)) (dpi_list (by rfl) (dpv 6)) (fun _ _ _ _ => ⟨(dpgn 0 (nd_of (by kernel_rfl))), dpts_nil, (dpb_emit (by rfl) (by rfl) (dpe_lc ["arrow"] [] rfl (LcScope.of (by kernel_rfl)) (dpi_list (by rfl) (dpe_mm (by rfl) PySem.F.slot_str_split PySem.F.type_str_split dmm_sp (dpv 0) dpe_str)) (fun _ _ _ _ => ⟨(dpgn 0 (nd_of (by kernel_rfl))), dpts_nil, (dpb_emit (by rfl) (by rfl) (dpe_df (by exact D_arrow_read) (by exact hr.mono (by omega)) (dpa_cons (dpv 0) dpa_nil)))⟩)))⟩)) dpa_nil)))))))))))), fun ds Qd h => ?_⟩
  obtain ⟨m, rfl, hm, q⟩ := h
  cases m with
  | nums w s ns =>
    have hR := nums_rw hm
    have hs := spl_len hR
    obtain ⟨a1, a2, a3, a4, a5, a6, a7, a8, a9, a10, a11, a12, a13⟩ := wd_all hm.1
    show (_ : TSD) _ [some (false, .str (s ++ ⟨#[32]⟩ ++ spl ns)), none, none, none, none, none, none] _
    walk_at "d"
    rw [e_sp, prt_sp _ a10]
    refine ⟨⟨by decide, by rw [len_app', len_app', len_s]; omega⟩, ?_⟩
    walk_at "d"
    rw [beh_of hm.1, Option.isSome_some]
    walk_at "d"
    refine ⟨ns, rfl, hR, ?_⟩
    walk_at "d"
    refine ⟨true, false, ns.map .int, s, rfl, rfl, by rw [List.length_map]; exact beh_of hm.1, ?_⟩
    walk_at "d"
    rw [← e_sp, a13]
    walk_at "d"
    show fAdd (PyData.list [PyData.str w]) (Kd.own []) (PyData.list (ns.map PyData.int)) (Kd.own [4]) _
    refine w_addL ⟨by rw [List.length_map]; show 1 + _ ≤ _; omega, ?_⟩
    walk_at "d"
    have fl : flats (PyData.str w :: ns.map PyData.int) = true := flats_ints ns
    show Qd (PyData.tuple (PyData.str w :: ns.map PyData.int)) (rtK (PyData.tuple (PyData.str w :: ns.map PyData.int)) _)
    unfold rtK
    rw [show flat (PyData.tuple (PyData.str w :: ns.map PyData.int)) = true from fl, Bool.true_or]
    exact q
  | cut w n ps =>
    obtain ⟨hw, hn, hps⟩ := hm
    have hpl := hps.2.1
    have hnl := nm_len hn
    have hJ := cuts_len hn hps.2.2 hpl
    obtain ⟨b1, b2, b3, b4, b5⟩ := rep_cut hw
    show (_ : TSD) _ [some (false, .str (w ++ ⟨#[32]⟩ ++ Str.join SEP (dec n :: ps.map pcT))), none, none, none, none, none, none] _
    walk_at "d"
    rw [e_sp, prt_sp _ b4]
    refine ⟨⟨by decide, by rw [len_app', len_app', len_s]; omega⟩, ?_⟩
    walk_at "d"
    rw [beh_cut hw, if_neg (by decide)]
    walk_at "d"
    refine ⟨⟨rfl, rfl⟩, ?_⟩
    rw [cut_in3 hw, Bool.not_true]
    walk_at "d"
    rw [e_sep, cuts_split]
    refine ⟨⟨by decide, by omega⟩, ?_⟩
    walk_at "d"
    refine ⟨.str (dec n), (ps.map pcT).map .str, rfl, rfl, flats_strs _, ?_⟩
    walk_at "d"
    refine ⟨⟨lay_s b3, lay_s (by decide +kernel), depth_s _⟩, ?_⟩
    rw [eqv_s, decide_eq_false b2, id_eq]
    walk_at "d"
    rw [if_neg (by rw [decide_eq_true_iff, List.length_map, List.length_map]; have := hps.1; omega)]
    walk_at "d"
    refine ⟨n, rfl, hn, ?_⟩
    walk_at "d"
    rw [List.map_map]
    refine lc_mapA (L := ps) (fun p => PyData.str (pcT p)) pcD (fun p hp es Q' hl q' => ?_) (by omega) ?_
    · have hpN := hps.2.2 p hp
      have hp3 := hpN.2.1
      have hp4 := pcT_len hpN
      walk_at "d"
      rw [pc_split hpN, List.map_map]
      refine ⟨⟨by decide, by omega⟩, ?_⟩
      walk_at "d"
      refine lc_mapA (L := p) (fun a => PyData.str (arT a)) arD (fun a ha es Q' hl q' => ?_) (by omega) ?_
      · walk_at "d"
        refine ⟨a, rfl, hpN.2.2 a ha, ?_⟩
        walk_at "d"
        exact q'
      · walk_at "d"
        exact q'
    · walk_at "d"
      exact q
  | lay n a b =>
    obtain ⟨hn, ha, hb⟩ := hm
    have hnl := nm_len hn
    have hal := spl_len ha
    have hbl := spl_len hb
    have hJ : (Str.join SEP [dec n, spl a, spl b]).length ≤ 8 * 1000 + 24 := join_sep_len (fun y hy => by
      simp only [List.mem_cons, List.not_mem_nil, or_false] at hy
      rcases hy with rfl | rfl | rfl <;> omega) (Nat.le_of_ble_eq_true rfl)
    show (_ : TSD) _ [some (false, .str (Str.ofString "lay" ++ ⟨#[32]⟩ ++ Str.join SEP [dec n, spl a, spl b])), none, none, none, none, none, none] _
    walk_at "d"
    rw [e_sp, prt_sp _ (by decide +kernel)]
    refine ⟨⟨by decide, by rw [len_app', len_app', len_s, show (Str.ofString "lay").length = 3 from by decide +kernel]; omega⟩, ?_⟩
    walk_at "d"
    rw [beh_lay, if_neg (by decide)]
    walk_at "d"
    rw [if_neg (by decide +kernel)]
    walk_at "d"
    rw [e_sep, lays_split]
    refine ⟨⟨by decide, by omega⟩, ?_⟩
    walk_at "d"
    refine ⟨.str (dec n), [.str (spl a), .str (spl b)], rfl, rfl, rfl, ?_⟩
    walk_at "d"
    refine ⟨⟨lay_s (by decide +kernel), lay_s (by decide +kernel), depth_s _⟩, ?_⟩
    rw [eqv_s, decide_eq_true rfl, id_eq]
    walk_at "d"
    refine ⟨n, a, b, rfl, hn, ha, hb, ?_⟩
    walk_at "d"
    exact q
end
end K83

namespace K83
open PySem PySem.Spec PyProof.Rows L2 DL M82 M83 PySem.NumText
section
variable {P : Program} {w : World} {K : PySem.W.Frag} {mg : Str → Option Value} {base : Heap}
theorem lc_none {f : D → Els → (Els → Prop) → Prop} {ok : Bool} {Q : QD} {L : List D} (hs : ∀ d ∈ L, ∀ es (Q' : Els → Prop), Q' es → f d es Q') (hm : L.length ≤ 1000000) (q : Q (.list []) (.own [])) : LcD f L ok Q := by
  have := lc_fltA (L := L) (f := f) (ok := ok) (Q := Q) (fun d => d) (fun d => d) (fun _ => false) (fun a ha es Q' _ q' => hs a ha es Q' (by rw [if_neg (by decide)] at q'; exact q')) hm (by rw [show L.filter (fun _ => false) = [] from by simp]; exact q)
  rw [List.map_id'] at this
  exact this
theorem eqv_nil : PyData.eqv (.list []) (.list []) = true := SeqAt.eqv_refl _ rfl
def mI : Mv → List D
  | .nums w _ ns => .str w :: ns.map .int
  | .cut w n ps => [.str w, .int n, psD ps]
  | .lay n a b => [.str "lay", .int n, iD a, iD b]
theorem mD_is (m : Mv) : mD m = .tuple (mI m) := by cases m <;> rfl
theorem layAll {ds : List D} (h : ∀ d ∈ ds, d.canLay0 = true) : PyData.canLayAll0 ds = true := by
  induction ds with
  | nil => rfl
  | cons d r ih =>
    show (d.canLay0 && PyData.canLayAll0 r) = true
    rw [h d List.mem_cons_self, ih fun x hx => h x (List.mem_cons_of_mem _ hx)]; rfl
theorem depAll {k : Nat} {ds : List D} (h : ∀ d ∈ ds, d.depth ≤ k) : PyData.depthAll ds ≤ k := by
  induction ds with
  | nil => exact Nat.zero_le _
  | cons d r ih =>
    show max d.depth (PyData.depthAll r) ≤ k
    have := h d List.mem_cons_self
    have := ih fun x hx => h x (List.mem_cons_of_mem _ hx)
    omega
theorem lay_pc (p : List Ar) : (pcD p).canLay0 = true := layAll fun d hd => by obtain ⟨a, _, rfl⟩ := List.mem_map.mp hd; rfl
theorem dep_pc (p : List Ar) : (pcD p).depth ≤ 2 := Nat.succ_le_succ (depAll fun d hd => by obtain ⟨a, _, rfl⟩ := List.mem_map.mp hd; exact Nat.le_of_ble_eq_true rfl)
theorem lay_ps (ps : List (List Ar)) : (psD ps).canLay0 = true := layAll fun d hd => by obtain ⟨a, _, rfl⟩ := List.mem_map.mp hd; exact lay_pc a
theorem dep_ps (ps : List (List Ar)) : (psD ps).depth ≤ 3 := Nat.succ_le_succ (depAll fun d hd => by obtain ⟨a, _, rfl⟩ := List.mem_map.mp hd; exact dep_pc a)
theorem mI_all {m : Mv} (h : MOk m) : ∀ d ∈ mI m, d.canLay0 = true ∧ d.depth ≤ 31 ∧ noDict d = true ∧ isBool d = false := by
  cases m with
  | nums w s ns =>
    intro d hd
    rcases List.mem_cons.mp hd with rfl | hd
    · exact ⟨lay_s (wd_all h.1).2.2.2.2.2.2.2.1, Nat.zero_le _, rfl, rfl⟩
    · obtain ⟨x, _, rfl⟩ := List.mem_map.mp hd
      exact ⟨rfl, Nat.zero_le _, rfl, rfl⟩
  | cut w n ps =>
    intro d hd
    simp only [mI, List.mem_cons, List.not_mem_nil, or_false] at hd
    rcases hd with rfl | rfl | rfl
    · exact ⟨lay_s (rep_cut h.1).2.2.1, Nat.zero_le _, rfl, rfl⟩
    · exact ⟨rfl, Nat.zero_le _, rfl, rfl⟩
    · exact ⟨lay_ps ps, Nat.le_trans (dep_ps ps) (by decide), rfl, rfl⟩
  | lay n a b =>
    have dI : ∀ r : List Int, (iD r).depth ≤ 31 := fun r => Nat.le_trans (Nat.succ_le_succ (depAll (k := 0) fun d hd => by obtain ⟨a, _, rfl⟩ := List.mem_map.mp hd; exact Nat.le_refl _)) (by decide)
    intro d hd
    simp only [mI, List.mem_cons, List.not_mem_nil, or_false] at hd
    rcases hd with rfl | rfl | rfl | rfl
    · exact ⟨lay_s (by decide +kernel), Nat.zero_le _, rfl, rfl⟩
    · exact ⟨rfl, Nat.zero_le _, rfl, rfl⟩
    · exact ⟨lay_iD a, dI a, rfl, rfl⟩
    · exact ⟨lay_iD b, dI b, rfl, rfl⟩
theorem lay_mI {m : Mv} (h : MOk m) : (PyData.tuple (mI m)).canLay0 = true := layAll fun d hd => (mI_all h d hd).1
theorem dep_mI {m : Mv} (h : MOk m) : (PyData.tuple (mI m)).depth ≤ 32 := Nat.succ_le_succ (depAll fun d hd => (mI_all h d hd).2.1)
theorem eqv_mI {m : Mv} (h : MOk m) : PyData.eqv (.tuple (mI m)) (.tuple (mI m)) = true := SeqAt.eqv_refl _ (lay_mI h)
theorem mI_len {m : Mv} (h : MOk m) : (mI m).length ≤ 4 := by
  cases m with
  | nums w s ns => show (PyData.str w :: ns.map PyData.int).length ≤ 4; rw [List.length_cons, List.length_map]; have := (wd_all h.1).2.2.2.2.2.2.1; omega
  | cut => exact Nat.le_of_ble_eq_true rfl
  | lay => exact Nat.le_of_ble_eq_true rfl
-- _law_is_move  N = [(0, '_law_found'), (1, '_law_due')]  cells = []
abbrev s_l_is_move : Stmt := top 27
theorem sc_l_is_move : FnScope ["_law_found", "_law_due"] ["_law_found", "_law_due"] (defScope s_l_is_move) := ⟨rfl, rfl, rfl, by decide +kernel, rfl, by decide +kernel, by decide +kernel⟩
def sp_ism : SpD := fun ds Q _ => ∃ m : Mv, ds = [mD m, mD m] ∧ MOk m ∧ Q (.bool true) true
theorem ok_l_is_move {f : Addr} {fd : FuncData} (F : Fun K "_law_is_move" "_law_is_move" s_l_is_move f fd) (T : Blt mg) : FnOk P w K mg base CX0 1 f fd ["_law_found", "_law_due"] (SpL K sp_ism) := by
  refine ok0 F sc_l_is_move (fun ds Q X h => ?_) (fun cdv A outer s H E hr => ?_) fun ds Qd Xd h => h
  · obtain ⟨m, rfl, _⟩ := h; rfl
  refine ⟨_, (dpss_cons (dps_if (dPWpt (dpw_or (dpt_not (dpt_val (dpe_isi (by rfl) kit_tuple (by rfl) (by exact T.isinstance) (dpv 0) (by rfl) (by exact T.tuple) (by decide +kernel)))) (dpw_or (dpt_cmp (dop_ne (by rfl) (by exact hr.units)) (dpv 0) (dpv 1) (nomark _)) (dpw_or1 (dpt_cmp (dop_ne (by rfl) (by exact hr.units)) (dpe_lc ["_law_one"] [] rfl (LcScope.of (by kernel_rfl)) (dpi_tup (by rfl) (dpv 0)) (fun _ _ _ _ => ⟨(dpgn 0 (nd_of (by kernel_rfl))), (dpts_one (dpt_val (dpe_isi (by rfl) kit_bool (by rfl) (by exact T.isinstance) (dpv 0) (by rfl) (by exact T.bool) (by decide +kernel)))), (dpb_emit (by rfl) (by rfl) (dpv 0))⟩)) (dpe_lst dpa_nil) (nomark _)))))) (dpss_one (dps_ret dpe_bl)) dpss_nil)
      (dpss_cons (dps_if (dpt_cmp (dop_in (by rfl)) (dpe_ix (dix (by rfl)) (dpv 1) dpe_int (fun _ _ => rfl)) (dpe_tup (dpa_cons dpe_str (dpa_cons dpe_str dpa_nil))) rfl) (dpss_one (dps_ret (dpe_cmp (dop_eq (by rfl) (by exact hr.units)) (dpe_lc ["_law_piece"] [] rfl (LcScope.of (by kernel_rfl)) (dpi_list (by rfl) (dpe_ix (dix (by rfl)) (dpv 0) dpe_int (fun _ _ => rfl))) (fun _ _ _ _ => ⟨(dpgn 0 (nd_of (by kernel_rfl))), (dpts_one (dpt_not (dpt_val (dpe_isi (by rfl) kit_list (by rfl) (by exact T.isinstance) (dpv 0) (by rfl) (by exact T.list) (by decide +kernel))))), (dpb_emit (by rfl) (by rfl) (dpv 0))⟩)) (dpe_lst dpa_nil) (nomark _)))) dpss_nil)
      (dpss_cons (dps_if (dpt_cmp (dop_eq (by rfl) (by exact hr.units)) (dpe_ix (dix (by rfl)) (dpv 1) dpe_int (fun _ _ => rfl)) dpe_str (nomark _)) (dpss_one (dps_ret (dpe_and (dpe_isi (by rfl) kit_list (by rfl) (by exact T.isinstance) (dpe_ix (dix (by rfl)) (dpv 0) dpe_int (fun _ _ => rfl)) (by rfl) (by exact T.list) (by decide +kernel)) (dpe_one (dpe_isi (by rfl) kit_list (by rfl) (by exact T.isinstance) (dpe_ix (dix (by rfl)) (dpv 0) dpe_int (fun _ _ => rfl)) (by rfl) (by exact T.list) (by decide +kernel)))))) dpss_nil)
      (dpss_one (dps_ret dpe_bl))))), fun ds Qd h => ?_⟩
  obtain ⟨m, rfl, hm, q⟩ := h
  rw [mD_is]
  show (_ : TSD) _ [some (false, .tuple (mI m)), some (false, .tuple (mI m))] _
  have hml := mI_len hm
  walk_at "d"
  rw [if_neg (by intro h; exact absurd (show false = true from h) (by decide))]
  walk_at "d"
  refine ⟨⟨lay_mI hm, lay_mI hm, dep_mI hm⟩, ?_⟩
  rw [eqv_mI hm]
  walk_at "d"
  refine lc_none (fun d hd es Q' q' => ?_) (by omega) ?_
  · have hd' := mI_all hm d hd
    walk_at "d"
    refine ⟨hd'.2.2.1, ?_⟩
    rw [hd'.2.2.2]
    walk_at "d"
    exact q'
  walk_at "d"
  rw [eqv_nil]
  walk_at "d"
  cases m with
  | nums w s ns =>
    obtain ⟨a1, a2, a3, a4, a5, a6, a7, a8, a9, a10, a11, _⟩ := wd_all hm.1
    refine ⟨.str w, atI_nat (j := 0) rfl, ?_⟩
    walk_at "d"
    refine ⟨⟨rfl, rfl⟩, ?_⟩
    rw [a1, id_eq]
    walk_at "d"
    refine ⟨.str w, atI_nat (j := 0) rfl, ?_⟩
    walk_at "d"
    refine ⟨⟨lay_s a8, lay_s (by decide +kernel), depth_s _⟩, ?_⟩
    rw [eqv_s, decide_eq_false a2, id_eq]
    walk_at "d"
    exact q
  | cut w n ps =>
    obtain ⟨hw, hn, hps⟩ := hm
    have hpl := hps.2.1
    refine ⟨.str w, atI_nat (j := 0) rfl, ?_⟩
    walk_at "d"
    refine ⟨⟨rfl, rfl⟩, ?_⟩
    rw [cut_in hw, id_eq]
    walk_at "d"
    refine ⟨.list (ps.map pcD), atI_nat (j := 2) rfl, ?_⟩
    walk_at "d"
    refine lc_none (fun d hd es Q' q' => ?_) (by rw [List.length_map]; omega) ?_
    · obtain ⟨p, _, rfl⟩ := List.mem_map.mp hd
      rw [show pcD p = .list (p.map arD) from rfl]
      walk_at "d"
      rw [if_neg (by intro h; exact absurd (show false = true from h) (by decide))]
      exact q'
    · walk_at "d"
      rw [eqv_nil, id_eq]
      walk_at "d"
      exact q
  | lay n a b =>
    obtain ⟨hn, ha, hb⟩ := hm
    refine ⟨.str "lay", atI_nat (j := 0) rfl, ?_⟩
    walk_at "d"
    rw [if_neg (by decide +kernel)]
    walk_at "d"
    refine ⟨.str "lay", atI_nat (j := 0) rfl, ?_⟩
    walk_at "d"
    refine ⟨⟨lay_s (by decide +kernel), lay_s (by decide +kernel), depth_s _⟩, ?_⟩
    rw [eqv_s, decide_eq_true rfl, id_eq]
    walk_at "d"
    refine ⟨iD a, atI_nat (j := 2) rfl, ?_⟩
    walk_at "d"
    rw [if_pos (show isList (iD a) = true from rfl)]
    walk_at "d"
    refine ⟨iD b, atI_nat (j := 3) rfl, ?_⟩
    walk_at "d"
    exact q
def ob : Mv → Bool
  | .nums _ _ _ => false
  | _ => true
theorem setK_m (ρ : Ren) (i : Nat) (m : Mv) : setK ρ i (.tuple (mI m)) (.own []) = ρ.set i (some (ob m, .tuple (mI m))) := by
  cases m with
  | nums w s ns =>
    unfold setK
    rw [if_pos (show flat (PyData.tuple (mI (.nums w s ns))) = true from flats_ints ns)]
    rfl
  | cut => rfl
  | lay => rfl
theorem ok_mem {t : Str} : PyData.strOk t = true ↔ ∀ c ∈ t.cps.toList, c < 1114112 := by
  unfold PyData.strOk
  rw [Array.all_eq_true_iff_forall_mem]
  simp
theorem sepj_mem {d : Nat} : ∀ {ts : List Str}, d ∈ (Str.join SEP ts).cps.toList → d = 32 ∨ d = 47 ∨ ∃ t ∈ ts, d ∈ t.cps.toList
  | [], h => by cases h
  | [x], h => .inr (.inr ⟨x, List.mem_cons_self, h⟩)
  | x :: y :: r, h => by
    rw [join_sep] at h
    simp only [List.mem_append, List.mem_cons] at h
    rcases h with h | h | h | h | h
    · exact .inr (.inr ⟨x, List.mem_cons_self, h⟩)
    · exact .inl h
    · exact .inr (.inl h)
    · exact .inl h
    · rcases sepj_mem h with h | h | ⟨t, ht, h⟩
      · exact .inl h
      · exact .inr (.inl h)
      · exact .inr (.inr ⟨t, List.mem_cons_of_mem _ ht, h⟩)
theorem mT_ok {m : Mv} (h : MOk m) : PyData.strOk (mT m) = true := by
  have hw : PyData.strOk (mW m) = true := by
    cases m with
    | nums w s ns => exact (wd_all h.1).2.2.2.2.2.2.2.2.1
    | cut w n ps => exact (rep_cut h.1).2.2.1
    | lay n a b => exact (show PyData.strOk (Str.ofString "lay") = true from by decide +kernel)
  rw [ok_mem] at hw ⊢
  intro c hc
  unfold mT at hc
  rw [app_l, app_l] at hc
  rcases List.mem_append.mp hc with hc | hc
  · rcases List.mem_append.mp hc with hc | hc
    · exact hw c hc
    · have : c = 32 := by simpa using hc
      omega
  · cases m with
    | nums w s ns =>
      have := spl_signs (r := ns) hc
      omega
    | cut w n ps =>
      rcases sepj_mem hc with h | h | ⟨t, ht, h⟩
      · omega
      · omega
      · rcases List.mem_cons.mp ht with rfl | ht
        · have := dec_signs n c h; omega
        · obtain ⟨x, _, rfl⟩ := List.mem_map.mp ht
          have := pcT_signs h
          omega
    | lay n a b =>
      rcases sepj_mem hc with h | h | ⟨t, ht, h⟩
      · omega
      · omega
      · simp only [List.mem_cons, List.not_mem_nil, or_false] at ht
        rcases ht with rfl | rfl | rfl
        · have := dec_signs n c h; omega
        · have := spl_signs h; omega
        · have := spl_signs h; omega
theorem mI_mut {m : Mv} (h : MOk m) : ∀ d ∈ mI m, (∃ es, ob m = true ∧ d = .list es ∧ es.length < 1000000) ∨ (∃ n, d = .int n) ∨ ∃ z, d = .str z := by
  cases m with
  | nums w s ns =>
    intro d hd
    rcases List.mem_cons.mp hd with rfl | hd
    · exact .inr (.inr ⟨_, rfl⟩)
    · obtain ⟨x, _, rfl⟩ := List.mem_map.mp hd
      exact .inr (.inl ⟨_, rfl⟩)
  | cut w n ps =>
    intro d hd
    simp only [mI, List.mem_cons, List.not_mem_nil, or_false] at hd
    rcases hd with rfl | rfl | rfl
    · exact .inr (.inr ⟨_, rfl⟩)
    · exact .inr (.inl ⟨_, rfl⟩)
    · exact .inl ⟨_, rfl, rfl, by rw [List.length_map]; have := h.2.2.2.1; omega⟩
  | lay n a b =>
    intro d hd
    simp only [mI, List.mem_cons, List.not_mem_nil, or_false] at hd
    rcases hd with rfl | rfl | rfl | rfl
    · exact .inr (.inr ⟨_, rfl⟩)
    · exact .inr (.inl ⟨_, rfl⟩)
    · exact .inl ⟨_, rfl, rfl, by rw [List.length_map]; have := h.2.1.2.1; omega⟩
    · exact .inl ⟨_, rfl, rfl, by rw [List.length_map]; have := h.2.2.2.1; omega⟩
-- _law_good  N = [(0, '_law_move_here'), (1, '_law_handed'), (2, '_law_text'), (3, '_law_turn'), (4, '_law_found'), (5, '_law_part')]  cells = []
abbrev s_l_good : Stmt := top 28
theorem sc_l_good : FnScope ["_law_move_here", "_law_handed", "_law_text", "_law_turn", "_law_found", "_law_part"] ["_law_move_here"] (defScope s_l_good) := ⟨rfl, rfl, rfl, by decide +kernel, rfl, by decide +kernel, by decide +kernel⟩
def sp_good : SpD := fun ds Q _ => ∃ m : Mv, ds = [mD m] ∧ MOk m ∧ Q (.bool true) true
theorem ok_l_good {f : Addr} {fd : FuncData} (F : Fun K "_law_good" "_law_good" s_l_good f fd) (T : Blt mg) (D_l_copied : Df P w K mg base "_law_copied" ["_law_move_here"] 1 (SpL K sp_copied)) (D_l_move_text : Df P w K mg base "_law_move_text" ["_law_move_here"] 2 (SpL K sp_mtx)) (D_move_shown : Df P w K mg base "move_shown" ["move"] 3 (SpL K sp_mtx)) (D_move_read : Df P w K mg base "move_read" ["text"] 4 (SpL K sp_mrd)) (D_l_is_move : Df P w K mg base "_law_is_move" ["_law_found", "_law_due"] 1 (SpL K sp_ism)) : FnOk P w K mg base CX0 5 f fd ["_law_move_here"] (SpL K sp_good) := by
  refine ok0 F sc_l_good (fun ds Q X h => ?_) (fun cdv A outer s H E hr => ?_) fun ds Qd Xd h => h
  · obtain ⟨m, rfl, _⟩ := h; rfl
  refine ⟨_, (dpss_cons (dpset 1 sc_l_good.nd (dpe_df (by exact D_l_copied) (by exact hr.mono (by omega)) (dpa_cons (dpv 0) dpa_nil)))
      (dpss_cons (dpset 2 sc_l_good.nd (dpe_df (by exact D_l_move_text) (by exact hr.mono (by omega)) (dpa_cons (dpv 0) dpa_nil)))
      (dpss_cons (dps_for PassesOwn.never rfl (dpi_range1 (by rfl) (by exact T.range) (dpa_cons dpe_int dpa_nil)) (dpgn 3 sc_l_good.nd) (dpss_cons (dps_if (dPWpt (dpw_or (dpt_cmp (dop_ne (by rfl) (by exact hr.units)) (dpe_df (by exact D_move_shown) (by exact hr.mono (by omega)) (dpa_cons (dpv 1) dpa_nil)) (dpv 2) (nomark _)) (dpw_or1 (dpt_cmp (dop_ne (by rfl) (by exact hr.units)) (dpv 1) (dpv 0) (nomark _))))) (dpss_one (dps_ret dpe_bl)) dpss_nil)
      (dpss_cons (dpset 4 sc_l_good.nd (dpe_df (by exact D_move_read) (by exact hr.mono (by omega)) (dpa_cons (dpv 2) dpa_nil)))
      (dpss_cons (dps_if (dpt_not (dpt_val (dpe_df (by exact D_l_is_move) (by exact hr.mono (by omega)) (dpa_cons (dpv 4) (dpa_cons (dpv 0) dpa_nil))))) (dpss_one (dps_ret dpe_bl)) dpss_nil)
      (dpss_one (dps_mutsl 4 5 PassesOwn.never rfl (by rfl) (qpv 4) (qpv 5) (qpgn 5 sc_l_good.nd) (qpt_val (qpe_callB (call_isiK K (by rfl)) (by rfl) (by exact T.isinstance) (by decide +kernel) (qpa_cons (qpv 5) (qpa_cons (qpe_bltn (v := .ty "list") (by rfl) (by exact T.list) (by decide +kernel) rfl (by decide) (by decide)) qpa_nil))))))))))
      (dpss_one (dps_ret dpe_bl))))), fun ds Qd h => ?_⟩
  obtain ⟨m, rfl, hm, q⟩ := h
  have hml := mI_len hm
  rw [mD_is]
  show (_ : TSD) _ [some (false, .tuple (mI m)), none, none, none, none, none] _
  walk_at "d"
  refine ⟨m, by rw [mD_is], hm, ?_⟩
  rw [mD_is]
  walk_at "d"
  rw [setK_m]
  walk_at "d"
  refine ⟨m, by rw [mD_is], hm, ?_⟩
  walk_at "d"
  refine lp_rng (fun _ ρ => ∃ x1 x2 x3 : Option (Bool × D), ρ = [some (false, .tuple (mI m)), some (ob m, .tuple (mI m)), some (false, .str (mT m)), x1, x2, x3]) ⟨_, _, _, rfl⟩ ?_ ?_
  · rintro i ρ hi ⟨x1, x2, x3, rfl⟩
    walk_at "d"
    refine ⟨_, _, rfl, ?_⟩
    walk_at "d"
    refine ⟨m, by rw [mD_is], hm, ?_⟩
    walk_at "d"
    refine ⟨⟨lay_s (mT_ok hm), lay_s (mT_ok hm), depth_s _⟩, ?_⟩
    rw [eqv_s, decide_eq_true rfl]
    walk_at "d"
    refine ⟨_, _, rfl, ?_⟩
    walk_at "d"
    refine ⟨⟨lay_mI hm, lay_mI hm, dep_mI hm⟩, ?_⟩
    rw [eqv_mI hm]
    walk_at "d"
    refine ⟨m, rfl, hm, ?_⟩
    rw [mD_is]
    walk_at "d"
    rw [setK_m]
    walk_at "d"
    refine ⟨_, _, rfl, ?_⟩
    walk_at "d"
    refine ⟨m, by rw [mD_is], hm, ?_⟩
    walk_at "d"
    refine w_mutsl ⟨by decide, by simp, _, _, rfl, mI_mut hm, by omega, ?_⟩
    walk_at "d"
    exact ⟨_, _, _, rfl⟩
  · rintro ρ ⟨x1, x2, x3, rfl⟩
    walk_at "d"
    exact q
-- law  N = [(0, '_law_script'), (1, '_law_one'), (2, '_law_other')]  cells = []
abbrev s_law : Stmt := top 29
theorem sc_law : FnScope ["_law_script", "_law_one", "_law_other"] ["_law_script"] (defScope s_law) := ⟨rfl, rfl, rfl, by decide +kernel, rfl, by decide +kernel, by decide +kernel⟩
def sp_lawD : SpD := fun ds Q _ => ∃ (ns : List Int), ds = [scr ns] ∧ ∀ o, Q (.bool true) o
theorem ok_lawD {f : Addr} {fd : FuncData} (F : Fun K "law" "law" s_law f fd) (T : Blt mg) (D_l_move : Df P w K mg base "_law_move" ["_law_script", "_law_at"] 3 (SpL K sp_move)) (D_l_good : Df P w K mg base "_law_good" ["_law_move_here"] 5 (SpL K sp_good)) : FnOk P w K mg base CX0 6 f fd ["_law_script"] (SpL K sp_lawD) := by
  refine ok0 F sc_law (fun ds Q X h => ?_) (fun cdv A outer s H E hr => ?_) fun ds Qd Xd h => h
  · obtain ⟨ns, rfl, _⟩ := h; rfl
  refine ⟨_, (dpss_cons (dpset 1 sc_law.nd (dpe_df (by exact D_l_move) (by exact hr.mono (by omega)) (dpa_cons (dpv 0) (dpa_cons dpe_int dpa_nil))))
      (dpss_cons (dpset 2 sc_law.nd (dpe_df (by exact D_l_move) (by exact hr.mono (by omega)) (dpa_cons (dpv 0) (dpa_cons dpe_int dpa_nil))))
      (dpss_one (dps_ret (dpe_and (dpe_df (by exact D_l_good) (by exact hr.mono (by omega)) (dpa_cons (dpv 1) dpa_nil)) (dpe_and (dpe_df (by exact D_l_good) (by exact hr.mono (by omega)) (dpa_cons (dpv 2) dpa_nil)) (dpe_one (dpe_df (by exact D_l_good) (by exact hr.mono (by omega)) (dpa_cons (dpv 1) dpa_nil))))))))), fun ds Qd h => ?_⟩
  obtain ⟨ns, rfl, q⟩ := h
  show (_ : TSD) _ [some (false, scr ns), none, none] _
  walk_at "d"
  refine ⟨ns, 0, rfl, by omega, fun m hm => ?_⟩
  rw [mD_is]
  walk_at "d"
  rw [setK_m]
  walk_at "d"
  refine ⟨ns, 2, rfl, by omega, fun m' hm' => ?_⟩
  rw [mD_is]
  walk_at "d"
  rw [setK_m]
  walk_at "d"
  refine ⟨_, _, rfl, ?_⟩
  walk_at "d"
  refine ⟨m, by rw [mD_is], hm, ?_⟩
  walk_at "d"
  refine ⟨_, _, rfl, ?_⟩
  walk_at "d"
  refine ⟨m', by rw [mD_is], hm', ?_⟩
  walk_at "d"
  refine ⟨_, _, rfl, ?_⟩
  walk_at "d"
  refine ⟨m, by rw [mD_is], hm, ?_⟩
  walk_at "d"
  exact q _
def sp_lawH (K : PySem.W.Frag) : Sp := fun vs H Q _ => ∃ (a : Addr) (ns : List Int), vs = [.ref a] ∧ SqL K H a (ns.map V.int) ∧ ∀ H', Q (.bl true) H'
theorem law_of {vs : List V} {H : Hp} {Q : VK} {E : XK} (h : sp_lawH K vs H Q E) : SpL K sp_lawD vs H Q E := by
  obtain ⟨a, ns, rfl, hS, q⟩ := h
  refine ⟨[scr ns], fun d _ => d = .bool true, Xf, .cons (.scr ns hS) .nil, ⟨ns, rfl, fun _ => rfl⟩, fun d o v H' e _ r => ?_, fun _ _ z _ => z.elim⟩
  subst e
  have hv : Dn K H' v (.bool true) := by
    cases o with
    | true => obtain ⟨ms, h1, _⟩ := r; exact h1.den
    | false => exact r
  cases hv
  exact q H'
theorem ok_law {f : Addr} {fd : FuncData} (F : Fun K "law" "law" s_law f fd) (T : Blt mg) (D_l_move : Df P w K mg base "_law_move" ["_law_script", "_law_at"] 3 (SpL K sp_move)) (D_l_good : Df P w K mg base "_law_good" ["_law_move_here"] 5 (SpL K sp_good)) : FnOk P w K mg base CX0 6 f fd ["_law_script"] (sp_lawH K) := (ok_lawD F T D_l_move D_l_good).imp fun _ _ _ _ h => law_of h
end
end K83

namespace K83
open PySem PySem.Spec PyProof.Rows L2
theorem len0 (us : List Value) (h : us.length = 0) : us = [] := List.eq_nil_of_length_eq_zero h
theorem len1 (us : List Value) (h : us.length = 1) : ∃ a0, us = [a0] := by
  cases us with
  | nil => exact absurd h.symm (Nat.succ_ne_zero _)
  | cons a r =>
    have e := len0 r (Nat.succ.inj h)
    subst e
    exact ⟨a, rfl⟩
theorem len2 (us : List Value) (h : us.length = 2) : ∃ a0 a1, us = [a0, a1] := by
  cases us with
  | nil => exact absurd h.symm (Nat.succ_ne_zero _)
  | cons a r =>
    obtain ⟨a1, e⟩ := len1 r (Nat.succ.inj h)
    subst e
    exact ⟨a, a1, rfl⟩
theorem len3 (us : List Value) (h : us.length = 3) : ∃ a0 a1 a2, us = [a0, a1, a2] := by
  cases us with
  | nil => exact absurd h.symm (Nat.succ_ne_zero _)
  | cons a r =>
    obtain ⟨a1, a2, e⟩ := len2 r (Nat.succ.inj h)
    subst e
    exact ⟨a, a1, a2, rfl⟩
theorem all_mk {l : PySem.W.OpenLaw} {w : World} {K : PySem.W.Frag} {h : Heap} {mg : Str → Option Value} {fa : Addr} (X : K.In h) (G : h.Ns mainGlobals mg) (hfa : mg "law" = some (.ref fa))
    {od1 an1 : Option Addr} {sl1 : Array (Option Value)} {oc1 kV1 dc1 pm1 cd1 ct1 : Value} {f1 : Addr}
    {od2 an2 : Option Addr} {sl2 : Array (Option Value)} {oc2 kV2 dc2 pm2 cd2 ct2 : Value} {f2 : Addr}
    {od3 an3 : Option Addr} {sl3 : Array (Option Value)} {oc3 kV3 dc3 pm3 cd3 ct3 : Value} {f3 : Addr}
    {od4 an4 : Option Addr} {sl4 : Array (Option Value)} {oc4 kV4 dc4 pm4 cd4 ct4 : Value} {f4 : Addr}
    {od5 an5 : Option Addr} {sl5 : Array (Option Value)} {oc5 kV5 dc5 pm5 cd5 ct5 : Value} {f5 : Addr}
    {od6 an6 : Option Addr} {sl6 : Array (Option Value)} {oc6 kV6 dc6 pm6 cd6 ct6 : Value} {f6 : Addr}
    {od7 an7 : Option Addr} {sl7 : Array (Option Value)} {oc7 kV7 dc7 pm7 cd7 ct7 : Value} {f7 : Addr}
    {od8 an8 : Option Addr} {sl8 : Array (Option Value)} {oc8 kV8 dc8 pm8 cd8 ct8 : Value} {f8 : Addr}
    {od9 an9 : Option Addr} {sl9 : Array (Option Value)} {oc9 kV9 dc9 pm9 cd9 ct9 : Value} {f9 : Addr}
    {od10 an10 : Option Addr} {sl10 : Array (Option Value)} {oc10 kV10 dc10 pm10 cd10 ct10 : Value} {f10 : Addr}
    {od11 an11 : Option Addr} {sl11 : Array (Option Value)} {oc11 kV11 dc11 pm11 cd11 ct11 : Value} {f11 : Addr}
    {od12 an12 : Option Addr} {sl12 : Array (Option Value)} {oc12 kV12 dc12 pm12 cd12 ct12 : Value} {f12 : Addr}
    {od13 an13 : Option Addr} {sl13 : Array (Option Value)} {oc13 kV13 dc13 pm13 cd13 ct13 : Value} {f13 : Addr}
    {od14 an14 : Option Addr} {sl14 : Array (Option Value)} {oc14 kV14 dc14 pm14 cd14 ct14 : Value} {f14 : Addr}
    {od15 an15 : Option Addr} {sl15 : Array (Option Value)} {oc15 kV15 dc15 pm15 cd15 ct15 : Value} {f15 : Addr}
    {od16 an16 : Option Addr} {sl16 : Array (Option Value)} {oc16 kV16 dc16 pm16 cd16 ct16 : Value} {f16 : Addr}
    {od17 an17 : Option Addr} {sl17 : Array (Option Value)} {oc17 kV17 dc17 pm17 cd17 ct17 : Value} {f17 : Addr}
    {od18 an18 : Option Addr} {sl18 : Array (Option Value)} {oc18 kV18 dc18 pm18 cd18 ct18 : Value} {f18 : Addr}
    {od19 an19 : Option Addr} {sl19 : Array (Option Value)} {oc19 kV19 dc19 pm19 cd19 ct19 : Value} {f19 : Addr}
    {od20 an20 : Option Addr} {sl20 : Array (Option Value)} {oc20 kV20 dc20 pm20 cd20 ct20 : Value} {f20 : Addr}
    {od21 an21 : Option Addr} {sl21 : Array (Option Value)} {oc21 kV21 dc21 pm21 cd21 ct21 : Value} {f21 : Addr}
    {od22 an22 : Option Addr} {sl22 : Array (Option Value)} {oc22 kV22 dc22 pm22 cd22 ct22 : Value} {f22 : Addr}
    {od23 an23 : Option Addr} {sl23 : Array (Option Value)} {oc23 kV23 dc23 pm23 cd23 ct23 : Value} {f23 : Addr}
    (a1 : PySem.W.nsIn K mainGlobals "number_shown" = some (some (.ref f1))) (l1 : K.lookup f1 = some ⟨oc1, od1, .func (PySem.W.fnOf "number_shown" "number_shown" (defArgs s_number_shown) (defBody s_number_shown) (defScope s_number_shown) .none kV1 dc1 pm1 an1 cd1 ct1), sl1⟩) (c1 : PySem.W.codeIn K cd1 "number_shown" = true) (k1 : PySem.W.keepIn K (.ref f1) = true)
    (a2 : PySem.W.nsIn K mainGlobals "number_read" = some (some (.ref f2))) (l2 : K.lookup f2 = some ⟨oc2, od2, .func (PySem.W.fnOf "number_read" "number_read" (defArgs s_number_read) (defBody s_number_read) (defScope s_number_read) .none kV2 dc2 pm2 an2 cd2 ct2), sl2⟩) (c2 : PySem.W.codeIn K cd2 "number_read" = true) (k2 : PySem.W.keepIn K (.ref f2) = true)
    (a3 : PySem.W.nsIn K mainGlobals "numbers_shown" = some (some (.ref f3))) (l3 : K.lookup f3 = some ⟨oc3, od3, .func (PySem.W.fnOf "numbers_shown" "numbers_shown" (defArgs s_numbers_shown) (defBody s_numbers_shown) (defScope s_numbers_shown) .none kV3 dc3 pm3 an3 cd3 ct3), sl3⟩) (c3 : PySem.W.codeIn K cd3 "numbers_shown" = true) (k3 : PySem.W.keepIn K (.ref f3) = true)
    (a4 : PySem.W.nsIn K mainGlobals "numbers_read" = some (some (.ref f4))) (l4 : K.lookup f4 = some ⟨oc4, od4, .func (PySem.W.fnOf "numbers_read" "numbers_read" (defArgs s_numbers_read) (defBody s_numbers_read) (defScope s_numbers_read) .none kV4 dc4 pm4 an4 cd4 ct4), sl4⟩) (c4 : PySem.W.codeIn K cd4 "numbers_read" = true) (k4 : PySem.W.keepIn K (.ref f4) = true)
    (a5 : PySem.W.nsIn K mainGlobals "arrow_shown" = some (some (.ref f5))) (l5 : K.lookup f5 = some ⟨oc5, od5, .func (PySem.W.fnOf "arrow_shown" "arrow_shown" (defArgs s_arrow_shown) (defBody s_arrow_shown) (defScope s_arrow_shown) .none kV5 dc5 pm5 an5 cd5 ct5), sl5⟩) (c5 : PySem.W.codeIn K cd5 "arrow_shown" = true) (k5 : PySem.W.keepIn K (.ref f5) = true)
    (a6 : PySem.W.nsIn K mainGlobals "move_shown" = some (some (.ref f6))) (l6 : K.lookup f6 = some ⟨oc6, od6, .func (PySem.W.fnOf "move_shown" "move_shown" (defArgs s_move_shown) (defBody s_move_shown) (defScope s_move_shown) .none kV6 dc6 pm6 an6 cd6 ct6), sl6⟩) (c6 : PySem.W.codeIn K cd6 "move_shown" = true) (k6 : PySem.W.keepIn K (.ref f6) = true)
    (a7 : PySem.W.nsIn K mainGlobals "lay_read" = some (some (.ref f7))) (l7 : K.lookup f7 = some ⟨oc7, od7, .func (PySem.W.fnOf "lay_read" "lay_read" (defArgs s_lay_read) (defBody s_lay_read) (defScope s_lay_read) .none kV7 dc7 pm7 an7 cd7 ct7), sl7⟩) (c7 : PySem.W.codeIn K cd7 "lay_read" = true) (k7 : PySem.W.keepIn K (.ref f7) = true)
    (a8 : PySem.W.nsIn K mainGlobals "arrow_read" = some (some (.ref f8))) (l8 : K.lookup f8 = some ⟨oc8, od8, .func (PySem.W.fnOf "arrow_read" "arrow_read" (defArgs s_arrow_read) (defBody s_arrow_read) (defScope s_arrow_read) .none kV8 dc8 pm8 an8 cd8 ct8), sl8⟩) (c8 : PySem.W.codeIn K cd8 "arrow_read" = true) (k8 : PySem.W.keepIn K (.ref f8) = true)
    (a9 : PySem.W.nsIn K mainGlobals "move_read" = some (some (.ref f9))) (l9 : K.lookup f9 = some ⟨oc9, od9, .func (PySem.W.fnOf "move_read" "move_read" (defArgs s_move_read) (defBody s_move_read) (defScope s_move_read) .none kV9 dc9 pm9 an9 cd9 ct9), sl9⟩) (c9 : PySem.W.codeIn K cd9 "move_read" = true) (k9 : PySem.W.keepIn K (.ref f9) = true)
    (a10 : PySem.W.nsIn K mainGlobals "_law_cell_at" = some (some (.ref f10))) (l10 : K.lookup f10 = some ⟨oc10, od10, .func (PySem.W.fnOf "_law_cell_at" "_law_cell_at" (defArgs s_l_cell_at) (defBody s_l_cell_at) (defScope s_l_cell_at) .none kV10 dc10 pm10 an10 cd10 ct10), sl10⟩) (c10 : PySem.W.codeIn K cd10 "_law_cell_at" = true) (k10 : PySem.W.keepIn K (.ref f10) = true)
    (a11 : PySem.W.nsIn K mainGlobals "_law_big" = some (some (.ref f11))) (l11 : K.lookup f11 = some ⟨oc11, od11, .func (PySem.W.fnOf "_law_big" "_law_big" (defArgs s_l_big) (defBody s_l_big) (defScope s_l_big) .none kV11 dc11 pm11 an11 cd11 ct11), sl11⟩) (c11 : PySem.W.codeIn K cd11 "_law_big" = true) (k11 : PySem.W.keepIn K (.ref f11) = true)
    (a12 : PySem.W.nsIn K mainGlobals "_law_number" = some (some (.ref f12))) (l12 : K.lookup f12 = some ⟨oc12, od12, .func (PySem.W.fnOf "_law_number" "_law_number" (defArgs s_l_number) (defBody s_l_number) (defScope s_l_number) .none kV12 dc12 pm12 an12 cd12 ct12), sl12⟩) (c12 : PySem.W.codeIn K cd12 "_law_number" = true) (k12 : PySem.W.keepIn K (.ref f12) = true)
    (a13 : PySem.W.nsIn K mainGlobals "_law_places" = some (some (.ref f13))) (l13 : K.lookup f13 = some ⟨oc13, od13, .func (PySem.W.fnOf "_law_places" "_law_places" (defArgs s_l_places) (defBody s_l_places) (defScope s_l_places) .none kV13 dc13 pm13 an13 cd13 ct13), sl13⟩) (c13 : PySem.W.codeIn K cd13 "_law_places" = true) (k13 : PySem.W.keepIn K (.ref f13) = true)
    (a14 : PySem.W.nsIn K mainGlobals "_law_pieces" = some (some (.ref f14))) (l14 : K.lookup f14 = some ⟨oc14, od14, .func (PySem.W.fnOf "_law_pieces" "_law_pieces" (defArgs s_l_pieces) (defBody s_l_pieces) (defScope s_l_pieces) .none kV14 dc14 pm14 an14 cd14 ct14), sl14⟩) (c14 : PySem.W.codeIn K cd14 "_law_pieces" = true) (k14 : PySem.W.keepIn K (.ref f14) = true)
    (a15 : PySem.W.nsIn K mainGlobals "_law_some" = some (some (.ref f15))) (l15 : K.lookup f15 = some ⟨oc15, od15, .func (PySem.W.fnOf "_law_some" "_law_some" (defArgs s_l_some) (defBody s_l_some) (defScope s_l_some) .none kV15 dc15 pm15 an15 cd15 ct15), sl15⟩) (c15 : PySem.W.codeIn K cd15 "_law_some" = true) (k15 : PySem.W.keepIn K (.ref f15) = true)
    (a16 : PySem.W.nsIn K mainGlobals "_law_move" = some (some (.ref f16))) (l16 : K.lookup f16 = some ⟨oc16, od16, .func (PySem.W.fnOf "_law_move" "_law_move" (defArgs s_l_move) (defBody s_l_move) (defScope s_l_move) .none kV16 dc16 pm16 an16 cd16 ct16), sl16⟩) (c16 : PySem.W.codeIn K cd16 "_law_move" = true) (k16 : PySem.W.keepIn K (.ref f16) = true)
    (a17 : PySem.W.nsIn K mainGlobals "_law_spelled" = some (some (.ref f17))) (l17 : K.lookup f17 = some ⟨oc17, od17, .func (PySem.W.fnOf "_law_spelled" "_law_spelled" (defArgs s_l_spelled) (defBody s_l_spelled) (defScope s_l_spelled) .none kV17 dc17 pm17 an17 cd17 ct17), sl17⟩) (c17 : PySem.W.codeIn K cd17 "_law_spelled" = true) (k17 : PySem.W.keepIn K (.ref f17) = true)
    (a18 : PySem.W.nsIn K mainGlobals "_law_piece_text" = some (some (.ref f18))) (l18 : K.lookup f18 = some ⟨oc18, od18, .func (PySem.W.fnOf "_law_piece_text" "_law_piece_text" (defArgs s_l_piece_text) (defBody s_l_piece_text) (defScope s_l_piece_text) .none kV18 dc18 pm18 an18 cd18 ct18), sl18⟩) (c18 : PySem.W.codeIn K cd18 "_law_piece_text" = true) (k18 : PySem.W.keepIn K (.ref f18) = true)
    (a19 : PySem.W.nsIn K mainGlobals "_law_move_text" = some (some (.ref f19))) (l19 : K.lookup f19 = some ⟨oc19, od19, .func (PySem.W.fnOf "_law_move_text" "_law_move_text" (defArgs s_l_move_text) (defBody s_l_move_text) (defScope s_l_move_text) .none kV19 dc19 pm19 an19 cd19 ct19), sl19⟩) (c19 : PySem.W.codeIn K cd19 "_law_move_text" = true) (k19 : PySem.W.keepIn K (.ref f19) = true)
    (a20 : PySem.W.nsIn K mainGlobals "_law_copied" = some (some (.ref f20))) (l20 : K.lookup f20 = some ⟨oc20, od20, .func (PySem.W.fnOf "_law_copied" "_law_copied" (defArgs s_l_copied) (defBody s_l_copied) (defScope s_l_copied) .none kV20 dc20 pm20 an20 cd20 ct20), sl20⟩) (c20 : PySem.W.codeIn K cd20 "_law_copied" = true) (k20 : PySem.W.keepIn K (.ref f20) = true)
    (a21 : PySem.W.nsIn K mainGlobals "_law_is_move" = some (some (.ref f21))) (l21 : K.lookup f21 = some ⟨oc21, od21, .func (PySem.W.fnOf "_law_is_move" "_law_is_move" (defArgs s_l_is_move) (defBody s_l_is_move) (defScope s_l_is_move) .none kV21 dc21 pm21 an21 cd21 ct21), sl21⟩) (c21 : PySem.W.codeIn K cd21 "_law_is_move" = true) (k21 : PySem.W.keepIn K (.ref f21) = true)
    (a22 : PySem.W.nsIn K mainGlobals "_law_good" = some (some (.ref f22))) (l22 : K.lookup f22 = some ⟨oc22, od22, .func (PySem.W.fnOf "_law_good" "_law_good" (defArgs s_l_good) (defBody s_l_good) (defScope s_l_good) .none kV22 dc22 pm22 an22 cd22 ct22), sl22⟩) (c22 : PySem.W.codeIn K cd22 "_law_good" = true) (k22 : PySem.W.keepIn K (.ref f22) = true)
    (a23 : PySem.W.nsIn K mainGlobals "law" = some (some (.ref f23))) (l23 : K.lookup f23 = some ⟨oc23, od23, .func (PySem.W.fnOf "law" "law" (defArgs s_law) (defBody s_law) (defScope s_law) .none kV23 dc23 pm23 an23 cd23 ct23), sl23⟩) (c23 : PySem.W.codeIn K cd23 "law" = true) (k23 : PySem.W.keepIn K (.ref f23) = true)
    {cE0 : Addr} {t_FIGURES : Nat} {a_NUMBERS_BEHIND n_NUMBERS_BEHIND : Nat} {es_NUMBERS_BEHIND : Array DictEntry}
    (x_RowError : PySem.W.nsIn K mainGlobals "RowError" = some (some (.ref cE0))) (y_RowError : PySem.W.excIn K cE0 bmV "ValueError.__new__" = true) (g_FIGURES : PySem.W.nsIn K mainGlobals "FIGURES" = some (some (.str "0123456789" t_FIGURES))) (g_NUMBERS_BEHIND : PySem.W.nsIn K mainGlobals "NUMBERS_BEHIND" = some (some (.ref a_NUMBERS_BEHIND))) (lk_NUMBERS_BEHIND : K.lookup a_NUMBERS_BEHIND = some ⟨.type "dict", none, .dict es_NUMBERS_BEHIND n_NUMBERS_BEHIND, #[]⟩) (i_sNUMBERS_BEHIND : (a_NUMBERS_BEHIND == sysModules) = false) (hk_NUMBERS_BEHIND : PySem.W.KeysLit w.params es_NUMBERS_BEHIND.toList) (i_rNUMBERS_BEHIND : L2.rowsI es_NUMBERS_BEHIND.toList [("swap", 2), ("join-out", 2), ("join-in", 2), ("draw", 1), ("row", 3), ("column", 3)] = true)
    (z_len : PySem.W.nsIn K mainGlobals "len" = some none) (z_range : PySem.W.nsIn K mainGlobals "range" = some none) (z_list : PySem.W.nsIn K mainGlobals "list" = some none) (z_int : PySem.W.nsIn K mainGlobals "int" = some none) (z_bool : PySem.W.nsIn K mainGlobals "bool" = some none) (z_isinstance : PySem.W.nsIn K mainGlobals "isinstance" = some none) (z_any : PySem.W.nsIn K mainGlobals "any" = some none) (z_abs : PySem.W.nsIn K mainGlobals "abs" = some none) (z_divmod : PySem.W.nsIn K mainGlobals "divmod" = some none) (z_str : PySem.W.nsIn K mainGlobals "str" = some none) (z_tuple : PySem.W.nsIn K mainGlobals "tuple" = some none) :
    ∃ fd : FuncData, (∀ (s : Shared) (v : Value), BindsTo s fd ⟨[v], []⟩ [("_law_script", v)]) ∧ ∀ base : Heap, K.In base → base.Ns mainGlobals mg → FnOk l.prog w K mg base CX0 6 fa fd ["_law_script"] (sp_lawH K) := by
  have e := hfa.symm.trans (PySem.W.mg_of X G a23)
  cases e
  have T : Blt mg := ⟨PySem.W.mg_none_of X G z_len, PySem.W.mg_none_of X G z_range, PySem.W.mg_none_of X G z_list, PySem.W.mg_none_of X G z_int, PySem.W.mg_none_of X G z_bool, PySem.W.mg_none_of X G z_isinstance, PySem.W.mg_none_of X G z_any, PySem.W.mg_none_of X G z_abs, PySem.W.mg_none_of X G z_divmod, PySem.W.mg_none_of X G z_str, PySem.W.mg_none_of X G z_tuple⟩
  have F1 := fun_mk (st := s_number_shown) l1 c1 k1
  have b1 := F1.binds (ps := ["number"]) fun _ _ _ _ _ _ us hl => by obtain ⟨_, e⟩ := len1 us hl; subst e; rfl
  have F2 := fun_mk (st := s_number_read) l2 c2 k2
  have b2 := F2.binds (ps := ["text"]) fun _ _ _ _ _ _ us hl => by obtain ⟨_, e⟩ := len1 us hl; subst e; rfl
  have F3 := fun_mk (st := s_numbers_shown) l3 c3 k3
  have b3 := F3.binds (ps := ["numbers"]) fun _ _ _ _ _ _ us hl => by obtain ⟨_, e⟩ := len1 us hl; subst e; rfl
  have F4 := fun_mk (st := s_numbers_read) l4 c4 k4
  have b4 := F4.binds (ps := ["text"]) fun _ _ _ _ _ _ us hl => by obtain ⟨_, e⟩ := len1 us hl; subst e; rfl
  have F5 := fun_mk (st := s_arrow_shown) l5 c5 k5
  have b5 := F5.binds (ps := ["arrow"]) fun _ _ _ _ _ _ us hl => by obtain ⟨_, e⟩ := len1 us hl; subst e; rfl
  have F6 := fun_mk (st := s_move_shown) l6 c6 k6
  have b6 := F6.binds (ps := ["move"]) fun _ _ _ _ _ _ us hl => by obtain ⟨_, e⟩ := len1 us hl; subst e; rfl
  have F7 := fun_mk (st := s_lay_read) l7 c7 k7
  have b7 := F7.binds (ps := ["first", "parts"]) fun _ _ _ _ _ _ us hl => by obtain ⟨_, _, e⟩ := len2 us hl; subst e; rfl
  have F8 := fun_mk (st := s_arrow_read) l8 c8 k8
  have b8 := F8.binds (ps := ["text"]) fun _ _ _ _ _ _ us hl => by obtain ⟨_, e⟩ := len1 us hl; subst e; rfl
  have F9 := fun_mk (st := s_move_read) l9 c9 k9
  have b9 := F9.binds (ps := ["text"]) fun _ _ _ _ _ _ us hl => by obtain ⟨_, e⟩ := len1 us hl; subst e; rfl
  have F10 := fun_mk (st := s_l_cell_at) l10 c10 k10
  have b10 := F10.binds (ps := ["_law_script", "_law_k"]) fun _ _ _ _ _ _ us hl => by obtain ⟨_, _, e⟩ := len2 us hl; subst e; rfl
  have F11 := fun_mk (st := s_l_big) l11 c11 k11
  have b11 := F11.binds (ps := ["_law_script", "_law_at"]) fun _ _ _ _ _ _ us hl => by obtain ⟨_, _, e⟩ := len2 us hl; subst e; rfl
  have F12 := fun_mk (st := s_l_number) l12 c12 k12
  have b12 := F12.binds (ps := ["_law_big_here"]) fun _ _ _ _ _ _ us hl => by obtain ⟨_, e⟩ := len1 us hl; subst e; rfl
  have F13 := fun_mk (st := s_l_places) l13 c13 k13
  have b13 := F13.binds (ps := ["_law_big_here", "_law_many", "_law_most"]) fun _ _ _ _ _ _ us hl => by obtain ⟨_, _, _, e⟩ := len3 us hl; subst e; rfl
  have F14 := fun_mk (st := s_l_pieces) l14 c14 k14
  have b14 := F14.binds (ps := ["_law_big_here"]) fun _ _ _ _ _ _ us hl => by obtain ⟨_, e⟩ := len1 us hl; subst e; rfl
  have F15 := fun_mk (st := s_l_some) l15 c15 k15
  have b15 := F15.binds (ps := ["_law_big_here"]) fun _ _ _ _ _ _ us hl => by obtain ⟨_, e⟩ := len1 us hl; subst e; rfl
  have F16 := fun_mk (st := s_l_move) l16 c16 k16
  have b16 := F16.binds (ps := ["_law_script", "_law_at"]) fun _ _ _ _ _ _ us hl => by obtain ⟨_, _, e⟩ := len2 us hl; subst e; rfl
  have F17 := fun_mk (st := s_l_spelled) l17 c17 k17
  have b17 := F17.binds (ps := ["_law_numbers"]) fun _ _ _ _ _ _ us hl => by obtain ⟨_, e⟩ := len1 us hl; subst e; rfl
  have F18 := fun_mk (st := s_l_piece_text) l18 c18 k18
  have b18 := F18.binds (ps := ["_law_piece"]) fun _ _ _ _ _ _ us hl => by obtain ⟨_, e⟩ := len1 us hl; subst e; rfl
  have F19 := fun_mk (st := s_l_move_text) l19 c19 k19
  have b19 := F19.binds (ps := ["_law_move_here"]) fun _ _ _ _ _ _ us hl => by obtain ⟨_, e⟩ := len1 us hl; subst e; rfl
  have F20 := fun_mk (st := s_l_copied) l20 c20 k20
  have b20 := F20.binds (ps := ["_law_move_here"]) fun _ _ _ _ _ _ us hl => by obtain ⟨_, e⟩ := len1 us hl; subst e; rfl
  have F21 := fun_mk (st := s_l_is_move) l21 c21 k21
  have b21 := F21.binds (ps := ["_law_found", "_law_due"]) fun _ _ _ _ _ _ us hl => by obtain ⟨_, _, e⟩ := len2 us hl; subst e; rfl
  have F22 := fun_mk (st := s_l_good) l22 c22 k22
  have b22 := F22.binds (ps := ["_law_move_here"]) fun _ _ _ _ _ _ us hl => by obtain ⟨_, e⟩ := len1 us hl; subst e; rfl
  have F23 := fun_mk (st := s_law) l23 c23 k23
  refine ⟨PySem.W.fnOf "law" "law" (defArgs s_law) (defBody s_law) (defScope s_law) .none kV23 dc23 pm23 an23 cd23 ct23, fun s v => .of_eq rfl, fun base _ _ => ?_⟩
  have C_RowError : ExC K mg "RowError" cE0 := ⟨PySem.W.mg_of X G x_RowError, y_RowError⟩
  have G_FIGURES : DL.GStr mg "FIGURES" "0123456789" := ⟨_, PySem.W.mg_of X G g_FIGURES⟩
  have G_NUMBERS_BEHIND : L2.GDct w.params K mg "NUMBERS_BEHIND" [("swap", 2), ("join-out", 2), ("join-in", 2), ("draw", 1), ("row", 3), ("column", 3)] := ⟨a_NUMBERS_BEHIND, es_NUMBERS_BEHIND, n_NUMBERS_BEHIND, PySem.W.mg_of X G g_NUMBERS_BEHIND, i_sNUMBERS_BEHIND, lk_NUMBERS_BEHIND, hk_NUMBERS_BEHIND, i_rNUMBERS_BEHIND⟩
  have D_number_shown : Df l.prog w K mg base "number_shown" ["number"] 1 (DL.SpL K sp_shown) := ⟨_, _, ok_number_shown F1 T , PySem.W.mg_of X G a1, k1, b1⟩
  have D_number_read : Df l.prog w K mg base "number_read" ["text"] 1 (DL.SpL K sp_read) := ⟨_, _, ok_number_read F2 T G_FIGURES, PySem.W.mg_of X G a2, k2, b2⟩
  have D_numbers_shown : Df l.prog w K mg base "numbers_shown" ["numbers"] 2 (DL.SpL K sp_shs) := ⟨_, _, ok_numbers_shown F3 T D_number_shown, PySem.W.mg_of X G a3, k3, b3⟩
  have D_numbers_read : Df l.prog w K mg base "numbers_read" ["text"] 2 (DL.SpL K sp_rds) := ⟨_, _, ok_numbers_read F4 T D_number_read, PySem.W.mg_of X G a4, k4, b4⟩
  have D_arrow_shown : Df l.prog w K mg base "arrow_shown" ["arrow"] 2 (DL.SpL K sp_ash) := ⟨_, _, ok_arrow_shown F5 T D_number_shown, PySem.W.mg_of X G a5, k5, b5⟩
  have D_move_shown : Df l.prog w K mg base "move_shown" ["move"] 3 (DL.SpL K sp_mtx) := ⟨_, _, ok_move_shown F6 T G_NUMBERS_BEHIND D_numbers_shown D_number_shown D_arrow_shown, PySem.W.mg_of X G a6, k6, b6⟩
  have D_lay_read : Df l.prog w K mg base "lay_read" ["first", "parts"] 3 (DL.SpL K sp_lrd) := ⟨_, _, ok_lay_read F7 T D_number_read D_numbers_read, PySem.W.mg_of X G a7, k7, b7⟩
  have D_arrow_read : Df l.prog w K mg base "arrow_read" ["text"] 2 (DL.SpL K sp_ard) := ⟨_, _, ok_arrow_read F8 T D_number_read, PySem.W.mg_of X G a8, k8, b8⟩
  have D_move_read : Df l.prog w K mg base "move_read" ["text"] 4 (DL.SpL K sp_mrd) := ⟨_, _, ok_move_read F9 T G_NUMBERS_BEHIND D_numbers_read D_number_read D_lay_read D_arrow_read, PySem.W.mg_of X G a9, k9, b9⟩
  have D_l_cell_at : Df l.prog w K mg base "_law_cell_at" ["_law_script", "_law_k"] 1 (DL.SpL K sp_cell) := ⟨_, _, ok_l_cell_at F10 T , PySem.W.mg_of X G a10, k10, b10⟩
  have D_l_big : Df l.prog w K mg base "_law_big" ["_law_script", "_law_at"] 2 (DL.SpL K sp_big) := ⟨_, _, ok_l_big F11 T D_l_cell_at, PySem.W.mg_of X G a11, k11, b11⟩
  have D_l_number : Df l.prog w K mg base "_law_number" ["_law_big_here"] 1 (DL.SpL K sp_number) := ⟨_, _, ok_l_number F12 T , PySem.W.mg_of X G a12, k12, b12⟩
  have D_l_places : Df l.prog w K mg base "_law_places" ["_law_big_here", "_law_many", "_law_most"] 1 (DL.SpL K sp_places) := ⟨_, _, ok_l_places F13 T , PySem.W.mg_of X G a13, k13, b13⟩
  have D_l_pieces : Df l.prog w K mg base "_law_pieces" ["_law_big_here"] 2 (DL.SpL K sp_pieces) := ⟨_, _, ok_l_pieces F14 T D_l_places, PySem.W.mg_of X G a14, k14, b14⟩
  have D_l_some : Df l.prog w K mg base "_law_some" ["_law_big_here"] 2 (DL.SpL K sp_some) := ⟨_, _, ok_l_some F15 T D_l_number, PySem.W.mg_of X G a15, k15, b15⟩
  have D_l_move : Df l.prog w K mg base "_law_move" ["_law_script", "_law_at"] 3 (DL.SpL K sp_move) := ⟨_, _, ok_l_move F16 T D_l_big D_l_number D_l_pieces D_l_some, PySem.W.mg_of X G a16, k16, b16⟩
  have D_l_spelled : Df l.prog w K mg base "_law_spelled" ["_law_numbers"] 1 (DL.SpL K sp_shs) := ⟨_, _, ok_l_spelled F17 T , PySem.W.mg_of X G a17, k17, b17⟩
  have D_l_piece_text : Df l.prog w K mg base "_law_piece_text" ["_law_piece"] 1 (DL.SpL K sp_ptx) := ⟨_, _, ok_l_piece_text F18 T , PySem.W.mg_of X G a18, k18, b18⟩
  have D_l_move_text : Df l.prog w K mg base "_law_move_text" ["_law_move_here"] 2 (DL.SpL K sp_mtx) := ⟨_, _, ok_l_move_text F19 T D_l_piece_text D_l_spelled, PySem.W.mg_of X G a19, k19, b19⟩
  have D_l_copied : Df l.prog w K mg base "_law_copied" ["_law_move_here"] 1 (DL.SpL K sp_copied) := ⟨_, _, ok_l_copied F20 T , PySem.W.mg_of X G a20, k20, b20⟩
  have D_l_is_move : Df l.prog w K mg base "_law_is_move" ["_law_found", "_law_due"] 1 (DL.SpL K sp_ism) := ⟨_, _, ok_l_is_move F21 T , PySem.W.mg_of X G a21, k21, b21⟩
  have D_l_good : Df l.prog w K mg base "_law_good" ["_law_move_here"] 5 (DL.SpL K sp_good) := ⟨_, _, ok_l_good F22 T D_l_copied D_l_move_text D_move_shown D_move_read D_l_is_move, PySem.W.mg_of X G a22, k22, b22⟩
  exact ok_law F23 T D_l_move D_l_good
theorem walk {l : PySem.W.OpenLaw} {q : Program} {loose : List Str} {XP : (Str → Option Value) → Heap → Prop} {YP : World → Heap → Prop} {d : DefRec} {K : Params → PySem.W.Frag} (hn : l.most = some 63) (hdf : d.params.defaults = [])
    (hY : ∀ (w : World) (h : Heap), YP w h → (K w.params).In h)
    (F : ∀ (w : World) (mg : Str → Option Value) (fa : Addr) (h : Heap), (K w.params).In h → h.Ns mainGlobals mg → mg d.name = some (.ref fa) →
      ∃ fd : FuncData, (∀ (s : Shared) (u : Value), BindsTo s fd ⟨[u], []⟩ [("_law_script", u)]) ∧ ∀ base : Heap, (K w.params).In base → base.Ns mainGlobals mg → FnOk l.prog w (K w.params) mg base CX0 6 fa fd ["_law_script"] (sp_lawH (K w.params))) :
    PySem.W.WalkO q loose XP YP l.row.toRowW d [] (fun f vs => PySem.call f vs) :=
  L2.walk_of (n := 63) (k := 6) (x := "_law_script") (CX := fun _ => CX0) (sp := fun w => sp_lawH (K w.params)) hn (by decide) hdf ⟨rfl, by decide, by decide⟩ hY F (fun _ _ a ns hl _ hS => ⟨a, ns, rfl, hS, fun _ => rfl⟩) fun _ _ _ _ _ z => z
end K83
open PySem PySem.W PyProof.Rows
set_option maxRecDepth 100000 in
set_option maxHeartbeats 0 in
theorem PySem.Challenge.cw_foreverrows_k83_texts_of_moves_holds : PySem.Challenge.rw_foreverrows_k83_texts_of_moves.Holds := by
  w_on; o_law; k_head; (case hw => w_witness2)
  k_fill
  refine K83.walk (l := PySem.Challenge.rw_foreverrows_k83_texts_of_moves) rfl rfl (fun w h Y => PySem.W.kIn_of Y) ?F
  case F =>
    intro w mg fa h KX G hmg
    refine' K83.all_mk KX G hmg ?a1 ?l1 ?c1 ?k1 ?a2 ?l2 ?c2 ?k2 ?a3 ?l3 ?c3 ?k3 ?a4 ?l4 ?c4 ?k4 ?a5 ?l5 ?c5 ?k5 ?a6 ?l6 ?c6 ?k6 ?a7 ?l7 ?c7 ?k7 ?a8 ?l8 ?c8 ?k8 ?a9 ?l9 ?c9 ?k9 ?a10 ?l10 ?c10 ?k10 ?a11 ?l11 ?c11 ?k11 ?a12 ?l12 ?c12 ?k12 ?a13 ?l13 ?c13 ?k13 ?a14 ?l14 ?c14 ?k14 ?a15 ?l15 ?c15 ?k15 ?a16 ?l16 ?c16 ?k16 ?a17 ?l17 ?c17 ?k17 ?a18 ?l18 ?c18 ?k18 ?a19 ?l19 ?c19 ?k19 ?a20 ?l20 ?c20 ?k20 ?a21 ?l21 ?c21 ?k21 ?a22 ?l22 ?c22 ?k22 ?a23 ?l23 ?c23 ?k23 ?x_RowError ?y_RowError ?g_FIGURES ?g_NUMBERS_BEHIND ?lk_NUMBERS_BEHIND ?i_sNUMBERS_BEHIND ?hk_NUMBERS_BEHIND ?i_rNUMBERS_BEHIND ?z_len ?z_range ?z_list ?z_int ?z_bool ?z_isinstance ?z_any ?z_abs ?z_divmod ?z_str ?z_tuple
    (case a1 => k_is)
    (case l1 => k_is)
    (case c1 => k_is)
    (case k1 => k_is)
    (case a2 => k_is)
    (case l2 => k_is)
    (case c2 => k_is)
    (case k2 => k_is)
    (case a3 => k_is)
    (case l3 => k_is)
    (case c3 => k_is)
    (case k3 => k_is)
    (case a4 => k_is)
    (case l4 => k_is)
    (case c4 => k_is)
    (case k4 => k_is)
    (case a5 => k_is)
    (case l5 => k_is)
    (case c5 => k_is)
    (case k5 => k_is)
    (case a6 => k_is)
    (case l6 => k_is)
    (case c6 => k_is)
    (case k6 => k_is)
    (case a7 => k_is)
    (case l7 => k_is)
    (case c7 => k_is)
    (case k7 => k_is)
    (case a8 => k_is)
    (case l8 => k_is)
    (case c8 => k_is)
    (case k8 => k_is)
    (case a9 => k_is)
    (case l9 => k_is)
    (case c9 => k_is)
    (case k9 => k_is)
    (case a10 => k_is)
    (case l10 => k_is)
    (case c10 => k_is)
    (case k10 => k_is)
    (case a11 => k_is)
    (case l11 => k_is)
    (case c11 => k_is)
    (case k11 => k_is)
    (case a12 => k_is)
    (case l12 => k_is)
    (case c12 => k_is)
    (case k12 => k_is)
    (case a13 => k_is)
    (case l13 => k_is)
    (case c13 => k_is)
    (case k13 => k_is)
    (case a14 => k_is)
    (case l14 => k_is)
    (case c14 => k_is)
    (case k14 => k_is)
    (case a15 => k_is)
    (case l15 => k_is)
    (case c15 => k_is)
    (case k15 => k_is)
    (case a16 => k_is)
    (case l16 => k_is)
    (case c16 => k_is)
    (case k16 => k_is)
    (case a17 => k_is)
    (case l17 => k_is)
    (case c17 => k_is)
    (case k17 => k_is)
    (case a18 => k_is)
    (case l18 => k_is)
    (case c18 => k_is)
    (case k18 => k_is)
    (case a19 => k_is)
    (case l19 => k_is)
    (case c19 => k_is)
    (case k19 => k_is)
    (case a20 => k_is)
    (case l20 => k_is)
    (case c20 => k_is)
    (case k20 => k_is)
    (case a21 => k_is)
    (case l21 => k_is)
    (case c21 => k_is)
    (case k21 => k_is)
    (case a22 => k_is)
    (case l22 => k_is)
    (case c22 => k_is)
    (case k22 => k_is)
    (case a23 => k_is)
    (case l23 => k_is)
    (case c23 => k_is)
    (case k23 => k_is)
    (case z_len => k_is)
    (case z_range => k_is)
    (case z_list => k_is)
    (case z_int => k_is)
    (case z_bool => k_is)
    (case z_isinstance => k_is)
    (case z_any => k_is)
    (case z_abs => k_is)
    (case z_divmod => k_is)
    (case z_str => k_is)
    (case z_tuple => k_is)
    (case x_RowError => k_is)
    (case y_RowError => first | k_exc | k_is | kernel_rfl)
    (case g_FIGURES => k_is)
    (case g_NUMBERS_BEHIND => k_is)
    (case lk_NUMBERS_BEHIND => k_is)
    (case i_sNUMBERS_BEHIND => first | k_exc | k_is | kernel_rfl)
    (case hk_NUMBERS_BEHIND => exact ⟨⟨_, _, rfl, rfl⟩, ⟨_, _, rfl, rfl⟩, ⟨_, _, rfl, rfl⟩, ⟨_, _, rfl, rfl⟩, ⟨_, _, rfl, rfl⟩, ⟨_, _, rfl, rfl⟩, trivial⟩)
    (case i_rNUMBERS_BEHIND => first | k_exc | k_is | kernel_rfl)
