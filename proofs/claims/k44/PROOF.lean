import PyProof.Rows.All
import Wide.All
import OpenK.AllK
import Wide.FinOn
import Lean
import PyProof.EqAt
import PyProof.EqKinds
import PyProof.TupleCall
import PyProof.NeData
import PyProof.P3Eq
import PyProof.EnumMake
import PyProof.EnumFor
import PyProof.ConsumeWalk
import PyProof.ListRange
import PyProof.ZipIter
import KE.IntBitsLaws
import KE.RegMulBits
import PyProof.ExcArgs
import PyProof.DictWalks
import KE.KRevSl
import PyProof.DictItems
import PyProof.DictDisplay
import PyProof.SeqI3
import PyProof.NsDelKeeps
import PyProof.StrWalks
import PyProof.StrBlockH
import PyProof.StrBlock2
import KE.KMinKey
import PyProof.Rows.CallKwBuiltin
import KE.KIntText
import PyProof.StrCalls2
import PyProof.StrLawsTight
import PyProof.Rows.StrItems
import PyProof.FactsAll.tuple_1
import PyProof.FactsAll.tuple_2
import PyProof.FString5
import PyProof.Rows.RuleC_int
import KE.KRevIter
import PySem.Challenge.RW_foreverrows_k44_common_parts

set_option Elab.async false
set_option linter.all false
set_option maxRecDepth 100000
/-! THE HAND LAYER, for ints, bools, texts, own classes, LISTS and tuples (index, slices, in, append, pop ..), calls, loops. Paste it whole ahead of your own text; what your proof does not reach may be deleted. -/
namespace L2
open PySem PySem.Spec PyProof.Rows

/-- a key: an int or a str -/
abbrev Key := Sum Int Str
def keyIs : Key → Value → Bool
  | .inl k, v => Value.isInt k v
  | .inr x, v => Value.isStrOf x v
def keyH (w : World) : Key → Int
  | .inl k => hashInt k
  | .inr x => hashStr w x
theorem keyIs_shape : ∀ {k : Key} {v : Value}, keyIs k v = true → (∃ i t, k = Sum.inl i ∧ v = Value.int i t) ∨ (∃ x t, k = Sum.inr x ∧ v = Value.str x t)
  | .inl i, v, h => by
    obtain ⟨t, e⟩ := Value.isInt_shape (k := i) (v := v) h
    exact .inl ⟨i, t, rfl, e⟩
  | .inr x, v, h => by
    obtain ⟨t, e⟩ := Value.isStrOf_shape (x := x) (v := v) h
    exact .inr ⟨x, t, rfl, e⟩
theorem key_ll (a b : Int) : decide ((Sum.inl a : Key) = Sum.inl b) = (a == b) := by
  by_cases e : a = b
  · subst e; simp
  · have h : ¬ (Sum.inl a : Key) = Sum.inl b := fun q => e (Sum.inl.inj q)
    rw [decide_eq_false h]
    exact (beq_eq_false_iff_ne.mpr e).symm
theorem key_rr (a b : Str) : decide ((Sum.inr a : Key) = Sum.inr b) = decide (a = b) := by
  by_cases e : a = b
  · subst e; simp
  · have h : ¬ (Sum.inr a : Key) = Sum.inr b := fun q => e (Sum.inr.inj q)
    rw [decide_eq_false h, decide_eq_false e]
theorem key_lr (a : Int) (b : Str) : decide ((Sum.inl a : Key) = Sum.inr b) = false := decide_eq_false (fun q => nomatch q)
theorem key_rl (a : Str) (b : Int) : decide ((Sum.inr a : Key) = Sum.inl b) = false := decide_eq_false (fun q => nomatch q)

def mixKind (prog : Program) (w : World) : PySem.KeyKind prog w Key where
  is := keyIs
  hash := keyH w
  inj := fun v a b ha hb => by
    rcases keyIs_shape ha with ⟨i, t, rfl, rfl⟩ | ⟨x, t, rfl, rfl⟩
    · rcases keyIs_shape hb with ⟨j, u, rfl, e⟩ | ⟨y, u, rfl, e⟩
      · injection e with e1 _; rw [e1]
      · exact nomatch e
    · rcases keyIs_shape hb with ⟨j, u, rfl, e⟩ | ⟨y, u, rfl, e⟩
      · exact nomatch e
      · injection e with e1 _; rw [e1]
  byValue := fun k v h => by
    rcases keyIs_shape h with ⟨i, t, rfl, rfl⟩ | ⟨x, t, rfl, rfl⟩ <;> rfl
  pyHash := fun hv h => by
    rcases keyIs_shape hv with ⟨i, t, rfl, rfl⟩ | ⟨x, t, rfl, rfl⟩
    · exact wpAny_pyHash_int h
    · exact wpAny_pyHash_str h
  eqBool := fun hu hv h => by
    rcases keyIs_shape hu with ⟨i, t, rfl, rfl⟩ | ⟨x, t, rfl, rfl⟩
    · rcases keyIs_shape hv with ⟨j, u, rfl, rfl⟩ | ⟨y, u, rfl, rfl⟩
      · rw [key_ll] at h; exact wpAny_eqBool_int h
      · rw [key_lr] at h; exact SeqAt.EqAt.int_str i t y u _ _ _ _ h
    · rcases keyIs_shape hv with ⟨j, u, rfl, rfl⟩ | ⟨y, u, rfl, rfl⟩
      · rw [key_rl] at h; exact SeqAt.EqAt.str_int x t j u _ _ _ _ h
      · rw [key_rr] at h; exact wpAny_eqBool_str h
  «strs» := fun k x t v h => by
    rcases keyIs_shape h with ⟨i, u, rfl, e⟩ | ⟨y, u, rfl, e⟩
    · exact nomatch e
    · injection e with e1 _
      subst e1
      cases v <;> rfl

end L2

namespace L2
open PySem PySem.Spec PyProof.Rows

/-- a value, without the heap -/
inductive V where
  | non | bl (b : Bool) | int (i : Int) | str (x : Str) | byt (b : Array UInt8) | flt (b : UInt64) | ref (a : Addr) | ty (n : String)
  deriving DecidableEq

def RelV : V → Value → Prop
  | .non, u => u = Value.none
  | .bl b, u => u = Value.bool b
  | .int i, u => ∃ t, u = Value.int i t
  | .str x, u => ∃ t, u = Value.str x t
  | .byt b, u => ∃ t, u = Value.bytes b t
  | .flt b, u => ∃ t, u = Value.float b t
  | .ref a, u => u = Value.ref a
  | .ty n, u => u = Value.type n

abbrev Vals : List V → List Value → Prop := Paired RelV
theorem Vals.length {xs : List V} {us : List Value} (r : Vals xs us) : xs.length = us.length := Paired.length r
theorem Vals.get : ∀ {xs : List V} {us : List Value} {i : Nat} {x : V}, Vals xs us → xs[i]? = some x → ∃ u, us[i]? = some u ∧ RelV x u
  | _, _, _, _, .nil, e => by simp at e
  | _, _, 0, _, .cons r _, e => by simp at e; subst e; exact ⟨_, rfl, r⟩
  | _, _, i + 1, x, .cons _ t, e => by
    obtain ⟨u, h1, h2⟩ := Vals.get (i := i) (x := x) t (by simpa using e)
    exact ⟨u, by simpa using h1, h2⟩
theorem Vals.set {x : V} {u : Value} (r : RelV x u) : ∀ {xs : List V} {us : List Value} (i : Nat), Vals xs us → Vals (xs.set i x) (us.set i u)
  | _, _, _, .nil => .nil
  | _, _, 0, .cons _ t => .cons r t
  | _, _, i + 1, .cons q t => .cons q (Vals.set r i t)
theorem Vals.append : ∀ {xs ys : List V} {us ws : List Value}, Vals xs us → Vals ys ws → Vals (xs ++ ys) (us ++ ws)
  | _, _, _, _, .nil, s => s
  | _, _, _, _, .cons r t, s => .cons r (Vals.append t s)
theorem Vals.take : ∀ {xs : List V} {us : List Value} (n : Nat), Vals xs us → Vals (xs.take n) (us.take n)
  | _, _, 0, _ => .nil
  | _, _, _ + 1, .nil => .nil
  | _, _, n + 1, .cons r t => .cons r (Vals.take n t)
theorem Vals.drop : ∀ {xs : List V} {us : List Value} (n : Nat), Vals xs us → Vals (xs.drop n) (us.drop n)
  | _, _, 0, r => r
  | _, _, _ + 1, .nil => .nil
  | _, _, n + 1, .cons _ t => Vals.drop n t
def RelO : Option V → Option Value → Prop
  | some v, some u => RelV v u
  | none, none => True
  | _, _ => False
def KV {κ : Type} : List (κ × V) → List (κ × Value) → Prop := Paired fun (p : κ × V) (q : κ × Value) => p.1 = q.1 ∧ RelV p.2 q.2

/-- a key of a dict (00_mix): an int or a text -/
def kV : Key → V
  | .inl i => .int i
  | .inr x => .str x

/-- what stands at a tracked address -/
inductive HO where
  /-- a list -/
  | lst (xs : List V)
  /-- a tuple (never changes) -/
  | tup (xs : List V)
  /-- a dict whose keys are ints and texts; one whose keys are tuples of ints and texts (the empty one is both) -/
  | dK (kvs : List (Key × V)) | dT (kvs : List (List Key × V))
  /-- a set of ints: its members, its size -/
  | set (S : Int → Bool) (n : Nat)
  /-- an instance of the class at C, its dict at dx, its attributes -/
  | ins (C dx : Addr) (fs : List (Str × V))
  /-- the dict of the instance at x -/
  | own (x : Addr)
  /-- the dict of an exception -/
  | xd (fs : List (Str × V))
  /-- a bound method, f of x -/
  | met (f x : Addr)
  /-- a range object lo, lo + 1, .. below hi -/
  | rng (lo hi : Int)
  /-- a thing that is known to the object (the script; a dict while a loop walks it): read, never written while it is so -/
  | frz (o : Obj) (u : HO)
  /-- a code object's table -/
  | tbl (ps : Array Value)
  /-- any other thing, by what is true of its one object (a def of one's own: SetO a S n := HO.ext fun h => ..) -/
  | ext (φ : Heap → Prop)

abbrev Hp := Addr → Option HO
def upd (H : Hp) (a : Addr) (o : HO) : Hp := fun b => if b = a then some o else H b
theorem upd_same {H : Hp} {a : Addr} {o : HO} : upd H a o a = some o := by unfold upd; rw [if_pos rfl]
theorem upd_ne {H : Hp} {a b : Addr} {o : HO} (h : b ≠ a) : upd H a o b = H b := by unfold upd; rw [if_neg h]
theorem ne_of_none {H : Hp} {a b : Addr} {o : HO} (h : H a = some o) (h' : H b = none) : a ≠ b := by
  intro e; subst e; rw [h] at h'; cases h'

section
variable (P : Program) (w : World)
def ObjOk (H : Hp) (h : Heap) (a : Addr) : HO → Prop
  | .lst xs => xs.length ≤ sizeLine ∧ ∃ (its : List Value) (n : Nat), Vals xs its ∧ h.get? a = some { cls := .type "list", data := .seq its.toArray n }
  | .tup xs => xs.length ≤ sizeLine ∧ ∃ its : List Value, Vals xs its ∧ IsTup h a its.toArray
  | .dK kvs => kvs.length ≤ sizeLine ∧ (a == sysModules) = false ∧ ∃ vs, KV kvs vs ∧ h.DictOf (mixKind P w) a vs
  | .dT kvs => kvs.length ≤ sizeLine ∧ (a == sysModules) = false ∧ ∃ xs : List (List Key × Addr × Value),
      Paired (fun (p : List Key × V) (q : List Key × Addr × Value) => p.1 = q.1 ∧ H q.2.1 = some (.tup (p.1.map kV)) ∧ RelV p.2 q.2.2) kvs xs ∧
      ∃ o es ep, h.get? a = some o ∧ o.ExactDict ∧ o.data = .dict es ep ∧ es.toList = xs.map (entryOfKey (tupleKind (mixKind P w))) ∧ (xs.map (·.1)).Nodup
  | .set S n => h.SetOf (intKind P w) a S n
  | .ins C dx fs => H dx = some (.own a) ∧ fs.length ≤ 1000 ∧ dx ≠ a ∧ h.get? a = some (PySem.W.instObj C dx) ∧
      ∃ mA, h.Ns1 dx mA ∧ (∀ f, RelO (fs.lookup f) (mA f)) ∧ PySem.Within mA (fs.map (·.1))
  | .own _ => ∃ o, h.get? a = some o
  | .xd fs => ∃ mA, h.Ns1 a mA ∧ ∀ f, RelO (fs.lookup f) (mA f)
  | .rng lo hi => ∃ t u v, h.get? a = some { cls := .type "range", data := .fields #[.int lo t, .int hi u, .int 1 v] }
  | .frz o u => h.get? a = some o ∧ ObjOk H h a u
  | .tbl ps => h.get? a = some { cls := .none, data := .fields ps }
  | .met f x => h.get? a = some (PySem.W.methodObj (.ref f) (.ref x))
  | .ext φ => φ h ∧ (∃ o, h.get? a = some o) ∧ ∀ h1 h2 : Heap, φ h1 → (∀ o, h1.get? a = some o → h2.get? a = some o) → φ h2
/-- the abstract heap is held -/
def HOk (H : Hp) (h : Heap) : Prop := ∀ a o, H a = some o → ObjOk P w H h a o
end

section
variable {P : Program} {w : World} {H H' : Hp} {h h' : Heap} {a : Addr} {o : HO}
theorem ObjOk.lt (x : ObjOk P w H h a o) : a < h.objs.size := by
  cases o with
  | lst xs => obtain ⟨_, _, _, _, e⟩ := x; exact Heap.lt_size e
  | tup xs => obtain ⟨_, _, _, p⟩ := x; exact p.lt
  | dK kvs => obtain ⟨_, _, _, _, o, _, _, e, _⟩ := x; exact Heap.lt_size e
  | dT kvs => obtain ⟨_, _, _, _, o, _, _, e, _⟩ := x; exact Heap.lt_size e
  | set S n => obtain ⟨o, _, _, _, e, _⟩ := x; exact Heap.lt_size e
  | ins C dx fs => obtain ⟨_, _, _, e, _⟩ := x; exact Heap.lt_size e
  | own y => obtain ⟨_, e⟩ := x; exact Heap.lt_size e
  | xd fs => obtain ⟨_, ⟨_, _, _, e, _⟩, _⟩ := x; exact Heap.lt_size e
  | rng lo hi => obtain ⟨_, _, _, e⟩ := x; exact Heap.lt_size e
  | frz ob u => obtain ⟨e, _⟩ := x; exact Heap.lt_size e
  | tbl ps => exact Heap.lt_size (show h.get? a = some _ from x)
  | met f y => exact Heap.lt_size (show h.get? a = some _ from x)
  | ext φ => obtain ⟨_, ⟨_, e⟩, _⟩ := x; exact Heap.lt_size e
theorem Paired.mapP {α β : Type} {F G : α → β → Prop} : ∀ {l₁ : List α} {l₂ : List β}, Paired F l₁ l₂ → (∀ a b, F a b → G a b) → Paired G l₁ l₂
  | _, _, .nil, _ => .nil
  | _, _, .cons r t, f => .cons (f _ _ r) (Paired.mapP t f)
/-- what an object's description leans on: its own object, its own dict, the tuples -/
theorem ObjOk.stay (x : ObjOk P w H h a o) (k : ∀ b u, (b = a ∨ H b = some (.own a)) → h.get? b = some u → h'.get? b = some u)
    (ho : ∀ b, H b = some (.own a) → H' b = some (.own a)) (ht : ∀ b xs, H b = some (.tup xs) → H' b = some (.tup xs)) : ObjOk P w H' h' a o := by
  induction o with
  | lst xs => obtain ⟨z, its, n, r, e⟩ := x; exact ⟨z, its, n, r, k _ _ (.inl rfl) e⟩
  | tup xs => obtain ⟨z, its, r, ob, e, c⟩ := x; exact ⟨z, its, r, ob, k _ _ (.inl rfl) e, c⟩
  | dK kvs => obtain ⟨z, y, vs, r, ob, es, ep, e, c⟩ := x; exact ⟨z, y, vs, r, ob, es, ep, k _ _ (.inl rfl) e, c⟩
  | dT kvs =>
    obtain ⟨z, y, xs, r, ob, es, ep, e, c⟩ := x
    exact ⟨z, y, xs, Paired.mapP r fun p q z => ⟨z.1, ht _ _ z.2.1, z.2.2⟩, ob, es, ep, k _ _ (.inl rfl) e, c⟩
  | set S n => obtain ⟨ob, es, ep, t, e, c⟩ := x; exact ⟨ob, es, ep, t, k _ _ (.inl rfl) e, c⟩
  | ins C dx fs =>
    obtain ⟨d, z, ne, e, mA, ⟨od, es, ep, e2, c⟩, r⟩ := x
    exact ⟨ho _ d, z, ne, k _ _ (.inl rfl) e, mA, ⟨od, es, ep, k _ _ (.inr d) e2, c⟩, r⟩
  | own y => obtain ⟨ob, e⟩ := x; exact ⟨ob, k _ _ (.inl rfl) e⟩
  | xd fs => obtain ⟨mA, ⟨od, es, ep, e, c⟩, r⟩ := x; exact ⟨mA, ⟨od, es, ep, k _ _ (.inl rfl) e, c⟩, r⟩
  | rng lo hi => obtain ⟨t, u, v, e⟩ := x; exact ⟨t, u, v, k _ _ (.inl rfl) e⟩
  | frz ob u ih => obtain ⟨e, q⟩ := x; exact ⟨k _ _ (.inl rfl) e, ih q⟩
  | tbl ps =>
    have e : h.get? a = some { cls := .none, data := .fields ps } := x
    show h'.get? a = some { cls := .none, data := .fields ps }
    exact k a _ (.inl rfl) e
  | met f y =>
    have e : h.get? a = some (PySem.W.methodObj (.ref f) (.ref y)) := x
    show h'.get? a = some (PySem.W.methodObj (.ref f) (.ref y))
    exact k a _ (.inl rfl) e
  | ext φ => obtain ⟨p, ⟨o, e⟩, st⟩ := x; exact ⟨st _ _ p fun o q => k _ _ (.inl rfl) q, ⟨o, k _ _ (.inl rfl) e⟩, st⟩
theorem HOk.lt (x : HOk P w H h) (e : H a = some o) : a < h.objs.size := (x a o e).lt
theorem HOk.fresh (x : HOk P w H h) (e : h.objs.size ≤ a) : H a = none := by
  cases q : H a with
  | none => rfl
  | some u => exact absurd (Nat.lt_of_lt_of_le (x.lt q) e) (Nat.lt_irrefl _)
/-- every object of the heap is kept -/
theorem HOk.kept (x : HOk P w H h) (k : ∀ b u, h.get? b = some u → h'.get? b = some u) : HOk P w H h' := fun a o e =>
  (x a o e).stay (fun b u _ q => k b u q) (fun _ q => q) fun _ _ q => q
/-- a new object is laid and tracked -/
theorem HOk.laid (x : HOk P w H h) (k : ∀ b u, h.get? b = some u → h'.get? b = some u) (hp : h.objs.size ≤ a) (new : ObjOk P w (upd H a o) h' a o) : HOk P w (upd H a o) h' := fun b u e => by
  have hn := x.fresh hp
  by_cases hb : b = a
  · subst hb; rw [upd_same] at e; cases e; exact new
  · rw [upd_ne hb] at e
    exact (x b u e).stay (fun c v _ q => k c v q) (fun c q => by rw [upd_ne (ne_of_none q hn)]; exact q) fun c xs q => by rw [upd_ne (ne_of_none q hn)]; exact q
end

/-- what may be read as u: it is u, or a known u -/
def Rd (H : Hp) (a : Addr) (u : HO) : Prop := H a = some u ∨ ∃ o, H a = some (.frz o u)
theorem Rd.of {H : Hp} {a : Addr} {u : HO} (h : H a = some u) : Rd H a u := .inl h
theorem Rd.ok {P : Program} {w : World} {H : Hp} {h : Heap} {a : Addr} {u : HO} (r : Rd H a u) (x : HOk P w H h) : ObjOk P w H h a u := by
  rcases r with r | ⟨o, r⟩
  · exact x a u r
  · obtain ⟨_, q⟩ := x a _ r
    exact q
/-- what may be written -/
def Mut : Option HO → Prop
  | some (.lst _) => True
  | some (.dK _) => True
  | some (.dT _) => True
  | some (.set _ _) => True
  | some (.ins _ _ _) => True
  | some (.ext _) => True
  | _ => False
section
variable {P : Program} {w : World} {H : Hp} {h h' : Heap} {x e : Addr} {o' : HO}
/-- the object at e is changed: x itself, or the dict of the instance x -/
theorem HOk.write (ok : HOk P w H h) (mu : Mut (H x)) (he : e = x ∨ H e = some (.own x)) (k : ∀ b u, b ≠ e → h.get? b = some u → h'.get? b = some u) (heo : ∃ u, h'.get? e = some u)
    (new : ObjOk P w (upd H x o') h' x o') : HOk P w (upd H x o') h' := fun b u q => by
  have nown : ∀ c y, H c = some (.own y) → c ≠ x := fun c y r z => by subst z; rw [r] at mu; exact mu
  have ntup : ∀ c xs, H c = some (.tup xs) → c ≠ x := fun c xs r z => by subst z; rw [r] at mu; exact mu
  by_cases hb : b = x
  · subst hb; rw [upd_same] at q; cases q; exact new
  · rw [upd_ne hb] at q
    by_cases hbe : b = e
    · have q' : H b = some (.own x) := by
        rcases he with z | z
        · exact absurd (hbe.trans z) hb
        · rw [hbe]; exact z
      rw [q] at q'; cases q'
      obtain ⟨v, hv⟩ := heo
      exact ⟨v, by rw [hbe]; exact hv⟩
    · refine (ok b u q).stay (fun c v hc r => k c v ?_ r) (fun c r => by rw [upd_ne (nown c b r)]; exact r) fun c xs r => by rw [upd_ne (ntup c xs r)]; exact r
      rcases hc with rfl | hc
      · exact hbe
      · rintro rfl
        rcases he with z | z
        · exact nown c b hc z
        · rw [hc] at z; cases z; exact hb rfl
end

/-! ### kept unless tracked; of the frames at fs (the callers') the slots may change (an exception that passes writes there); of the records at ex (iterators) nothing is said -/
structure Un (fs ex : List Addr) (H H' : Hp) (h h' : Heap) : Prop where
  keep : ∀ b o, h.get? b = some o → H b = none → b ∉ fs → b ∉ ex → h'.get? b = some o
  slot : ∀ b o, h.get? b = some o → H b = none → b ∈ fs → b ∉ ex → ∃ sl, h'.get? b = some { o with slots := sl }
  free : ∀ b o, h.get? b = some o → H b = none → b ∉ ex → H' b = none
  there : ∀ b o, h.get? b = some o → b ∉ ex → ∃ o', h'.get? b = some o'
  tups : ∀ b xs, H b = some (.tup xs) → H' b = some (.tup xs)
  frzs : ∀ b o u, H b = some (.frz o u) → H' b = some (.frz o u)
  tbls : ∀ b ps, H b = some (.tbl ps) → ∃ more, H' b = some (.tbl (ps ++ more))
section
variable {fs fs' ex ex' : List Addr} {H H1 H2 : Hp} {h h1 h2 h' : Heap} {a x e : Addr} {o : HO}
theorem Un.any (u : Un fs ex H H1 h h1) {b : Addr} {ob : Obj} (q : h.get? b = some ob) (n : H b = none) (hx : b ∉ ex) : ∃ sl, h1.get? b = some { ob with slots := sl } := by
  by_cases hb : b ∈ fs
  · exact u.slot b ob q n hb hx
  · exact ⟨ob.slots, u.keep b ob q n hb hx⟩
theorem Un.trans (a : Un fs ex H H1 h h1) (b : Un fs ex H1 H2 h1 h2) : Un fs ex H H2 h h2 where
  keep := fun c ob q n hc hx => b.keep c ob (a.keep c ob q n hc hx) (a.free c ob q n hx) hc hx
  slot := fun c ob q n hc hx => by
    obtain ⟨sl, e1⟩ := a.slot c ob q n hc hx
    obtain ⟨sl', e2⟩ := b.slot c _ e1 (a.free c ob q n hx) hc hx
    exact ⟨sl', e2⟩
  free := fun c ob q n hx => by
    obtain ⟨o', e1⟩ := a.there c ob q hx
    exact b.free c o' e1 (a.free c ob q n hx) hx
  there := fun c ob q hx => by
    obtain ⟨o', e1⟩ := a.there c ob q hx
    exact b.there c o' e1 hx
  tups := fun c xs q => b.tups c xs (a.tups c xs q)
  frzs := fun c ob xs q => b.frzs c ob xs (a.frzs c ob xs q)
  tbls := fun c ps q => by
    obtain ⟨m1, e1⟩ := a.tbls c ps q
    obtain ⟨m2, e2⟩ := b.tbls c _ e1
    exact ⟨m1 ++ m2, by rw [e2, Array.append_assoc]⟩
theorem Un.kept (k : ∀ b u, h.get? b = some u → h'.get? b = some u) : Un fs ex H H h h' :=
  ⟨fun b ob q _ _ _ => k b ob q, fun b ob q _ _ _ => ⟨ob.slots, k b ob q⟩, fun _ _ _ n _ => n, fun b ob q _ => ⟨ob, k b ob q⟩, fun _ _ q => q, fun _ _ _ q => q, fun _ ps q => ⟨#[], by rw [q]; simp⟩⟩
theorem Un.refl : Un fs ex H H h h := Un.kept fun _ _ q => q
theorem Un.laid (k : ∀ b u, h.get? b = some u → h'.get? b = some u) (hp : h.objs.size ≤ a) (hn : H a = none) : Un fs ex H (upd H a o) h h' where
  keep := fun b u q _ _ _ => k b u q
  slot := fun b u q _ _ _ => ⟨u.slots, k b u q⟩
  free := fun b u q n _ => by rw [upd_ne (Nat.ne_of_lt (Nat.lt_of_lt_of_le (Heap.lt_size q) hp))]; exact n
  there := fun b u q _ => ⟨u, k b u q⟩
  tups := fun b xs q => by rw [upd_ne (ne_of_none q hn)]; exact q
  frzs := fun b u xs q => by rw [upd_ne (ne_of_none q hn)]; exact q
  tbls := fun b ps q => ⟨#[], by rw [upd_ne (ne_of_none q hn), q]; simp⟩
theorem Un.write (mu : Mut (H x)) (he : e = x ∨ H e = some (.own x)) (k : ∀ b u, b ≠ e → h.get? b = some u → h'.get? b = some u) (heo : ∃ u, h'.get? e = some u) : Un fs ex H (upd H x o) h h' := by
  have hx : ∀ b, H b = none → b ≠ x := fun b n z => by subst z; rw [n] at mu; exact mu
  have hb : ∀ b, H b = none → b ≠ e := fun b n z => by
    subst z
    rcases he with r | r
    · exact hx b n r
    · rw [n] at r; cases r
  have hm : ∀ b u, H b = some u → ¬ Mut (some u) → b ≠ x := fun b u q nm z => by subst z; rw [q] at mu; exact nm mu
  refine ⟨fun b u q n _ _ => k b u (hb b n) q, fun b u q n _ _ => ⟨u.slots, k b u (hb b n) q⟩, fun b u q n _ => by rw [upd_ne (hx b n)]; exact n, fun b u q _ => ?_,
    fun b xs q => by rw [upd_ne (hm b _ q fun z => z)]; exact q, fun b u xs q => by rw [upd_ne (hm b _ q fun z => z)]; exact q, fun b ps q => ⟨#[], by rw [upd_ne (hm b _ q fun z => z), q]; simp⟩⟩
  by_cases hbe : b = e
  · subst hbe; exact heo
  · exact ⟨u, k b u hbe q⟩
end

/-! ### the heap without what is tracked -/
def trk (h : Heap) (H : Hp) : List Addr := (List.range h.objs.size).filter fun a => (H a).isSome
def hidT (h : Heap) (H : Hp) : Heap := PySem.W.hideAll h (trk h H)
theorem hidT_size (h : Heap) (H : Hp) : (hidT h H).objs.size = h.objs.size := PySem.W.hideAll_size _ _
theorem hidT_get {h : Heap} {H : Hp} {b : Addr} {o : Obj} (e : h.get? b = some o) (n : H b = none) : (hidT h H).get? b = some o :=
  PySem.W.hideAll_get _ e fun hm => by
    have q : (H b).isSome = true := (List.mem_filter.mp hm).2
    rw [n] at q; simp at q
theorem of_hidT {h : Heap} {H : Hp} {b : Addr} {o : Obj} (e : (hidT h H).get? b = some o) : h.get? b = some o ∧ H b = none := by
  have e' : h.get? b = some o := PySem.W.of_hideAll (trk h H) e
  refine ⟨e', ?_⟩
  cases q : H b with
  | none => rfl
  | some x =>
    have hm : b ∈ trk h H := List.mem_filter.mpr ⟨List.mem_range.mpr (Heap.lt_size e'), by simp [q]⟩
    have z : (hidT h H).get? b = none := PySem.W.hideAll_none (trk h H) hm
    rw [z] at e; cases e

/-! ### OpenK's ledger, filled with every new object but one -/
def allNews (g h : Heap) (L : Addr) : List (Addr × Obj) := (List.range h.objs.size).filterMap fun a => if a = L ∨ (g.get? a).isSome = true then none else (h.get? a).map fun o => (a, o)
def rest (g h : Heap) (L d : Addr) : List (Addr × Obj) := (allNews g h L).filter fun p => decide (p.1 ≠ d)
end L2

namespace L2
open PySem PySem.Spec PyProof.Rows

/-- the module's facts, over the base: the heap at the law's entry without what is tracked there -/
structure Mod (K : PySem.W.Frag) (mg : Str → Option Value) (base : Heap) : Prop where
  kin : K.In base
  glob : base.Ns mainGlobals mg
  blt : ∃ mb, base.Ns builtinsNs mb ∧ ∀ x : Str, x ≠ "__name__" → mb x = bootBuiltins x
  nolimit : base.NoLimit
  seer : base.NoSeer

/-- the context: a def's body (or a comprehension's block) running. base: fixed through the whole law; s₀, H₀: the entry; outer: the frames whose slots others may change (a def's callers); stack: all frames that run;
   ex: iterators that were made ahead of the entry and are walked here (a comprehension's); fn: the names whose cells were made at the entry (a def: all; a comprehension's block: its own); calm: not within an except suite; pn: pins that every state bears; xe: what is wanted of an exception that leaves the code -/
structure Cx where
  prog : Program
  w : World
  K : PySem.W.Frag
  mg : Str → Option Value
  base : Heap
  A : Around
  N : List Str
  s₀ : Shared
  H₀ : Hp
  env : Env
  outer : List Env
  stack : List Env
  ex : List Addr
  fn : Str → Bool
  calm : Bool
  pn : List (Addr × Obj)
  xe : Value → Shared → Prop
/-- the callers' frames -/
def frs (l : List Env) : List Addr := l.filterMap (·.frame)
abbrev Cx.fs (X : Cx) : List Addr := frs X.outer

def Vis (sc : Scope) (x : Str) : Prop := sc.names.lookup x = some .local ∨ sc.names.lookup x = some .cell ∨ sc.names.lookup x = some .free
def Loc (sc : Scope) (x : Str) : Prop := sc.names.lookup x = some .local ∨ sc.names.lookup x = some .cell
def Look (env : Env) (h : Heap) (m : Str → Option Value) (x : Str) (u : Value) : Prop :=
  (env.kindOf x = some .local ∧ m x = some u) ∨ ((env.kindOf x = some .cell ∨ env.kindOf x = some .free) ∧ ∃ c, env.cells.lookup x = some c ∧ h.IsCell c (some u))

structure Cx.Ok (X : Cx) : Prop where
  mod : Mod X.K X.mg X.base
  kind : X.env.scope.kind = .function
  glob : X.env.globals = mainGlobals
  blt : X.env.builtins = builtinsNs
  above : X.s₀.heap.objs.size ≤ X.env.locals
  inj : ∀ x y c, X.env.cells.lookup x = some c → X.env.cells.lookup y = some c → x = y
  has : ∀ x, (X.env.kindOf x = some .cell ∨ X.env.kindOf x = some .free) → ∃ c, X.env.cells.lookup x = some c
  cab : ∀ x c, X.fn x = true → X.env.cells.lookup x = some c → X.s₀.heap.objs.size ≤ c
  hd : X.calm = true → X.A.handled = none
  frames : X.A.frames = some X.stack
  stk : X.stack = X.outer ∨ (X.stack = X.env :: X.outer ∧ X.env.frame = some X.env.locals)
  exf : ∀ b ∈ X.ex, b ≠ X.env.locals ∧ ∀ x c, X.env.cells.lookup x = some c → c ≠ b
  bs : ∀ b o, X.base.get? b = some o → X.s₀.heap.get? b = some o ∧ X.H₀ b = none
  bsz : X.base.objs.size ≤ X.s₀.heap.objs.size
  noex : ∀ b o, X.base.get? b = some o → b ∉ X.ex
  exfs : ∀ b ∈ X.ex, b ∉ X.fs
  funs : X.s₀.heap.FunFrames X.base X.outer
  frf : ∀ b ∈ X.fs, X.H₀ b = none

structure Inv (X : Cx) (pins : List (Addr × Obj)) (σ : List (Option V)) (H : Hp) (s : Shared) : Prop where
  ok : X.Ok
  os : s.os = X.s₀.os
  bare : AllBare s.gens
  base : Un X.fs X.ex X.H₀ H X.s₀.heap s.heap
  loc : ∃ m, s.heap.Ns X.env.locals m ∧ ∀ (i : Nat) (x : Str) (v : V), X.N[i]? = some x → σ[i]? = some (some v) → Vis X.env.scope x → ∃ u, RelV v u ∧ Look X.env s.heap m x u
  cell : ∀ x c, X.env.cells.lookup x = some c → ∃ v, s.heap.IsCell c v
  free : H X.env.locals = none
  freeC : ∀ x c, X.env.cells.lookup x = some c → H c = none
  pin : ∀ p ∈ X.pn ++ pins, s.heap.get? p.1 = some p.2 ∧ H p.1 = none ∧ p.1 ≠ X.env.locals ∧ p.1 ∉ X.fs ∧ ∀ v, p.2.data ≠ .cell v
  hok : HOk X.prog X.w H s.heap
  len : σ.length = X.N.length

section
variable {X : Cx} {pins : List (Addr × Obj)} {σ : List (Option V)} {H H' : Hp} {s : Shared} {h' : Heap}

theorem Cx.Ok.nofr (ok : X.Ok) {b : Addr} {o : Obj} (e : X.base.get? b = some o) : b ∉ X.fs := fun hb => by
  have := (ok.funs.mem hb).1
  rw [e] at this; cases this
theorem Inv.bs (I : Inv X pins σ H s) : ∀ b o, X.base.get? b = some o → s.heap.get? b = some o ∧ H b = none := fun b o e =>
  ⟨I.base.keep b o (I.ok.bs b o e).1 (I.ok.bs b o e).2 (I.ok.nofr e) (I.ok.noex b o e), I.base.free b o (I.ok.bs b o e).1 (I.ok.bs b o e).2 (I.ok.noex b o e)⟩
theorem Inv.bk (I : Inv X pins σ H s) : ∀ b o, X.base.get? b = some o → s.heap.get? b = some o := fun b o e => (I.bs b o e).1
theorem Inv.mod (I : Inv X pins σ H s) : Mod X.K X.mg X.base := I.ok.mod
theorem Inv.kIn (I : Inv X pins σ H s) : X.K.In s.heap := I.ok.mod.kin.keeps I.bk
theorem Inv.nolimit (I : Inv X pins σ H s) : s.heap.NoLimit := I.ok.mod.nolimit.keeps I.bk
/-- the frame over the base: for OpenK's rules (K.In X.base is I.mod.kin) -/
theorem Inv.fr (I : Inv X pins σ H s) : ∃ m, Fr X.base X.env.locals s.heap m :=
  let ⟨m, hn, _⟩ := I.loc
  ⟨m, hn, I.bk, Nat.le_trans I.ok.bsz I.ok.above⟩
theorem Inv.lt (I : Inv X pins σ H s) : X.env.locals < s.heap.objs.size := let ⟨_, hn, _⟩ := I.loc; hn.lt
theorem Inv.sz (I : Inv X pins σ H s) : X.s₀.heap.objs.size ≤ s.heap.objs.size := Nat.le_trans I.ok.above (Nat.le_of_lt I.lt)
theorem Inv.nofs (I : Inv X pins σ H s) {a : Addr} (h : s.heap.objs.size ≤ a) : a ∉ X.fs := fun hb => by
  obtain ⟨_, o, ho, _⟩ := I.ok.funs.mem hb
  exact absurd (Nat.lt_of_lt_of_le (Heap.lt_size ho) (Nat.le_trans I.sz h)) (Nat.lt_irrefl _)
theorem Inv.cne (I : Inv X pins σ H s) : ∀ x c, X.env.cells.lookup x = some c → c ≠ X.env.locals := fun x c e z => by
  obtain ⟨v, o, ho, hd⟩ := I.cell x c e
  obtain ⟨m, ⟨o', es, ep, ho', hd', _⟩, _⟩ := I.loc
  rw [z, ho'] at ho; cases ho; rw [hd'] at hd; cases hd
theorem Inv.funs (I : Inv X pins σ H s) : s.heap.FunFrames X.base X.outer := by
  have all : ∀ (l : List Env), (∀ b ∈ frs l, b ∈ X.fs) → X.s₀.heap.FunFrames X.base l → s.heap.FunFrames X.base l := by
    intro l
    induction l with
    | nil => intro _ _; trivial
    | cons env r ih =>
      intro hs hl
      obtain ⟨hk, ⟨L, o, hf, hn, ho, hd⟩, hr⟩ := hl
      have hL : L ∈ X.fs := hs L (by unfold frs; rw [List.filterMap_cons, hf]; exact List.mem_cons_self)
      obtain ⟨sl, e⟩ := I.base.slot L o ho (I.ok.frf L hL) hL fun z => I.ok.exfs L z hL
      exact ⟨hk, ⟨L, _, hf, hn, e, hd⟩, ih (fun b hb => hs b (by unfold frs; rw [List.filterMap_cons, hf]; exact List.mem_cons_of_mem _ hb)) hr⟩
  exact all X.outer (fun _ hb => hb) I.ok.funs

/-- the frames that run, for a call -/
theorem Inv.stack (I : Inv X pins σ H s) : s.heap.FunFrames X.base X.stack := by
  rcases I.ok.stk with e | ⟨e, hf⟩
  · rw [e]; exact I.funs
  · rw [e]
    obtain ⟨m, hn, _⟩ := I.loc
    refine .cons (by rw [I.ok.kind]; decide) hf hn ?_ I.funs
    exact Heap.get?_none_of_le (Nat.le_trans I.ok.bsz I.ok.above)
theorem Inv.stkSub (I : Inv X pins σ H s) : ∀ b ∈ frs X.stack, b ∈ X.env.locals :: X.fs := fun b hb => by
  rcases I.ok.stk with e | ⟨e, hf⟩
  · rw [e] at hb; exact List.mem_cons_of_mem _ hb
  · rw [e] at hb
    unfold frs at hb
    rw [List.filterMap_cons, hf] at hb
    exact hb
theorem Inv.stkFree (I : Inv X pins σ H s) : ∀ b ∈ frs X.stack, H b = none := fun b hb => by
  rcases List.mem_cons.mp (I.stkSub b hb) with e | hb
  · rw [e]; exact I.free
  · obtain ⟨_, o, ho, _⟩ := I.ok.funs.mem hb
    exact I.base.free b o ho (I.ok.frf b hb) fun z => I.ok.exfs b z hb

/-- THE STEP: the untracked objects but the frame and the records at ch are kept (the callers' frames up to slots), the frame's map is kept, the new abstract heap is held -/
theorem Inv.step {g' : Array GenState} {t' : Nat} {d' : Drawn} {ch : List Addr} (I : Inv X pins σ H s)
    (hch : ∀ b ∈ ch, (b ∈ X.ex ∨ X.s₀.heap.objs.size ≤ b) ∧ b ≠ X.env.locals ∧ (∀ x c, X.env.cells.lookup x = some c → c ≠ b) ∧ ∀ p ∈ X.pn ++ pins, p.1 ≠ b)
    (keep : ∀ b o, b ≠ X.env.locals → b ∉ X.fs → b ∉ ch → s.heap.get? b = some o → H b = none → h'.get? b = some o)
    (slot : ∀ b o, b ≠ X.env.locals → b ∈ X.fs → b ∉ ch → s.heap.get? b = some o → H b = none → ∃ sl, h'.get? b = some { o with slots := sl }) (free : ∀ b o, b ∉ ch → s.heap.get? b = some o → H b = none → H' b = none)
    (there : ∀ b o, b ∉ ch → s.heap.get? b = some o → ∃ o', h'.get? b = some o')
    (tups : ∀ b xs, H b = some (.tup xs) → H' b = some (.tup xs)) (frzs : ∀ b o u, H b = some (.frz o u) → H' b = some (.frz o u)) (tbls : ∀ b ps, H b = some (.tbl ps) → ∃ more, H' b = some (.tbl (ps ++ more)))
    (ns : ∀ m, s.heap.Ns X.env.locals m → h'.Ns X.env.locals m) (hok : HOk X.prog X.w H' h') (hg : AllBare g') :
    Inv X pins σ H' { s with heap := h', gens := g', drawn := d', toks := t' } := by
  have neL : ∀ b o, X.s₀.heap.get? b = some o → b ≠ X.env.locals := fun b o e => Nat.ne_of_lt (Nat.lt_of_lt_of_le (Heap.lt_size e) I.ok.above)
  have neC : ∀ b o, X.s₀.heap.get? b = some o → b ∉ X.ex → b ∉ ch := fun b o e hx hb => by
    rcases (hch b hb).1 with z | z
    · exact hx z
    · exact absurd (Nat.lt_of_lt_of_le (Heap.lt_size e) z) (Nat.lt_irrefl _)
  have cellK : ∀ x c, X.env.cells.lookup x = some c → ∀ v, s.heap.IsCell c v → h'.IsCell c v := fun x c e v ⟨o, ho, hd⟩ => by
    have nch : c ∉ ch := fun z => (hch c z).2.2.1 x c e rfl
    by_cases hc : c ∈ X.fs
    · obtain ⟨sl, q⟩ := slot c o (I.cne x c e) hc nch ho (I.freeC x c e)
      exact ⟨_, q, hd⟩
    · exact ⟨o, keep c o (I.cne x c e) hc nch ho (I.freeC x c e), hd⟩
  refine ⟨I.ok, I.os, hg, ⟨fun b o e n hb hx => ?_, fun b o e n hb hx => ?_, fun b o e n hx => ?_, fun b o e hx => ?_, fun b xs e => tups b xs (I.base.tups b xs e), fun b o xs e => frzs b o xs (I.base.frzs b o xs e), fun b ps e => ?_⟩, ?_, fun x c e => ?_, ?_, fun x c e => ?_, fun p hp => ?_, hok, I.len⟩
  · exact keep b o (neL b o e) hb (neC b o e hx) (I.base.keep b o e n hb hx) (I.base.free b o e n hx)
  · obtain ⟨sl, e1⟩ := I.base.slot b o e n hb hx
    obtain ⟨sl', e2⟩ := slot b _ (neL b o e) hb (neC b o e hx) e1 (I.base.free b o e n hx)
    exact ⟨sl', e2⟩
  · obtain ⟨o', e1⟩ := I.base.there b o e hx
    exact free b o' (neC b o e hx) e1 (I.base.free b o e n hx)
  · obtain ⟨o', e1⟩ := I.base.there b o e hx
    exact there b o' (neC b o e hx) e1
  · obtain ⟨m1, e1⟩ := I.base.tbls b ps e
    obtain ⟨m2, e2⟩ := tbls b _ e1
    exact ⟨m1 ++ m2, by rw [e2, Array.append_assoc]⟩
  · obtain ⟨m, hn, hl⟩ := I.loc
    refine ⟨m, ns m hn, fun i x v e1 e2 e3 => ?_⟩
    obtain ⟨u, r, l⟩ := hl i x v e1 e2 e3
    refine ⟨u, r, ?_⟩
    rcases l with l | ⟨k, c, e, z⟩
    · exact .inl l
    · exact .inr ⟨k, c, e, cellK x c e _ z⟩
  · obtain ⟨v, z⟩ := I.cell x c e
    exact ⟨v, cellK x c e v z⟩
  · obtain ⟨m, ⟨o, _, _, ho, _⟩, _⟩ := I.loc
    exact free _ o (fun z => (hch _ z).2.1 rfl) ho I.free
  · obtain ⟨v, o, ho, hd⟩ := I.cell x c e
    exact free c o (fun z => (hch c z).2.2.1 x c e rfl) ho (I.freeC x c e)
  · obtain ⟨e, n, ne, nf, d⟩ := I.pin p hp
    have nch : p.1 ∉ ch := fun z => (hch p.1 z).2.2.2 p hp rfl
    exact ⟨keep p.1 p.2 ne nf nch e n, free p.1 p.2 nch e n, ne, nf, d⟩
/-- .. where the frame's own object is kept too -/
theorem Inv.un {t' : Nat} (I : Inv X pins σ H s) (u : Un X.fs [] H H' s.heap h') (hok : HOk X.prog X.w H' h') : Inv X pins σ H' { s with heap := h', toks := t' } := by
  obtain ⟨m, ⟨o, es, ep, ho, r⟩, _⟩ := id I.loc
  obtain ⟨sl, hL⟩ := u.any ho I.free (by simp)
  exact I.step (g' := s.gens) (d' := s.drawn) (ch := []) (fun _ z => nomatch z) (fun b o _ hb _ e n => u.keep b o e n hb (by simp)) (fun b o _ hb _ e n => u.slot b o e n hb (by simp)) (fun b o _ e n => u.free b o e n (by simp)) (fun b o _ e => u.there b o e (by simp)) u.tups u.frzs u.tbls (fun m' hm => by
    obtain ⟨o', es', ep', ho', r'⟩ := hm
    rw [ho] at ho'; cases ho'
    exact ⟨_, es', ep', hL, r'⟩) hok I.bare
/-- behind a call (or a comprehension's block): the slots of this frame may have changed too, the records at ch may have turned -/
theorem Inv.call {g' : Array GenState} {t' : Nat} {d' : Drawn} {ch : List Addr} (I : Inv X pins σ H s) (u : Un (frs X.stack) ch H H' s.heap h') (hok : HOk X.prog X.w H' h') (hg : AllBare g')
    (hch : ∀ b ∈ ch, (b ∈ X.ex ∨ X.s₀.heap.objs.size ≤ b) ∧ b ≠ X.env.locals ∧ (∀ x c, X.env.cells.lookup x = some c → c ≠ b) ∧ ∀ p ∈ X.pn ++ pins, p.1 ≠ b) :
    Inv X pins σ H' { s with heap := h', gens := g', drawn := d', toks := t' } := by
  obtain ⟨m, ⟨o, es, ep, ho, r⟩, _⟩ := id I.loc
  obtain ⟨sl, hL⟩ := u.any ho I.free fun z => (hch _ z).2.1 rfl
  exact I.step (ch := ch) hch (fun b o hL hb hc e n => u.keep b o e n (fun z => (List.mem_cons.mp (I.stkSub b z)).elim hL hb) hc) (fun b o _ _ hc e n => u.any e n hc) (fun b o hc e n => u.free b o e n hc) (fun b o hc e => u.there b o e hc) u.tups u.frzs u.tbls (fun m' hm => by
    obtain ⟨o', es', ep', ho', r'⟩ := hm
    rw [ho] at ho'; cases ho'
    exact ⟨_, es', ep', hL, r'⟩) hok hg
/-- an untracked record of ours (an iterator) has turned -/
theorem Inv.turned {t' : Nat} {it : Addr} (I : Inv X pins σ H s) (k : ∀ b o, b ≠ it → s.heap.get? b = some o → h'.get? b = some o) (hn : H it = none) (hL : it ≠ X.env.locals)
    (h1 : it ∈ X.ex ∨ X.s₀.heap.objs.size ≤ it) (h2 : ∀ x c, X.env.cells.lookup x = some c → c ≠ it) (h3 : ∀ p ∈ X.pn ++ pins, p.1 ≠ it) : Inv X pins σ H { s with heap := h', toks := t' } := by
  have nit : ∀ b u, H b = some u → b ≠ it := fun b u e z => by rw [z, hn] at e; cases e
  refine I.step (g' := s.gens) (d' := s.drawn) (ch := [it]) (fun b hb => ?_) (fun b o _ _ hc e _ => k b o (fun z => hc (by simp [z])) e) (fun b o _ _ hc e _ => ⟨o.slots, k b o (fun z => hc (by simp [z])) e⟩) (fun _ _ _ _ n => n)
    (fun b o hc e => ⟨o, k b o (fun z => hc (by simp [z])) e⟩) (fun _ _ e => e) (fun _ _ _ e => e) (fun b ps e => ⟨#[], by rw [e]; simp⟩) (fun m hm => ?_) (fun b u e => ?_) I.bare
  · have e : b = it := by simpa using hb
    subst e
    exact ⟨h1, hL, h2, h3⟩
  · obtain ⟨o, es, ep, ho, r⟩ := hm
    exact ⟨o, es, ep, k _ o (Ne.symm hL) ho, r⟩
  · refine (I.hok b u e).stay (fun c v hc q => k c v ?_ q) (fun _ q => q) fun _ _ q => q
    rcases hc with z | z
    · rw [z]; exact nit b u e
    · exact nit c _ z
theorem Inv.tok (I : Inv X pins σ H s) (t : Nat) : Inv X pins σ H { s with toks := t } := I.un (h' := s.heap) (t' := t) Un.refl I.hok
/-- all objects kept -/
theorem Inv.kept {t' : Nat} (I : Inv X pins σ H s) (k : ∀ b u, s.heap.get? b = some u → h'.get? b = some u) : Inv X pins σ H { s with heap := h', toks := t' } := I.un (Un.kept k) (I.hok.kept k)
/-- a new object laid and tracked -/
theorem Inv.laid {a : Addr} {o : HO} {t' : Nat} (I : Inv X pins σ H s) (k : ∀ b u, s.heap.get? b = some u → h'.get? b = some u) (hp : s.heap.objs.size ≤ a) (new : ObjOk X.prog X.w (upd H a o) h' a o) :
    Inv X pins σ (upd H a o) { s with heap := h', toks := t' } := I.un (Un.laid k hp (I.hok.fresh hp)) (I.hok.laid k hp new)
/-- an object written -/
theorem Inv.write {x e : Addr} {o : HO} {t' : Nat} (I : Inv X pins σ H s) (mu : Mut (H x)) (he : e = x ∨ H e = some (.own x)) (k : ∀ b u, b ≠ e → s.heap.get? b = some u → h'.get? b = some u) (heo : ∃ u, h'.get? e = some u)
    (new : ObjOk X.prog X.w (upd H x o) h' x o) : Inv X pins σ (upd H x o) { s with heap := h', toks := t' } := I.un (Un.write mu he k heo) (I.hok.write mu he k heo new)
theorem Inv.pins_of {pins' : List (Addr × Obj)} (I : Inv X pins σ H s) (h : ∀ p ∈ pins', s.heap.get? p.1 = some p.2 ∧ H p.1 = none ∧ p.1 ≠ X.env.locals ∧ p.1 ∉ X.fs ∧ ∀ v, p.2.data ≠ .cell v) : Inv X pins' σ H s :=
  ⟨I.ok, I.os, I.bare, I.base, I.loc, I.cell, I.free, I.freeC, fun p hp => (List.mem_append.mp hp).elim (fun z => I.pin p (List.mem_append_left _ z)) (h p), I.hok, I.len⟩

theorem nodup_ix {N : List Str} (hN : N.Nodup) {i j : Nat} {x : Str} (a : N[i]? = some x) (b : N[j]? = some x) : i = j := by
  obtain ⟨h1, e1⟩ := List.getElem?_eq_some_iff.mp a
  obtain ⟨h2, e2⟩ := List.getElem?_eq_some_iff.mp b
  exact (List.getElem_inj hN).mp (e1.trans e2.symm)

/-- a name is stored; what changed -/
theorem store_ok2 {M : Model} {A : Around} {E : Value → Shared → Prop} {i : Nat} {x : Str} {v : V} {u : Value} {Q : Unit → Shared → Prop} (I : Inv X pins σ H s) (hN : X.N.Nodup) (hi : X.N[i]? = some x) (hx : Loc X.env.scope x) (r : RelV v u)
    (h : ∀ s', Inv X pins (σ.set i (some v)) H s' → (∃ a, Heap.SameBut a s.heap s'.heap ∧ (a = X.env.locals ∨ X.env.cells.lookup x = some a)) → Q () s') (hf : X.fn x = true ∨ X.env.scope.names.lookup x = some .local := by first | exact .inl rfl | exact .inr rfl | assumption) : wpAny M A (storeName X.env x u) Q E s := by
  obtain ⟨m, hn, hl⟩ := id I.loc
  have hcls : (X.env.scope.kind == .class || (X.env.scope.kind == .module && X.env.locals != X.env.globals)) = false := by rw [I.ok.kind]; rfl
  have hiσ : i < σ.length := by rw [I.len]; exact (List.getElem?_eq_some_iff.mp hi).1
  have cne := I.cne
  have tracked : ∀ {a : Addr} {h' : Heap}, (∃ o, s.heap.get? a = some o ∧ H a = none) → Heap.SameBut a s.heap h' → HOk X.prog X.w H h' := fun {a h'} ha hs b ob e => by
    obtain ⟨_, _, hfree⟩ := ha
    refine (I.hok b ob e).stay (fun c w' hc q => (hs.2 c ?_).trans q) (fun _ q => q) fun _ _ q => q
    rintro rfl
    rcases hc with rfl | hc
    · rw [hfree] at e; cases e
    · rw [hfree] at hc; cases hc
  rcases hx with hk | hk
  · refine wpAny_storeName_local hk hn (fun h' hn' hs => ?_) hcls
    obtain ⟨oL, _, _, hoL, _⟩ := id hn
    refine h _ ⟨I.ok, I.os, I.bare, ⟨fun b o e n hb hx => ?_, fun b o e n hb hx => ?_, I.base.free, fun b o e hx => ?_, I.base.tups, I.base.frzs, I.base.tbls⟩, ⟨_, hn', fun j y v' e1 e2 e3 => ?_⟩, fun y c e => ?_, I.free, I.freeC, fun p hp => ?_, tracked ⟨oL, hoL, I.free⟩ hs, by simpa using I.len⟩ ⟨_, hs, .inl rfl⟩
    · exact (hs.2 b (Nat.ne_of_lt (Nat.lt_of_lt_of_le (Heap.lt_size e) I.ok.above))).trans (I.base.keep b o e n hb hx)
    · obtain ⟨sl, e1⟩ := I.base.slot b o e n hb hx
      exact ⟨sl, (hs.2 b (Nat.ne_of_lt (Nat.lt_of_lt_of_le (Heap.lt_size e) I.ok.above))).trans e1⟩
    · obtain ⟨o', e1⟩ := I.base.there b o e hx
      exact ⟨o', (hs.2 b (Nat.ne_of_lt (Nat.lt_of_lt_of_le (Heap.lt_size e) I.ok.above))).trans e1⟩
    · by_cases hj : j = i
      · subst hj
        rw [hi] at e1; cases e1
        rw [List.getElem?_set_self hiσ] at e2
        cases e2
        exact ⟨u, r, .inl ⟨hk, by simp⟩⟩
      · rw [List.getElem?_set_ne (Ne.symm hj)] at e2
        obtain ⟨u', r', q⟩ := hl j y v' e1 e2 e3
        refine ⟨u', r', ?_⟩
        rcases q with ⟨k, e⟩ | ⟨k, c, e, z⟩
        · refine .inl ⟨k, ?_⟩
          have : y ≠ x := fun e => hj (nodup_ix hN e1 (e ▸ hi))
          simp [this, e]
        · exact .inr ⟨k, c, e, z.sameBut hs (cne y c e)⟩
    · obtain ⟨w', z⟩ := I.cell y c e
      exact ⟨w', z.sameBut hs (cne y c e)⟩
    · obtain ⟨e, n, ne, nf, d⟩ := I.pin p hp
      exact ⟨(hs.2 p.1 ne).trans e, n, ne, nf, d⟩
  · have hfn : X.fn x = true := by
      rcases hf with z | z
      · exact z
      · rw [z] at hk; cases hk
    obtain ⟨c, hc⟩ := I.ok.has x (.inl hk)
    obtain ⟨w', z⟩ := I.cell x c hc
    refine wpAny_storeName_cell I.ok.kind hk hc z (fun h' hc' hs => ?_)
    obtain ⟨oc, hoc, hocd⟩ := id z
    refine h { s with heap := h' } ⟨I.ok, I.os, I.bare, ⟨fun b o e n hb hx => ?_, fun b o e n hb hx => ?_, I.base.free, fun b o e hx => ?_, I.base.tups, I.base.frzs, I.base.tbls⟩, ⟨m, hn.sameBut hs (Ne.symm (cne x c hc)), fun j y v' e1 e2 e3 => ?_⟩, fun y c' e => ?_, I.free, I.freeC, fun p hp => ?_, tracked ⟨oc, hoc, I.freeC x c hc⟩ hs, by simpa using I.len⟩ ⟨c, hs, .inr hc⟩
    · exact (hs.2 b (Nat.ne_of_lt (Nat.lt_of_lt_of_le (Heap.lt_size e) (I.ok.cab x c hfn hc)))).trans (I.base.keep b o e n hb hx)
    · obtain ⟨sl, e1⟩ := I.base.slot b o e n hb hx
      exact ⟨sl, (hs.2 b (Nat.ne_of_lt (Nat.lt_of_lt_of_le (Heap.lt_size e) (I.ok.cab x c hfn hc)))).trans e1⟩
    · obtain ⟨o', e1⟩ := I.base.there b o e hx
      exact ⟨o', (hs.2 b (Nat.ne_of_lt (Nat.lt_of_lt_of_le (Heap.lt_size e) (I.ok.cab x c hfn hc)))).trans e1⟩
    · by_cases hj : j = i
      · subst hj
        rw [hi] at e1; cases e1
        rw [List.getElem?_set_self hiσ] at e2
        cases e2
        exact ⟨u, r, .inr ⟨.inl hk, c, hc, hc'⟩⟩
      · rw [List.getElem?_set_ne (Ne.symm hj)] at e2
        obtain ⟨u', r', q⟩ := hl j y v' e1 e2 e3
        refine ⟨u', r', ?_⟩
        rcases q with q | ⟨k, c', e, z'⟩
        · exact .inl q
        · refine .inr ⟨k, c', e, z'.sameBut hs ?_⟩
          rintro rfl
          exact hj (nodup_ix hN e1 (I.ok.inj _ _ _ e hc ▸ hi))
    · by_cases hcc : c' = c
      · subst hcc; exact ⟨_, hc'⟩
      · obtain ⟨w2, z2⟩ := I.cell y c' e
        exact ⟨w2, z2.sameBut hs hcc⟩
    · obtain ⟨e, n, ne, nf, d⟩ := I.pin p hp
      refine ⟨(hs.2 p.1 ?_).trans e, n, ne, nf, d⟩
      intro q
      rw [q, hoc] at e
      have q' : oc = p.2 := Option.some.inj e
      exact d w' (by rw [← q']; exact hocd)
theorem store_ok {M : Model} {A : Around} {E : Value → Shared → Prop} {i : Nat} {x : Str} {v : V} {u : Value} {Q : Unit → Shared → Prop} (I : Inv X pins σ H s) (hN : X.N.Nodup) (hi : X.N[i]? = some x) (hx : Loc X.env.scope x) (r : RelV v u)
    (h : ∀ s', Inv X pins (σ.set i (some v)) H s' → Q () s') (hf : X.fn x = true ∨ X.env.scope.names.lookup x = some .local := by first | exact .inl rfl | exact .inr rfl | assumption) : wpAny M A (storeName X.env x u) Q E s :=
  store_ok2 I hN hi hx r (fun s' I' _ => h s' I') hf
/-- behind a call or a block, the state as it is -/
theorem Inv.call' {s' : Shared} {ch : List Addr} (I : Inv X pins σ H s) (ho : s'.os = s.os) (u : Un (frs X.stack) ch H H' s.heap s'.heap) (hok : HOk X.prog X.w H' s'.heap) (hg : AllBare s'.gens)
    (hch : ∀ b ∈ ch, (b ∈ X.ex ∨ X.s₀.heap.objs.size ≤ b) ∧ b ≠ X.env.locals ∧ (∀ x c, X.env.cells.lookup x = some c → c ≠ b) ∧ ∀ p ∈ X.pn ++ pins, p.1 ≠ b) : Inv X pins σ H' s' := by
  obtain ⟨h', g', d', t', o'⟩ := s'
  have e : o' = s.os := ho
  subst e
  exact I.call (g' := g') (t' := t') (d' := d') u hok hg hch
end

/-! ### the judgements -/
/-- an exception: its class, its own dict's address (where it has one), the abstract heap behind it -/
abbrev XK := Value → Option Addr → Hp → Prop
abbrev St := List (Option V)
abbrev VK := V → Hp → Prop
/-- an expression's reading; a test's; an argument list's -/
abbrev TE := St → Hp → VK → Prop
abbrev TT := St → Hp → (Bool → Hp → Prop) → Prop
abbrev TA := St → Hp → (List V → Hp → Prop) → Prop
/-- what is wanted behind a statement -/
structure Ends where
  nx : St → Hp → Prop
  rt : VK
  bk : St → Hp → Prop := fun _ _ => False
  ct : St → Hp → Prop := fun _ _ => False
abbrev TS := Ends → St → Hp → Prop

def EP (X : Cx) (pins : List (Addr × Obj)) (σ : St) (Q : VK) (u : Value) (s' : Shared) : Prop := ∃ v H', Inv X pins σ H' s' ∧ RelV v u ∧ Q v H'
def TP (X : Cx) (pins : List (Addr × Obj)) (σ : St) (Q : Bool → Hp → Prop) (b : Bool) (s' : Shared) : Prop := ∃ H', Inv X pins σ H' s' ∧ Q b H'
def AP (X : Cx) (pins : List (Addr × Obj)) (σ : St) (Q : List V → Hp → Prop) (us : List Value) (s' : Shared) : Prop := ∃ vs H', Inv X pins σ H' s' ∧ Vals vs us ∧ Q vs H'
def SP (X : Cx) (pins : List (Addr × Obj)) (D : Ends) (f : Flow) (s' : Shared) : Prop :=
  match f with
  | .next => ∃ σ' H', Inv X pins σ' H' s' ∧ D.nx σ' H'
  | .brk => ∃ σ' H', Inv X pins σ' H' s' ∧ D.bk σ' H'
  | .cont => ∃ σ' H', Inv X pins σ' H' s' ∧ D.ct σ' H'
  | .ret u => ∃ v σ' H', Inv X pins σ' H' s' ∧ RelV v u ∧ D.rt v H'

def PE (X : Cx) (e : Expr) (t : TE) : Prop :=
  ∀ (pins : List (Addr × Obj)) (s : Shared) (σ : St) (H : Hp) (Q : VK), Inv X pins σ H s → t σ H Q → wpAny (model X.prog X.w) X.A (eval e X.env) (EP X pins σ Q) X.xe s
def PT (X : Cx) (e : Expr) (t : TT) : Prop :=
  ∀ (pins : List (Addr × Obj)) (s : Shared) (σ : St) (H : Hp) (Q : Bool → Hp → Prop), Inv X pins σ H s → t σ H Q → wpAny (model X.prog X.w) X.A (isTrue e X.env (eval e X.env)) (TP X pins σ Q) X.xe s
/-- a test whatever its 'whole' is (and, or) -/
def PW (X : Cx) (e : Expr) (t : TT) : Prop :=
  ∀ (whole : Sem Value) (pins : List (Addr × Obj)) (s : Shared) (σ : St) (H : Hp) (Q : Bool → Hp → Prop), Inv X pins σ H s → t σ H Q → wpAny (model X.prog X.w) X.A (isTrue e X.env whole) (TP X pins σ Q) X.xe s
theorem PW.pt {X : Cx} {e : Expr} {t : TT} (h : PW X e t) : PT X e t := h _
/-- an argument list (no star), from the left -/
def PA (X : Cx) (es : List Expr) (t : TA) : Prop :=
  ∀ (pos : Pos) (pins : List (Addr × Obj)) (s : Shared) (σ : St) (H : Hp) (Q : List V → Hp → Prop), Inv X pins σ H s → t σ H Q → wpAny (model X.prog X.w) X.A (spliced (backTo pos (starEach es X.env))) (AP X pins σ Q) X.xe s
def PS (X : Cx) (st : Stmt) (t : TS) : Prop :=
  ∀ (pins : List (Addr × Obj)) (s : Shared) (σ : St) (H : Hp) (D : Ends), Inv X pins σ H s → t D σ H → wpAny (model X.prog X.w) X.A (exec st X.env) (SP X pins D) X.xe s
def PSs (X : Cx) (st : List Stmt) (t : TS) : Prop :=
  ∀ (pins : List (Addr × Obj)) (s : Shared) (σ : St) (H : Hp) (D : Ends), Inv X pins σ H s → t D σ H → wpAny (model X.prog X.w) X.A (execs st X.env) (SP X pins D) X.xe s
/-- weaken the end -/
theorem thn {α : Type} {t : Sem α} {Q Q' : α → Shared → Prop} {M : Model} {A : Around} {E : Value → Shared → Prop} {s : Shared} (h : wpAny M A t Q E s) (hQ : ∀ a s, Q a s → Q' a s) : wpAny M A t Q' E s := wpAny_mono h hQ fun _ _ x => x
end L2

namespace L2
open PySem PySem.Spec PyProof.Rows
section
variable {X : Cx}

/-- two expressions in a row -/
theorem bin {a b : Expr} {ta tb : TE} (ha : PE X a ta) (hb : PE X b tb) {pins : List (Addr × Obj)} {s : Shared} {σ : St} {H : Hp} {R : V → V → Hp → Prop} (I : Inv X pins σ H s) (h : ta σ H fun x H1 => tb σ H1 fun y H2 => R x y H2)
    {α : Type} {Q : α → Shared → Prop} {f : Value → Value → Sem α}
    (hf : ∀ v u s2 x y H2, Inv X pins σ H2 s2 → RelV x v → RelV y u → R x y H2 → wpAny (model X.prog X.w) X.A (f v u) Q X.xe s2) :
    wpAny (model X.prog X.w) X.A (eval a X.env) (fun v s₁ => wpAny (model X.prog X.w) X.A (eval b X.env) (fun u s₂ => wpAny (model X.prog X.w) X.A (f v u) Q X.xe s₂) X.xe s₁) X.xe s := by
  refine thn (ha pins s σ H _ I h) fun v s1 ⟨x, H1, I1, r1, q1⟩ => ?_
  refine thn (hb pins s1 σ H1 _ I1 q1) fun u s2 ⟨y, H2, I2, r2, q2⟩ => ?_
  exact hf v u s2 x y H2 I2 r1 r2 q2

/-! ### names and constants -/
def tVar (i : Nat) : TE := fun σ H Q => ∃ v, σ[i]? = some (some v) ∧ Q v H
def tC (v : V) : TE := fun _ H Q => Q v H
theorem pe_var {i : Nat} {x : Str} {pos : Pos} (hN : X.N[i]? = some x) (hv : Vis X.env.scope x) (hd : (x == ("__debug__" : Str)) = false := by decide) (hcd : (x == ("__classdict__" : Str)) = false := by decide) : PE X (.Name x pos) (tVar i) := by
  intro pins s σ H Q I h
  obtain ⟨v, e, h⟩ := h
  obtain ⟨m, hn, hl⟩ := I.loc
  obtain ⟨u, r, l⟩ := hl i x v hN e hv
  have fin : EP X pins σ Q u s := ⟨v, H, I, r, h⟩
  rcases l with ⟨hk, hm⟩ | ⟨hk, c, hc, hcell⟩
  · exact wpAny_Name (wpAny_loadName_local I.ok.kind hk hn hm fin) hd
  · rcases hk with hk | hk
    · exact wpAny_Name (wpAny_loadName_cell I.ok.kind hk hc hcell fin) hd
    · exact wpAny_Name (wpAny_loadName_free I.ok.kind hk hc hcell fin hcd) hd
theorem pe_int {i j pos} : PE X (.Constant (.int i) j pos) (tC (.int i)) := fun _ _ _ H _ I h => wpAny_Constant_int ⟨.int i, H, I.tok _, ⟨_, rfl⟩, h⟩
theorem pe_bl {b j pos} : PE X (.Constant (.bool b) j pos) (tC (.bl b)) := fun _ _ _ H _ I h => Constant_bool ⟨.bl b, H, I, rfl, h⟩
/-- a global name of the def -/
def Gl (X : Cx) (x : Str) : Prop := X.env.kindOf x = some .globalImplicit
theorem ld_glob {E : Value → Shared → Prop} {pins : List (Addr × Obj)} {s : Shared} {σ : St} {H : Hp} {x : Str} {u : Value} {pos : Pos} {Q : Value → Shared → Prop} (I : Inv X pins σ H s) (hg : Gl X x) (hm : X.mg x = some u) (h : Q u s)
    (hd : (x == ("__debug__" : Str)) = false := by decide) : wpAny (model X.prog X.w) X.A (eval (.Name x pos) X.env) Q E s :=
  Calls.Name_function_global I.ok.kind hg (Calls.loadGlobal_global (by rw [I.ok.glob]; exact I.mod.glob.keeps I.bk) hm h) hd
theorem ld_blt {E : Value → Shared → Prop} {pins : List (Addr × Obj)} {s : Shared} {σ : St} {H : Hp} {x : Str} {u : Value} {pos : Pos} {Q : Value → Shared → Prop} (I : Inv X pins σ H s) (hg : Gl X x) (hm : X.mg x = none) (hv : bootBuiltins x = some u) (h : Q u s)
    (hn : x ≠ "__name__" := by decide) (hd : (x == ("__debug__" : Str)) = false := by decide) : wpAny (model X.prog X.w) X.A (eval (.Name x pos) X.env) Q E s := by
  obtain ⟨mb, h1, h2⟩ := I.mod.blt
  exact Calls.Name_function_global I.ok.kind hg (Calls.loadGlobal_builtin (by rw [I.ok.glob]; exact I.mod.glob.keeps I.bk) hm (by rw [I.ok.blt]; exact h1.keeps I.bk) ((h2 x hn).trans hv) h) hd
theorem pe_bltn {x : Str} {v : V} {u : Value} {pos : Pos} (hg : Gl X x) (hm : X.mg x = none) (hv : bootBuiltins x = some u) (r : RelV v u) (hn : x ≠ "__name__" := by decide) (hd : (x == ("__debug__" : Str)) = false := by decide) : PE X (.Name x pos) (tC v) :=
  fun _ _ _ H _ I h => ld_blt I hg hm hv ⟨v, H, I, r, h⟩ hn hd

/-! ### arithmetic -/
/-- two ints -/
def t2I (ta tb : TE) (k : Int → Int → Hp → Prop) : St → Hp → Prop := fun σ H => ta σ H fun x H1 => tb σ H1 fun y H2 => ∃ i j, x = .int i ∧ y = .int j ∧ k i j H2
def tAdd (ta tb : TE) : TE := fun σ H Q => t2I ta tb (fun i j H2 => Q (.int (i + j)) H2) σ H
def tSub (ta tb : TE) : TE := fun σ H Q => t2I ta tb (fun i j H2 => Q (.int (i - j)) H2) σ H
/-- the left factor below 2^64 -/
def tMul (ta tb : TE) : TE := fun σ H Q => t2I ta tb (fun i j H2 => (-(2 ^ 64) < i ∧ i < 2 ^ 64) ∧ Q (.int (i * j)) H2) σ H
variable {a b : Expr} {ta tb : TE} {pos : Pos}
/-! ### comparisons -/
def PC (X : Cx) (op : CmpOp) (a b : Expr) (t : TE) : Prop :=
  ∀ (pins : List (Addr × Obj)) (s : Shared) (σ : St) (H : Hp) (Q : VK), Inv X pins σ H s → t σ H Q →
    wpAny (model X.prog X.w) X.A (eval a X.env) (fun v s₁ => wpAny (model X.prog X.w) X.A (eval b X.env) (fun u s₂ => wpAny (model X.prog X.w) X.A (compareOp op v u) (EP X pins σ Q) X.xe s₂) X.xe s₁) X.xe s
def tCmp (p : Int → Int → Bool) (ta tb : TE) : TE := fun σ H Q => t2I ta tb (fun i j H2 => Q (.bl (p i j)) H2) σ H
abbrev tLt : TE → TE → TE := tCmp fun i j => decide (i < j)
abbrev tLe : TE → TE → TE := tCmp fun i j => decide (i ≤ j)
abbrev tGt : TE → TE → TE := tCmp fun i j => decide (j < i)
abbrev tGe : TE → TE → TE := tCmp fun i j => decide (j ≤ i)
abbrev tEqI : TE → TE → TE := tCmp fun i j => decide (i = j)
abbrev tNeI : TE → TE → TE := tCmp fun i j => !decide (i = j)
/-- is None -/
def tIsN (ta : TE) : TE := fun σ H Q => ta σ H fun x H1 => Q (.bl (decide (x = .non))) H1
def tNotN (ta : TE) : TE := fun σ H Q => ta σ H fun x H1 => Q (.bl (!decide (x = .non))) H1
/-- a comparison as a value, as a test -/
def tB (t : TE) : TT := fun σ H Q => t σ H fun x H1 => ∃ c, x = .bl c ∧ Q c H1
theorem pt_cmp {op : CmpOp} {t : TE} (h : PC X op a b t) (h1 : behindInMarks op b = false := by first | exact nobehind _ (by decide) (by decide) | rfl) : PT X (.Compare a [op] [b] pos) (tB t) := by
  intro pins s σ H Q I hw
  refine wpAny_isTrue_Compare1 (thn (h pins s σ H _ I hw) fun v s1 h1 => thn h1 fun u s2 h2 => thn h2 fun c s3 ⟨x, H1, I1, r1, q1⟩ => ?_) h1
  obtain ⟨d, rfl, q⟩ := q1
  cases r1
  exact wpAny_truthy_bool ⟨H1, I1, q⟩
/-- an expression whose value is a bool, as a test -/
theorem pt_val {e : Expr} {t : TE} (h : PE X e t) (he : ∀ whole, isTrue e X.env whole = (do let v ← whole; standAt e.pos; holding [v] (truthy v)) := by intro _; rfl) : PT X e (tB t) := by
  intro pins s σ H Q I hw
  refine isTrue_plain (thn (h pins s σ H _ I hw) fun v s1 ⟨x, H1, I1, r1, q1⟩ => ?_) (he _)
  obtain ⟨d, rfl, q⟩ := q1
  cases r1
  exact wpAny_truthy_bool ⟨H1, I1, q⟩

/-! ### and, or, not -/
variable {tA tB' : TT} {rest : List Expr}
def tAnd (t u : TT) : TT := fun σ H Q => t σ H fun c H1 => if c = true then u σ H1 Q else Q false H1
def tOr (t u : TT) : TT := fun σ H Q => t σ H fun c H1 => if c = true then Q true H1 else u σ H1 Q
def tNot (t : TT) : TT := fun σ H Q => t σ H fun c H1 => Q (!c) H1
theorem pw_and1 (ha : PT X a tA) : PW X (.BoolOp .And [a] pos) tA := by
  intro wh pins s σ H Q I h
  refine isTrue_and (thn (ha pins s σ H Q I h) fun c s1 e => ?_)
  cases c with
  | true => exact isTrue_and_nil e
  | false => exact e
theorem pw_or1 (ha : PT X a tA) : PW X (.BoolOp .Or [a] pos) tA := by
  intro wh pins s σ H Q I h
  refine isTrue_or (thn (ha pins s σ H Q I h) fun c s1 e => ?_)
  cases c with
  | false => exact isTrue_or_nil e
  | true => exact e
theorem pw_and (ha : PT X a tA) (hb : PW X (.BoolOp .And (b :: rest) pos) tB') : PW X (.BoolOp .And (a :: b :: rest) pos) (tAnd tA tB') := by
  intro wh pins s σ H Q I h
  refine isTrue_and (thn (ha pins s σ H _ I h) fun c s1 ⟨H1, I1, q1⟩ => ?_)
  cases c with
  | true => exact hb wh pins s1 σ H1 Q I1 q1
  | false => exact ⟨H1, I1, q1⟩
theorem pw_or (ha : PT X a tA) (hb : PW X (.BoolOp .Or (b :: rest) pos) tB') : PW X (.BoolOp .Or (a :: b :: rest) pos) (tOr tA tB') := by
  intro wh pins s σ H Q I h
  refine isTrue_or (thn (ha pins s σ H _ I h) fun c s1 ⟨H1, I1, q1⟩ => ?_)
  cases c with
  | true => exact ⟨H1, I1, q1⟩
  | false => exact hb wh pins s1 σ H1 Q I1 q1
theorem pt_not (ha : PT X a tA) : PT X (.UnaryOp .Not a pos) (tNot tA) := by
  intro pins s σ H Q I h
  exact isTrue_not (ha pins s σ H (fun c H1 => Q (!c) H1) I h)
/-- .. as values (bools) -/
def tAndV (ta tb : TE) : TE := fun σ H Q => ta σ H fun x H1 => ∃ c, x = .bl c ∧ if c = true then tb σ H1 Q else Q (.bl false) H1
def tOrV (ta tb : TE) : TE := fun σ H Q => ta σ H fun x H1 => ∃ c, x = .bl c ∧ if c = true then Q (.bl true) H1 else tb σ H1 Q
def tNotV (ta : TE) : TE := fun σ H Q => ta σ H fun x H1 => ∃ c, x = .bl c ∧ Q (.bl (!c)) H1
theorem pe_one {op} {t : TE} (h : PE X a t) : PE X (.BoolOp op [a] pos) t := fun pins s σ H Q I hw => BoolOp_one (h pins s σ H Q I hw)
theorem pe_and (ha : PE X a ta) (hb : PE X (.BoolOp .And (b :: rest) pos) tb) : PE X (.BoolOp .And (a :: b :: rest) pos) (tAndV ta tb) := by
  intro pins s σ H Q I h
  refine BoolOp_and (thn (ha pins s σ H _ I h) fun v s1 ⟨x, H1, I1, r1, q1⟩ => ?_)
  obtain ⟨c, rfl, q1⟩ := q1
  cases r1
  refine wpAny_truthy_bool ?_
  cases c with
  | true => exact hb pins s1 σ H1 Q I1 q1
  | false => exact ⟨.bl false, H1, I1, rfl, q1⟩
theorem pe_not (ha : PE X a ta) : PE X (.UnaryOp .Not a pos) (tNotV ta) := by
  intro pins s σ H Q I h
  refine UnaryOp_ (thn (ha pins s σ H _ I h) fun v s1 ⟨x, H1, I1, r1, q1⟩ => ?_)
  obtain ⟨c, rfl, q1⟩ := q1
  cases r1
  exact not_of (wpAny_truthy_bool ⟨.bl (!c), H1, I1, rfl, q1⟩)
/-- a if t else b -/
def tIf (t : TT) (ta tb : TE) : TE := fun σ H Q => t σ H fun c H1 => if c = true then ta σ H1 Q else tb σ H1 Q
theorem pe_ifExp {c : Expr} (hc : PT X c tA) (ha : PE X a ta) (hb : PE X b tb) : PE X (.IfExp c a b pos) (tIf tA ta tb) := by
  intro pins s σ H Q I h
  refine wpAny_IfExp (thn (hc pins s σ H _ I h) fun d s1 ⟨H1, I1, q1⟩ => ?_)
  cases d with
  | true => exact ha pins s1 σ H1 Q I1 q1
  | false => exact hb pins s1 σ H1 Q I1 q1
end
end L2

namespace L2
open PySem PySem.Spec PyProof.Rows

/-! ### a list, a tuple that is read: tracked, frozen, or an object of the module -/
def SqL (K : PySem.W.Frag) (H : Hp) (a : Addr) (xs : List V) : Prop :=
  Rd H a (.lst xs) ∨
    ∃ (o : Obj) (its : Array Value) (n : Nat), K.lookup a = some o ∧ o.cls = .type "list" ∧ o.dict = none ∧ o.data = .seq its n ∧ its.size ≤ sizeLine ∧ Vals xs its.toList
def SqT (K : PySem.W.Frag) (H : Hp) (a : Addr) (xs : List V) : Prop :=
  Rd H a (.tup xs) ∨
    ∃ (o : Obj) (its : Array Value) (n : Nat), K.lookup a = some o ∧ o.cls = .type "tuple" ∧ o.data = .seq its n ∧ its.size ≤ sizeLine ∧ Vals xs its.toList
def absV : Value → Option V
  | .none => some .non
  | .bool b => some (.bl b)
  | .int i _ => some (.int i)
  | .str x _ => some (.str x)
  | .bytes b _ => some (.byt b)
  | .float b _ => some (.flt b)
  | .ref a => some (.ref a)
  | .type n => some (.ty n)
  | _ => none
theorem RelV.abs {x : V} {u : Value} (r : RelV x u) : absV u = some x := by
  cases x with
  | non => cases r; rfl
  | bl _ => cases r; rfl
  | int _ => obtain ⟨t, rfl⟩ := r; rfl
  | str _ => obtain ⟨t, rfl⟩ := r; rfl
  | byt _ => obtain ⟨t, rfl⟩ := r; rfl
  | flt _ => obtain ⟨t, rfl⟩ := r; rfl
  | ref _ => cases r; rfl
  | ty _ => cases r; rfl
theorem RelV.inj {x y : V} {u : Value} (r : RelV x u) (q : RelV y u) : x = y := Option.some.inj (r.abs.symm.trans q.abs)
theorem Vals.inj : ∀ {xs ys : List V} {us : List Value}, Vals xs us → Vals ys us → xs = ys
  | _, _, _, .nil, .nil => rfl
  | _, _, _, .cons r t, .cons r' t' => by rw [r.inj r', Vals.inj t t']
section
variable {X : Cx} {pins : List (Addr × Obj)} {σ : St} {H : Hp} {s : Shared} {a : Addr} {xs ys : List V}
theorem SqL.of {K : PySem.W.Frag} (h : H a = some (.lst xs)) : SqL K H a xs := .inl (.inl h)
theorem SqT.of {K : PySem.W.Frag} (h : H a = some (.tup xs)) : SqT K H a xs := .inl (.inl h)
theorem Inv.list (I : Inv X pins σ H s) (h : SqL X.K H a xs) : ∃ its : List Value, Vals xs its ∧ PlainL s.heap a its.toArray ∧ xs.length ≤ sizeLine := by
  rcases h with h | ⟨o, its, n, hk, hc, hd, hs, hz, r⟩
  · obtain ⟨z, its, n, r, e⟩ := h.ok I.hok
    exact ⟨its, r, ⟨_, n, e, rfl, rfl, rfl⟩, z⟩
  · refine ⟨its.toList, r, ⟨o, n, I.kIn a o hk, hc, hd, by simpa using hs⟩, ?_⟩
    have e := r.length
    simp only [Array.length_toList] at e
    omega
theorem Inv.tuple (I : Inv X pins σ H s) (h : SqT X.K H a xs) : ∃ its : List Value, Vals xs its ∧ IsTup s.heap a its.toArray ∧ xs.length ≤ sizeLine := by
  rcases h with h | ⟨o, its, n, hk, hc, hs, hz, r⟩
  · obtain ⟨z, its, r, p⟩ := h.ok I.hok
    exact ⟨its, r, p, z⟩
  · refine ⟨its.toList, r, ⟨o, I.kIn a o hk, hc, n, by simpa using hs⟩, ?_⟩
    have e := r.length
    simp only [Array.length_toList] at e
    omega
theorem Inv.list_inj (I : Inv X pins σ H s) (h : SqL X.K H a xs) (h' : SqL X.K H a ys) : xs = ys := by
  obtain ⟨its, r, ⟨o, n, e, _, _, d⟩, _⟩ := I.list h
  obtain ⟨its', r', ⟨o', n', e', _, _, d'⟩, _⟩ := I.list h'
  rw [e] at e'; cases e'
  rw [d] at d'
  injection d' with d1 _
  have : its = its' := by simpa using congrArg Array.toList d1
  subst this
  exact r.inj r'
end

/-! ### another wish about exceptions -/
abbrev Cx.wish (X : Cx) (E : Value → Shared → Prop) : Cx := { X with xe := E }
/-- no exception leaves -/
abbrev Cx.nox (X : Cx) : Cx := X.wish fun _ _ => False
theorem Cx.Ok.wish {X : Cx} (ok : X.Ok) (E : Value → Shared → Prop) : (X.wish E).Ok :=
  ⟨ok.mod, ok.kind, ok.glob, ok.blt, ok.above, ok.inj, ok.has, ok.cab, ok.hd, ok.frames, ok.stk, ok.exf, ok.bs, ok.bsz, ok.noex, ok.exfs, ok.funs, ok.frf⟩
theorem Cx.Ok.unwish {X : Cx} {E : Value → Shared → Prop} (ok : (X.wish E).Ok) : X.Ok :=
  ⟨ok.mod, ok.kind, ok.glob, ok.blt, ok.above, ok.inj, ok.has, ok.cab, ok.hd, ok.frames, ok.stk, ok.exf, ok.bs, ok.bsz, ok.noex, ok.exfs, ok.funs, ok.frf⟩
section
variable {X : Cx} {pins : List (Addr × Obj)} {σ : St} {H : Hp} {s : Shared} {E : Value → Shared → Prop}
theorem Inv.wish (I : Inv X pins σ H s) (E : Value → Shared → Prop) : Inv (X.wish E) pins σ H s := ⟨I.ok.wish E, I.os, I.bare, I.base, I.loc, I.cell, I.free, I.freeC, I.pin, I.hok, I.len⟩
theorem Inv.unwish (I : Inv (X.wish E) pins σ H s) : Inv X pins σ H s := ⟨I.ok.unwish, I.os, I.bare, I.base, I.loc, I.cell, I.free, I.freeC, I.pin, I.hok, I.len⟩
theorem SP.unwish {D : Ends} {f : Flow} {s' : Shared} (h : SP (X.wish E) pins D f s') : SP X pins D f s' := by
  cases f with
  | next => obtain ⟨σ', H', I, q⟩ := h; exact ⟨σ', H', I.unwish, q⟩
  | brk => obtain ⟨σ', H', I, q⟩ := h; exact ⟨σ', H', I.unwish, q⟩
  | cont => obtain ⟨σ', H', I, q⟩ := h; exact ⟨σ', H', I.unwish, q⟩
  | ret u => obtain ⟨v, σ', H', I, r, q⟩ := h; exact ⟨v, σ', H', I.unwish, r, q⟩
theorem PSs.nox {st : List Stmt} {t : TS} (h : PSs X.nox st t) : PSs X st t := fun pins s σ H D I hw =>
  wpAny_mono (h pins s σ H D (I.wish _) hw) (fun _ _ q => q.unwish) fun _ _ z => False.elim z
end

/-! ### blocks and small statements -/
section
variable {X : Cx} {st : Stmt} {rest : List Stmt} {t u : TS} {e : Expr} {te : TE} {pos : Pos}
def tNext : TS := fun D σ H => D.nx σ H
def tSeq (t u : TS) : TS := fun D σ H => t { D with nx := u D } σ H
theorem pss_nil : PSs X [] tNext := fun _ _ σ H _ I h => wpAny_execs_nil ⟨σ, H, I, h⟩
theorem pss_cons (h1 : PS X st t) (h2 : PSs X rest u) : PSs X (st :: rest) (tSeq t u) := by
  intro pins s σ H D I h
  refine wpAny_execs_cons (thn (h1 pins s σ H { D with nx := u D } I h) fun f s1 q => ?_)
  cases f with
  | next =>
    obtain ⟨σ', H', I', q⟩ := q
    exact h2 pins s1 σ' H' D I' q
  | ret v => exact q
  | brk => exact q
  | cont => exact q
theorem pss_one (h1 : PS X st t) : PSs X [st] t := by
  intro pins s σ H D I h
  refine wpAny_execs_cons (thn (h1 pins s σ H D I h) fun f s1 q => ?_)
  cases f with
  | next => exact wpAny_execs_nil q
  | ret v => exact q
  | brk => exact q
  | cont => exact q
def tBreak : TS := fun D σ H => D.bk σ H
def tCont : TS := fun D σ H => D.ct σ H
/-- in a def's body nothing is shown -/
theorem Inv.quiet {pins : List (Addr × Obj)} {σ : St} {H : Hp} {s : Shared} (I : Inv X pins σ H s) : interactive X.env = false := by simp [interactive, I.ok.kind]
/-- an expression whose value is dropped -/
def tDrop (te : TE) : TS := fun D σ H => te σ H fun _ H1 => D.nx σ H1
theorem ps_expr (he : PE X e te) (hs : swapsWith e none pos.line X.env = pure false := by rfl) : PS X (.Expr e pos) (tDrop te) := by
  intro pins s σ H D I h
  exact wpAny_Expr_any (thn (he pins s σ H _ I h) fun v s1 ⟨x, H1, I1, r1, q1⟩ => ⟨σ, H1, I1, q1⟩) I.quiet hs
def tRet (te : TE) : TS := fun D σ H => te σ H D.rt
theorem ps_ret (he : PE X e te) : PS X (.Return (some e) pos) (tRet te) := by
  intro pins s σ H D I h
  exact wpAny_Return_some (thn (he pins s σ H _ I h) fun v s1 ⟨x, H1, I1, r1, q1⟩ => ⟨x, σ, H1, I1, r1, q1⟩)
def tRetN : TS := fun D _ H => D.rt .non H
def tIfS (c : TT) (t u : TS) : TS := fun D σ H => c σ H fun b H1 => if b = true then t D σ H1 else u D σ H1
theorem ps_if {c : Expr} {a b : List Stmt} {tc : TT} (hc : PT X c tc) (ha : PSs X a t) (hb : PSs X b u) : PS X (.If c a b pos) (tIfS tc t u) := by
  intro pins s σ H D I h
  refine wpAny_If (thn (hc pins s σ H _ I h) fun d s1 ⟨H1, I1, q1⟩ => ?_)
  cases d with
  | true => exact ha pins s1 σ H1 D I1 q1
  | false => exact hb pins s1 σ H1 D I1 q1
/-- code that the proof never comes to -/
def tNever : TS := fun _ _ _ => False
end

/-! ### targets -/
abbrev TG := V → St → Hp → (St → Hp → Prop) → Prop
abbrev TGs := List V → St → Hp → (St → Hp → Prop) → Prop
def PG (X : Cx) (target : Expr) (t : TG) : Prop :=
  ∀ (pins : List (Addr × Obj)) (s : Shared) (σ : St) (H : Hp) (v : V) (u : Value) (Q : St → Hp → Prop), Inv X pins σ H s → RelV v u → t v σ H Q →
    wpAny (model X.prog X.w) X.A (assign target X.env u) (fun _ s' => ∃ σ' H', Inv X pins σ' H' s' ∧ Q σ' H') X.xe s
/-- several targets, one after another -/
def PGs (X : Cx) (ts : List Expr) (t : TGs) : Prop :=
  ∀ (pins : List (Addr × Obj)) (s : Shared) (σ : St) (H : Hp) (vs : List V) (us : List Value) (Q : St → Hp → Prop), Inv X pins σ H s → Vals vs us → t vs σ H Q →
    wpAny (model X.prog X.w) X.A (assignInOrder ((assignEach ts X.env).map (·.2)) us) (fun _ s' => ∃ σ' H', Inv X pins σ' H' s' ∧ Q σ' H') X.xe s
/-- o[i] = v, by values -/
abbrev TSet := V → V → V → Hp → (Hp → Prop) → Prop
def PSet (X : Cx) (t : TSet) : Prop :=
  ∀ (pins : List (Addr × Obj)) (s : Shared) (σ : St) (H : Hp) (o i v : V) (ov iv u : Value) (Q : Hp → Prop), Inv X pins σ H s → RelV o ov → RelV i iv → RelV v u → t o i v H Q →
    wpAny (model X.prog X.w) X.A (setItem ov iv u) (fun _ s' => ∃ H', Inv X pins σ H' s' ∧ Q H') X.xe s
/-- a op= b, by values -/
abbrev TIp := V → V → Hp → VK → Prop
def PIp (X : Cx) (op : Operator) (t : TIp) : Prop :=
  ∀ (pins : List (Addr × Obj)) (s : Shared) (σ : St) (H : Hp) (x y : V) (v u : Value) (Q : VK), Inv X pins σ H s → RelV x v → RelV y u → t x y H Q →
    wpAny (model X.prog X.w) X.A (inplaceOp op v u) (EP X pins σ Q) X.xe s
section
variable {X : Cx} {pos : Pos}
def gName (i : Nat) : TG := fun v σ H Q => Q (σ.set i (some v)) H
theorem pg_name {i : Nat} {x : Str} (hN : X.N.Nodup) (hi : X.N[i]? = some x) (hx : Loc X.env.scope x) (hf : X.fn x = true ∨ X.env.scope.names.lookup x = some .local := by first | exact .inl rfl | exact .inr rfl | assumption) : PG X (.Name x pos) (gName i) := by
  intro pins s σ H v u Q I r h
  exact wpAny_assign_Name (store_ok I hN hi hx r (fun s' I' => ⟨_, H, I', h⟩) hf)
def gNil : TGs := fun vs σ H Q => vs = [] ∧ Q σ H
def gCons (t : TG) (u : TGs) : TGs := fun vs σ H Q => ∃ v r, vs = v :: r ∧ t v σ H fun σ' H' => u r σ' H' Q
theorem pgs_nil : PGs X [] gNil := by
  intro pins s σ H vs us Q I r h
  obtain ⟨e, h⟩ := h
  subst e
  cases r
  exact assignInOrder_nil ⟨σ, H, I, h⟩
theorem pgs_cons {e : Expr} {es : List Expr} {t : TG} {u : TGs} (h1 : PG X e t) (h2 : PGs X es u)
    (hs : (assignEach (e :: es) X.env).map (·.2) = assign e X.env :: (assignEach es X.env).map (·.2) := by rfl) : PGs X (e :: es) (gCons t u) := by
  intro pins s σ H vs us Q I r h
  obtain ⟨v, vr, e1, h⟩ := h
  subst e1
  cases r with
  | cons r rr =>
    rw [hs]
    refine assignInOrder_cons (thn (h1 pins s σ H _ _ _ I r h) fun _ s1 ⟨σ1, H1, I1, q1⟩ => ?_)
    exact h2 pins s1 σ1 H1 _ _ Q I1 rr q1
/-- (a, b, ..) = a tuple of that length -/
def gTup (K : PySem.W.Frag) (n : Nat) (t : TGs) : TG := fun v σ H Q => ∃ a xs, v = .ref a ∧ SqT K H a xs ∧ xs.length = n ∧ t xs σ H Q
theorem pg_tup {es : List Expr} {k : Nat} {t : TGs} {n : Nat} (hc : X.calm = true) (h : PGs X es t)
    (hn : (assignEach es X.env).length = n := by rfl) (hst : (assignEach es X.env).findIdx? (·.1) = none := by rfl) : PG X (.Tuple es k pos) (gTup X.K n t) := by
  intro pins s σ H v u Q I r hw
  obtain ⟨a, xs, e1, hq, hl, hw⟩ := hw
  subst e1
  cases r
  obtain ⟨its, rv, ht, hz⟩ := I.tuple hq
  refine assign_Tuple_tuple (I.ok.hd hc) ht (by simp [hn, ← hl, rv.length]) hst fun h' hx => ?_
  have I1 : Inv X pins σ H { s with heap := h' } := I.kept (t' := s.toks) fun b o e => hx b o (Nat.ne_of_lt (Heap.lt_size e)) e
  exact h pins _ σ H xs _ Q I1 (by simpa using rv) hw
/-- o[i] = .. -/
def gSub (to ti : TE) (t : TSet) : TG := fun v σ H Q => to σ H fun o H1 => ti σ H1 fun i H2 => t o i v H2 fun H3 => Q σ H3
theorem pg_sub {o i : Expr} {to ti : TE} {t : TSet} (ho : PE X o to) (hi : PE X i ti) (hs : PSet X t)
    (ha : ∀ v, assign (.Subscript o i pos) X.env v = (do
      let ov ← holding [v] (eval o X.env)
      let iv ← holding [v, ov] (eval i X.env)
      standAt pos
      holding [v, ov, iv] (setItem ov iv v)
      release [v, ov, iv] []) := by intro _; rfl) : PG X (.Subscript o i pos) (gSub to ti t) := by
  intro pins s σ H v u Q I r h
  rw [ha]
  refine wpAny_bind (wpAny_holding (thn (ho pins s σ H _ I h) fun ov s1 ⟨x, H1, I1, r1, q1⟩ => ?_))
  refine wpAny_bind (wpAny_holding (thn (hi pins s1 σ H1 _ I1 q1) fun iv s2 ⟨y, H2, I2, r2, q2⟩ => ?_))
  refine wpAny_bind (wpAny_standAt (wpAny_bind (wpAny_holding (thn (hs pins s2 σ H2 x y v ov iv u _ I2 r1 r2 r q2) fun _ s3 ⟨H3, I3, q3⟩ => ?_))))
  exact wpAny_release ⟨σ, H3, I3, q3⟩
/-- target = value -/
def tAsg (te : TE) (g : TG) : TS := fun D σ H => te σ H fun x H1 => g x σ H1 D.nx
theorem ps_asg {tg e : Expr} {te : TE} {g : TG} (he : PE X e te) (hg : PG X tg g) (hs : swapsWithSole [tg] e pos.line X.env = pure false := by rfl) (hw : swappedStores [tg] e X.env = pure none := by rfl)
    (h1 : (assignEach [tg] X.env).map (·.2) = [assign tg X.env] := by rfl) : PS X (.Assign [tg] e pos) (tAsg te g) := by
  intro pins s σ H D I h
  refine wpAny_Assign_stores (thn (he pins s σ H _ I h) fun v s1 ⟨x, H1, I1, r1, q1⟩ => ?_) hs hw
  rw [h1]
  exact thn (hg pins s1 σ H1 x v _ I1 r1 q1) fun _ s2 q => q
/-- name = value -/
theorem ps_set {i : Nat} {x : Str} {e : Expr} {te : TE} {pos' : Pos} (hN : X.N.Nodup) (hi : X.N[i]? = some x) (hx : Loc X.env.scope x) (he : PE X e te) (hs : swapsWith e (some (.Name x pos')) pos.line X.env = pure false := by rfl) (hf : X.fn x = true ∨ X.env.scope.names.lookup x = some .local := by first | exact .inl rfl | exact .inr rfl | assumption) :
    PS X (.Assign [.Name x pos'] e pos) (tAsg te (gName i)) := by
  intro pins s σ H D I h
  refine wpAny_Assign_Name (thn (he pins s σ H _ I h) fun v s1 ⟨y, H1, I1, r1, q1⟩ => ?_) hs
  exact store_ok I1 hN hi hx r1 (fun s2 I2 => ⟨_, H1, I2, q1⟩) hf
/-- a, b = x, y with plain local names: stored from the right; the pair itself is not tracked (the opening rows as in PyProof/Rows/TupAssign.lean:23) -/
def tPar (i j : Nat) (ta : TA) : TS := fun D σ H => ta σ H fun vs H1 => ∃ v w, vs = [v, w] ∧ D.nx ((σ.set i (some v)).set j (some w)) H1
theorem ps_par {i j : Nat} {x y : Str} {a b : Expr} {ta : TA} {px py pt : Pos} {kt k2 pt2} (hc : X.calm = true) (hN : X.N.Nodup) (hi : X.N[i]? = some x) (hj : X.N[j]? = some y) (hij : i ≠ j)
    (hx : X.env.scope.names.lookup x = some .local) (hy : X.env.scope.names.lookup y = some .local) (ha : PA X [a, b] ta)
    (hw : swappedStores [.Tuple [.Name x px, .Name y py] kt pt] (.Tuple [a, b] k2 pt2) X.env = pure (some [x, y]))
    (hs : swapsWithSole [.Tuple [.Name x px, .Name y py] kt pt] (.Tuple [a, b] k2 pt2) pos.line X.env = pure false := by rfl) :
    PS X (.Assign [.Tuple [.Name x px, .Name y py] kt pt] (.Tuple [a, b] k2 pt2) pos) (tPar i j ta) := by
  intro pins s σ H D I h
  rw [exec_Assign_arm]
  refine wpAny_bind (wpAny_standAt ?_)
  rw [hs]
  refine wpAny_bind (wpAny_pure ?_)
  rw [if_neg (by decide)]
  refine wpAny_bind (Tuple_ (thn (ha _ pins s σ H _ I h) fun us s1 ⟨vs, H1, I1, r1, q1⟩ => ?_))
  obtain ⟨v, w, e1, q1⟩ := q1
  subst e1
  obtain ⟨u1, u2, rfl, rv, rw'⟩ : ∃ u1 u2, us = [u1, u2] ∧ RelV v u1 ∧ RelV w u2 := by
    cases r1 with
    | cons p q =>
      cases q with
      | cons p' q' =>
        cases q'
        exact ⟨_, _, rfl, p, p'⟩
  refine wpAny_newObj_type ?_ (by show 2 ≤ sizeLine; decide)
  have I2 : Inv X pins σ H1 { s1 with heap := s1.heap.push { cls := .type "tuple", data := .seq [u1, u2].toArray } } := I1.kept (t' := s1.toks) fun b o e => Heap.get?_push_of_some _ e
  rw [hw]
  refine wpAny_bind (wpAny_pure ?_)
  show wpAny (model X.prog X.w) X.A (do rule "assign.swapped-stores"; let items ← unpackItems (.ref s1.heap.objs.size) 2 none; assignInOrder [fun v => bindName X.env y v, fun v => bindName X.env x v] items.reverse; pure Flow.next) _ _ _
  refine wpAny_bind (wpAny_rule (wpAny_bind (unpackItems_tuple (items := #[u1, u2]) (I.ok.hd hc) (IsTup.new s1.heap _) fun h' hx' => ?_)))
  have I3 := I2.kept (h' := h') (t' := s1.toks) fun b o e => hx' b o (Nat.ne_of_lt (Heap.lt_size e)) e
  show wpAny _ _ (assignInOrder [fun v => bindName X.env y v, fun v => bindName X.env x v] [u2, u1] >>= fun _ => pure Flow.next) _ _ _
  refine wpAny_bind (assignInOrder_cons (wpAny_bindName (store_ok I3 hN hj (.inl hy) rw' (fun s2 I4 => ?_) (.inr hy))))
  refine assignInOrder_cons (wpAny_bindName (store_ok I4 hN hi (.inl hx) rv (fun s3 I5 => assignInOrder_nil (wpAny_pure ?_)) (.inr hx)))
  rw [List.set_comm _ _ (Ne.symm hij)] at I5
  exact ⟨_, H1, I5, q1⟩
/-- name op= e -/
def tAug (i : Nat) (te : TE) (ti : TIp) : TS := fun D σ H => ∃ x, σ[i]? = some (some x) ∧ te σ H fun y H1 => ti x y H1 fun z H2 => D.nx (σ.set i (some z)) H2
theorem ps_aug {i : Nat} {x : Str} {e : Expr} {te : TE} {op : Operator} {ti : TIp} {pos' : Pos} (hN : X.N.Nodup) (hi : X.N[i]? = some x) (hx : Loc X.env.scope x) (he : PE X e te) (ho : PIp X op ti) (hf : X.fn x = true ∨ X.env.scope.names.lookup x = some .local := by first | exact .inl rfl | exact .inr rfl | assumption) :
    PS X (.AugAssign (.Name x pos') op e pos) (tAug i te ti) := by
  intro pins s σ H D I h
  obtain ⟨v, e1, h⟩ := h
  obtain ⟨m, hn, hl⟩ := I.loc
  have vis : Vis X.env.scope x := by rcases hx with k | k; exact .inl k; exact .inr (.inl k)
  obtain ⟨u, r, l⟩ := hl i x v hi e1 vis
  refine wpAny_AugAssign_Name ?_
  have go : wpAny (model X.prog X.w) X.A (eval e X.env) (fun w s₂ => wpAny (model X.prog X.w) X.A (inplaceOp op u w) (fun r s₃ => wpAny (model X.prog X.w) X.A (storeName X.env x r) (fun _ => SP X pins D .next) X.xe s₃) X.xe s₂) X.xe s := by
    refine thn (he pins s σ H _ I h) fun w s1 ⟨y, H1, I1, r1, q1⟩ => ?_
    refine thn (ho pins s1 σ H1 v y u w _ I1 r r1 q1) fun z s2 ⟨zv, H2, I2, r2, q2⟩ => ?_
    exact store_ok I2 hN hi hx r2 (fun s3 I3 => ⟨_, H2, I3, q2⟩) hf
  rcases l with ⟨hk, hm⟩ | ⟨hk, c, hc, hcell⟩
  · exact wpAny_loadName_local I.ok.kind hk hn hm go
  · rcases hk with hk | hk
    · exact wpAny_loadName_cell I.ok.kind hk hc hcell go
    · rcases hx with k | k
      · have : X.env.scope.names.lookup x = some .free := hk
        rw [k] at this; cases this
      · have : X.env.scope.names.lookup x = some .free := hk
        rw [k] at this; cases this
/-- o[i] op= e -/
def tAugS (to ti te : TE) (tget : V → V → Hp → VK → Prop) (tip : TIp) (tset : TSet) : TS := fun D σ H => to σ H fun o H1 => ti σ H1 fun i H2 => tget o i H2 fun x H3 => te σ H3 fun y H4 => tip x y H4 fun z H5 => tset o i z H5 fun H6 => D.nx σ H6
/-- o[i], by values -/
def PGet (X : Cx) (t : V → V → Hp → VK → Prop) : Prop :=
  ∀ (pins : List (Addr × Obj)) (s : Shared) (σ : St) (H : Hp) (o i : V) (ov iv : Value) (Q : VK), Inv X pins σ H s → RelV o ov → RelV i iv → t o i H Q →
    wpAny (model X.prog X.w) X.A (getItem ov iv) (EP X pins σ Q) X.xe s
theorem ps_augS {o i e : Expr} {to ti te : TE} {tget : V → V → Hp → VK → Prop} {tip : TIp} {tset : TSet} {op : Operator} {tpos : Pos} (ho : PE X o to) (hi : PE X i ti) (hg : PGet X tget) (he : PE X e te) (hp : PIp X op tip) (hs : PSet X tset)
    (ha : ∀ ov iv new, augStore i ov iv new = (do holding [new, ov, iv] (setItem ov iv new); release [new, ov, iv] []; pure .next) := by intros; rfl) : PS X (.AugAssign (.Subscript o i tpos) op e pos) (tAugS to ti te tget tip tset) := by
  intro pins s σ H D I h
  refine wpAny_AugAssign_SubscriptAny (thn (ho pins s σ H _ I h) fun ov s1 ⟨x1, H1, I1, r1, q1⟩ => ?_) ha
  refine thn (hi pins s1 σ H1 _ I1 q1) fun iv s2 ⟨x2, H2, I2, r2, q2⟩ => ?_
  refine thn (hg pins s2 σ H2 x1 x2 ov iv _ I2 r1 r2 q2) fun old s3 ⟨x3, H3, I3, r3, q3⟩ => ?_
  refine thn (he pins s3 σ H3 _ I3 q3) fun v s4 ⟨x4, H4, I4, r4, q4⟩ => ?_
  refine thn (hp pins s4 σ H4 x3 x4 old v _ I4 r3 r4 q4) fun new s5 ⟨x5, H5, I5, r5, q5⟩ => ?_
  exact thn (hs pins s5 σ H5 x1 x2 x5 ov iv new _ I5 r1 r2 r5 q5) fun _ s6 ⟨H6, I6, q6⟩ => ⟨σ, H6, I6, q6⟩
/-- ints -/
def ipI (f : Int → Int → Int) : TIp := fun x y H Q => ∃ i j, x = .int i ∧ y = .int j ∧ Q (.int (f i j)) H
theorem ip_add : PIp X .Add (ipI fun i j => i + j) := by
  intro pins s σ H x y v u Q I r1 r2 h
  obtain ⟨i, j, e1, e2, q⟩ := h
  subst e1; subst e2
  obtain ⟨t, rfl⟩ := r1
  obtain ⟨t', rfl⟩ := r2
  exact iadd_int ⟨.int _, H, I.tok _, ⟨_, rfl⟩, q⟩
theorem ip_sub : PIp X .Sub (ipI fun i j => i - j) := by
  intro pins s σ H x y v u Q I r1 r2 h
  obtain ⟨i, j, e1, e2, q⟩ := h
  subst e1; subst e2
  obtain ⟨t, rfl⟩ := r1
  obtain ⟨t', rfl⟩ := r2
  exact isub_int ⟨.int _, H, I.tok _, ⟨_, rfl⟩, q⟩
end

/-! ### while -/
section
variable {X : Cx} {pos : Pos}
/-- the invariant W with its measure -/
def tWhile (c : TT) (tb : TS) : TS := fun D σ H => ∃ W : Nat → St → Hp → Prop, (∃ m, W m σ H) ∧ ∀ m σ H, W m σ H →
  c σ H fun b H1 => if b = true then ∃ N : St → Hp → Prop, (∀ σ' H', N σ' H' → ∃ m', m' < m ∧ W m' σ' H') ∧ tb { D with nx := N, ct := N, bk := D.nx } σ H1 else D.nx σ H1
theorem ps_while {c : Expr} {body : List Stmt} {tc : TT} {tb : TS} (hp : PassesOwn (model X.prog X.w) X.A X.env X.xe) (hc : PT X c tc) (hb : PSs X body tb) : PS X (.While c body [] pos) (tWhile tc tb) := by
  intro pins s σ H D I h
  obtain ⟨W, ⟨m0, w0⟩, turn⟩ := h
  refine wpAny_While (codeAny_whileLoop (fun n s' => ∃ σ' H', Inv X pins σ' H' s' ∧ W n σ' H') ?_ m0 ⟨σ, H, I, w0⟩)
  rintro n s1 ⟨σ1, H1, I1, w1⟩
  refine wpAny_passesOwn hp (thn (hc pins s1 σ1 H1 _ I1 (turn n σ1 H1 w1)) fun b s2 ⟨H2, I2, q2⟩ => ?_)
  cases b with
  | true =>
    obtain ⟨N, hN, q2⟩ := q2
    rw [if_pos rfl]
    refine wpAny_passesOwn hp (thn (hb pins s2 σ1 H2 _ I2 q2) fun f s3 q3 => ?_)
    cases f with
    | next =>
      obtain ⟨σ3, H3, I3, n3⟩ := q3
      obtain ⟨m', hm, w3⟩ := hN σ3 H3 n3
      exact ⟨m', hm, σ3, H3, I3, w3⟩
    | cont =>
      obtain ⟨σ3, H3, I3, n3⟩ := q3
      obtain ⟨m', hm, w3⟩ := hN σ3 H3 n3
      exact ⟨m', hm, σ3, H3, I3, w3⟩
    | brk => exact q3
    | ret v => exact q3
  | false =>
    rw [if_neg Bool.false_ne_true]
    exact wpAny_execs_nil ⟨σ1, H2, I2, q2⟩
end

/-! ### what a loop or a comprehension walks -/
/-- at turn i: it yields x (the heap may grow), or it stops -/
structure It where
  go : Nat → Hp → Prop
  yld : Nat → Hp → V → Hp → Prop
  stop : Nat → Hp → Prop
/-- the iterator's own objects may turn: they are not the frame's, not pinned, younger than the entry (or a comprehension's own) -/
def FpOk (X : Cx) (pins : List (Addr × Obj)) (H : Hp) (b : Addr) : Prop :=
  H b = none ∧ b ≠ X.env.locals ∧ b ∉ X.fs ∧ (b ∈ X.ex ∨ X.s₀.heap.objs.size ≤ b) ∧ (∀ x c, X.env.cells.lookup x = some c → c ≠ b) ∧ ∀ p ∈ X.pn ++ pins, p.1 ≠ b
theorem Inv.fpOk {X : Cx} {pins : List (Addr × Obj)} {σ : St} {H H' : Hp} {s : Shared} {b : Addr} (I : Inv X pins σ H s) (hb : s.heap.objs.size ≤ b) (hn : H' b = none) : FpOk X pins H' b := by
  refine ⟨hn, Nat.ne_of_gt (Nat.lt_of_lt_of_le I.lt hb), I.nofs hb, .inr (Nat.le_trans I.sz hb), fun x c e z => ?_, fun p hp z => ?_⟩
  · obtain ⟨v, q⟩ := I.cell x c e
    exact absurd (Nat.lt_of_lt_of_le q.lt (by rw [z]; exact hb)) (Nat.lt_irrefl _)
  · exact absurd (Nat.lt_of_lt_of_le (Heap.lt_size (I.pin p hp).1) (by rw [z]; exact hb)) (Nat.lt_irrefl _)
structure Turn (P : Program) (w : World) (K : PySem.W.Frag) (tg : Expr) (J : It) (fp : List Addr) (it : Addr) (tn : Nat → Heap → Prop) : Prop where
  mem : it ∈ fp
  obj : ∀ i h, tn i h → ∀ b ∈ fp, ∃ o, h.get? b = some o ∧ ∀ v, o.data ≠ .cell v
  keep : ∀ i h h', tn i h → (∀ b ∈ fp, ∀ o, h.get? b = some o → h'.get? b = some o) → tn i h'
  item : ∀ (X : Cx), X.prog = P → X.w = w → X.K = K → X.calm = true → ∀ (i : Nat) (pins : List (Addr × Obj)) (s : Shared) (σ : St) (H : Hp) (E : Value → Shared → Prop), Inv X pins σ H s → (∀ b ∈ fp, FpOk X pins H b) → tn i s.heap → J.go i H →
    wpAny (model P w) X.A (pyNext (.ref it)) (fun r s1 => ∃ u, r = some u ∧
      wpAny (model P w) X.A (letOwnedTupleGo tg (.ref it) u) (fun _ s2 => ∃ x H', Inv X pins σ H' s2 ∧ RelV x u ∧ J.yld i H x H' ∧ tn (i + 1) s2.heap ∧ ∀ b ∈ fp, H' b = none) E s1) E s
  done : ∀ (X : Cx), X.prog = P → X.w = w → X.K = K → X.calm = true → ∀ (i : Nat) (pins : List (Addr × Obj)) (s : Shared) (σ : St) (H : Hp) (E : Value → Shared → Prop), Inv X pins σ H s → (∀ b ∈ fp, FpOk X pins H b) → tn i s.heap → J.stop i H →
    wpAny (model P w) X.A (pyNext (.ref it)) (fun r s1 => r = none ∧ Inv X pins σ H s1) E s
  self : ∀ (A : Around) (i : Nat) (s : Shared) (Q : Value → Shared → Prop) (E : Value → Shared → Prop), tn i s.heap → Q (.ref it) s → wpAny (model P w) A (pyIter (.ref it)) Q E s
abbrev TI := St → Hp → (It → Hp → Prop) → Prop
/-- an iterator has come -/
def PIE (X : Cx) (pins : List (Addr × Obj)) (σ : St) (tg : Expr) (R : It → Hp → Prop) (itv : Value) (s2 : Shared) : Prop :=
  ∃ (it : Addr) (fp : List Addr) (tn : Nat → Heap → Prop) (J : It) (H' : Hp), itv = .ref it ∧ Inv X pins σ H' s2 ∧ Turn X.prog X.w X.K tg J fp it tn ∧ tn 0 s2.heap ∧ (∀ b ∈ fp, FpOk X pins H' b) ∧ R J H'
def PI (X : Cx) (tg iter : Expr) (wi : TI) : Prop :=
  ∀ (pins : List (Addr × Obj)) (s : Shared) (σ : St) (H : Hp) (R : It → Hp → Prop), Inv X pins σ H s → wi σ H R →
    wpAny (model X.prog X.w) X.A (eval iter X.env) (fun v s1 => wpAny (model X.prog X.w) X.A (pyIter v) (PIE X pins σ tg R) X.xe s1) X.xe s

/-- the step ahead of the store is nothing for an iterator that keeps no tuple -/
theorem go_of {M : Model} {A : Around} {E : Value → Shared → Prop} {s : Shared} {tg : Expr} {it : Addr} {u : Value} {o : Obj} {n : String} {vs : Array Value} {Q : Unit → Shared → Prop} (ho : s.heap.get? it = some o) (hc : o.cls = .type n) (hd : o.data = .fields vs)
    (hn : ["enumerate", "zip", "dict_itemiterator", "dict_reverseitemiterator", "odict_iterator", "itertools.zip_longest", "itertools.pairwise"].contains n = false) (hQ : Q () s) : wpAny M A (letOwnedTupleGo tg (.ref it) u) Q E s := by
  unfold letOwnedTupleGo
  cases tg <;> first
    | exact wpAny_pure hQ
    | (cases u <;> first
        | exact wpAny_pure hQ
        | (refine wpAny_bind (wpAny_load ho ?_)
           rw [hc, hd]
           show wpAny M A (if (["enumerate", "zip", "dict_itemiterator", "dict_reverseitemiterator", "odict_iterator", "itertools.zip_longest", "itertools.pairwise"].contains n && vs[0]? == some (rawInt _)) = true then _ else _) Q E s
           rw [if_neg (by intro h; rw [hn, Bool.false_and] at h; cases h)]
           exact wpAny_pure hQ))

/-- the list at a, as it stands at each turn (a loop may append to it) -/
def Itl (K : PySem.W.Frag) (a : Addr) : It :=
  ⟨fun i H => ∃ xs x, SqL K H a xs ∧ xs[i]? = some x, fun i H x H' => H' = H ∧ ∀ xs, SqL K H a xs → xs[i]? = some x, fun i H => ∃ xs, SqL K H a xs ∧ xs.length ≤ i⟩
def Itt (K : PySem.W.Frag) (a : Addr) : It :=
  ⟨fun i H => ∃ xs x, SqT K H a xs ∧ xs[i]? = some x, fun i H x H' => H' = H ∧ ∀ xs, SqT K H a xs → xs[i]? = some x, fun i H => ∃ xs, SqT K H a xs ∧ xs.length ≤ i⟩
/-- lo, lo + 1, .. (n of them) -/
def Itr (lo : Int) (n : Nat) : It := ⟨fun i _ => i < n, fun i H x H' => H' = H ∧ x = .int (lo + i), fun i _ => n ≤ i⟩
theorem turn_list {P : Program} {w : World} {K : PySem.W.Frag} {tg : Expr} (a it : Addr) : Turn P w K tg (Itl K a) [it] it (fun i h => h.IsListIter it a i) where
  mem := by simp
  obj := fun i h st b hb => by
    have e : b = it := by simpa using hb
    subst e
    obtain ⟨o, e, c, d⟩ := st
    exact ⟨o, e, fun v z => by rw [d] at z; cases z⟩
  keep := fun i h h' st k => st.at fun o e => k it (by simp) o e
  item := by
    intro X hP hw hK hc i pins s σ H E I hf st hg
    subst hP hw hK
    obtain ⟨xs, x, hq, hx⟩ := hg
    obtain ⟨its, rv, p, hz⟩ := I.list hq
    obtain ⟨u, hu, ru⟩ := rv.get hx
    obtain ⟨f0, f1, f2, f3, f4, f5⟩ := hf it (by simp)
    refine wpAny_pyNext_list_item st p.isList (x := u) (by simpa using hu) fun h' st' sb => ?_
    have I1 : Inv X pins σ H { s with heap := h' } := I.turned (t' := s.toks) (fun b o hb e => (sb.2 b hb).trans e) f0 f1 f3 f4 f5
    obtain ⟨o, e, c, d⟩ := id st'
    exact ⟨u, rfl, go_of (s := { s with heap := h' }) e c d (by decide) ⟨x, H, I1, ru, ⟨rfl, fun ys hy => by rw [I.list_inj hy hq]; exact hx⟩, st', fun b hb => (hf b hb).1⟩⟩
  done := by
    intro X hP hw hK hc i pins s σ H E I hf st hg
    subst hP hw hK
    obtain ⟨xs, hq, hx⟩ := hg
    obtain ⟨its, rv, p, hz⟩ := I.list hq
    obtain ⟨f0, f1, f2, f3, f4, f5⟩ := hf it (by simp)
    have hl := rv.length
    exact wpAny_pyNext_list_end (I.ok.hd hc) st p.isList (by simp; omega) fun h' eb => ⟨rfl, I.turned (t' := s.toks) (fun b o hb e => eb b o hb e) f0 f1 f3 f4 f5⟩
  self := fun _ _ _ _ _ st h => wpAny_pyIter_listiter st h
theorem turn_range {P : Program} {w : World} {K : PySem.W.Frag} {tg : Expr} (it : Addr) (lo : Int) (n : Nat) : Turn P w K tg (Itr lo n) [it] it (fun i h => IsRangeIter h it (lo + (i : Nat) * 1) ((n : Int) - (i : Nat)) 1) where
  mem := by simp
  obj := fun i h st b hb => by
    have e : b = it := by simpa using hb
    subst e
    exact ⟨_, st, fun v z => by
      have z' : Data.fields _ = Data.cell v := z
      cases z'⟩
  keep := fun i h h' st k => k it (by simp) _ st
  item := by
    intro X hP hw hK hc i pins s σ H E I hf st hg
    subst hP hw hK
    obtain ⟨f0, f1, f2, f3, f4, f5⟩ := hf it (by simp)
    have W := Walks.range (prog := X.prog) (w := X.w) (I.ok.hd hc) it lo 1 n
    refine W.item i s _ _ hg st fun v h' tk hv st' kk => ?_
    obtain ⟨t, rfl⟩ := hv
    have I1 : Inv X pins σ H { s with heap := h', toks := tk } := I.turned (fun b o hb e => kk b o (by simpa using hb) e) f0 f1 f3 f4 f5
    refine ⟨_, rfl, go_of (s := { s with heap := h', toks := tk }) (n := "range_iterator") st' rfl rfl (by decide) ⟨.int (lo + i), H, I1, ⟨t, ?_⟩, ⟨rfl, rfl⟩, st', fun b hb => (hf b hb).1⟩⟩
    rw [Int.mul_one]
  done := by
    intro X hP hw hK hc i pins s σ H E I hf st hg
    subst hP hw hK
    obtain ⟨f0, f1, f2, f3, f4, f5⟩ := hf it (by simp)
    exact wpAny_pyNext_range_end (I.ok.hd hc) st (by have : n ≤ i := hg; omega) fun h' eb => ⟨rfl, I.turned (t' := s.toks) (fun b o hb e => eb b o hb e) f0 f1 f3 f4 f5⟩
  self := fun _ _ _ _ _ st h => wpAny_pyIter_rangeiter st h
end L2

namespace L2
open PySem PySem.Spec PyProof.Rows
section
variable {X : Cx} {tg : Expr}
def iList (K : PySem.W.Frag) (tl : TE) : TI := fun σ H R => tl σ H fun x H1 => ∃ a, x = .ref a ∧ (∃ xs, SqL K H1 a xs) ∧ R (Itl K a) H1
def iTup (K : PySem.W.Frag) (tl : TE) : TI := fun σ H R => tl σ H fun x H1 => ∃ a, x = .ref a ∧ (∃ xs, SqT K H1 a xs) ∧ R (Itt K a) H1
theorem pi_list {l : Expr} {tl : TE} (hl : PE X l tl) : PI X tg l (iList X.K tl) := by
  intro pins s σ H R I h
  refine thn (hl pins s σ H _ I h) fun v s1 ⟨x, H1, I1, r1, q1⟩ => ?_
  obtain ⟨a, e, ⟨xs, hq⟩, q⟩ := q1
  subst e
  cases r1
  obtain ⟨its, rv, p, hz⟩ := I1.list hq
  refine wpAny_pyIter_list p.isList ?_
  refine ⟨s1.heap.objs.size, [s1.heap.objs.size], _, _, H1, rfl, I1.kept (t' := s1.toks) fun b o e => Heap.get?_push_of_some _ e, turn_list a _, ⟨_, Heap.get?_push_size _ rfl, rfl, rfl⟩, fun b hb => ?_, q⟩
  have e : b = s1.heap.objs.size := by simpa using hb
  subst e
  exact I1.fpOk (Nat.le_refl _) (I1.hok.fresh (Nat.le_refl _))
/-- a range object just made, walked -/
theorem range_it {pins : List (Addr × Obj)} {σ : St} {H : Hp} {s : Shared} {R : It → Hp → Prop} {E : Value → Shared → Prop} {lo hi : Int} {t u v : Tok} {tk : Nat} (I : Inv X pins σ H s) (h1 : -(2 ^ 62) ≤ lo) (h2 : lo < 2 ^ 62) (h3 : -(2 ^ 62) ≤ hi) (h4 : hi < 2 ^ 62)
    (q : R (Itr lo (hi - lo).toNat) H) : wpAny (model X.prog X.w) X.A (pyIter (.ref s.heap.objs.size)) (PIE X pins σ tg R) E { s with heap := s.heap.push { cls := .type "range", data := .fields #[.int lo t, .int hi u, .int 1 v] }, toks := tk } := by
  refine wpAny_pyIter_range (IsRange.new ..) (small_one h1 h2 h3 h4) ?_
  have I1 : Inv X pins σ H { s with heap := s.heap.push { cls := .type "range", data := .fields #[.int lo t, .int hi u, .int 1 v] }, toks := tk } := I.kept fun b o e => Heap.get?_push_of_some _ e
  refine ⟨(s.heap.push { cls := .type "range", data := .fields #[.int lo t, .int hi u, .int 1 v] }).objs.size, [(s.heap.push { cls := .type "range", data := .fields #[.int lo t, .int hi u, .int 1 v] }).objs.size], _, _, H, rfl,
    I1.kept (t' := tk) fun b o e => Heap.get?_push_of_some _ e, turn_range _ lo (hi - lo).toNat, ?_, fun b hb => ?_, q⟩
  · have e1 : lo + ((0 : Nat) : Int) * 1 = lo := by simp
    have e2 : (((hi - lo).toNat : Nat) : Int) - ((0 : Nat) : Int) = Builtin.Range.rangeSize lo hi 1 := by rw [rangeSize_one]; split <;> omega
    show IsRangeIter _ _ (lo + ((0 : Nat) : Int) * 1) ((((hi - lo).toNat : Nat) : Int) - ((0 : Nat) : Int)) 1
    rw [e1, e2]
    exact Heap.get?_push_size _ rfl
  · have e : b = (s.heap.push { cls := .type "range", data := .fields #[.int lo t, .int hi u, .int 1 v] }).objs.size := by simpa using hb
    subst e
    exact I1.fpOk (Nat.le_refl _) (I1.hok.fresh (Nat.le_refl _))
def iRng1 (ta : TA) : TI := fun σ H R => ta σ H fun vs H1 => ∃ j : Int, vs = [.int j] ∧ -(2 ^ 62) ≤ j ∧ j < 2 ^ 62 ∧ R (Itr 0 j.toNat) H1
def iRng2 (ta : TA) : TI := fun σ H R => ta σ H fun vs H1 => ∃ i j : Int, vs = [.int i, .int j] ∧ (-(2 ^ 62) ≤ i ∧ i < 2 ^ 62 ∧ -(2 ^ 62) ≤ j ∧ j < 2 ^ 62) ∧ R (Itr i (j - i).toNat) H1
theorem pi_range1 {a : Expr} {ta : TA} {p pos : Pos} (hg : Gl X "range") (hm : X.mg "range" = none) (ha : PA X [a] ta) (hs : starEach [a] X.env = [(false, eval a X.env)] := by rfl) : PI X tg (.Call (.Name "range" p) [a] [] pos) (iRng1 ta) := by
  intro pins s σ H R I h
  refine Call_ (ld_blt I hg hm boot_range (PyProof.Rows.callWith_type1 (thn (ha pos pins s σ H _ I h) fun us s1 ⟨vs, H1, I1, r1, q1⟩ => ?_) hs rfl))
  obtain ⟨j, e, q1, q2, q⟩ := q1
  subst e
  cases r1 with
  | cons r rr =>
    cases rr
    obtain ⟨t, rfl⟩ := r
    exact call_range_1 (range_it I1 (by omega) (by omega) q1 q2 (by simpa using q))
/-! ### for -/
/-- W: the invariant by the turn and a measure; N: what the body is to reach -/
def tFor (wi : TI) (g : TG) (tb : TS) : TS := fun D σ H => wi σ H fun J H1 => ∃ W : Nat → Nat → St → Hp → Prop, (∃ m, W 0 m σ H1) ∧ ∀ i m σ H, W i m σ H →
  (J.stop i H ∧ D.nx σ H) ∨ (J.go i H ∧ ∃ N : St → Hp → Prop, (∀ σ' H', N σ' H' → ∃ m', m' < m ∧ W (i + 1) m' σ' H') ∧ ∀ x H', J.yld i H x H' → g x σ H' fun σ2 H2 => tb { D with nx := N, ct := N, bk := D.nx } σ2 H2)
/-- the records at fp as they stand -/
def pinsAt (fp : List Addr) (h : Heap) : List (Addr × Obj) := fp.filterMap fun b => (h.get? b).map fun o => (b, o)
theorem mem_pinsAt {fp : List Addr} {h : Heap} {b : Addr} {o : Obj} (hb : b ∈ fp) (e : h.get? b = some o) : (b, o) ∈ pinsAt fp h := List.mem_filterMap.mpr ⟨b, hb, by rw [e]; rfl⟩
theorem of_pinsAt {fp : List Addr} {h : Heap} {p : Addr × Obj} (hp : p ∈ pinsAt fp h) : p.1 ∈ fp ∧ h.get? p.1 = some p.2 := by
  obtain ⟨b, hb, e⟩ := List.mem_filterMap.mp hp
  cases q : h.get? b with
  | none => rw [q] at e; cases e
  | some o =>
    rw [q] at e
    have e' : (b, o) = p := Option.some.inj e
    subst e'
    exact ⟨hb, q⟩
theorem Inv.pinned {pins : List (Addr × Obj)} {σ : St} {H : Hp} {s : Shared} {fp : List Addr} (I : Inv X pins σ H s) (hf : ∀ b ∈ fp, FpOk X pins H b) (ho : ∀ b ∈ fp, ∃ o, s.heap.get? b = some o ∧ ∀ v, o.data ≠ .cell v) : Inv X (pins ++ pinsAt fp s.heap) σ H s :=
  I.pins_of fun p hp => (List.mem_append.mp hp).elim (fun z => I.pin p (List.mem_append_right _ z)) fun z => by
    obtain ⟨hb, e⟩ := of_pinsAt z
    obtain ⟨f0, f1, f2, _⟩ := hf p.1 hb
    obtain ⟨o, e', d⟩ := ho p.1 hb
    rw [e] at e'; cases e'
    exact ⟨e, f0, f1, f2, d⟩
theorem Inv.unpinned {pins pl : List (Addr × Obj)} {σ : St} {H : Hp} {s : Shared} (I : Inv X (pins ++ pl) σ H s) : Inv X pins σ H s := I.pins_of fun p hp => I.pin p (List.mem_append_right _ (List.mem_append_left _ hp))
theorem ps_for {iter : Expr} {body : List Stmt} {wi : TI} {g : TG} {tb : TS} {pos : Pos} (hp : PassesOwn (model X.prog X.w) X.A X.env X.xe) (hc : X.calm = true) (hi : PI X tg iter wi) (hg : PG X tg g) (hb : PSs X body tb)
    (hs : ∀ x, foldedSetIterable iter X.env x = pure x := by intro _; rfl) : PS X (.For tg iter body [] pos) (tFor wi g tb) := by
  intro pins s σ H D I h
  refine wpAny_For (thn (hi pins s σ H _ I h) fun v s1 h1 => thn h1 fun itv s2 h2 => ?_) hs
  obtain ⟨it, fp, tn, J, H2, e, I2, T, st2, f2, W, ⟨m0, w0⟩, turn⟩ := h2
  subst e
  -- what stays true of the iterator's objects through the loop
  have stat : ∀ {H' : Hp}, (∀ b ∈ fp, H' b = none) → ∀ b ∈ fp, FpOk X pins H' b := fun hn b hb => ⟨hn b hb, (f2 b hb).2⟩
  refine codeAny_forLoop_any (fun n s' => ∃ i σ' H', Inv X pins σ' H' s' ∧ tn i s'.heap ∧ (∀ b ∈ fp, H' b = none) ∧ W i n σ' H') ?_ m0 ⟨0, σ, H2, I2, st2, fun b hb => (f2 b hb).1, w0⟩
  rintro n s3 ⟨i, σ3, H3, I3, st3, fr3, w3⟩
  rcases turn i n σ3 H3 w3 with ⟨stop, qn⟩ | ⟨go, N, hN, step⟩
  · refine wpAny_passesOwn hp (thn (T.done X rfl rfl rfl hc i pins s3 σ3 H3 X.xe I3 (stat fr3) st3 stop) fun r s4 ⟨hr, I4⟩ => ?_)
    subst hr
    exact wpAny_execs_nil ⟨σ3, H3, I4, qn⟩
  · refine wpAny_passesOwn hp (thn (T.item X rfl rfl rfl hc i pins s3 σ3 H3 X.xe I3 (stat fr3) st3 go) fun r s4 ⟨u, hr, h4⟩ => ?_)
    subst hr
    refine wpAny_passesOwn hp (thn h4 fun _ s5 ⟨x, H5, I5, r5, y5, st5, fr5⟩ => ?_)
    have I5' := I5.pinned (stat fr5) (T.obj _ _ st5)
    refine wpAny_passesOwn hp (thn (hg _ s5 σ3 H5 x u _ I5' r5 (step x H5 y5)) fun _ s6 ⟨σ6, H6, I6, q6⟩ => ?_)
    refine wpAny_passesOwn hp (thn (hb _ s6 σ6 H6 _ I6 q6) fun f s7 q7 => ?_)
    have again : ∀ {σ7 : St} {H7 : Hp}, Inv X (pins ++ pinsAt fp s5.heap) σ7 H7 s7 → N σ7 H7 → ∃ m, m < n ∧ ∃ i σ' H', Inv X pins σ' H' s7 ∧ tn i s7.heap ∧ (∀ b ∈ fp, H' b = none) ∧ W i m σ' H' := fun {σ7 H7} I7 n7 => by
      obtain ⟨m', hm, w7⟩ := hN σ7 H7 n7
      refine ⟨m', hm, i + 1, σ7, H7, I7.unpinned, T.keep _ _ _ st5 fun b hb o e => (I7.pin (b, o) (List.mem_append_right _ (List.mem_append_right _ (mem_pinsAt hb e)))).1, fun b hb => ?_, w7⟩
      obtain ⟨o, e, d⟩ := T.obj _ _ st5 b hb
      exact (I7.pin (b, o) (List.mem_append_right _ (List.mem_append_right _ (mem_pinsAt hb e)))).2.1
    cases f with
    | next => obtain ⟨σ7, H7, I7, n7⟩ := q7; exact again I7 n7
    | cont => obtain ⟨σ7, H7, I7, n7⟩ := q7; exact again I7 n7
    | brk => obtain ⟨σ7, H7, I7, q7⟩ := q7; exact ⟨σ7, H7, I7.unpinned, q7⟩
    | ret v => obtain ⟨x7, σ7, H7, I7, r7, q7⟩ := q7; exact ⟨x7, σ7, H7, I7.unpinned, r7, q7⟩
end

/-! ### the forms one uses -/
end L2

namespace L2
open PySem PySem.Spec PyProof.Rows

abbrev R2 := V → V → Hp → VK → Prop
/-- a two-place operation on values: f is binaryOp op, inplaceOp op or compareOp op -/
def OpR (X : Cx) (f : Value → Value → Sem Value) (r : R2) : Prop :=
  ∀ (pins : List (Addr × Obj)) (s : Shared) (σ : St) (H : Hp) (x y : V) (v u : Value) (Q : VK), Inv X pins σ H s → RelV x v → RelV y u → r x y H Q →
    wpAny (model X.prog X.w) X.A (f v u) (EP X pins σ Q) X.xe s
/-- a one-place operation -/
def UnR (X : Cx) (f : Value → Sem Value) (r : V → Hp → VK → Prop) : Prop :=
  ∀ (pins : List (Addr × Obj)) (s : Shared) (σ : St) (H : Hp) (x : V) (v : Value) (Q : VK), Inv X pins σ H s → RelV x v → r x H Q →
    wpAny (model X.prog X.w) X.A (f v) (EP X pins σ Q) X.xe s
/-- a call of a value that is known (a builtin, a type) with values -/
def CallR (X : Cx) (f : Value) (r : List V → Hp → VK → Prop) : Prop :=
  ∀ (pins : List (Addr × Obj)) (s : Shared) (σ : St) (H : Hp) (xs : List V) (us : List Value) (Q : VK), Inv X pins σ H s → Vals xs us → r xs H Q →
    wpAny (model X.prog X.w) X.A (call f us) (EP X pins σ Q) X.xe s
/-- a value's truth -/
def TruR (X : Cx) (r : V → Hp → (Bool → Hp → Prop) → Prop) : Prop :=
  ∀ (pins : List (Addr × Obj)) (s : Shared) (σ : St) (H : Hp) (x : V) (v : Value) (Q : Bool → Hp → Prop), Inv X pins σ H s → RelV x v → r x H Q →
    wpAny (model X.prog X.w) X.A (truthy v) (TP X pins σ Q) X.xe s

def tOp (r : R2) (ta tb : TE) : TE := fun σ H Q => ta σ H fun x H1 => tb σ H1 fun y H2 => r x y H2 Q
def tUn (r : V → Hp → VK → Prop) (ta : TE) : TE := fun σ H Q => ta σ H fun x H1 => r x H1 Q
/-- ints in, under C, and a value out -/
def rI (C : Int → Int → Prop) (g : Int → Int → V) : R2 := fun x y H Q => ∃ i j, x = .int i ∧ y = .int j ∧ C i j ∧ Q (g i j) H
def rI0 (g : Int → Int → V) : R2 := fun x y H Q => ∃ i j, x = .int i ∧ y = .int j ∧ Q (g i j) H
def rU (g : Int → V) : V → Hp → VK → Prop := fun x H Q => ∃ i, x = .int i ∧ Q (g i) H

section
variable {X : Cx} {a b c : Expr} {ta tb tc : TE} {pos : Pos}

theorem binT (ha : PE X a ta) (hb : PE X b tb) {pins : List (Addr × Obj)} {s : Shared} {σ : St} {H : Hp} {R : V → V → Hp → Prop} (I : Inv X pins σ H s)
    (h : ta σ H fun x H1 => tb σ H1 fun y H2 => R x y H2) {Q : Value → Shared → Prop} {f : Value → Value → Sem Value}
    (hf : ∀ v u s2 x y H2, Inv X pins σ H2 s2 → RelV x v → RelV y u → R x y H2 → wpAny (model X.prog X.w) X.A (f v u) Q X.xe s2) :
    wpAny (model X.prog X.w) X.A (eval a X.env) (fun v s₁ => wpAny (model X.prog X.w) X.A (eval b X.env) (fun u s₂ => wpAny (model X.prog X.w) X.A (f v u) Q X.xe s₂) X.xe s₁) X.xe s := by
  refine thn (ha pins s σ H _ I h) fun v s1 ⟨x, H1, I1, r1, q1⟩ => ?_
  refine thn (hb pins s1 σ H1 _ I1 q1) fun u s2 ⟨y, H2, I2, r2, q2⟩ => ?_
  exact hf v u s2 x y H2 I2 r1 r2 q2

theorem pe_op {op : Operator} {r : R2} (ho : OpR X (binaryOp op) r) (ha : PE X a ta) (hb : PE X b tb) : PE X (.BinOp a op b pos) (tOp r ta tb) := by
  intro pins s σ H Q I h
  exact wpAny_BinOp (binT ha hb I h fun v u s2 x y H2 I2 rx ry q => ho pins s2 σ H2 x y v u Q I2 rx ry q)
theorem pe_un {op : UnaryOp} {r : V → Hp → VK → Prop} (ho : UnR X (unaryOp op) r) (ha : PE X a ta) : PE X (.UnaryOp op a pos) (tUn r ta) := by
  intro pins s σ H Q I h
  exact UnaryOp_ (thn (ha pins s σ H _ I h) fun v s1 ⟨x, H1, I1, r1, q1⟩ => ho pins s1 σ H1 x v Q I1 r1 q1)
/-! ### ints -/
theorem opI {f : Value → Value → Sem Value} {C : Int → Int → Prop} {g : Int → Int → Int}
    (rule : ∀ (i j : Int) (t u : Tok) (s : Shared) (Q : Value → Shared → Prop) (E : Value → Shared → Prop), C i j → Q (.int (g i j) s.toks) { s with toks := s.toks + 1 } → wpAny (model X.prog X.w) X.A (f (.int i t) (.int j u)) Q E s) :
    OpR X f (rI C fun i j => .int (g i j)) := by
  intro pins s σ H x y v u Q I rx ry h
  obtain ⟨i, j, rfl, rfl, hc, q⟩ := h
  obtain ⟨t, rfl⟩ := rx
  obtain ⟨t', rfl⟩ := ry
  exact rule i j t t' s _ _ hc ⟨.int (g i j), H, I.tok _, ⟨_, rfl⟩, q⟩
theorem opI0 {f : Value → Value → Sem Value} {g : Int → Int → Int}
    (rule : ∀ (i j : Int) (t u : Tok) (s : Shared) (Q : Value → Shared → Prop) (E : Value → Shared → Prop), Q (.int (g i j) s.toks) { s with toks := s.toks + 1 } → wpAny (model X.prog X.w) X.A (f (.int i t) (.int j u)) Q E s) :
    OpR X f (rI0 fun i j => .int (g i j)) := by
  intro pins s σ H x y v u Q I rx ry h
  obtain ⟨i, j, rfl, rfl, q⟩ := h
  obtain ⟨t, rfl⟩ := rx
  obtain ⟨t', rfl⟩ := ry
  exact rule i j t t' s _ _ ⟨.int (g i j), H, I.tok _, ⟨_, rfl⟩, q⟩
theorem opB0 {f : Value → Value → Sem Value} {g : Int → Int → Bool}
    (rule : ∀ (i j : Int) (t u : Tok) (s : Shared) (Q : Value → Shared → Prop) (E : Value → Shared → Prop), Q (.bool (g i j)) s → wpAny (model X.prog X.w) X.A (f (.int i t) (.int j u)) Q E s) :
    OpR X f (rI0 fun i j => .bl (g i j)) := by
  intro pins s σ H x y v u Q I rx ry h
  obtain ⟨i, j, rfl, rfl, q⟩ := h
  obtain ⟨t, rfl⟩ := rx
  obtain ⟨t', rfl⟩ := ry
  exact rule i j t t' s _ _ ⟨.bl (g i j), H, I, rfl, q⟩

def CDiv (i j : Int) : Prop := 0 < j ∧ j < 1073741824
def CDivN (i j : Int) : Prop := j ≠ 0 ∧ j.natAbs < 1073741824
def CPow (i j : Int) : Prop := 0 ≤ j ∧ j ≤ 1000000 ∧ i.natAbs < 2 ^ 64
def CMul (i j : Int) : Prop := (-(2 ^ 64) < i ∧ i < 2 ^ 64) ∨ (-(2 ^ 64) < j ∧ j < 2 ^ 64)
theorem CMul.ok {i j : Int} (h : CMul i j) : IntMulOk i j := by
  rcases h with ⟨h1, h2⟩ | ⟨h1, h2⟩
  · exact .of_left (intBits_le_64 h1 h2)
  · exact .of_right (intBits_le_64 h1 h2)
theorem op_add : OpR X (binaryOp .Add) (rI0 fun i j => .int (i + j)) := opI0 fun _ _ _ _ _ _ _ q => add_int q
theorem op_sub : OpR X (binaryOp .Sub) (rI0 fun i j => .int (i - j)) := opI0 fun _ _ _ _ _ _ _ q => sub_int q
/-- % by a positive divisor of any size -/
theorem op_mod : OpR X (binaryOp .Mod) (rI (fun _ j => 0 < j) fun i j => .int (i % j)) := opI fun i j _ _ _ _ _ hc q => by
  have h1 : (0 : Int) < j := hc
  exact mod_int' (by omega) (by rw [Int.fmod_eq_emod_of_nonneg i (by omega)]; exact q)
theorem op_modN : OpR X (binaryOp .Mod) (rI (fun _ j => j ≠ 0) fun i j => .int (i.fmod j)) := opI fun _ _ _ _ _ _ _ hc q => mod_int' hc q
theorem op_pow : OpR X (binaryOp .Pow) (rI CPow fun i j => .int (i ^ j.toNat)) := opI fun _ _ _ _ _ _ _ hc q => pow_int_small hc.1 hc.2.1 hc.2.2 q
theorem unI {f : Value → Sem Value} {g : Int → Int}
    (rule : ∀ (i : Int) (t : Tok) (s : Shared) (Q : Value → Shared → Prop) (E : Value → Shared → Prop), Q (.int (g i) s.toks) { s with toks := s.toks + 1 } → wpAny (model X.prog X.w) X.A (f (.int i t)) Q E s) :
    UnR X f (rU fun i => .int (g i)) := by
  intro pins s σ H x v Q I rx h
  obtain ⟨i, rfl, q⟩ := h
  obtain ⟨t, rfl⟩ := rx
  exact rule i t s _ _ ⟨.int (g i), H, I.tok _, ⟨_, rfl⟩, q⟩
theorem un_neg : UnR X (unaryOp .USub) (rU fun i => .int (-i)) := unI fun _ _ _ _ _ q => neg_int q
/-! ### bools among ints: n += (a < b) -/
end

/-! ### comparisons -/
/-- the scalars that == tells apart as data does -/
def scal : V → V → Bool
  | .non, .non => true | .non, .int _ => true | .int _, .non => true | .non, .bl _ => true | .bl _, .non => true | .non, .str _ => true | .str _, .non => true
  | .int _, .int _ => true | .bl _, .bl _ => true | .str _, .str _ => true | .byt _, .byt _ => true
  | .int _, .str _ => true | .str _, .int _ => true | .bl _, .str _ => true | .str _, .bl _ => true
  | _, _ => false
def rEq : R2 := fun x y H Q => scal x y = true ∧ Q (.bl (decide (x = y))) H
def rNe : R2 := fun x y H Q => scal x y = true ∧ Q (.bl (!decide (x = y))) H

section
variable {X : Cx} {a b c : Expr} {ta tb tc : TE} {pos : Pos}
theorem op_lt : OpR X (compareOp .Lt) (rI0 fun i j => .bl (decide (i < j))) := opB0 fun _ _ _ _ _ _ _ q => lt_int q
theorem op_gt : OpR X (compareOp .Gt) (rI0 fun i j => .bl (decide (j < i))) := opB0 fun _ _ _ _ _ _ _ q => gt_int q
theorem op_ge : OpR X (compareOp .GtE) (rI0 fun i j => .bl (decide (j ≤ i))) := opB0 fun _ _ _ _ _ _ _ q => ge_int q
/-- is, is not of two objects that are tracked lists or instances -/
def isObj : HO → Bool
  | .lst _ => true
  | .ins _ _ _ => true
  | _ => false
/-- two rules for one operation: by cases -/
theorem OpR.or {f : Value → Value → Sem Value} {r r' : R2} (h : OpR X f r) (h' : OpR X f r') : OpR X f (fun x y H Q => r x y H Q ∨ r' x y H Q) := by
  intro pins s σ H x y v u Q I rx ry q
  rcases q with q | q
  · exact h pins s σ H x y v u Q I rx ry q
  · exact h' pins s σ H x y v u Q I rx ry q

theorem nomark (b : Expr) {op : CmpOp} (h : op ≠ .In := by decide) (h2 : op ≠ .NotIn := by decide) : behindInMarks op b = false := by
  have e1 : (op == CmpOp.In) = false := by cases op <;> first | rfl | exact absurd rfl h
  have e2 : (op == CmpOp.NotIn) = false := by cases op <;> first | rfl | exact absurd rfl h2
  cases b <;> simp [behindInMarks, e1, e2]
/-- a reading of a value as a test -/
def tTest (t : TE) : TT := fun σ H Q => t σ H fun x H' => ∃ k, x = .bl k ∧ Q k H'
theorem pt_cmpR {op : CmpOp} {r : R2} (ho : OpR X (compareOp op) r) (ha : PE X a ta) (hb : PE X b tb) (hm : behindInMarks op b = false) : PT X (.Compare a [op] [b] pos) (tTest (tOp r ta tb)) := by
  intro pins s σ H Q I h
  refine wpAny_isTrue_Compare1 (thn (ha pins s σ H _ I h) fun v s1 ⟨x, H1, I1, r1, q1⟩ => thn (hb pins s1 σ H1 _ I1 q1) fun u s2 ⟨y, H2, I2, r2, q2⟩ =>
    thn (ho pins s2 σ H2 x y v u _ I2 r1 r2 q2) fun c s3 ⟨z, H3, I3, r3, k, e, q3⟩ => ?_) hm
  subst e
  cases r3
  exact wpAny_truthy_bool ⟨H3, I3, q3⟩
/-- a op1 b op2 c -/
def tChain (r r' : R2) (ta tb tc : TE) : TE := fun σ H Q => ta σ H fun x H1 => tb σ H1 fun y H2 => r x y H2 fun z H3 => ∃ k, z = .bl k ∧
  (if k = true then tc σ H3 fun w' H4 => r' y w' H4 Q else Q (.bl false) H3)
/-! ### truth -/
/-- a value's truth by the abstract heap -/
def TruV (K : PySem.W.Frag) (x : V) (H : Hp) (k : Bool) : Prop :=
  match x with
  | .non => k = false
  | .bl b => k = b
  | .int i => k = (i != 0)
  | .str y => y.length ≤ sizeLine ∧ k = ((y.length : Int) != 0)
  | .byt y => y.size ≤ sizeLine ∧ k = ((y.size : Int) != 0)
  | .ref p => (∃ xs, SqL K H p xs ∧ k = !xs.isEmpty) ∨ (∃ xs, SqT K H p xs ∧ k = !xs.isEmpty) ∨ ∃ kvs, H p = some (.dK kvs) ∧ k = !kvs.isEmpty
  | _ => False
theorem isEmpty_kv {κ : Type} {kvs : List (κ × V)} {vs : List (κ × Value)} (r : KV kvs vs) : (!vs.isEmpty) = !kvs.isEmpty := by
  cases r <;> rfl
theorem isEmpty_of {xs : List V} {its : List Value} (r : Vals xs its) : (!its.toArray.isEmpty) = !xs.isEmpty := by
  cases r <;> simp
theorem line63 : (sizeLine : Nat) < 2 ^ 63 := by rw [sizeLine_eq]; decide
theorem tru_ok : TruR X (fun x H Q => ∃ k, TruV X.K x H k ∧ Q k H) := by
  intro pins s σ H x v Q I rx h
  obtain ⟨k, e, q⟩ := h
  have hl := line63
  have hs : sizeLine = 16777216 := sizeLine_eq
  cases x with
  | non =>
    cases rx
    have e' : k = false := e
    subst e'
    exact truthy_none ⟨H, I, q⟩
  | bl b =>
    cases rx
    have e' : k = b := e
    subst e'
    exact wpAny_truthy_bool ⟨H, I, q⟩
  | int i =>
    obtain ⟨t, rfl⟩ := rx
    have e' : k = (i != 0) := e
    subst e'
    exact PySem.P.truthy_int ⟨H, I, q⟩
  | str y =>
    obtain ⟨t, rfl⟩ := rx
    obtain ⟨hy, e'⟩ : y.length ≤ sizeLine ∧ k = ((y.length : Int) != 0) := e
    subst e'
    exact PySem.P.truthy_str (by omega) ⟨H, I.tok _, q⟩
  | byt y =>
    obtain ⟨t, rfl⟩ := rx
    obtain ⟨hy, e'⟩ : y.size ≤ sizeLine ∧ k = ((y.size : Int) != 0) := e
    subst e'
    exact PySem.W.truthy_bytes (by omega) ⟨H, I.tok _, q⟩
  | ref p =>
    cases rx
    have e' : (∃ xs, SqL X.K H p xs ∧ k = !xs.isEmpty) ∨ (∃ xs, SqT X.K H p xs ∧ k = !xs.isEmpty) ∨ ∃ kvs, H p = some (.dK kvs) ∧ k = !kvs.isEmpty := e
    rcases e' with ⟨xs, hx, e'⟩ | ⟨xs, hx, e'⟩ | ⟨kvs, hx, e'⟩
    · subst e'
      obtain ⟨its, r, pl, hz⟩ := I.list hx
      have hlen := r.length
      exact wpAny_truthy_list pl.isList (by simp only [List.size_toArray]; omega) ⟨H, I.tok _, by rw [isEmpty_of r]; exact q⟩
    · subst e'
      obtain ⟨its, r, pl, hz⟩ := I.tuple hx
      have hlen := r.length
      exact truthy_tuple pl (by simp only [List.size_toArray]; omega) ⟨H, I.tok _, by rw [isEmpty_of r]; exact q⟩
    · subst e'
      obtain ⟨hz, hS, vs, r, m⟩ : kvs.length ≤ sizeLine ∧ (p == sysModules) = false ∧ ∃ vs, KV kvs vs ∧ s.heap.DictOf (mixKind X.prog X.w) p vs := I.hok p _ hx
      have hlen : kvs.length = vs.length := Paired.length r
      exact wpAny_truthy_dict hS m (by omega) ⟨H, I.tok _, by rw [isEmpty_kv r]; exact q⟩
  | _ => exact (show False from e).elim
/-- any expression whose test is its value's truth (a name, a call, a subscript, a field ..: he by fun _ => rfl) -/
theorem pt_truth (ha : PE X a ta) (he : ∀ whole, isTrue a X.env whole = (do let v ← whole; standAt a.pos; holding [v] (truthy v))) :
    PT X a (fun σ H Q => ta σ H fun x H' => ∃ k, TruV X.K x H' k ∧ Q k H') := by
  intro pins s σ H Q I h
  exact isTrue_plain (thn (ha pins s σ H _ I h) fun v s1 ⟨x, H1, I1, r1, q1⟩ => tru_ok pins s1 σ H1 x v Q I1 r1 q1) (he _)

/-! ### strs and bytes -/
theorem op_add_str : OpR X (binaryOp .Add) (fun x y H Q => ∃ i j, x = .str i ∧ y = .str j ∧ i.length + j.length ≤ sizeLine ∧ Q (.str (i ++ j)) H) := by
  intro pins s σ H x y v u Q I rx ry h
  obtain ⟨i, j, rfl, rfl, hz, q⟩ := h
  obtain ⟨t, rfl⟩ := rx
  obtain ⟨t', rfl⟩ := ry
  exact add_str (fun t' tk => ⟨.str (i ++ j), H, I.tok _, ⟨_, rfl⟩, q⟩) hz
def PlainIxT (b : Expr) : Prop := ∀ o i, subscripted b false o i = operate [o, i] (getItem o i)
/-! ### scalar builtins, by CallR -/
theorem vals1 {x : V} {us : List Value} (r : Vals [x] us) : ∃ u, us = [u] ∧ RelV x u := by
  cases r with
  | cons r1 r2 => cases r2; exact ⟨_, rfl, r1⟩
theorem vals2 {x y : V} {us : List Value} (r : Vals [x, y] us) : ∃ u w', us = [u, w'] ∧ RelV x u ∧ RelV y w' := by
  cases r with
  | cons r1 r2 =>
    cases r2 with
    | cons r3 r4 => cases r4; exact ⟨_, _, rfl, r1, r3⟩
theorem call_abs : CallR X (.builtin "abs") (fun xs H Q => ∃ i, xs = [.int i] ∧ Q (.int (if i < 0 then -i else i)) H) := by
  intro pins s σ H xs us Q I r h
  obtain ⟨i, rfl, q⟩ := h
  obtain ⟨u, rfl, t, rfl⟩ := vals1 r
  exact call_abs_int fun u tk => ⟨.int (if i < 0 then -i else i), H, I.tok _, ⟨_, rfl⟩, q⟩
/-- len of a str, a bytes, a list, a tuple -/
def LenV (K : PySem.W.Frag) (x : V) (H : Hp) (n : Nat) : Prop :=
  match x with
  | .str y => y.length ≤ sizeLine ∧ n = y.length
  | .byt y => y.size ≤ sizeLine ∧ n = y.size
  | .ref p => (∃ xs, SqL K H p xs ∧ n = xs.length) ∨ ∃ xs, SqT K H p xs ∧ n = xs.length
  | _ => False
end
end L2

namespace L2
open PySem PySem.Spec PyProof.Rows

/-! ### an instance, its attributes a map -/
structure ObjM (h : Heap) (x dx C : Addr) (mA : Str → Option Value) : Prop where
  obj : h.get? x = some (PySem.W.instObj C dx)
  ns : h.Ns1 dx mA
  ne : dx ≠ x

theorem lookIn_ns {h : Heap} {dx : Addr} {mA : Str → Option Value} (n : h.Ns1 dx mA) : ∃ od, h.get? dx = some od ∧ ∀ name, PySem.W.lookIn name od = some (mA name) := by
  obtain ⟨o, es, ep, ho, hd, hk, _, hm⟩ := n
  refine ⟨o, ho, fun name => ?_⟩
  have e := hm name
  unfold nsFind findBy at e
  rw [← Array.find?_toList] at e
  unfold PySem.W.lookIn
  rw [hd]
  dsimp only
  split
  · rename_i y q
    rw [q] at e
    exact congrArg some e
  · rename_i q
    rw [q] at e
    have a : es.toList.any (·.refKey) = false := by
      rw [List.any_eq_false]
      intro y hy
      obtain ⟨z, t, hkey⟩ := hk y (Array.mem_toList_iff.mp hy)
      simp [DictEntry.refKey, hkey]
    have a' : ¬ es.toList.any (·.refKey) = true := by rw [a]; exact Bool.false_ne_true
    rw [if_neg a']
    exact congrArg some e

theorem ObjM.look {h : Heap} {x dx C : Addr} {mA : Str → Option Value} (I : ObjM h x dx C mA) : ∃ od, PySem.W.InstAt h x (PySem.W.instObj C dx) C (some od) ∧ ∀ name, PySem.W.lookIn name od = some (mA name) :=
  let ⟨od, ho, hl⟩ := lookIn_ns I.ns
  ⟨od, ⟨I.obj, rfl, rfl, ho⟩, hl⟩

section
variable {prog : Program} {w : World} {A : Around} {E : Value → Shared → Prop} {s : Shared} {K : PySem.W.Frag} {x dx C f : Addr} {mA : Str → Option Value} {name : Str} {v : Value}

end

/-! ### the attributes as a list of pairs -/
def putF (f : Str) (v : V) : List (Str × V) → List (Str × V)
  | [] => [(f, v)]
  | (g, x) :: r => if g = f then (g, v) :: r else (g, x) :: putF f v r
section
variable {P : Program} {w : World} {H H' : Hp} {h h' : Heap} {a C dx : Addr} {fs fs' : List (Str × V)}
theorem ins_get (hok : HOk P w H h) (e : H a = some (.ins C dx fs)) : ∃ mA, ObjM h a dx C mA ∧ (∀ f, RelO (fs.lookup f) (mA f)) ∧ PySem.Within mA (fs.map (·.1)) ∧ fs.length ≤ 1000 ∧ H dx = some (.own a) := by
  obtain ⟨d, z, ne, ob, mA, n, r, q⟩ := (show ObjOk P w H h a (.ins C dx fs) from hok a _ e)
  exact ⟨mA, ⟨ob, n, ne⟩, r, q, z, d⟩
end

/-! ### what of the text a class must have -/
structure Cls (K : PySem.W.Frag) (C : Addr) : Prop where
  pg : PySem.W.plainGet K C Str.empty = true
  hd : PySem.W.hasDictIn K C = true
  po : PySem.W.plainOver K C = true
  sa : PySem.W.findIn K (.ref C) "__setattr__" = some (some (.builtin "object.__setattr__"))
theorem Cls.get {K : PySem.W.Frag} {C : Addr} (c : Cls K C) (f : Str) : PySem.W.plainGet K C f = true := c.pg
/-- no class of it has the name -/
def NoAttr (K : PySem.W.Frag) (C : Addr) (f : Str) : Prop := PySem.W.findIn K (.ref C) f = some none
/-- a constant of the class -/
structure Con (K : PySem.W.Frag) (C : Addr) (f : Str) (v : V) (u : Value) : Prop where
  at_ : PySem.W.findIn K (.ref C) f = some (some u)
  rel : RelV v u
  get : PySem.W.specialIn K u "__get__" = some none
  cp : PySem.W.copiedNames.contains f = false
/-- a method: a plain def of the class or of one above it -/
structure Meth (K : PySem.W.Frag) (C : Addr) (m : Str) (f : Addr) : Prop where
  at_ : PySem.W.findIn K (.ref C) m = some (some (.ref f))
  fn : PySem.W.isFn K (.ref f) = true
  kp : PySem.W.keepIn K (.ref f) = true

section
variable {X : Cx} {pins : List (Addr × Obj)} {σ : St} {H : Hp} {s : Shared} {a C dx : Addr} {fs : List (Str × V)} {f : Str} {v : V} {A : Around} {E : Value → Shared → Prop}

end

/-! ### readings and rules -/
/-- e.f, an attribute of the instance -/
def tFld (K : PySem.W.Frag) (ta : TE) (f : Str) : TE := fun σ H Q => ta σ H fun x H1 => ∃ a C dx fs v, x = .ref a ∧ H1 a = some (.ins C dx fs) ∧ Cls K C ∧ NoAttr K C f ∧ fs.lookup f = some v ∧ Q v H1
/-- e.f, a constant of the class -/
def tCon (K : PySem.W.Frag) (ta : TE) (f : Str) : TE := fun σ H Q => ta σ H fun x H1 => ∃ a C dx fs v u, x = .ref a ∧ H1 a = some (.ins C dx fs) ∧ Cls K C ∧ Con K C f v u ∧ fs.lookup f = none ∧ Q v H1
/-- e.f = value -/
def sFld (K : PySem.W.Frag) (ta tv : TE) (f : Str) : TS := fun D σ H => tv σ H fun y H1 => ta σ H1 fun x H2 => ∃ a C dx fs, x = .ref a ∧ H2 a = some (.ins C dx fs) ∧ Cls K C ∧ NoAttr K C f ∧ fs.length < 1000 ∧
  D.nx σ (upd H2 a (.ins C dx (putF f y fs)))
/-- an augmented operator on two values -/
def InOp (X : Cx) (op : Operator) (rd : V → V → Hp → VK → Prop) : Prop :=
  ∀ (pins : List (Addr × Obj)) (s : Shared) (σ : St) (H : Hp) (x y : V) (u v : Value) (Q : VK), Inv X pins σ H s → RelV x u → RelV y v → rd x y H Q → wpAny (model X.prog X.w) X.A (inplaceOp op u v) (EP X pins σ Q) X.xe s
/-- e.f op= value -/
def sFldAug (K : PySem.W.Frag) (ta tv : TE) (rd : V → V → Hp → VK → Prop) (f : Str) : TS := fun D σ H => ta σ H fun x H1 => ∃ a C dx fs v, x = .ref a ∧ H1 a = some (.ins C dx fs) ∧ Cls K C ∧ NoAttr K C f ∧ fs.lookup f = some v ∧
  tv σ H1 fun y H2 => rd v y H2 fun z H3 => ∃ dx' fs', H3 a = some (.ins C dx' fs') ∧ fs'.length < 1000 ∧ D.nx σ (upd H3 a (.ins C dx' (putF f z fs')))

section
variable {X : Cx} {o e value : Expr} {f : Str} {pos pos' tpos : Pos} {ta tv : TE}
def rAdd : V → V → Hp → VK → Prop := fun x y H Q => ∃ i j, x = .int i ∧ y = .int j ∧ Q (.int (i + j)) H
def rSub : V → V → Hp → VK → Prop := fun x y H Q => ∃ i j, x = .int i ∧ y = .int j ∧ Q (.int (i - j)) H
end

/-! ### isinstance -/
section
variable {X : Cx} {pins : List (Addr × Obj)} {σ : St} {H : Hp} {s : Shared} {A : Around} {E : Value → Shared → Prop} {Q : Value → Shared → Prop} {c : Value} {b : Bool}
/-- the type of a value, as the fragment's deciders take it; for an instance its class -/
inductive TyOf (K : PySem.W.Frag) (H : Hp) : V → Value → Prop where
  | non : TyOf K H .non (.type "NoneType")
  | bl (x : Bool) : TyOf K H (.bl x) (.type "bool")
  | int (i : Int) : TyOf K H (.int i) (.type "int")
  | str (x : Str) : TyOf K H (.str x) (.type "str")
  | flt (x : UInt64) : TyOf K H (.flt x) (.type "float")
  | lst {a : Addr} {xs : List V} (e : H a = some (.lst xs)) : TyOf K H (.ref a) (.type "list")
  | frz {a : Addr} {o : Obj} {xs : List V} (e : H a = some (.frz o (.lst xs))) : TyOf K H (.ref a) (.type "list")
  | tup {a : Addr} {xs : List V} (e : H a = some (.tup xs)) : TyOf K H (.ref a) (.type "tuple")
  | dK {a : Addr} {kvs : List (Key × V)} (e : H a = some (.dK kvs)) : TyOf K H (.ref a) (.type "dict")
  | dT {a : Addr} {kvs : List (List Key × V)} (e : H a = some (.dT kvs)) : TyOf K H (.ref a) (.type "dict")
  | ins {a C dx : Addr} {fs : List (Str × V)} (e : H a = some (.ins C dx fs)) (cl : Cls K C) (ha : PySem.W.findIn K (.ref C) "__class__" = some (some (.builtin "object.__class__")))
      (hn : PySem.W.specialIn K (.builtin "object.__class__") "__get__" = some (some (.builtin "getset_descriptor.__get__"))) (htk : PySem.W.takesIn K (.builtin "object.__class__") = some true)
      (hm : PySem.W.mroIn K C (.type "object") = some true) : TyOf K H (.ref a) (.ref C)
/-- isinstance(x, c) for one class c, a built-in or an own one: kitOne's answer -/
theorem isinst_ok {x : V} {u t : Value} (I : Inv X pins σ H s) (rx : RelV x u) (ty : TyOf X.K H x t) (e : PySem.W.kitOne X.K t c = some b) (h : ∀ tk, Q (.bool b) { s with toks := tk }) :
    wpAny (model X.prog X.w) A (call (.builtin "isinstance") [u, c]) Q E s := by
  cases ty with
  | non => cases (show u = Value.none from rx); exact PySem.W.kia_one PySem.W.kitx_none I.kIn True.intro e (fun z => nomatch z) h
  | bl y => cases (show u = Value.bool y from rx); exact PySem.W.kia_one PySem.W.kitx_bool I.kIn True.intro e (fun z => nomatch z) h
  | int i => obtain ⟨t, q⟩ := (show ∃ t, u = Value.int i t from rx); cases q; exact PySem.W.kia_one PySem.W.kitx_int I.kIn True.intro e (fun z => nomatch z) h
  | str y => obtain ⟨t, q⟩ := (show ∃ t, u = Value.str y t from rx); cases q; exact PySem.W.kia_one PySem.W.kitx_str I.kIn True.intro e (fun z => nomatch z) h
  | flt y => obtain ⟨t, q⟩ := (show ∃ t, u = Value.float y t from rx); cases q; exact PySem.W.kia_one PySem.W.kitx_float I.kIn True.intro e (fun z => nomatch z) h
  | @lst a xs ea =>
    cases (show u = Value.ref a from rx)
    obtain ⟨_, _, n, _, h1⟩ := (show ObjOk X.prog X.w H s.heap a (.lst xs) from I.hok a _ ea)
    exact PySem.W.kia_one PySem.W.kitx_list I.kIn ⟨_, h1, rfl⟩ e (fun z => nomatch z) h
  | @frz a ob xs ea =>
    cases (show u = Value.ref a from rx)
    obtain ⟨_, _, _, n, _, h1⟩ := (show ObjOk X.prog X.w H s.heap a (.frz ob (.lst xs)) from I.hok a _ ea)
    exact PySem.W.kia_one PySem.W.kitx_list I.kIn ⟨_, h1, rfl⟩ e (fun z => nomatch z) h
  | @tup a xs ea =>
    cases (show u = Value.ref a from rx)
    obtain ⟨_, _, _, p⟩ := (show ObjOk X.prog X.w H s.heap a (.tup xs) from I.hok a _ ea)
    obtain ⟨o, h1, h2, _⟩ := p
    exact PySem.W.kia_one PySem.W.kitx_tuple I.kIn ⟨o, h1, h2⟩ e (fun z => nomatch z) h
  | @dK a kvs ea =>
    cases (show u = Value.ref a from rx)
    obtain ⟨_, _, vs, _, p⟩ := (show ObjOk X.prog X.w H s.heap a (.dK kvs) from I.hok a _ ea)
    obtain ⟨o, es, ep, h1, h2, _⟩ := p
    exact PySem.W.kia_one PySem.W.kitx_dict I.kIn ⟨o, h1, h2.1⟩ e (fun z => nomatch z) h
  | @dT a kvs ea =>
    cases (show u = Value.ref a from rx)
    obtain ⟨_, _, xs, _, o, es, ep, h1, h2, _⟩ := (show ObjOk X.prog X.w H s.heap a (.dT kvs) from I.hok a _ ea)
    exact PySem.W.kia_one PySem.W.kitx_dict I.kIn ⟨o, h1, h2.1⟩ e (fun z => nomatch z) h
  | @ins a C dx fs ea cl ha hn htk hm =>
    cases (show u = Value.ref a from rx)
    obtain ⟨mA, O, _⟩ := ins_get I.hok ea
    obtain ⟨od, J, _⟩ := O.look
    exact PySem.W.kia_one (PySem.W.kitx_own (cl.get _) cl.hd ha hn htk hm) I.kIn J e (fun z => nomatch z) h
end
end L2

namespace L2
open PySem PySem.Spec PyProof.Rows

/-! ### room -/
structure Room (k : Nat) (A : Around) : Prop where
  hd : A.handled = none
  dp : A.depth + 3 * k + 5 < recursionLimit
  un : A.units + 16 * k + 200 < cLine
theorem Room.mono {j k : Nat} {A : Around} (r : Room k A) (h : j ≤ k) : Room j A := ⟨r.hd, by have := r.dp; omega, by have := r.un; omega⟩
theorem Room.deeper {k : Nat} {A : Around} (r : Room (k + 1) A) (env : Env) : Room k (A.deeper env) :=
  ⟨r.hd, by have := r.dp; show A.depth + 1 + 3 * k + 5 < _; omega, by have := r.un; show A.units + 3 + 16 * k + 200 < _; omega⟩
theorem Room.depth {k : Nat} {A : Around} (r : Room k A) : A.depth < recursionLimit := by have := r.dp; omega
theorem Room.units {k : Nat} {A : Around} (r : Room k A) : A.units + 64 < cLine := by have := r.un; omega
/-! ### argument lists and displays -/
def tNil : TA := fun _ H Q => Q [] H
def tCons (ta : TE) (tr : TA) : TA := fun σ H Q => ta σ H fun x H1 => tr σ H1 fun xs H2 => Q (x :: xs) H2
section
variable {X : Cx} {e : Expr} {es : List Expr} {te : TE} {t : TA} {pos : Pos}
theorem pa_nil : PA X [] tNil := fun _ _ _ _ H Q I h => Calls.spliced_nil ⟨[], H, I, .nil, h⟩
theorem pa_cons (ha : PE X e te) (hr : PA X es t) (hs : starEach (e :: es) X.env = (false, eval e X.env) :: starEach es X.env := by rfl) : PA X (e :: es) (tCons te t) := by
  intro pos pins s σ H Q I h
  rw [hs]
  show wpAny _ _ (spliced ((false, eval e X.env) :: backTo pos (starEach es X.env))) _ _ s
  refine Calls.spliced_cons (thn (ha pins s σ H _ I h) fun u s1 ⟨x, H1, I1, r1, q1⟩ => ?_)
  exact thn (hr pos pins s1 σ H1 _ I1 q1) fun us s2 ⟨xs, H2, I2, r2, q2⟩ => ⟨x :: xs, H2, I2, .cons r1 r2, q2⟩

/-- a tuple, a list of written items -/
def tTup (t : TA) : TE := fun σ H Q => t σ H fun xs H1 => xs.length ≤ sizeLine ∧ ∀ p, H1 p = none → Q (.ref p) (upd H1 p (.tup xs))
def tLst (t : TA) : TE := fun σ H Q => t σ H fun xs H1 => xs.length ≤ sizeLine ∧ ∀ p, H1 p = none → Q (.ref p) (upd H1 p (.lst xs))
theorem pe_tup {x1} (h : PA X es t) : PE X (.Tuple es x1 pos) (tTup t) := by
  intro pins s σ H Q I hq
  refine wpAny_Tuple_spliced (thn (h pos pins s σ H _ I hq) fun us s1 ⟨xs, H1, I1, r, z, q⟩ => ⟨by rw [← r.length]; exact z, ?_⟩)
  have hf : H1 s1.heap.objs.size = none := I1.hok.fresh (Nat.le_refl _)
  refine ⟨.ref s1.heap.objs.size, upd H1 s1.heap.objs.size (.tup xs), I1.laid (t' := s1.toks) (fun b u e => Heap.get?_push_of_some _ e) (Nat.le_refl _) ?_, rfl, q _ hf⟩
  exact ⟨z, us, r, ⟨_, Heap.get?_push_size _ rfl, rfl, _, rfl⟩⟩
theorem pe_lst (h : PA X es t) : PE X (.List es pos) (tLst t) := by
  intro pins s σ H Q I hq
  refine wpAny_List_spliced (thn (h pos pins s σ H _ I hq) fun us s1 ⟨xs, H1, I1, r, z, q⟩ => ⟨by rw [← r.length]; exact z, ?_⟩)
  have hf : H1 s1.heap.objs.size = none := I1.hok.fresh (Nat.le_refl _)
  refine ⟨.ref s1.heap.objs.size, upd H1 s1.heap.objs.size (.lst xs), I1.laid (t' := s1.toks) (fun b u e => Heap.get?_push_of_some _ e) (Nat.le_refl _) ?_, rfl, q _ hf⟩
  exact ⟨z, us, 0, r, Heap.get?_push_size _ rfl⟩
end

/-! ### what a def promises -/
/-- a def's promise: the bound arguments in the parameters' order, the heap, the wanted end, the wanted exception -/
abbrev Sp := List V → Hp → VK → XK → Prop
/-- how an exception lies behind a call (file 08 gives it): the callers' frames, abstract heap and state ahead of the call, the wish, the exception, the state -/
abbrev CXT := List Env → Hp → Shared → XK → Value → Shared → Prop

/-- the state at a call -/
structure Env0 (P : Program) (w : World) (K : PySem.W.Frag) (mg : Str → Option Value) (base : Heap) (A : Around) (outer : List Env) (s : Shared) (H : Hp) : Prop where
  frames : A.frames = some outer
  mod : Mod K mg base
  bs : ∀ b o, base.get? b = some o → s.heap.get? b = some o ∧ H b = none
  bsz : base.objs.size ≤ s.heap.objs.size
  funs : s.heap.FunFrames base outer
  frf : ∀ b ∈ frs outer, H b = none
  hok : HOk P w H s.heap
  bare : AllBare s.gens
/-- a call's end -/
def CE (outer : List Env) (P : Program) (w : World) (H : Hp) (s : Shared) (Q : VK) (u : Value) (s' : Shared) : Prop :=
  ∃ v H', s'.os = s.os ∧ AllBare s'.gens ∧ Un (frs outer) [] H H' s.heap s'.heap ∧ HOk P w H' s'.heap ∧ RelV v u ∧ Q v H'
def CR (CX : CXT) (outer : List Env) (P : Program) (w : World) (H : Hp) (s : Shared) (Q : VK) (E : XK) (r : Result) (s' : Shared) : Prop :=
  match r with
  | .ok (.ret u) => CE outer P w H s Q u s'
  | .ok _ => False
  | .error e => CX outer H s E e s'
structure FnOk (P : Program) (w : World) (K : PySem.W.Frag) (mg : Str → Option Value) (base : Heap) (CX : CXT) (k : Nat) (f : Addr) (fd : FuncData) (ps : List Str) (sp : Sp) : Prop where
  len : ∀ vs H Q E, sp vs H Q E → vs.length = ps.length
  run : ∀ (A : Around) (outer : List Env) (s : Shared) (H : Hp) (args : Args) (us : List Value) (vs : List V) (Q : VK) (E : XK), Room k A → Env0 P w K mg base A outer s H → BindsTo s fd args (ps.zip us) → Vals vs us → sp vs H Q E →
    codeAny (model P w) A (.call (.ref f) args) (CR CX outer P w H s Q E) s
/-- a weaker promise -/
theorem FnOk.imp {P : Program} {w : World} {K : PySem.W.Frag} {mg : Str → Option Value} {base : Heap} {CX : CXT} {k : Nat} {f : Addr} {fd : FuncData} {ps : List Str} {sp sp' : Sp} (F : FnOk P w K mg base CX k f fd ps sp)
    (h : ∀ vs H Q E, sp' vs H Q E → sp vs H Q E) : FnOk P w K mg base CX k f fd ps sp' :=
  ⟨fun vs H Q E q => F.len vs H Q E (h _ _ _ _ q), fun A outer s H args us vs Q E hr he hb hv hs => F.run A outer s H args us vs Q E hr he hb hv (h _ _ _ _ hs)⟩

section
variable {X : Cx} {pins : List (Addr × Obj)} {σ : St} {H : Hp} {s s' : Shared}
/-- from a body: what a callee wants -/
theorem Inv.env0 (I : Inv X pins σ H s) : Env0 X.prog X.w X.K X.mg X.base X.A X.stack s H :=
  ⟨I.ok.frames, I.ok.mod, I.bs, Nat.le_trans I.ok.bsz I.sz, I.stack, I.stkFree, I.hok, I.bare⟩
/-- behind a call -/
theorem Inv.after {Q : VK} {u : Value} (I : Inv X pins σ H s) (h : CE X.stack X.prog X.w H s Q u s') : EP X pins σ Q u s' := by
  obtain ⟨v, H', os, bare, un, hok, r, q⟩ := h
  obtain ⟨hh, g, d, t, os'⟩ := s'
  obtain rfl : os' = s.os := os
  exact ⟨v, H', I.call (h' := hh) (g' := g) (d' := d) (t' := t) (ch := []) un hok bare (fun b z => absurd z (by simp)), r, q⟩
end

/-! ### calls -/
/-- f(..): the written arguments, then the defaults dvs; E: what is wanted of an exception -/
def tCall (sp : Sp) (dvs : List V) (E : XK) (t : TA) : TE := fun σ H Q => t σ H fun vs H1 => sp (vs ++ dvs) H1 Q E
/-- o.m(..) of an instance of the class at C -/
def tMeth (C : Addr) (m : Str) (sp : Sp) (dvs : List V) (E : XK) (ta : TE) (t : TA) : TE := fun σ H Q => ta σ H fun x H1 => ∃ a dx fs, x = .ref a ∧ H1 a = some (.ins C dx fs) ∧ fs.lookup m = none ∧
  t σ H1 fun vs H2 => sp (x :: (vs ++ dvs)) H2 Q E
/-- C(..): a new instance and its dict, then __init__ -/
def tMake (C : Addr) (sp : Sp) (dvs : List V) (E : XK) (t : TA) : TE := fun σ H Q => t σ H fun vs H1 => ∀ x dx, H1 x = none → H1 dx = none → dx ≠ x →
  sp (.ref x :: (vs ++ dvs)) (upd (upd H1 dx (.own x)) x (.ins C dx [])) (fun v H2 => v = .non ∧ Q (.ref x) H2) E

/-- how the parameters are bound: us the positional arguments, kw the keywords' values by name, ds the defaults that fill up -/
def Binds (K : PySem.W.Frag) (fd : FuncData) (ps : List Str) (ds : List Value) : Prop :=
  ∀ (s : Shared) (us : List Value), K.In s.heap → (us ++ ds).length = ps.length → BindsTo s fd ⟨us, []⟩ (ps.zip (us ++ ds))
/-- every parameter is given -/
theorem Binds.all {K : PySem.W.Frag} {fd : FuncData} {ps : List Str} (h : ∀ us : List Value, us.length = ps.length → bindArgs fd ⟨us, []⟩ = pure (ps.zip us)) : Binds K fd ps [] := fun s us _ hl => by
  rw [List.append_nil] at hl ⊢
  exact .of_eq (h us hl)

/-- an exception of a callee reaches what this body wants of exceptions -/
def Passes (CX : CXT) (X : Cx) (E : XK) : Prop := ∀ (pins : List (Addr × Obj)) (σ : St) (H : Hp) (s : Shared) (e : Value) (s' : Shared), Inv X pins σ H s → CX X.stack H s E e s' → X.xe e s'

section
variable {X : Cx} {CX : CXT} {k : Nat} {f C : Addr} {fd : FuncData} {ps : List Str} {sp : Sp} {dvs : List V} {ds : List Value} {E : XK} {x m : Str} {p pos apos : Pos} {e o : Expr} {es : List Expr} {ta : TE} {t : TA}

/-- the callee runs -/
theorem run_fn {pins : List (Addr × Obj)} {σ : St} {H : Hp} {s : Shared} {Q : VK} {us : List Value} {vs : List V} (F : FnOk X.prog X.w X.K X.mg X.base CX k f fd ps sp) (hr : Room k X.A) (hb : Binds X.K fd ps ds) (hd : Vals dvs ds) (hx : Passes CX X E)
    (I : Inv X pins σ H s) (r : Vals vs us) (h : sp (vs ++ dvs) H Q E) : wpAny (model X.prog X.w) X.A (call (.ref f) us) (EP X pins σ Q) X.xe s := by
  have r2 : Vals (vs ++ dvs) (us ++ ds) := r.append hd
  have hl : (us ++ ds).length = ps.length := by rw [← r2.length]; exact F.len _ _ _ _ h
  refine wpAny_call (codeAny_mono (F.run X.A X.stack s H ⟨us, []⟩ (us ++ ds) (vs ++ dvs) Q E hr I.env0 (hb s us I.kIn hl) r2 h) fun r s' hq => ?_)
  cases r with
  | error e => exact hx pins σ H s e s' I hq
  | ok fl =>
    cases fl with
    | ret u => exact I.after hq
    | next => exact False.elim hq
    | brk => exact False.elim hq
    | cont => exact False.elim hq

theorem pe_call (F : FnOk X.prog X.w X.K X.mg X.base CX k f fd ps sp) (hr : Room k X.A) (hg : Gl X x) (hm : X.mg x = some (.ref f)) (hk : PySem.W.keepIn X.K (.ref f) = true) (hb : Binds X.K fd ps ds) (hd : Vals dvs ds) (hx : Passes CX X E)
    (ha : PA X (e :: es) t) (hdb : (x == ("__debug__" : Str)) = false := by decide) (he : starEach (e :: es) X.env = (false, eval e X.env) :: starEach es X.env := by rfl) (hpl : (backTo pos (starEach es X.env)).any (·.1) = false := by rfl) :
    PE X (.Call (.Name x p) (e :: es) [] pos) (tCall sp dvs E t) := by
  intro pins s σ H Q I h
  refine wpAny_Call_Name_kw (ld_glob I hg hm ?_ hdb)
  refine PySem.W.callWith_K (h₀ := X.base) I.ok.mod.kin hk (thn (ha pos pins s σ H _ I h) fun us s1 ⟨vs, H1, I1, r, q⟩ => ⟨I1.kIn, ?_⟩) he hpl
  exact run_fn F hr hb hd hx I1 r q
/-- what a class must have to be made -/
structure Mk (K : PySem.W.Frag) (C f : Addr) : Prop where
  makes : PySem.W.makesIn K C = true
  init : PySem.W.findIn K (.ref C) "__init__" = some (some (.ref f))
  fn : PySem.W.isFn K (.ref f) = true
  kp : PySem.W.keepIn K (.ref C) = true

end

/-! ### keywords -/
/-- the values of the keywords, from the left -/
def PK (X : Cx) (kws : List Keyword) (t : TA) : Prop :=
  ∀ (pos : Pos) (pins : List (Addr × Obj)) (s : Shared) (σ : St) (H : Hp) (Q : List V → Hp → Prop), Inv X pins σ H s → t σ H Q → wpAny (model X.prog X.w) X.A (evalAll ((backToKw pos (keywordEach kws X.env)).map (·.2))) (AP X pins σ Q) X.xe s
section
variable {X : Cx} {CX : CXT} {k : Nat} {f C : Addr} {fd : FuncData} {ps ks : List Str} {sp : Sp} {E : XK} {x m : Str} {p pos apos kpos : Pos} {e o : Expr} {es : List Expr} {kws : List Keyword} {te ta : TE} {t tk : TA} {nm : Option Str}
/-- how a call with keywords binds: g puts the positional values us and the keywords' values ws (names ks) in the parameters' order, defaults among them -/
structure KBinds (K : PySem.W.Frag) (fd : FuncData) (ps ks : List Str) (g : List Value → List Value → List Value) (gV : List V → List V → List V) : Prop where
  to : ∀ (s : Shared) (us ws : List Value), K.In s.heap → (g us ws).length = ps.length → BindsTo s fd ⟨us, ks.zip ws⟩ (ps.zip (g us ws))
  rel : ∀ {vs : List V} {us : List Value} {zs : List V} {ws : List Value}, Vals vs us → Vals zs ws → Vals (gV vs zs) (g us ws)
def tCallK (sp : Sp) (gV : List V → List V → List V) (E : XK) (t tk : TA) : TE := fun σ H Q => t σ H fun vs H1 => tk σ H1 fun zs H2 => sp (gV vs zs) H2 Q E
variable {g : List Value → List Value → List Value} {gV : List V → List V → List V}
end

/-! ### a def's body keeps its promise -/
/-- names: the parameters first -/
structure FnScope (N P : List Str) (sc : Scope) : Prop where
  kind : sc.kind = .function
  co : sc.isCoroutine = false
  gen : sc.isGenerator = false
  nd : N.Nodup
  pre : N.take P.length = P
  par : ∀ x ∈ P, sc.names.lookup x = some .local ∨ sc.names.lookup x = some .cell
  nofree : ∀ y ∈ sc.names, y.2 ≠ .free

theorem bindL_out {kindOf : Str → Option NameKind} {x : Str} : ∀ {binds : List (Str × Value)} {m : Str → Option Value}, (∀ v, (x, v) ∉ binds) → bindL kindOf binds m x = m x
  | [], _, _ => rfl
  | (n, v) :: r, m, h => by
    unfold bindL
    rw [bindL_out fun w hw => h w (List.mem_cons_of_mem _ hw)]
    split
    · have : x ≠ n := by rintro rfl; exact h v List.mem_cons_self
      simp [this]
    · rfl
theorem bindC_out {kindOf : Str → Option NameKind} {x : Str} : ∀ {binds : List (Str × Value)} {m : Str → Option Value}, (∀ v, (x, v) ∉ binds) → bindC kindOf binds m x = m x
  | [], _, _ => rfl
  | (n, v) :: r, m, h => by
    unfold bindC
    rw [bindC_out fun w hw => h w (List.mem_cons_of_mem _ hw)]
    split
    · rfl
    · have : x ≠ n := by rintro rfl; exact h v List.mem_cons_self
      simp [this]
theorem bindL_get {kindOf : Str → Option NameKind} {x : Str} {v : Value} : ∀ {P : List Str} {vs : List Value} {i : Nat} {m : Str → Option Value}, P.Nodup → P[i]? = some x → vs[i]? = some v → kindOf x = some .local →
    bindL kindOf (P.zip vs) m x = some v
  | [], _, _, _, _, h, _, _ => by simp at h
  | _ :: _, [], _, _, _, _, h, _ => by simp at h
  | p :: P, w :: vs, 0, m, nd, h1, h2, hk => by
    simp at h1 h2; subst h1; subst h2
    show bindL kindOf ((p, w) :: P.zip vs) m p = _
    unfold bindL
    rw [bindL_out fun v hv => (List.nodup_cons.mp nd).1 (List.of_mem_zip hv).1, if_pos hk]
    simp
  | p :: P, w :: vs, i + 1, m, nd, h1, h2, hk => by
    show bindL kindOf ((p, w) :: P.zip vs) m x = _
    unfold bindL
    exact bindL_get (i := i) (List.nodup_cons.mp nd).2 (by simpa using h1) (by simpa using h2) hk
theorem bindC_get {kindOf : Str → Option NameKind} {x : Str} {v : Value} : ∀ {P : List Str} {vs : List Value} {i : Nat} {m : Str → Option Value}, P.Nodup → P[i]? = some x → vs[i]? = some v → kindOf x ≠ some .local →
    bindC kindOf (P.zip vs) m x = some v
  | [], _, _, _, _, h, _, _ => by simp at h
  | _ :: _, [], _, _, _, _, h, _ => by simp at h
  | p :: P, w :: vs, 0, m, nd, h1, h2, hk => by
    simp at h1 h2; subst h1; subst h2
    show bindC kindOf ((p, w) :: P.zip vs) m p = _
    unfold bindC
    rw [bindC_out fun v hv => (List.nodup_cons.mp nd).1 (List.of_mem_zip hv).1, if_neg hk]
    simp
  | p :: P, w :: vs, i + 1, m, nd, h1, h2, hk => by
    show bindC kindOf ((p, w) :: P.zip vs) m x = _
    unfold bindC
    exact bindC_get (i := i) (List.nodup_cons.mp nd).2 (by simpa using h1) (by simpa using h2) hk

/-- the names' values at the entry -/
def start (N : List Str) (vs : List V) : St := vs.map some ++ List.replicate (N.length - vs.length) none

/-- the context of a def's body, at its entry; an exception leaves the frame, then lies as CX says -/
def cxOf (CX : CXT) (P : Program) (w : World) (K : PySem.W.Frag) (mg : Str → Option Value) (base : Heap) (N : List Str) (qual : Str) (scope : Scope) (f : Addr) (cd : Value) (A : Around) (outer : List Env) (s : Shared) (H : Hp) (E : XK) : Cx where
  prog := P
  w := w
  K := K
  mg := mg
  base := base
  A := A.deeper (envOfC qual scope s.heap.objs.size f cd)
  N := N
  s₀ := s
  H₀ := H
  env := envOfC qual scope s.heap.objs.size f cd
  outer := outer
  stack := envOfC qual scope s.heap.objs.size f cd :: outer
  ex := []
  calm := true
  fn := fun _ => true
  pn := []
  xe := fun e s' => wpAny (model P w) (A.deeper (envOfC qual scope s.heap.objs.size f cd)) (leaving (envOfC qual scope s.heap.objs.size f cd) e) (fun _ s'' => CX outer H s E e s'') (fun e' s'' => CX outer H s E e' s'') s'

theorem cell_has {sc : Scope} {n : Nat} {x : Str} (h : sc.names.lookup x = some .cell) : ∃ c, (cellsFrom n sc.names []).lookup x = some c := by
  have q := PySem.W.cellsFrom_some sc.names n [] (.inl h)
  exact Option.isSome_iff_exists.mp q

theorem inv_start {CX : CXT} {P : Program} {w : World} {K : PySem.W.Frag} {mg : Str → Option Value} {base : Heap} {N ps : List Str} {qual : Str} {scope : Scope} {f : Addr} {cd : Value} {A : Around} {outer : List Env} {s s1 : Shared} {H : Hp} {E : XK} {us : List Value} {vs : List V}
    (S : FnScope N ps scope) (hd : A.handled = none) (e0 : Env0 P w K mg base A outer s H) (hl : vs.length = ps.length) (r : Vals vs us)
    (x : InCallC s s.heap.objs.size (bindL (envOfC qual scope s.heap.objs.size f cd).kindOf (ps.zip us) fun _ => none) (cellsFrom (s.heap.objs.size + 1) scope.names []) (bindC (envOfC qual scope s.heap.objs.size f cd).kindOf (ps.zip us) fun _ => none) s1) :
    Inv (cxOf CX P w K mg base N qual scope f cd A outer s H E) [] (start N vs) H s1 := by
  have hpl : ps.length ≤ N.length := by have := congrArg List.length S.pre; rw [List.length_take] at this; omega
  obtain ⟨h1, tk, rfl, hk⟩ := x.done
  have noA : ∀ b : Addr, b ∉ (cxOf CX P w K mg base N qual scope f cd A outer s H E).ex := fun b z => absurd (show b ∈ ([] : List Addr) from z) (by simp)
  refine ⟨⟨e0.mod, S.kind, rfl, rfl, Nat.le_refl _, fun y z c h1 h2 => ?_, fun y hy => ?_, fun y c _ h => ?_, fun _ => hd, Around.frames_deeper e0.frames, .inr ⟨rfl, rfl⟩, fun b z => absurd z (noA b), e0.bs, e0.bsz, fun b _ _ => noA b, fun b z => absurd z (noA b), e0.funs, e0.frf⟩,
    rfl, e0.bare, Un.kept hk, ⟨_, x.toInCall.ns, fun i y v h1 h2 h3 => ?_⟩, fun y c h => ⟨_, x.cell y c h⟩, e0.hok.fresh (Nat.le_refl _), fun y c h => ?_, fun p hp => absurd (show p ∈ ([] : List (Addr × Obj)) from hp) (by simp), e0.hok.kept hk, ?_⟩
  · exact name_of_addr x.apart (PySem.mem_of_lookup h1) (PySem.mem_of_lookup h2)
  · have hy : scope.names.lookup y = some .cell ∨ scope.names.lookup y = some .free := hy
    rcases hy with hy | hy
    · exact cell_has hy
    · exact absurd rfl (S.nofree _ (PySem.mem_of_lookup hy))
  · exact Nat.le_of_lt (x.above y c (PySem.mem_of_lookup h))
  · have hi : i < vs.length := by
      unfold start at h2
      by_cases hi : i < vs.length
      · exact hi
      · rw [List.getElem?_append_right (by simpa using hi)] at h2
        rw [List.getElem?_replicate] at h2
        split at h2 <;> cases h2
    have ha : vs[i]? = some v := by
      unfold start at h2
      rw [List.getElem?_append_left (by simpa using hi), List.getElem?_map] at h2
      cases e : vs[i]? with
      | none => rw [e] at h2; cases h2
      | some a => rw [e] at h2; cases h2; rfl
    obtain ⟨u, hu, rv⟩ := r.get ha
    have hp : ps[i]? = some y := by
      rw [← S.pre, List.getElem?_take_of_lt (by omega)]; exact h1
    have ndP : ps.Nodup := by rw [← S.pre]; exact S.nd.sublist (List.take_sublist _ _)
    refine ⟨u, rv, ?_⟩
    rcases S.par y (List.mem_of_getElem? hp) with k | k
    · exact .inl ⟨k, bindL_get ndP hp hu k⟩
    · obtain ⟨c, e⟩ := cell_has (n := s.heap.objs.size + 1) k
      refine .inr ⟨.inl k, c, e, ?_⟩
      have q := x.cell y c e
      rw [bindC_get ndP hp hu (by show scope.names.lookup y ≠ _; rw [k]; decide)] at q
      exact q
  · exact e0.hok.fresh (Nat.le_of_lt (x.above y c (PySem.mem_of_lookup h)))
  · unfold start
    show _ = N.length
    rw [List.length_append, List.length_map, List.length_replicate]
    omega

/-- THE RULE: a def (or a method) of the text, by its body. The body's reading t is chosen for each entry; it is run at the parameters' values -/
theorem fn_of {CX : CXT} {P : Program} {w : World} {K : PySem.W.Frag} {mg : Str → Option Value} {base : Heap} {k : Nat} {f : Addr} {name qual : Str} {params : Arguments} {body : List Stmt} {scope : Scope} {dV kV doc pm cdv ct oc : Value} {an od : Option Addr}
    {osl : Array (Option Value)} {N ps : List Str} {sp : Sp} (lk : K.lookup f = some ⟨oc, od, .func (PySem.W.fnOf name qual params body scope dV kV doc pm an cdv ct), osl⟩) (hcd : PySem.W.codeIn K cdv qual = true) (S : FnScope N ps scope)
    (len : ∀ vs H Q E, sp vs H Q E → vs.length = ps.length)
    (hbody : ∀ (A : Around) (outer : List Env) (s : Shared) (H : Hp) (vs : List V) (Q : VK) (E : XK), Room k (A.deeper (envOfC qual scope s.heap.objs.size f cdv)) → sp vs H Q E →
      ∃ t, PSs (cxOf CX P w K mg base N qual scope f cdv A outer s H E) body t ∧ t { nx := fun _ H' => Q .non H', rt := Q } (start N vs) H) :
    FnOk P w K mg base CX (k + 1) f (PySem.W.fnOf name qual params body scope dV kV doc pm an cdv ct) ps sp := by
  refine ⟨len, fun A outer s H args us vs Q E hr e0 hb r hsp => ?_⟩
  have hl := len _ _ _ _ hsp
  have KX : K.In s.heap := e0.mod.kin.keeps fun b o e => (e0.bs b o e).1
  have lim : s.heap.NoLimit := e0.mod.nolimit.keeps fun b o e => (e0.bs b o e).1
  have hkind : ∀ y ∈ ps.zip us, scope.names.lookup y.1 = some .local ∨ (scope.names.lookup y.1 = some .cell ∧ ((cellsFrom (s.heap.objs.size + 1) scope.names []).lookup y.1).isSome = true) := fun ⟨n, v⟩ hy => by
    rcases S.par n (List.of_mem_zip hy).1 with q | q
    · exact .inl q
    · exact .inr ⟨q, PySem.W.cellsFrom_some _ _ _ (.inl q)⟩
  refine codeAny_call_function hr.depth (KX _ _ lk) rfl S.co S.gen rfl (PySem.W.codeRec_of KX hcd) (hb _ _ _ _ ?_)
  refine wpAny_newFunctionEnv_cells S.kind hkind fun env he s1 x => ?_
  subst he
  refine ⟨lim.keeps x.toInCall.keep, codeAny_func ?_⟩
  obtain ⟨t, ht, hq⟩ := hbody A outer s H vs Q E (hr.deeper _) hsp
  have I : Inv (cxOf CX P w K mg base N qual scope f cdv A outer s H E) [] (start N vs) H s1 := inv_start S hr.hd e0 hl r x
  refine wpAny_mono (ht [] s1 (start N vs) H _ I hq) (fun fl s' hs => ?_) fun e s' hs => hs
  have fin : ∀ {σ' : St} {H' : Hp} {v : V} {u : Value}, Inv (cxOf CX P w K mg base N qual scope f cdv A outer s H E) [] σ' H' s' → RelV v u → Q v H' → CE outer P w H s Q u s' :=
    fun {σ' H' v u} J rv q => ⟨v, H', J.os, J.bare, J.base, J.hok, rv, q⟩
  cases fl with
  | ret u =>
    obtain ⟨v, σ', H', J, rv, q⟩ := hs
    exact fin J rv q
  | next =>
    obtain ⟨σ', H', J, q⟩ := hs
    exact fin (v := V.non) (u := Value.none) J rfl q
  | brk =>
    obtain ⟨_, _, _, q⟩ := hs
    exact False.elim q
  | cont =>
    obtain ⟨_, _, _, q⟩ := hs
    exact False.elim q
end L2

namespace L2
open PySem PySem.Spec PyProof.Rows
section
variable {X : Cx} {x : Str} {p pos : Pos} {e : Expr} {es : List Expr} {t : TA} {id T : String} {r : List V → Hp → VK → Prop}

def tCB (r : List V → Hp → VK → Prop) (t : TA) : TE := fun σ H Q => t σ H fun vs H1 => r vs H1 Q
/-- f(e, ..), f a built-in function -/
theorem pe_callB (hc : CallR X (.builtin id) r) (hg : Gl X x) (hm : X.mg x = none) (hv : bootBuiltins x = some (.builtin id)) (ha : PA X (e :: es) t) (hn : x ≠ "__name__" := by decide) (hdb : (x == ("__debug__" : Str)) = false := by decide)
    (he : starEach (e :: es) X.env = (false, eval e X.env) :: starEach es X.env := by rfl) (hpl : (backTo pos (starEach es X.env)).any (·.1) = false := by rfl) : PE X (.Call (.Name x p) (e :: es) [] pos) (tCB r t) := by
  intro pins s σ H Q I h
  refine wpAny_Call_Name_kw (ld_blt I hg hm hv ?_ hn hdb)
  exact PyProof.Rows.callWith_builtin1 (thn (ha pos pins s σ H _ I h) fun us s1 ⟨vs, H1, I1, r1, q1⟩ => hc pins s1 σ H1 vs us Q I1 r1 q1) he hpl
/-- T(e, ..), T a built-in type -/
theorem pe_callTy (hc : CallR X (.type T) r) (hg : Gl X x) (hm : X.mg x = none) (hv : bootBuiltins x = some (.type T)) (ha : PA X (e :: es) t) (hn : x ≠ "__name__" := by decide) (hdb : (x == ("__debug__" : Str)) = false := by decide)
    (he : starEach (e :: es) X.env = (false, eval e X.env) :: starEach es X.env := by rfl) (hpl : (backTo pos (starEach es X.env)).any (·.1) = false := by rfl) : PE X (.Call (.Name x p) (e :: es) [] pos) (tCB r t) := by
  intro pins s σ H Q I h
  refine wpAny_Call_Name_kw (ld_blt I hg hm hv ?_ hn hdb)
  exact PyProof.Rows.callWith_type1 (thn (ha pos pins s σ H _ I h) fun us s1 ⟨vs, H1, I1, r1, q1⟩ => hc pins s1 σ H1 vs us Q I1 r1 q1) he hpl
end
end L2

namespace HT
open PySem PyProof.Rows

/-- t < u of tuples of ints -/
def lexLt : List Int → List Int → Bool
  | [], [] => false
  | [], _ :: _ => true
  | _ :: _, [] => false
  | x :: xs, y :: ys => if x = y then lexLt xs ys else decide (x < y)
section
open PySem.SeqAt
open PySem.AutoSeq1 (wpAny_loadPart')
open PySem.MeetsSeq PySem.MeetsSeq2 PySem.MeetsSeq3

end

section
variable {prog : Program} {w : World} {A : Around} {E : Value → Shared → Prop} {s : Shared}

/-! ### t[a:b], not the whole -/
/-- a slice's bound as a place among n (d where it is left out) -/
def sIx (n d : Nat) : Option Int → Nat
  | none => d
  | some v => if v < 0 then (v + (n : Int)).toNat else min v.toNat n
theorem sIx_none (n d : Nat) : sIx n d none = d := rfl
theorem sIx_nat (n d k : Nat) : sIx n d (some (k : Int)) = min k n := by
  show (if (k : Int) < 0 then ((k : Int) + (n : Int)).toNat else min (k : Int).toNat n) = min k n
  rw [if_neg (by omega), Int.toNat_natCast]
end
end HT

namespace L2
open PySem PySem.Spec PyProof.Rows

/-! ### the parts of a slice -/
abbrev TO := St → Hp → (Option Int → Hp → Prop) → Prop
/-- a slice's part (left out, or an int) -/
def PO (X : Cx) (e : Option Expr) (t : TO) : Prop :=
  ∀ (pins : List (Addr × Obj)) (s : Shared) (σ : St) (H : Hp) (Q : Option Int → Hp → Prop), Inv X pins σ H s → t σ H Q →
    wpAny (model X.prog X.w) X.A (evalPart e X.env) (fun u s' => ∃ o H', Inv X pins σ H' s' ∧ IsPart u o ∧ Q o H') X.xe s
def tNoPart : TO := fun _ H Q => Q none H
def tPart (t : TE) : TO := fun σ H Q => t σ H fun x H1 => ∃ i, x = .int i ∧ Q (some i) H1

section
variable {X : Cx} {e : Expr} {te : TE} {lo hi : Option Expr} {tl th : TO} {pos p2 : Pos}

theorem po_none : PO X none tNoPart := by
  intro pins s σ H Q I h
  rw [evalPart_none]
  exact wpAny_pure ⟨none, H, I, .none, h⟩
theorem po_some (h : PE X e te) : PO X (some e) (tPart te) := by
  intro pins s σ H Q I hw
  rw [evalPart_some]
  refine thn (h pins s σ H _ I hw) fun u s1 ⟨x, H1, I1, r1, q1⟩ => ?_
  obtain ⟨i, rfl, q⟩ := q1
  obtain ⟨t, rfl⟩ := r1
  exact ⟨some i, H1, I1, .int i t, q⟩

/-- what a slice of a value is, by values: the slice object stands at sl -/
def SlR (X : Cx) (r : V → Option Int → Option Int → Hp → VK → Prop) : Prop :=
  ∀ (pins : List (Addr × Obj)) (s : Shared) (σ : St) (H : Hp) (x : V) (v vl vu : Value) (lo hi : Option Int) (sl : Addr) (Q : VK), Inv X pins σ H s → RelV x v → s.heap.IsSliceOf sl vl vu .none → IsPart vl lo → IsPart vu hi → r x lo hi H Q →
    ∃ T id, typeLookup (.type T) "__getitem__" = pure (some (.builtin id)) ∧ s.TypeIs v T ∧ wpAny (model X.prog X.w) X.A (getItem v (.ref sl)) (EP X pins σ Q) X.xe s
def tSl (r : V → Option Int → Option Int → Hp → VK → Prop) (te : TE) (tl th : TO) : TE := fun σ H Q => te σ H fun x H1 => tl σ H1 fun l H2 => th σ H2 fun u H3 => r x l u H3 Q
/-- a[lo:hi], any a -/
theorem pe_slice {r : V → Option Int → Option Int → Hp → VK → Prop} (hr : SlR X r) (he : PE X e te) (hl : PO X lo tl) (hu : PO X hi th) : PE X (.Subscript e (.Slice lo hi none p2) pos) (tSl r te tl th) := by
  intro pins s σ H Q I h
  refine Subscript_ (thn (he pins s σ H _ I h) fun v s1 ⟨x, H1, I1, r1, q1⟩ => ?_)
  refine wpAny_Slice (thn (hl pins s1 σ H1 _ I1 q1) fun vl s2 ⟨l, H2, I2, pl, q2⟩ => thn (hu pins s2 σ H2 _ I2 q2) fun vu s3 ⟨u, H3, I3, pu, q3⟩ => ?_)
  rw [evalPart_none]
  refine wpAny_pure ?_
  have I4 : Inv X pins σ H3 { s3 with heap := s3.heap.push { cls := .type "slice", data := .fields #[vl, vu, .none] } } := I3.kept (t' := s3.toks) fun b ob q => Heap.get?_push_of_some _ q
  obtain ⟨T, id, hT, ht, hg⟩ := hr pins { s3 with heap := s3.heap.push { cls := .type "slice", data := .fields #[vl, vu, .none] } } σ H3 x v vl vu l u s3.heap.objs.size Q I4 r1 (Heap.IsSliceOf.new ..) pl pu q3
  show wpAny (model X.prog X.w) X.A (subscriptTail e (.Slice lo hi none p2) v (.ref s3.heap.objs.size)) (EP X pins σ Q) X.xe { s3 with heap := s3.heap.push { cls := .type "slice", data := .fields #[vl, vu, .none] } }
  exact tail_any (ops := [.ref s3.heap.objs.size, v]) ht hT hg (by with_unfolding_all rfl)

/-- the items of xs[lo:hi] -/
def cutV (xs : List V) (lo hi : Option Int) : List V := (xs.drop (HT.sIx xs.length 0 lo)).take (HT.sIx xs.length xs.length hi - HT.sIx xs.length 0 lo)
theorem cutV_length (xs : List V) (lo hi : Option Int) : (cutV xs lo hi).length ≤ xs.length := by
  unfold cutV
  rw [List.length_take, List.length_drop]
  omega
/-- t[lo:hi], not the whole of it (the whole would be t itself) -/
def rSlT (K : PySem.W.Frag) : V → Option Int → Option Int → Hp → VK → Prop := fun x lo hi H Q => ∃ a xs, x = .ref a ∧ SqT K H a xs ∧
  ¬ (HT.sIx xs.length 0 lo = 0 ∧ HT.sIx xs.length xs.length hi = xs.length) ∧ ∀ p, H p = none → Q (.ref p) (upd H p (.tup (cutV xs lo hi)))
/-! ### t < u, t + u -/
def rLtT (K : PySem.W.Frag) : R2 := fun x y H Q => ∃ a b ns ms, x = .ref a ∧ y = .ref b ∧ SqT K H a (ns.map V.int) ∧ SqT K H b (ms.map V.int) ∧ Q (.bl (HT.lexLt ns ms)) H
/-- t + u, t not empty: u empty gives t itself -/
def rCatT (K : PySem.W.Frag) : R2 := fun x y H Q => ∃ a b xs ys, x = .ref a ∧ y = .ref b ∧ SqT K H a xs ∧ SqT K H b ys ∧ xs ≠ [] ∧ xs.length + ys.length ≤ sizeLine ∧
  (ys = [] → Q (.ref a) H) ∧ (ys ≠ [] → ∀ p, H p = none → Q (.ref p) (upd H p (.tup (xs ++ ys))))
end
end L2

namespace L2
open PySem PySem.Spec PyProof.Rows

/-! ### places -/
/-- the place that an index of any sign means -/
def ixN (n : Nat) (i : Int) : Option Nat := if 0 ≤ i then (if i < n then some i.toNat else none) else if -(n : Int) ≤ i then some (i + n).toNat else none
def atI {α : Type} (xs : List α) (i : Int) : Option α := (ixN xs.length i).bind fun j => xs[j]?
theorem ixN_seq {n : Nat} {i : Int} {j : Nat} (h : ixN n i = some j) : seqIndex? i n = some j ∧ j < n ∧ -(n : Int) ≤ i ∧ i < n := by
  unfold ixN at h
  by_cases h0 : 0 ≤ i
  · rw [if_pos h0] at h
    by_cases h1 : i < n
    · rw [if_pos h1] at h
      have e : i.toNat = j := Option.some.inj h
      exact ⟨by rw [seqIndex_of h0 h1, e], by omega, by omega, h1⟩
    · rw [if_neg h1] at h; cases h
  · rw [if_neg h0] at h
    by_cases h1 : -(n : Int) ≤ i
    · rw [if_pos h1] at h
      have e : (i + n).toNat = j := Option.some.inj h
      exact ⟨by rw [seqIndex_neg (by omega) h1, e], by omega, h1, by omega⟩
    · rw [if_neg h1] at h; cases h
theorem atI_get {α : Type} {xs : List α} {i : Int} {v : α} (h : atI xs i = some v) : ∃ j, seqIndex? i xs.length = some j ∧ xs[j]? = some v ∧ j < xs.length ∧ -(xs.length : Int) ≤ i ∧ i < xs.length := by
  unfold atI at h
  cases e : ixN xs.length i with
  | none => rw [e] at h; cases h
  | some j =>
    rw [e] at h
    obtain ⟨h1, h2, h3, h4⟩ := ixN_seq e
    exact ⟨j, h1, h, h2, h3, h4⟩
theorem atI_nat {α : Type} {xs : List α} {j : Nat} {v : α} (h : xs[j]? = some v) : atI xs (j : Int) = some v := by
  have hj : j < xs.length := (List.getElem?_eq_some_iff.mp h).1
  have e : ixN xs.length (j : Int) = some j := by
    unfold ixN
    rw [if_pos (by omega), if_pos (by omega)]; simp
  unfold atI; rw [e]; exact h
/-! ### what may be subscripted -/
/-- what stands as an index of a plain subscript -/
def PlainIx (b : Expr) : Prop := ∀ o i, subscripted b false o i = operate [o, i] (getItem o i)
/-- a subscript by values -/
def IxR (X : Cx) (r : R2) : Prop :=
  ∀ (value slice : Expr) (pins : List (Addr × Obj)) (s : Shared) (σ : St) (H : Hp) (x y : V) (v u : Value) (Q : VK), Inv X pins σ H s → RelV x v → RelV y u → r x y H Q →
    subscripted slice false v u = operate [v, u] (getItem v u) → wpAny (model X.prog X.w) X.A (subscriptTail value slice v u) (EP X pins σ Q) X.xe s
/-- a call of a builtin's method by values: the receiver, the arguments -/
def MtR (X : Cx) (id : String) (r : V → List V → Hp → VK → Prop) : Prop :=
  ∀ (pins : List (Addr × Obj)) (s : Shared) (σ : St) (H : Hp) (x : V) (xs : List V) (v : Value) (us : List Value) (Q : VK), Inv X pins σ H s → RelV x v → Vals xs us → r x xs H Q →
    wpAny (model X.prog X.w) X.A (call (.builtin id) (v :: us)) (EP X pins σ Q) X.xe s
section
variable {X : Cx} {a b : Expr} {ta tb : TE} {pos : Pos}
theorem IxR.or {r r' : R2} (h : IxR X r) (h' : IxR X r') : IxR X (fun x y H Q => r x y H Q ∨ r' x y H Q) := by
  intro value slice pins s σ H x y v u Q I rx ry q hs
  rcases q with q | q
  · exact h value slice pins s σ H x y v u Q I rx ry q hs
  · exact h' value slice pins s σ H x y v u Q I rx ry q hs
/-- a[b] -/
theorem pe_ix {r : R2} (hr : IxR X r) (ha : PE X a ta) (hb : PE X b tb) (hs : PlainIx b) : PE X (.Subscript a b pos) (tOp r ta tb) := by
  intro pins s σ H Q I h
  exact Subscript_ (binT ha hb I h fun v u s2 x y H2 I2 rx ry q => hr a b pins s2 σ H2 x y v u Q I2 rx ry q (hs _ _))

def rIxL (K : PySem.W.Frag) : R2 := fun x y H Q => ∃ p xs i v, x = .ref p ∧ y = .int i ∧ SqL K H p xs ∧ atI xs i = some v ∧ Q v H
def rIxT (K : PySem.W.Frag) : R2 := fun x y H Q => ∃ p xs i v, x = .ref p ∧ y = .int i ∧ SqT K H p xs ∧ atI xs i = some v ∧ Q v H
def rIxS : R2 := fun x y H Q => ∃ z i c, x = .str z ∧ y = .int i ∧ z.length ≤ sizeLine ∧ atI z.cps.toList i = some c ∧ Q (.str ⟨#[c]⟩) H
theorem ix_list : IxR X (rIxL X.K) := by
  intro value slice pins s σ H x y v u Q I rx ry h hs
  obtain ⟨p, xs, i, z, rfl, rfl, hq, he, q⟩ := h
  cases rx
  obtain ⟨t, rfl⟩ := ry
  obtain ⟨its, r, pl, hz⟩ := I.list hq
  obtain ⟨j, h1, h2, h3, h4, h5⟩ := atI_get he
  obtain ⟨w, ew, rw'⟩ := r.get h2
  have hl := r.length
  have hn := line63
  have fin : EP X pins σ Q w s := ⟨z, H, I, rw', q⟩
  by_cases h0 : 0 ≤ i
  · have hj : i.toNat = j := by
      rw [seqIndex_of h0 h5] at h1
      exact Option.some.inj h1
    exact item_listR pl.isList h0 (by omega) (by rw [hj]; simpa using ew) fin hs
  · have hj : (i + (its.toArray.size : Int)).toNat = j := by
      rw [seqIndex_neg (by omega) h4] at h1
      rw [List.size_toArray, ← hl]
      exact Option.some.inj h1
    exact subscriptTail_builtinR (x := w) pl.isList.typeIs slot_list_getitem.lookup
      (wpAny_getItem_list_neg (Q := fun r s' => r = w ∧ EP X pins σ Q r s') pl.isList (by omega) (by rw [List.size_toArray] <;> omega) (by omega) (by rw [hj]; simpa using ew) ⟨rfl, fin⟩) hs
theorem ix_tup : IxR X (rIxT X.K) := by
  intro value slice pins s σ H x y v u Q I rx ry h hs
  obtain ⟨p, xs, i, z, rfl, rfl, hq, he, q⟩ := h
  cases rx
  obtain ⟨t, rfl⟩ := ry
  obtain ⟨its, r, pl, hz⟩ := I.tuple hq
  obtain ⟨j, h1, h2, h3, h4, h5⟩ := atI_get he
  obtain ⟨w, ew, rw'⟩ := r.get h2
  have hl := r.length
  have hn := line63
  have fin : EP X pins σ Q w s := ⟨z, H, I, rw', q⟩
  exact subscriptTail_builtinR (x := w) pl.typeIs slot_tuple_getitem.lookup
    (getItem_tuple (j := j) (Q := fun r s' => r = w ∧ EP X pins σ Q r s') pl (by omega) (by omega) (by rw [List.size_toArray, ← hl]; exact h1) (by simpa using ew) ⟨rfl, fin⟩) hs
theorem ix_str : IxR X rIxS := by
  intro value slice pins s σ H x y v u Q I rx ry h hs
  obtain ⟨z, i, c, rfl, rfl, hz, he, q⟩ := h
  obtain ⟨t, rfl⟩ := rx
  obtain ⟨t', rfl⟩ := ry
  obtain ⟨j, h1, h2, h3, h4, h5⟩ := atI_get he
  have hl : z.cps.toList.length = z.length := by simp [Str.length]
  rw [hl] at h1 h4 h5
  have hn := line63
  exact tail_any (typeIs_str s z t) slot_str_getitem.lookup (getItem_str (c := c) (by
    have e1 : decide (i < -(2 ^ 63 : Int)) = false := decide_eq_false (by omega)
    have e2 : decide (i ≥ 2 ^ 63) = false := decide_eq_false (by omega)
    rw [e1, e2, Bool.or_false]) (by rw [h1]; simpa using h2) ⟨.str ⟨#[c]⟩, H, I.tok _, ⟨_, rfl⟩, q⟩) hs
/-- list, tuple or str -/
def rIx (K : PySem.W.Frag) : R2 := fun x y H Q => rIxL K x y H Q ∨ rIxT K x y H Q ∨ rIxS x y H Q
theorem ix_seq : IxR X (rIx X.K) := ix_list.or (ix_tup.or ix_str)

/-! ### xs[i] = v, any sign -/
/-- the list's object behind a store -/
theorem mapSeq_set (its : List Value) (n j : Nat) (u : Value) : Obj.mapSeq (·.setIfInBounds j u) { cls := .type "list", data := .seq its.toArray n } = { cls := .type "list", data := .seq (its.set j u).toArray n } := by
  simp [Obj.mapSeq]
theorem Inv.lst {pins : List (Addr × Obj)} {σ : St} {H : Hp} {s : Shared} {p : Addr} {xs : List V} (I : Inv X pins σ H s) (h : H p = some (.lst xs)) :
    ∃ (its : List Value) (n : Nat), Vals xs its ∧ s.heap.get? p = some { cls := .type "list", data := .seq its.toArray n } ∧ xs.length ≤ sizeLine := by
  obtain ⟨z, its, n, r, e⟩ := I.hok p _ h
  exact ⟨its, n, r, e, z⟩
/-- the list at p is written by an update of its object -/
theorem Inv.lstUpd {pins : List (Addr × Obj)} {σ : St} {H : Hp} {s : Shared} {p : Addr} {xs ys : List V} {its its' : List Value} {n n' : Nat} {f : Obj → Obj} (I : Inv X pins σ H s) (h : H p = some (.lst xs))
    (ho : s.heap.get? p = some { cls := .type "list", data := .seq its.toArray n }) (hf : f { cls := .type "list", data := .seq its.toArray n } = { cls := .type "list", data := .seq its'.toArray n' }) (r : Vals ys its') (hz : ys.length ≤ sizeLine) (t : Nat) :
    Inv X pins σ (upd H p (.lst ys)) { s with heap := s.heap.update p f, toks := t } := by
  have e : (s.heap.update p f).get? p = some { cls := .type "list", data := .seq its'.toArray n' } := by
    rw [Heap.get?_update_self f ho (by rw [hf] <;> rfl), hf]
  refine I.write (x := p) (e := p) (by rw [h]; trivial) (.inl rfl) (fun b u hb q => (Heap.get?_update_other _ _ (Ne.symm hb)).trans q) ⟨_, e⟩ ?_
  exact ⟨hz, its', n', r, e⟩
def rSetL : V → V → V → Hp → (Hp → Prop) → Prop := fun o i v H Q => ∃ p xs k j, o = .ref p ∧ i = .int k ∧ H p = some (.lst xs) ∧ ixN xs.length k = some j ∧ Q (upd H p (.lst (xs.set j v)))
theorem set_list : PSet X rSetL := by
  intro pins s σ H o i v ov iv u Q I ro ri rv h
  obtain ⟨p, xs, k, j, rfl, rfl, hp, hj, q⟩ := h
  cases ro
  obtain ⟨t, rfl⟩ := ri
  obtain ⟨its, n, r, ho, hz⟩ := I.lst hp
  obtain ⟨h1, h2, h3, h4⟩ := ixN_seq hj
  have hl := r.length
  have hn := line63
  have I' : Inv X pins σ (upd H p (.lst (xs.set j v))) { s with heap := s.heap.update p (Obj.mapSeq (·.setIfInBounds j u)) } :=
    I.lstUpd hp ho (mapSeq_set its n j u) (r.set rv j) (by rw [List.length_set]; exact hz) s.toks
  by_cases h0 : 0 ≤ k
  · have hk : k.toNat = j := by
      rw [seqIndex_of h0 h4] at h1
      exact Option.some.inj h1
    exact PySem.W.ki_setAt ho h0 (by omega) (by rw [List.size_toArray, ← hl]; exact h4) (by rw [hk]; exact ⟨_, I', q⟩)
  · have hk : (k + (its.toArray.size : Int)).toNat = j := by
      rw [seqIndex_neg (by omega) h3] at h1
      rw [List.size_toArray, ← hl]
      exact Option.some.inj h1
    exact PySem.W.ki_setBack ho (by omega) (by rw [List.size_toArray, ← hl]; exact h3) (by omega) (by rw [hk]; exact ⟨_, I', q⟩)

/-! ### slices -/
theorem slice_bounds (lo hi : Option Int) (n : Nat) : (sliceBounds lo hi none n).1 = ((HT.sIx n 0 lo : Nat) : Int) ∧ (sliceBounds lo hi none n).2.1 = ((HT.sIx n n hi : Nat) : Int) ∧ (sliceBounds lo hi none n).2.2 = 1 := by
  refine ⟨?_, ?_, rfl⟩
  · cases lo with
    | none => simp [sliceBounds, HT.sIx]
    | some i =>
      simp only [sliceBounds, HT.sIx, Option.getD_none, show (1 : Int) > 0 by decide, if_true]
      by_cases h : i < 0
      · simp only [h, if_true] <;> omega
      · simp only [h, if_false] <;> omega
  · cases hi with
    | none => simp [sliceBounds, HT.sIx]
    | some i =>
      simp only [sliceBounds, HT.sIx, Option.getD_none, show (1 : Int) > 0 by decide, if_true]
      by_cases h : i < 0
      · simp only [h, if_true] <;> omega
      · simp only [h, if_false] <;> omega
theorem slicePick_cut (its : List Value) (lo hi : Option Int) : slicePick its.toArray lo hi none = ((its.drop (HT.sIx its.length 0 lo)).take (HT.sIx its.length its.length hi - HT.sIx its.length 0 lo)).toArray := by
  obtain ⟨h1, h2, h3⟩ := slice_bounds lo hi its.toArray.size
  unfold slicePick
  rw [h1, h2, h3]
  simp only [sliceRange_one, pick_run, List.size_toArray] <;> rfl
/-- xs[lo:hi] of a list: a new list -/
def rSlL (K : PySem.W.Frag) : V → Option Int → Option Int → Hp → VK → Prop := fun x lo hi H Q => ∃ a xs, x = .ref a ∧ SqL K H a xs ∧ ∀ p, H p = none → Q (.ref p) (upd H p (.lst (cutV xs lo hi)))
theorem sl_list : SlR X (rSlL X.K) := by
  intro pins s σ H x v vl vu lo hi sl Q I rx hs pl pu h
  obtain ⟨a, xs, rfl, hx, q⟩ := h
  cases rx
  obtain ⟨its, r, ht, hz⟩ := I.list hx
  have hlen := r.length
  refine ⟨"list", _, slot_list_getitem.lookup, ht.isList.typeIs, ?_⟩
  refine wpAny_getItem_list_slice ht.isList hs pl pu .none (by simp) ?_ (by rw [List.size_toArray] <;> omega)
  rw [slicePick_cut, ← hlen]
  refine ⟨.ref s.heap.objs.size, _, I.laid (t' := s.toks) (o := .lst (cutV xs lo hi)) (fun b ob q => Heap.get?_push_of_some _ q) (Nat.le_refl _) ?_, rfl, q _ (I.hok.fresh (Nat.le_refl _))⟩
  exact ⟨Nat.le_trans (cutV_length xs lo hi) hz, _, 0, (r.drop (HT.sIx xs.length 0 lo)).take (HT.sIx xs.length xs.length hi - HT.sIx xs.length 0 lo), Heap.get?_push_size _ rfl⟩

/-! ### in, not in: flat items -/
def flatV : V → Bool
  | .non => true
  | .bl _ => true
  | .int _ => true
  | .str _ => true
  | _ => false
/-- == of flat values -/
def eqV : V → V → Bool
  | .non, .non => true
  | .bl a, .bl b => a == b
  | .bl a, .int b => (if a then 1 else 0) == b
  | .int a, .bl b => a == (if b then 1 else 0)
  | .int a, .int b => a == b
  | .str a, .str b => a == b
  | _, _ => false
/-- the items' answers, read off the values (a value's own answer does not lean on its token) -/
def eqU (x : V) (u : Value) : Bool := match u with
  | .none => eqV .non x
  | .bool b => eqV (.bl b) x
  | .int i _ => eqV (.int i) x
  | .str z _ => eqV (.str z) x
  | _ => false
def inV (x : V) (xs : List V) : Bool := xs.any fun y => eqV y x
/-- x in a list or tuple of flat items -/
def rIn (K : PySem.W.Frag) (neg : Bool) : R2 := fun x y H Q => ∃ p xs, y = .ref p ∧ (SqL K H p xs ∨ SqT K H p xs) ∧ flatV x = true ∧ xs.all flatV = true ∧ Q (.bl (if neg then !inV x xs else inV x xs)) H
/-! ### len, list(x), tuple(x) of any list or tuple that is read -/
theorem call_len_seq : CallR X (.builtin "len") (fun xs H Q => ∃ p ys, xs = [.ref p] ∧ (SqL X.K H p ys ∨ SqT X.K H p ys) ∧ Q (.int ys.length) H) := by
  intro pins s σ H xs us Q I r h
  obtain ⟨p, ys, rfl, hq, q⟩ := h
  obtain ⟨u, rfl, rx⟩ := vals1 r
  cases rx
  have hn := line63
  rcases hq with hq | hq
  · obtain ⟨its, r', pl, hz⟩ := I.list hq
    have hlen := r'.length
    exact Calls.call_len_list pl.isList (by simp only [List.size_toArray] <;> omega) ⟨.int ys.length, H, I.tok _, ⟨s.toks + 1, by rw [List.size_toArray, hlen]⟩, q⟩
  · obtain ⟨its, r', pl, hz⟩ := I.tuple hq
    have hlen := r'.length
    exact len_tuple pl (by simp only [List.size_toArray] <;> omega) ⟨.int ys.length, H, I.tok _, ⟨s.toks + 1, by rw [List.size_toArray, hlen]⟩, q⟩
theorem call_list_of : CallR X (.type "list") (fun xs H Q => ∃ p ys, xs = [.ref p] ∧ (SqL X.K H p ys ∨ SqT X.K H p ys) ∧ ∀ l, H l = none → Q (.ref l) (upd H l (.lst ys))) := by
  intro pins s σ H xs us Q I r h
  obtain ⟨p, ys, rfl, hq, q⟩ := h
  obtain ⟨u, rfl, rx⟩ := vals1 r
  cases rx
  have fin : ∀ (its : List Value), Vals ys its → ys.length ≤ sizeLine → ∀ (h' : Heap) (c' : Nat), (∀ b o', s.heap.get? b = some o' → h'.get? b = some o') →
      h'.get? s.heap.objs.size = some { cls := .type "list", dict := none, data := .seq its.toArray c', slots := #[] } → EP X pins σ Q (.ref s.heap.objs.size) { s with heap := h' } := fun its r' hz h' c' kp e =>
    ⟨.ref s.heap.objs.size, _, I.laid (t' := s.toks) kp (Nat.le_refl _) (show ObjOk X.prog X.w _ h' _ (.lst ys) from ⟨hz, its, c', r', e⟩), rfl, q _ (I.hok.fresh (Nat.le_refl _))⟩
  rcases hq with hq | hq
  · obtain ⟨its, r', pl, hz⟩ := I.list hq
    have hlen := r'.length
    obtain ⟨o, ho, hc, n, hd⟩ := pl.isList
    exact call_list_seq p (.inl rfl) ho hc hd (fun h' c' kp e => fin its r' hz h' c' kp e) (by simp only [List.size_toArray] <;> omega)
  · obtain ⟨its, r', pl, hz⟩ := I.tuple hq
    have hlen := r'.length
    obtain ⟨o, ho, hc, n, hd⟩ := pl
    exact call_list_seq p (.inr rfl) ho hc hd (fun h' c' kp e => fin its r' hz h' c' kp e) (by simp only [List.size_toArray] <;> omega)
/-! ### the call of a builtin's method: o.m(..) -/
/-- the value is of that builtin type -/
def tyV (K : PySem.W.Frag) (T : String) (x : V) (H : Hp) : Prop := match x with
  | .str _ => T = "str"
  | .int _ => T = "int"
  | .ref p => (T = "list" ∧ ∃ xs, SqL K H p xs) ∨ (T = "tuple" ∧ ∃ o, K.lookup p = some o ∧ o.cls = .type "tuple" ∧ o.dict = none) ∨
      (T = "dict" ∧ ((∃ kvs, H p = some (.dK kvs)) ∨ ∃ kvs, H p = some (.dT kvs))) ∨ (T = "set" ∧ ∃ S n, H p = some (.set S n))
  | _ => False
theorem tyV_is {pins : List (Addr × Obj)} {σ : St} {H : Hp} {s : Shared} {T : String} {x : V} {v : Value} (I : Inv X pins σ H s) (r : RelV x v) (ty : tyV X.K T x H) :
    s.TypeIs v T ∧ ∀ a, v = .ref a → ∃ ob, s.heap.get? a = some ob ∧ ob.dict = none := by
  cases x with
  | str z =>
    obtain ⟨t, rfl⟩ := r
    cases (show T = "str" from ty)
    exact ⟨typeIs_str s z t, fun _ e => nomatch e⟩
  | int i =>
    obtain ⟨t, rfl⟩ := r
    cases (show T = "int" from ty)
    exact ⟨typeIs_int s i t, fun _ e => nomatch e⟩
  | ref p =>
    cases r
    rcases ty with ⟨rfl, xs, hq⟩ | ⟨rfl, o, hk, hc, hd⟩ | ⟨rfl, hk⟩ | ⟨rfl, S, n, hk⟩
    · obtain ⟨its, _, pl, _⟩ := I.list hq
      refine ⟨pl.isList.typeIs, fun a e => ?_⟩
      cases e
      obtain ⟨o, n, e, c, hd, _⟩ := pl
      exact ⟨o, e, hd⟩
    · refine ⟨⟨o, I.kIn p o hk, hc⟩, fun a e => ?_⟩
      cases e
      exact ⟨o, I.kIn _ o hk, hd⟩
    · have z : ∃ o, s.heap.get? p = some o ∧ o.ExactDict := by
        rcases hk with ⟨kvs, hk⟩ | ⟨kvs, hk⟩
        · obtain ⟨_, _, _, _, o, _, _, e, ex, _⟩ := I.hok p _ hk
          exact ⟨o, e, ex⟩
        · obtain ⟨_, _, _, _, o, _, _, e, ex, _⟩ := I.hok p _ hk
          exact ⟨o, e, ex⟩
      obtain ⟨o, e, ex⟩ := z
      refine ⟨⟨o, e, ex.1⟩, fun a e2 => ?_⟩
      cases e2
      exact ⟨o, e, ex.2.1⟩
    · obtain ⟨o, _, _, _, e, ex, _⟩ := I.hok p _ hk
      refine ⟨⟨o, e, ex.1⟩, fun a e2 => ?_⟩
      cases e2
      exact ⟨o, e, ex.2.1⟩
  | _ => exact False.elim ty
def tBM0 (K : PySem.W.Frag) (T : String) (r : V → List V → Hp → VK → Prop) (to : TE) : TE := fun σ H Q => to σ H fun x H1 => tyV K T x H1 ∧ r x [] H1 Q
def tBM (K : PySem.W.Frag) (T : String) (r : V → List V → Hp → VK → Prop) (to : TE) (t : TA) : TE := fun σ H Q => to σ H fun x H1 => tyV K T x H1 ∧ t σ H1 fun xs H2 => r x xs H2 Q
variable {o e : Expr} {es : List Expr} {to : TE} {t : TA} {name : Str} {apos cpos : Pos} {T id : String} {r : V → List V → Hp → VK → Prop}
theorem pe_bm0 (pa : PlainAttrs T) (slot : Slot T name id) (hty : typeOf (.builtin id) = pure (.type "method_descriptor")) (hm : MtR X id r) (ho : PE X o to)
    (hbase : attributeBase o name X.env (eval o X.env) = eval o X.env := by rfl) (hline : (apos.endLine == cpos.line) = true := by rfl) : PE X (.Call (.Attribute o name apos) [] [] cpos) (tBM0 X.K T r to) := by
  intro pins s σ H Q I h
  refine wpAny_Call_method0_late hbase hline (thn (ho pins s σ H _ I h) fun v s1 ⟨x, H1, I1, r1, ty, q1⟩ => ?_)
  obtain ⟨h1, h2⟩ := tyV_is I1 r1 ty
  exact ⟨T, id, pa, slot, hty, h1, h2, Calls.callWith_builtin rfl (PySem.evalArgs_none (hm pins s1 σ H1 x [] v [] Q I1 r1 .nil q1))⟩
theorem pe_bm (pa : PlainAttrs T) (slot : Slot T name id) (hty : typeOf (.builtin id) = pure (.type "method_descriptor")) (hm : MtR X id r) (ho : PE X o to) (ha : PA X (e :: es) t)
    (hbase : attributeBase o name X.env (eval o X.env) = eval o X.env := by rfl)
    (hfew : ((backTo cpos (starEach (e :: es) X.env)).all (fun x => !x.1) && (backToKw cpos (keywordEach [] X.env)).all (fun x => x.1.isSome)
      && decide ((e :: es).length + ([] : List Keyword).length + (if ([] : List Keyword).isEmpty then 0 else 1) < 30)) = true := by rfl)
    (hline : (apos.endLine == cpos.line) = true := by rfl) (hs : starEach (e :: es) X.env = (false, eval e X.env) :: starEach es X.env := by rfl) (hplain : (backTo cpos (starEach es X.env)).any (·.1) = false := by rfl) :
    PE X (.Call (.Attribute o name apos) (e :: es) [] cpos) (tBM X.K T r to t) := by
  intro pins s σ H Q I h
  refine wpAny_Call_method_late hbase hfew hline rfl (thn (ho pins s σ H _ I h) fun v s1 ⟨x, H1, I1, r1, ty, q1⟩ => ?_)
  obtain ⟨h1, h2⟩ := tyV_is I1 r1 ty
  refine ⟨T, id, pa, slot, hty, h1, h2, ?_⟩
  have hA := ha cpos pins s1 σ H1 _ I1 q1
  rw [hs] at hA ⊢
  refine Calls.callWith_builtin (by show (false || (backTo cpos (starEach es X.env)).any (·.1)) = false; rw [hplain] <;> rfl) (Calls.evalArgs_plain ?_)
  exact thn hA fun us s2 ⟨vs, H2, I2, r2, q2⟩ => hm pins s2 σ H2 x vs v us Q I2 r1 r2 q2
/- xs.append(e), list.index on a module's tuple .. are MtR facts of 06m -/
end
end L2

namespace L2
open PySem PySem.Spec PyProof.Rows

def MtM (X : Cx) (id : String) (r : V → List V → Hp → VK → Prop) : Prop :=
  ∀ (pins : List (Addr × Obj)) (s : Shared) (σ : St) (H : Hp) (x : V) (xs : List V) (v : Value) (us : List Value) (Q : VK), Inv X pins σ H s → RelV x v → Vals xs us → r x xs H Q →
    wpAny (model X.prog X.w) X.A (call (.builtin id) (v :: us)) (EP X pins σ Q) X.xe s

/-! ### lists of values -/
theorem Vals.one {x : V} {us : List Value} (h : Vals [x] us) : ∃ u, us = [u] ∧ RelV x u := by
  cases h with
  | cons r q => cases q; exact ⟨_, rfl, r⟩
theorem Vals.zero : ∀ {us : List Value}, Vals [] us → us = []
  | _, .nil => rfl
theorem Vals.dropLast {xs : List V} {us : List Value} (h : Vals xs us) : Vals xs.dropLast us.dropLast := by
  induction h with
  | nil => exact .nil
  | cons r t ih =>
    cases t with
    | nil => exact .nil
    | cons q t' => exact .cons r ih
theorem Vals.eraseIdx : ∀ {xs : List V} {us : List Value} (i : Nat), Vals xs us → Vals (xs.eraseIdx i) (us.eraseIdx i)
  | _, _, _, .nil => .nil
  | _, _, 0, .cons _ t => t
  | _, _, i + 1, .cons r t => .cons r (Vals.eraseIdx i t)
theorem Vals.rep {xs : List V} {us : List Value} (h : Vals xs us) : ∀ k : Nat, Vals (List.replicate k xs).flatten (List.replicate k us).flatten
  | 0 => .nil
  | k + 1 => by
    rw [List.replicate_succ, List.replicate_succ, List.flatten_cons, List.flatten_cons]
    exact Vals.append h (Vals.rep h k)
theorem erase_last {α : Type} (l : List α) : l.eraseIdx (l.length - 1) = l.dropLast := by
  induction l with
  | nil => rfl
  | cons a r ih =>
    cases r with
    | nil => rfl
    | cons b r =>
      have e : (a :: b :: r).length - 1 = ((b :: r).length - 1) + 1 := by
        have h1 : (a :: b :: r).length = r.length + 2 := rfl
        have h2 : (b :: r).length = r.length + 1 := rfl
        omega
      rw [e, List.eraseIdx_cons_succ, ih]
      all_goals rfl
theorem foldl_rep (its : List Value) : ∀ (k : Nat) (acc : List Value),
    List.foldl (fun x1 x2 => x1 ++ x2) acc.toArray (List.replicate k its.toArray) = (acc ++ (List.replicate k its).flatten).toArray
  | 0, acc => by simp
  | k + 1, acc => by
    have e : acc.toArray ++ its.toArray = (acc ++ its).toArray := by simp
    have e2 : (acc ++ its) ++ (List.replicate k its).flatten = acc ++ (List.replicate (k + 1) its).flatten := by
      rw [List.replicate_succ, List.flatten_cons, List.append_assoc]
    rw [← e2, ← foldl_rep its k (acc ++ its), ← e, List.replicate_succ, List.foldl_cons]

section
variable {X : Cx} {pins : List (Addr × Obj)} {σ : St} {H : Hp} {s : Shared} {l b : Addr} {xs ys zs : List V}

/-! ### the two steps: a tracked list is rewritten, a new list is laid -/
theorem Inv.lset {its its' : List Value} {n : Nat} {f : Array Value → Array Value} {t' : Nat} (I : Inv X pins σ H s) (hH : H l = some (.lst xs))
    (e : s.heap.get? l = some { cls := .type "list", data := .seq its.toArray n }) (hf : f its.toArray = its'.toArray) (hv : Vals ys its') (hz : ys.length ≤ sizeLine) :
    Inv X pins σ (upd H l (.lst ys)) { s with heap := s.heap.update l (Obj.mapSeq f), toks := t' } := by
  have q := PySem.IsL.update e f
  rw [hf] at q
  refine I.write (x := l) (e := l) (by rw [hH]; exact trivial) (.inl rfl) (fun b' u hb hu => (Heap.get?_update_other s.heap (Obj.mapSeq f) (Ne.symm hb)).trans hu) ⟨_, q⟩ ?_
  exact ⟨hz, its', _, hv, q⟩
theorem Inv.lnew {its : List Value} {t' : Nat} (I : Inv X pins σ H s) (hv : Vals ys its) (hz : ys.length ≤ sizeLine) :
    Inv X pins σ (upd H s.heap.objs.size (.lst ys)) { s with heap := s.heap.push { cls := .type "list", data := .seq its.toArray }, toks := t' } :=
  I.laid (fun _ _ q => Heap.get?_push_of_some _ q) (Nat.le_refl _) ⟨hz, its, 0, hv, Heap.get?_push_size _ rfl⟩
theorem Inv.fresh (I : Inv X pins σ H s) : H s.heap.objs.size = none := I.hok.fresh (Nat.le_refl _)
theorem Inv.lstM (I : Inv X pins σ H s) (hH : H l = some (.lst xs)) : xs.length ≤ sizeLine ∧ ∃ (its : List Value) (n : Nat), Vals xs its ∧ xs.length = its.length ∧ s.heap.get? l = some { cls := .type "list", data := .seq its.toArray n } := by
  obtain ⟨z, its, n, r, e⟩ := I.hok l _ hH
  exact ⟨z, its, n, r, r.length, e⟩

theorem notLongL {n : Nat} (h : n ≤ sizeLine) : Builtin.List.listTooLong n = false := by
  unfold Builtin.List.listTooLong
  exact decide_eq_false (by omega)
end

section
variable {X : Cx}

/-! ### methods -/
def rAppend : V → List V → Hp → VK → Prop := fun x vs H Q => ∃ l xs y, x = .ref l ∧ vs = [y] ∧ H l = some (.lst xs) ∧ xs.length < sizeLine ∧ Q .non (upd H l (.lst (xs ++ [y])))
theorem mt_append : MtM X "list.append" rAppend := by
  intro pins s σ H x vs v us Q I rx rv h
  obtain ⟨l, xs, y, rfl, rfl, hH, hz, q⟩ := h
  cases rx
  obtain ⟨u, rfl, ru⟩ := rv.one
  obtain ⟨z, its, n, r, hl, e⟩ := I.lstM hH
  refine call_meets F.slot_list_append ⟨_, e, rfl⟩ F.entry_list_append (F.args_list_append_2 _ _) (PySem.list_append l its.toArray n u (by rw [List.size_toArray]; omega)) ⟨e, ?_⟩
  refine ⟨.non, _, I.lset (its' := its ++ [u]) hH e (by simp) (r.append (.cons ru .nil)) ?_, rfl, q⟩
  rw [List.length_append, List.length_singleton]
  omega

def rExtend : V → List V → Hp → VK → Prop := fun x vs H Q => ∃ l b xs zs, x = .ref l ∧ vs = [.ref b] ∧ H l = some (.lst xs) ∧ H b = some (.lst zs) ∧ xs.length + zs.length ≤ sizeLine ∧ Q .non (upd H l (.lst (xs ++ zs)))
theorem mt_extend : MtM X "list.extend" rExtend := by
  intro pins s σ H x vs v us Q I rx rv h
  obtain ⟨l, b, xs, zs, rfl, rfl, hH, hB, hz, q⟩ := h
  cases rx
  obtain ⟨u, rfl, ru⟩ := rv.one
  cases ru
  obtain ⟨z, its, n, r, hl, e⟩ := I.lstM hH
  obtain ⟨z2, its2, n2, r2, hl2, e2⟩ := I.lstM hB
  have hsz : its.toArray.size + its2.toArray.size ≤ sizeLine := by rw [List.size_toArray, List.size_toArray]; omega
  have hlong : ¬ (!its.toArray.isEmpty && Builtin.List.listTooLong (its.toArray.size + its2.toArray.size)) = true := by
    rw [notLongL hsz, Bool.and_false]
    exact Bool.false_ne_true
  refine call_meets F.slot_list_extend ⟨_, e, rfl⟩ F.entry_list_extend (F.args_list_extend_2 _ _)
    (AutoSeq1.list_extend_list_list_0 l its.toArray n b its2.toArray n2 hlong (by rw [List.size_toArray]; omega) (by omega)) ⟨e, e2, ?_⟩
  refine ⟨.non, _, I.lset (its' := its ++ its2) hH e (by simp) (r.append r2) ?_, rfl, q⟩
  rw [List.length_append]
  omega

def rPop : V → List V → Hp → VK → Prop := fun x vs H Q => ∃ l xs y, x = .ref l ∧ vs = [] ∧ H l = some (.lst xs) ∧ xs[xs.length - 1]? = some y ∧ Q y (upd H l (.lst xs.dropLast))
theorem mt_pop : MtM X "list.pop" rPop := by
  intro pins s σ H x vs v us Q I rx rv h
  obtain ⟨l, xs, y, rfl, rfl, hH, hy, q⟩ := h
  cases rx
  have hus := rv.zero
  subst hus
  obtain ⟨z, its, n, r, hl, e⟩ := I.lstM hH
  obtain ⟨u, hu, ru⟩ := r.get hy
  have hy' : its.toArray[its.toArray.size - 1]? = some u := by
    show its.toArray[its.length - 1]? = some u
    rw [← Array.getElem?_toList, ← hl]
    exact hu
  refine call_meets F.slot_list_pop ⟨_, e, rfl⟩ F.entry_list_pop (F.args_list_pop_1 _) (MeetsSeq.list_pop_last l its.toArray n u hy' (by rw [List.size_toArray]; omega)) ⟨e, ?_⟩
  refine ⟨y, _, I.lset (its' := its.dropLast) hH e ?_ r.dropLast ?_, ru, q⟩
  · show its.toArray.eraseIdxIfInBounds (its.toArray.size - 1) = its.dropLast.toArray
    rw [List.size_toArray, List.eraseIdxIfInBounds_toArray, erase_last]
  · rw [List.length_dropLast]
    omega

def rPopAt : V → List V → Hp → VK → Prop := fun x vs H Q => ∃ l xs i k y, x = .ref l ∧ vs = [.int i] ∧ H l = some (.lst xs) ∧ -(2 ^ 63) ≤ i ∧ i < 2 ^ 63 ∧ seqIndex? i xs.length = some k ∧ xs[k]? = some y ∧ Q y (upd H l (.lst (xs.eraseIdx k)))
def rReverse : V → List V → Hp → VK → Prop := fun x vs H Q => ∃ l xs, x = .ref l ∧ vs = [] ∧ H l = some (.lst xs) ∧ Q .non (upd H l (.lst xs.reverse))
def rClear : V → List V → Hp → VK → Prop := fun x vs H Q => ∃ l xs, x = .ref l ∧ vs = [] ∧ H l = some (.lst xs) ∧ Q .non (upd H l (.lst []))
/-! ### list + list, list += list, list * int -/
def rCat : R2 := fun x y H Q => ∃ l b xs zs, x = .ref l ∧ y = .ref b ∧ H l = some (.lst xs) ∧ H b = some (.lst zs) ∧ xs.length + zs.length ≤ sizeLine ∧ ∀ p, H p = none → Q (.ref p) (upd H p (.lst (xs ++ zs)))
theorem op_cat : OpR X (binaryOp .Add) rCat := by
  intro pins s σ H x y v u Q I rx ry h
  obtain ⟨l, b, xs, zs, rfl, rfl, hH, hB, hz, q⟩ := h
  cases rx
  cases ry
  obtain ⟨z, its, n, r, hl, e⟩ := I.lstM hH
  obtain ⟨z2, its2, n2, r2, hl2, e2⟩ := I.lstM hB
  refine PySem.P.add_list e e2 ?_ (by rw [List.size_toArray, List.size_toArray]; omega)
  have ea : its.toArray ++ its2.toArray = (its ++ its2).toArray := by simp
  rw [ea]
  exact ⟨.ref _, _, I.lnew (t' := s.toks) (r.append r2) (by rw [List.length_append]; omega), rfl, q _ I.fresh⟩
/-- a list times an int (a negative one is nothing) -/
def rRep : R2 := fun x y H Q => ∃ l k xs, x = .ref l ∧ y = .int k ∧ H l = some (.lst xs) ∧ -(2 ^ 63) ≤ k ∧ k < 2 ^ 63 ∧ xs.length * k.toNat ≤ sizeLine ∧
  ∀ p, H p = none → Q (.ref p) (upd H p (.lst (List.replicate k.toNat xs).flatten))
theorem len_rep {α : Type} (xs : List α) (k : Nat) : (List.replicate k xs).flatten.length = k * xs.length := by
  induction k with
  | zero => simp
  | succ k ih => rw [List.replicate_succ, List.flatten_cons, List.length_append, ih, Nat.succ_mul, Nat.add_comm]
theorem op_rep : OpR X (binaryOp .Mult) rRep := by
  intro pins s σ H x y v u Q I rx ry h
  obtain ⟨l, k, xs, rfl, rfl, hH, h1, h2, hz, q⟩ := h
  cases rx
  obtain ⟨t, rfl⟩ := ry
  obtain ⟨z, its, n, r, hl, e⟩ := I.lstM hH
  have hlen : its.toArray.size * k.toNat ≤ sizeLine := by rw [List.size_toArray, ← hl]; exact hz
  have hcap : ¬ its.toArray.size * k.toNat > (2 ^ 63 - 1) / 8 := by
    have : (sizeLine : Nat) ≤ (2 ^ 63 - 1) / 8 := by decide
    omega
  have hfit : ¬ (!Builtin.List.listFitsIndex k) = true := by
    rw [fitsIndex_both h1 h2]
    exact Bool.false_ne_true
  have hlong : ¬ Builtin.List.listTooLong (its.toArray.size * k.toNat) = true := by
    rw [notLongL hlen]
    exact Bool.false_ne_true
  have hnew : List.foldl (fun x1 x2 => x1 ++ x2) #[] (List.replicate (if its.toArray.isEmpty = true then 0 else k.toNat) its.toArray) = (List.replicate k.toNat its).flatten.toArray := by
    have f0 : ∀ m : Nat, List.foldl (fun x1 x2 => x1 ++ x2) #[] (List.replicate m its.toArray) = (List.replicate m its).flatten.toArray := fun m => by
      have := foldl_rep its m []
      rw [List.nil_append] at this
      exact this
    rw [f0]
    cases its with
    | nil => simp
    | cons a r' => rw [if_neg (by simp)]
  refine wpAny_binaryOp_repeat_ref (T := "list") (U := "int") (by decide) ⟨_, e, rfl⟩ (fun s' => typeIs_int s' k t) noFill_list_mul F.fills_int_mul F.slot_int_rmul repeat_list F.slot_int_index.lookup
    (call_meets F.slot_int_rmul (typeIs_int s k t) F.entry_int_rmul (F.args_int_rmul_2 _ _) (int___rmul___int_list k t l its.toArray n)
      ⟨e, rfl, ⟨_, e, rfl⟩, call_meets F.slot_list_mul ⟨_, e, rfl⟩ F.entry_list_mul (F.args_list_mul_2 _ _) (AutoListH.list___mul___list_int_3 l its.toArray n k t hfit hcap hlong) ⟨e, ?_⟩⟩)
  rw [hnew]
  exact ⟨.ref _, _, I.lnew (t' := s.toks) (r.rep k.toNat) (by rw [len_rep, Nat.mul_comm]; exact hz), rfl, q _ I.fresh⟩

/-! ### del xs[i] -/
end

/-! ### xs[a:b] = ys -/
section
variable {prog : Program} {w : World} {A : Around} {E : Value → Shared → Prop} {s : Shared}
end

section
variable {X : Cx}
end
end L2

namespace Att
open PySem PySem.W PySem.Calls PyProof.Rows

/-! ### the script -/
theorem ints_of_wellAll {P : Params} {h : Heap} : ∀ (ns : List Int) (vs : List Value), WellAll P h vs (ns.map WData.int) → IntsAre vs ns := by
  intro ns
  induction ns with
  | nil =>
    intro vs w
    rw [List.map_nil] at w
    cases w
    exact .nil
  | cons n ns ih =>
    intro vs w
    rw [List.map_cons] at w
    cases w with
    | cons a b =>
      cases a
      exact .cons _ _ (ih _ b)

theorem script_of {l : OpenLaw} {n : Nat} (hn : l.most = some n) {P : Params} {h : Heap} {args : List WData} {vals : List Value}
    (hpre : l.row.toRowW.claim.pre args = true) (hwl : WellAll P h vals args) :
    ∃ a vs ns, vals = [Value.ref a] ∧ args = [WData.list (ns.map WData.int)] ∧ h.get? a = some { cls := .type "list", data := .seq vs.toArray } ∧ IntsAre vs ns ∧ ns.length ≤ n := by
  have hsh : WShape.hasAll [] args [.list .int] = true := (pre_splitW hpre).1
  have hc : l.pre.holds [] { args := args } = true := (pre_splitW hpre).2
  obtain ⟨d, r, rfl, h1, h2⟩ := hasAllW_cons hsh
  obtain rfl := hasAllW_nil h2
  obtain ⟨xs, rfl, h3⟩ := hasW_list h1
  obtain ⟨ns, rfl⟩ := items_int h3
  have hlen : ns.length ≤ n := by
    unfold OpenLaw.pre at hc
    have h4 : (WTm.not (.lt (.lit (.int (n : Int))) (.len (.arg 0)))).holds [] { args := [.list (ns.map .int)] } = true := by
      have h4 := (holds_andW hc).1
      rw [hn] at h4
      exact h4
    have h5 := condW_of h4 (w_not (w_lt w_lit (w_len_list (w_arg rfl))))
    rw [List.length_map] at h5
    refine Nat.le_of_not_lt fun q => ?_
    have q' : (n : Int) < ((ns.length : Nat) : Int) := by omega
    first
      | (rw [decide_eq_true q'] at h5; exact absurd h5 (by decide))
      | (simp at h5; omega)
  cases hwl with
  | cons w1 w2 =>
    cases w2
    cases w1 with
    | list ho hall => exact ⟨_, _, ns, rfl, rfl, ho, ints_of_wellAll ns _ hall, hlen⟩

theorem post_true (l : OpenLaw) (args : List WData) : l.row.toRowW.claim.post args (.bool true) args = true :=
  postW_of (r := l.row.toRowW) (X := (true == true))
    (show WShape.has [] (.bool true) .bool = true by first | rfl | decide | simp [WShape.has, WShape.arms, WShape.armsAll])
    (show (WTm.eq .res (.lit (.bool true))).value [] { args := args, res := some (.bool true), after := args } = some (.bool (true == true)) from w_eq_bool (w_res rfl) w_lit) rfl

/-! ### the attachment: holds_open's last premise (the goal 'hc' behind k_head) from a wpAny of the law's body -/
/-- the same from a codeAny of the CALL (for a layer whose function contracts speak of calls) -/
theorem attach_call {l : OpenLaw} {n : Nat} {q : Program} {loose : List Str} {XP : (Str → Option Value) → Heap → Prop} {YP : World → Heap → Prop} {d : DefRec}
    (hn : l.most = some n) (hdf : d.params.defaults = [])
    (call : ∀ (w : World) (s₀ s₁ : Shared) (mg mb : Str → Option Value) (fa : Addr) (o : Obj) (pm cd doc : Value) (a : Addr) (vs : List Value) (ns : List Int),
      Ground q loose [] XP w s₀ mg mb s₁.heap → YP w s₁.heap →
      s₁.heap.get? fa = some o → o.data = .func (docDef d.name d.params d.body d.scope pm cd doc) → s₁.heap.CodeRec cd d.name → mg d.name = some (.ref fa) →
      s₁.heap.get? a = some { cls := .type "list", data := .seq vs.toArray } → IntsAre vs ns → ns.length ≤ n → s₁.gens = #[] →
      codeAny (model l.prog w) callerA (.call (.ref fa) ⟨[.ref a], []⟩) (fun r s' => r = .ok (.ret (.bool true)) ∧ OldK s₁.heap s'.heap ∧ s'.os = s₁.os ∧ AllBare s'.gens) s₁) :
    WalkO q loose XP YP l.row.toRowW d [] (fun f vs => PySem.call f vs) := by
  intro w s₀ s₁ mg mb G Y fa o pm cd doc dV kV ho hd hcd hD hmg hg args vals as hpre hlay hrd hwl hlo
  obtain rfl : dV = .none := Dflts.none hD hdf
  obtain rfl : kV = .none := Dflts.noKw hD
  obtain ⟨a, vs, ns, rfl, rfl, hobj, hints, hlen⟩ := script_of hn hpre hwl
  refine enter_call (codeAny_mono (call w s₀ s₁ mg mb fa o pm cd doc a vs ns G Y ho (fd_plain hd) hcd hmg hobj hints hlen hg) fun r s' hq => ?_)
  obtain ⟨rfl, h2, h3, h4⟩ := hq
  exact ⟨.inl ⟨.bool true, .bool true, [], rfl, fun _ => rfl, .bool true, post_true l _, fun _ => ⟨List.Pairwise.nil, fun _ hm => (nomatch hm)⟩⟩, h2, h3, h4⟩

/-! ### rules over ANY heap (no ledger) from facts about the written part K: the library's own take a ledger (News) for what they write -/
section
variable {prog : Program} {w : World} {A : Around} {E : Value → Shared → Prop} {s : Shared} {K : Frag}

/-! the whole heap as the ledger: makes every rule that writes through a ledger a rule over any heap -/
def noObjs (h : Heap) : Heap := { h with objs := #[] }
def ledger (h : Heap) (L d : Addr) : List (Addr × Obj) := (List.range h.objs.size).filterMap fun a => if a = L ∨ a = d then none else (h.get? a).map fun o => (a, o)
end
end Att

namespace L2
open PySem PySem.Spec PyProof.Rows

theorem vals_ints : ∀ {vs : List Value} {ns : List Int}, IntsAre vs ns → Vals (ns.map V.int) vs
  | _, _, .nil => .nil
  | _, _, .cons n t h => .cons ⟨t, rfl⟩ (vals_ints h)

/-- nothing is tracked but the script, known to the object (or it is an object of the module) -/
def Only (H : Hp) : Prop := ∀ b, H b = none ∨ ∃ o xs, H b = some (.frz o (.lst xs))

/-- THE HEAD: the law's promise, at the heap behind the top. F, the promise of the law's def, may use that base is part of the heap (so K.In base, base.Ns mainGlobals mg stand in Mod) -/
theorem law_call {P : Program} {w : World} {K : PySem.W.Frag} {mg mb : Str → Option Value} {CX : CXT} {k : Nat} {fa a : Addr} {fd : FuncData} {x : Str} {sp : Sp} {s₁ : Shared} {vs : List Value} {ns : List Int}
    (KX : K.In s₁.heap) (hns : s₁.heap.Ns mainGlobals mg) (hb : s₁.heap.Ns builtinsNs mb) (hbb : ∀ x : Str, x ≠ "__name__" → mb x = bootBuiltins x) (hlim : s₁.heap.NoLimit) (hse : s₁.heap.NoSeer) (hg : s₁.gens = #[])
    (ha : s₁.heap.get? a = some { cls := .type "list", data := .seq vs.toArray }) (hi : IntsAre vs ns) (hl : ns.length ≤ sizeLine) (hr : Room k callerA)
    (F : ∀ base : Heap, K.In base → base.Ns mainGlobals mg → FnOk P w K mg base CX k fa fd [x] sp) (hbind : ∀ (s : Shared) (u : Value), BindsTo s fd ⟨[u], []⟩ [(x, u)])
    (hsp : ∀ H : Hp, Only H → SqL K H a (ns.map V.int) → sp [.ref a] H (fun v _ => v = .bl true) fun _ _ _ => False)
    (hCX : ∀ H e s', CX [] H s₁ (fun _ _ _ => False) e s' → False) :
    codeAny (model P w) callerA (.call (.ref fa) ⟨[.ref a], []⟩) (fun r s' => r = .ok (.ret (.bool true)) ∧ OldK s₁.heap s'.heap ∧ s'.os = s₁.os ∧ AllBare s'.gens) s₁ := by
  have rv := vals_ints hi
  have lenV := hi.length
  -- from an abstract heap in which nothing but the script may be tracked
  have core : ∀ H : Hp, Only H → SqL K H a (ns.map V.int) → HOk P w H s₁.heap → (∀ b, H b ≠ none → b = a) → (H a ≠ none → K.lookup a = none) →
      codeAny (model P w) callerA (.call (.ref fa) ⟨[.ref a], []⟩) (fun r s' => r = .ok (.ret (.bool true)) ∧ OldK s₁.heap s'.heap ∧ s'.os = s₁.os ∧ AllBare s'.gens) s₁ := by
    intro H hO hS hok hA hK
    have base_of : ∀ {b : Addr} {o : Obj}, s₁.heap.get? b = some o → H b = none → (hidT s₁.heap H).get? b = some o := fun e n => hidT_get e n
    have noA : ∀ {b : Addr} {o : Obj} {es : Array DictEntry} {ep : Nat}, s₁.heap.get? b = some o → o.data = .dict es ep → H b = none := fun {b o es ep} e d => by
      cases q : H b with
      | none => rfl
      | some u =>
        have e' : b = a := hA b (by rw [q]; simp)
        subst e'
        rw [ha] at e; cases e
        have d' : Data.seq vs.toArray _ = Data.dict es ep := d
        cases d'
    have nsK : ∀ {b : Addr} {m : Str → Option Value}, s₁.heap.Ns b m → (hidT s₁.heap H).Ns b m := fun {b m} ⟨o, es, ep, e, d, r⟩ => ⟨o, es, ep, base_of e (noA e d), d, r⟩
    have hKb : K.In (hidT s₁.heap H) := fun b o e => base_of (KX b o e) (by
      cases q : H b with
      | none => rfl
      | some u =>
        have e' : b = a := hA b (by rw [q]; simp)
        subst e'
        rw [hK (by rw [q]; simp)] at e; cases e)
    have seK : (hidT s₁.heap H).NoSeer := ⟨let ⟨mc, h1, h2⟩ := hse.statics; ⟨mc, nsK h1, h2⟩, let ⟨mm, h1, h2⟩ := hse.mods; ⟨mm, nsK h1, h2⟩, let ⟨mx, h1, h2⟩ := hse.imp; ⟨mx, nsK h1, h2⟩, by
      obtain ⟨mx, bm, ob, h1, h2, h3, h4, h5⟩ := hse.main
      refine ⟨mx, bm, ob, nsK h1, h2, base_of h3 ?_, h4, h5⟩
      cases q : H bm with
      | none => rfl
      | some u =>
        have e' : bm = a := hA bm (by rw [q]; simp)
        subst e'
        rw [ha] at h3; cases h3
        exact absurd (show (Value.type "list") = .type "module" from h4) (by decide)⟩
    have hM : Mod K mg (hidT s₁.heap H) := ⟨hKb, nsK hns, ⟨mb, nsK hb, hbb⟩, let ⟨mc, h1, h2⟩ := hlim; ⟨mc, nsK h1, h2⟩, seK⟩
    have e0 : Env0 P w K mg (hidT s₁.heap H) callerA [] s₁ H := ⟨rfl, hM, fun b o e => of_hidT e, Nat.le_of_eq (hidT_size _ _), trivial, fun b hb => absurd (show b ∈ ([] : List Addr) from hb) (by simp), hok, .of_eq hg⟩
    refine codeAny_mono ((F _ hKb (nsK hns)).run callerA [] s₁ H ⟨[.ref a], []⟩ [.ref a] [.ref a] _ _ hr e0 (hbind s₁ (.ref a)) (.cons rfl .nil) (hsp H hO hS)) fun r s' h => ?_
    cases r with
    | error e => exact (hCX H e s' h).elim
    | ok fl =>
      cases fl with
      | next => exact False.elim h
      | brk => exact False.elim h
      | cont => exact False.elim h
      | ret u =>
        obtain ⟨v, H', os, bare, un, hok', r', q⟩ := h
        have q' : v = .bl true := q
        subst q'
        obtain rfl : u = Value.bool true := r'
        refine ⟨rfl, OldK.of_keep fun b o e => ?_, os, bare⟩
        cases q : H b with
        | none => exact un.keep b o e q (by intro z; exact absurd (show b ∈ ([] : List Addr) from z) (by simp)) (by simp)
        | some u =>
          rcases hO b with z | ⟨ob, xs, z⟩
          · rw [q] at z; cases z
          · have z2 := un.frzs b ob _ z
            obtain ⟨e1, _⟩ := hok b _ z
            obtain ⟨e2, _⟩ := hok' b _ z2
            rw [e] at e1; cases e1
            exact e2
  cases hk : K.lookup a with
  | some o =>
    -- the script is one of the module's own objects
    have e := KX a o hk
    rw [ha] at e
    cases e
    refine core (fun _ => none) (fun _ => .inl rfl) (.inr ⟨_, vs.toArray, _, hk, rfl, rfl, rfl, by rw [List.size_toArray, lenV]; exact hl, by simpa using rv⟩) (fun b u z => by have z' : (none : Option HO) = some u := z; cases z') (fun b z => absurd rfl z) fun z => absurd rfl z
  | none =>
    refine core (fun b => if b = a then some (.frz { cls := .type "list", data := .seq vs.toArray } (.lst (ns.map V.int))) else none) (fun b => ?_) (.inl (.inr ⟨{ cls := .type "list", data := .seq vs.toArray }, if_pos rfl⟩)) (fun b u z => ?_) (fun b z => ?_) fun _ => hk
    · by_cases hb : b = a
      · exact .inr ⟨_, _, if_pos hb⟩
      · exact .inl (if_neg hb)
    · by_cases hb : b = a
      · have z' := (if_pos hb).symm.trans z
        cases z'
        subst hb
        exact ⟨ha, by rw [List.length_map]; exact hl, vs, _, rv, ha⟩
      · have z' := (if_neg hb).symm.trans z
        cases z'
    · by_cases hb : b = a
      · exact hb
      · exact absurd (if_neg hb) z
end L2

namespace L2
open PySem PySem.Spec PyProof.Rows

abbrev KOf {K : PySem.W.Frag} {h : Heap} (_ : K.In h) : PySem.W.Frag := K

/-- the goal that k_head leaves (case hc), from the law's promise. F gives the function object fd (K's own) once, then the promise over every base -/
theorem walk_of {l : PySem.W.OpenLaw} {n k : Nat} {q : Program} {loose : List Str} {XP : (Str → Option Value) → Heap → Prop} {YP : World → Heap → Prop} {d : DefRec} {K : Params → PySem.W.Frag} {CX : World → CXT} {sp : World → Sp} {x : Str}
    (hn : l.most = some n) (hn2 : n ≤ sizeLine) (hdf : d.params.defaults = []) (hr : Room k callerA) (hi : importsNone q = true)
    (hY : ∀ (w : World) (h : Heap), YP w h → (K w.params).In h)
    (F : ∀ (w : World) (mg : Str → Option Value) (fa : Addr) (h : Heap), (K w.params).In h → h.Ns mainGlobals mg → mg d.name = some (.ref fa) →
      ∃ fd : FuncData, (∀ (s : Shared) (u : Value), BindsTo s fd ⟨[u], []⟩ [(x, u)]) ∧
        ∀ base : Heap, (K w.params).In base → base.Ns mainGlobals mg → FnOk l.prog w (K w.params) mg base (CX w) k fa fd [x] (sp w))
    (hsp : ∀ (w : World) (H : Hp) (a : Addr) (ns : List Int), ns.length ≤ n → Only H → SqL (K w.params) H a (ns.map V.int) → sp w [.ref a] H (fun v _ => v = .bl true) fun _ _ _ => False)
    (hCX : ∀ (w : World) (H : Hp) (s : Shared) (e : Value) (s' : Shared), CX w [] H s (fun _ _ _ => False) e s' → False) :
    PySem.W.WalkO q loose XP YP l.row.toRowW d [] (fun f vs => PySem.call f vs) := by
  refine Att.attach_call hn hdf fun w s₀ s₁ mg mb fa o pm cd doc a vs ns G Y ho hd hcd hmg hobj hints hlen hg => ?_
  have KX := hY w _ Y
  obtain ⟨fd, hb, hF⟩ := F w mg fa _ KX G.T.g hmg
  exact law_call KX G.T.g G.T.b G.T.builtins G.T.nolimit (G.T.seer hi) hg hobj hints (Nat.le_trans hlen hn2) hr hF hb (fun H hO hS => hsp w H a ns hlen hO hS) fun H e s' => hCX w H s₁ e s'
end L2


/-! SHORT WORDS over the layer: a def of the text, its body, what a loop and a test want. -/
namespace L2
open PySem PySem.Spec PyProof.Rows

/-! ### the text by places -/
/-- the j-th statement of a class's body -/
def inClass (s : Stmt) (j : Nat) : Stmt := match s with
  | .ClassDef _ _ _ body _ _ _ _ _ _ _ => body.getD j (.Pass ⟨0, 0, 0, 0⟩)
  | _ => .Pass ⟨0, 0, 0, 0⟩
def defArgs (s : Stmt) : Arguments := match s with
  | .FunctionDef _ a _ _ _ _ _ _ _ _ => a
  | _ => { posonlyargs := [], args := [], vararg := none, kwonlyargs := [], kw_defaults := [], kwarg := none, defaults := [] }
def defBody (s : Stmt) : List Stmt := match s with
  | .FunctionDef _ _ b _ _ _ _ _ _ _ => b
  | _ => []
def defScope (s : Stmt) : Scope := match s with
  | .FunctionDef _ _ _ _ _ _ sc _ _ _ => sc
  | _ => { kind := .function, names := [], isGenerator := false, isCoroutine := false }

/-! ### no exception leaves a def -/
abbrev CX0 : CXT := fun _ _ _ _ _ _ => False
abbrev E0 : XK := fun _ _ _ => False
theorem pass0 {X : Cx} : Passes CX0 X E0 := fun _ _ _ _ _ _ _ h => h.elim

/-! ### a def (or method) of the text as it stands behind the top -/
structure Fun (K : PySem.W.Frag) (x qual : Str) (st : Stmt) (f : Addr) (fd : FuncData) : Prop where
  ex : ∃ (oc : Value) (od : Option Addr) (kV doc pm : Value) (an : Option Addr) (cdv ct : Value) (osl : Array (Option Value)),
    fd = PySem.W.fnOf x qual (defArgs st) (defBody st) (defScope st) .none kV doc pm an cdv ct ∧ K.lookup f = some ⟨oc, od, .func fd, osl⟩ ∧ PySem.W.codeIn K cdv qual = true
  kp : PySem.W.keepIn K (.ref f) = true
section
variable {P : Program} {w : World} {K : PySem.W.Frag} {mg : Str → Option Value} {base : Heap}
/-- THE RULE for a def: its body as a term of rules, and the reading of that term -/
theorem Fun.ok {x qual : Str} {st : Stmt} {f : Addr} {fd : FuncData} {N ps : List Str} {k : Nat} {sp : Sp} (F : Fun K x qual st f fd) (S : FnScope N ps (defScope st)) (len : ∀ vs H Q E, sp vs H Q E → vs.length = ps.length)
    (hbody : ∀ (cdv : Value) (A : Around) (outer : List Env) (s : Shared) (H : Hp) (vs : List V) (Q : VK) (E : XK), Room k (A.deeper (envOfC qual (defScope st) s.heap.objs.size f cdv)) → sp vs H Q E →
      ∃ t, PSs (cxOf CX0 P w K mg base N qual (defScope st) f cdv A outer s H E).nox (defBody st) t ∧ t { nx := fun _ H' => Q .non H', rt := Q } (start N vs) H) : FnOk P w K mg base CX0 (k + 1) f fd ps sp := by
  obtain ⟨oc, od, kV, doc, pm, an, cdv, ct, osl, rfl, lk, hcd⟩ := F.ex
  refine fn_of lk hcd S len fun A outer s H vs Q E hr hsp => ?_
  obtain ⟨t, h, q⟩ := hbody cdv A outer s H vs Q E hr hsp
  exact ⟨t, h.nox, q⟩
/-- how its arguments bind (no defaults): h is «fun _ _ _ _ _ _ us hl => match us, hl with | [_, _], _ => rfl», one _ a parameter -/
theorem Fun.binds {x qual : Str} {st : Stmt} {f : Addr} {fd : FuncData} {ps : List Str} (F : Fun K x qual st f fd)
    (h : ∀ (kV doc pm : Value) (an : Option Addr) (cdv ct : Value) (us : List Value), us.length = ps.length → bindArgs (PySem.W.fnOf x qual (defArgs st) (defBody st) (defScope st) .none kV doc pm an cdv ct) ⟨us, []⟩ = pure (ps.zip us)) : Binds K fd ps [] := by
  obtain ⟨oc, od, kV, doc, pm, an, cdv, ct, osl, rfl, lk, hcd⟩ := F.ex
  exact .all (h kV doc pm an cdv ct)
theorem fun_mk {x qual : Str} {st : Stmt} {f : Addr} {oc : Value} {od an : Option Addr} {osl : Array (Option Value)} {kV doc pm cdv ct : Value} (l : K.lookup f = some ⟨oc, od, .func (PySem.W.fnOf x qual (defArgs st) (defBody st) (defScope st) .none kV doc pm an cdv ct), osl⟩)
    (c : PySem.W.codeIn K cdv qual = true) (k : PySem.W.keepIn K (.ref f) = true) : Fun K x qual st f (PySem.W.fnOf x qual (defArgs st) (defBody st) (defScope st) .none kV doc pm an cdv ct) := ⟨⟨oc, od, kV, doc, pm, an, cdv, ct, osl, rfl, l, c⟩, k⟩
end
/-! ### expressions in short: the name that stands in the i-th slot -/
section
variable {X : Cx}
theorem pv (i : Nat) {x : Str} {pos : Pos} (hN : X.N[i]? = some x := by rfl) (hv : Vis X.env.scope x := by first | exact Or.inl rfl | exact Or.inr (Or.inl rfl) | exact Or.inr (Or.inr rfl)) (hd : (x == ("__debug__" : Str)) = false := by decide)
    (hcd : (x == ("__classdict__" : Str)) = false := by decide) : PE X (.Name x pos) (tVar i) := pe_var hN hv hd hcd
end

/-! ### tests -/
theorem ite2 {c A B : Prop} [Decidable c] (h1 : c → A) (h2 : ¬ c → B) : if c then A else B := by
  by_cases h : c
  · rw [if_pos h]
    exact h1 h
  · rw [if_neg h]
    exact h2 h
/-! ### heaps -/
/-- all that was tracked is as it was -/
def Same (H H' : Hp) : Prop := ∀ b o, H b = some o → H' b = some o
theorem Same.refl (H : Hp) : Same H H := fun _ _ h => h
theorem Same.trans {H H1 H2 : Hp} (a : Same H H1) (b : Same H1 H2) : Same H H2 := fun c o h => b c o (a c o h)
theorem Same.free {H H' : Hp} (e : Same H H') {l : Addr} (h : H' l = Option.none) : H l = Option.none := by
  cases q : H l with
  | none => rfl
  | some o =>
    rw [e l o q] at h
    cases h
theorem Same.seq {K : PySem.W.Frag} {H H' : Hp} {a : Addr} {xs : List V} (e : Same H H') (h : SqL K H a xs) : SqL K H' a xs := by
  rcases h with (h | ⟨o, h⟩) | h
  · exact .inl (.inl (e _ _ h))
  · exact .inl (.inr ⟨o, e _ _ h⟩)
  · exact .inr h

end L2

namespace L2
open PySem PySem.Spec PyProof.Rows

/-! ### lists of pairs as tables -/
section
variable {κ : Type} [DecidableEq κ]
def valV (kvs : List (κ × V)) (k : κ) : Option V := (kvs.find? fun kv => decide (kv.1 = k)).map (·.2)
/-- in its place, or at the end -/
def putK (kvs : List (κ × V)) (k : κ) (v : V) : List (κ × V) :=
  if (kvs.any fun kv => decide (kv.1 = k)) = true then kvs.map (fun kv => if kv.1 = k then (kv.1, v) else kv) else kvs ++ [(k, v)]
def dropK (kvs : List (κ × V)) (k : κ) : List (κ × V) := kvs.filter fun kv => decide (kv.1 ≠ k)

theorem KV.drop {kvs : List (κ × V)} {vs : List (κ × Value)} (r : KV kvs vs) (k : κ) : KV (dropK kvs k) (without vs k) := by
  unfold KV at r ⊢
  unfold dropK without
  induction r with
  | nil => exact .nil
  | @cons p q ps qs h t ih =>
    obtain ⟨h1, h2⟩ := h
    rw [List.filter_cons, List.filter_cons]
    by_cases e : p.1 = k
    · have a : ¬ decide (p.1 ≠ k) = true := by simp [e]
      have b : ¬ decide (q.1 ≠ k) = true := by simp [h1.symm.trans e]
      rw [if_neg a, if_neg b]; exact ih
    · have e' : ¬ q.1 = k := fun z => e (h1.trans z)
      have a : decide (p.1 ≠ k) = true := by simp [e]
      have b : decide (q.1 ≠ k) = true := by simp [e']
      rw [if_pos a, if_pos b]; exact .cons ⟨h1, h2⟩ ih
theorem KV.length {kvs : List (κ × V)} {vs : List (κ × Value)} (r : KV kvs vs) : kvs.length = vs.length := Paired.length r
end


/-! ### a tracked dict, its keys ints and texts or tuples of these -/
/-- raw entries of a dict with tuple keys -/
abbrev KT (H : Hp) : List (List Key × V) → List (List Key × Addr × Value) → Prop := Paired fun p q => p.1 = q.1 ∧ H q.2.1 = some (.tup (p.1.map kV)) ∧ RelV p.2 q.2.2
section
variable {P : Program} {w : World} {H : Hp} {h : Heap} {a : Addr}
end

/-- what the dict at a holds at the key y -/
def DGet (H : Hp) (a : Addr) (y : V) (r : Option V) : Prop :=
  (∃ kvs k, Rd H a (.dK kvs) ∧ y = kV k ∧ r = valV kvs k) ∨ ∃ kvs k b, Rd H a (.dT kvs) ∧ y = .ref b ∧ H b = some (.tup (k.map kV)) ∧ r = valV kvs k
/-- the heap behind a[y] = v -/
def DPut (H : Hp) (a : Addr) (y v : V) (H' : Hp) : Prop :=
  (∃ kvs k, H a = some (.dK kvs) ∧ y = kV k ∧ kvs.length < sizeLine ∧ H' = upd H a (.dK (putK kvs k v))) ∨
  ∃ kvs k b, H a = some (.dT kvs) ∧ y = .ref b ∧ H b = some (.tup (k.map kV)) ∧ kvs.length < sizeLine ∧ H' = upd H a (.dT (putK kvs k v))
theorem DGet.k {H : Hp} {a : Addr} {kvs : List (Key × V)} {k : Key} (e : H a = some (.dK kvs)) : DGet H a (kV k) (valV kvs k) := .inl ⟨kvs, k, .inl e, rfl, rfl⟩
theorem DGet.t {H : Hp} {a b : Addr} {kvs : List (List Key × V)} {k : List Key} (e : H a = some (.dT kvs)) (eb : H b = some (.tup (k.map kV))) : DGet H a (.ref b) (valV kvs k) := .inr ⟨kvs, k, b, .inl e, rfl, eb, rfl⟩
theorem DPut.k {H : Hp} {a : Addr} {kvs : List (Key × V)} {k : Key} {v : V} (e : H a = some (.dK kvs)) (hl : kvs.length < sizeLine) : DPut H a (kV k) v (upd H a (.dK (putK kvs k v))) := .inl ⟨kvs, k, e, rfl, hl, rfl⟩
theorem DPut.t {H : Hp} {a b : Addr} {kvs : List (List Key × V)} {k : List Key} {v : V} (e : H a = some (.dT kvs)) (eb : H b = some (.tup (k.map kV))) (hl : kvs.length < sizeLine) :
    DPut H a (.ref b) v (upd H a (.dT (putK kvs k v))) := .inr ⟨kvs, k, b, e, rfl, eb, hl, rfl⟩


section
variable {X : Cx} {pins : List (Addr × Obj)} {σ : St} {H : Hp} {s : Shared} {a : Addr} {y v : V} {u r : Value} {o : Option V} {A : Around} {E : Value → Shared → Prop}

end

section
variable {X : Cx} {pins : List (Addr × Obj)} {σ : St} {H : Hp} {s : Shared} {a : Addr} {kvs : List (Key × V)} {k : Key} {u : Value} {A : Around} {E : Value → Shared → Prop}
end


/-! ### readings and rules -/
/-- the element of a subscription, not a slice -/
def NoSl (i : Expr) : Prop := ∀ ov iv, subscripted i false ov iv = operate [ov, iv] (getItem ov iv)
/-- d[y] -/
def tDGet (td ty : TE) : TE := fun σ H Q => td σ H fun x H1 => ty σ H1 fun y H2 => ∃ a v, x = .ref a ∧ DGet H2 a y (some v) ∧ Q v H2
/-- y in d, y not in d -/
def tDIn (ty td : TE) : TE := fun σ H Q => ty σ H fun y H1 => td σ H1 fun x H2 => ∃ a o, x = .ref a ∧ DGet H2 a y o ∧ Q (.bl o.isSome) H2
def tDNotIn (ty td : TE) : TE := fun σ H Q => ty σ H fun y H1 => td σ H1 fun x H2 => ∃ a o, x = .ref a ∧ DGet H2 a y o ∧ Q (.bl (!o.isSome)) H2
/-- d[y] = v -/
def sDPut (td ty tv : TE) : TS := fun D σ H => tv σ H fun v H1 => td σ H1 fun x H2 => ty σ H2 fun y H3 => ∃ a H4, x = .ref a ∧ DPut H3 a y v H4 ∧ D.nx σ H4
/-- d[y] op= v -/
def sDAug (td ty tv : TE) (rd : V → V → Hp → VK → Prop) : TS := fun D σ H => td σ H fun x H1 => ty σ H1 fun y H2 => ∃ a v, x = .ref a ∧ DGet H2 a y (some v) ∧
  tv σ H2 fun y2 H3 => rd v y2 H3 fun z H4 => ∃ H5, DPut H4 a y z H5 ∧ D.nx σ H5
/-- del d[y] -/
def sDDel (td ty : TE) : TS := fun D σ H => td σ H fun x H1 => ty σ H1 fun y H2 => ∃ a kvs k, x = .ref a ∧ H2 a = some (.dK kvs) ∧ y = kV k ∧ (valV kvs k).isSome = true ∧ D.nx σ (upd H2 a (.dK (dropK kvs k)))

section
variable {X : Cx} {o i e value : Expr} {pos pos' tpos : Pos} {td ty tv : TE}
end


/-! ### displays -/
/-- {}, to be a dict of the kind that is wanted -/
def tDNewK : TE := fun _ H Q => ∀ p, H p = none → Q (.ref p) (upd H p (.dK []))
def tDNewT : TE := fun _ H Q => ∀ p, H p = none → Q (.ref p) (upd H p (.dT []))
section
variable {X : Cx} {pos : Pos}
end

section
variable {κ : Type} [DecidableEq κ]
end
section
variable {X : Cx}
end
end L2

set_option maxHeartbeats 4000000
namespace L2
open PySem PySem.Spec PyProof.Rows

/-! ### comprehensions -/
/-- what a clause's inner part does -/
def PKt (Y : Cx) (act : Sem Unit) (t : TS) : Prop :=
  ∀ (pins : List (Addr × Obj)) (s : Shared) (σ : St) (H : Hp) (D : Ends), Inv Y pins σ H s → t D σ H → wpAny (model Y.prog Y.w) Y.A act (fun _ s' => ∃ σ' H', Inv Y pins σ' H' s' ∧ D.nx σ' H') Y.xe s
/-- the tests of a clause -/
def PTs (Y : Cx) (ifs : List Expr) (t : TT) : Prop :=
  ∀ (pins : List (Addr × Obj)) (s : Shared) (σ : St) (H : Hp) (Q : Bool → Hp → Prop), Inv Y pins σ H s → t σ H Q →
    wpAny (model Y.prog Y.w) Y.A (forIn ifs true fun c r => if r = true then do let ok ← isTrue c Y.env (eval c Y.env); pure (ForInStep.yield ok) else pure (ForInStep.yield r)) (TP Y pins σ Q) Y.xe s
theorem pts_nil {Y : Cx} : PTs Y [] (fun _ H Q => Q true H) := by
  intro pins s σ H Q I h
  rw [List.forIn_nil]
  exact wpAny_pure ⟨H, I, h⟩
/-- what a clause does with its inner part -/
def LcW (prog : Program) (w : World) (A : Around) (elt : Expr) (gens : List Comprehension) (scope : Scope) (pos : Pos) (d : Nat) (acc : Value) (env : Env) (Q : Shared → Prop) (s : Shared) : Prop :=
  match gens[d + 1]? with
  | some g' => (g'.is_async = 0 ∧ ∀ x, foldedSetIterable g'.iter env x = pure x) ∧ wpAny (model prog w) A (eval g'.iter env) (fun x s4 => wpAny (model prog w) A (pyIter x) (fun itv s5 =>
      codeAny (model prog w) A (.compStart (.ListComp elt gens scope pos) (d + 1) itv acc env) (fun r s6 => r = .ok .next ∧ Q s6) s5) (fun _ _ => False) s4) (fun _ _ => False) s
  | none => wpAny (model prog w) A (eval elt env) (fun x s4 => wpAny (model prog w) A (call (.builtin "list.append") [acc, x]) (fun _ s5 => Q s5) (fun _ _ => False) s4) (fun _ _ => False) s
section
variable {prog : Program} {w : World} {A : Around} {R : Result → Shared → Prop} {s : Shared}
theorem compLoop_any {elt target iter : Expr} {ifs : List Expr} {gens : List Comprehension} {scope : Scope} {pos : Pos} {d : Nat} {it acc : Value} {env : Env} (hg : gens[d]? = some ⟨target, iter, ifs, 0⟩) (I : Nat → Shared → Prop)
    (turn : ∀ n s, I n s → wpAny (model prog w) A (pyNext it) (fun r s₁ => match r with
      | none => R (.ok .next) s₁
      | some v => wpAny (model prog w) A (letOwnedTupleGo target it v) (fun _ s₁' => wpAny (model prog w) A (assign target env v) (fun _ s₂ =>
          wpAny (model prog w) A (forIn ifs true fun c r => if r = true then do let ok ← isTrue c env (eval c env); pure (ForInStep.yield ok) else pure (ForInStep.yield r)) (fun ok s₃ =>
            if ok = true then LcW prog w A elt gens scope pos d acc env (fun s₅ => ∃ m, m < n ∧ I m s₅) s₃
            else ∃ m, m < n ∧ I m s₃) (fun _ _ => False) s₂) (fun _ _ => False) s₁') (fun _ _ => False) s₁) (fun _ _ => False) s)
    (n : Nat) (h : I n s) :
    codeAny (model prog w) A (.compLoop (.ListComp elt gens scope pos) d it acc env) R s := by
  refine codeAny_loop rfl I (fun n s hI => ?_) n h
  show wpAny _ A ((compTurn (.ListComp elt gens scope pos) d it acc env).onRaise (fun x => do noteFrame x env; theTreesLotGoes x)) _ _ s
  refine wpAny_noted (wpAny_noRaise ?_)
  unfold compTurn
  dsimp only
  rw [hg]
  dsimp only
  refine wpAny_bind (wpAny_standAt (wpAny_bind (thn (turn n s hI) (fun r s₁ h₁ => ?_))))
  cases r with
  | none => exact wpAny_pure h₁
  | some v =>
    refine wpAny_bind (thn h₁ fun _ s₁' h₁ => wpAny_bind (thn h₁ fun _ s₂ h₂ => wpAny_bind (thn h₂ fun ok s₃ h₃ => ?_)))
    cases ok with
    | false => exact wpAny_pure ⟨rfl, h₃⟩
    | true =>
      rw [if_pos rfl] at h₃ ⊢
      unfold LcW at h₃
      cases e : gens[d + 1]? with
      | none =>
        rw [e] at h₃
        exact wpAny_bind (wpAny_bind (thn h₃ fun x s₄ h₄ => wpAny_bind (thn h₄ fun _ s₅ h₅ => wpAny_pure (wpAny_pure ⟨rfl, h₅⟩))))
      | some g' =>
        rw [e] at h₃
        dsimp only at h₃ ⊢
        obtain ⟨⟨ha, hf⟩, h₃⟩ := h₃
        refine wpAny_bind (thn h₃ fun x s₄ h₄ => wpAny_bind (wpAny_standAt ?_))
        rw [ha, if_neg (by decide)]
        refine wpAny_bind (wpAny_of_eq (hf x) (wpAny_bind (wpAny_holding ?_)))
        rw [if_neg (by decide)]
        refine thn h₄ fun itv s₅ h₅ => wpAny_bind (wpAny_runOwn (codeAny_mono h₅ fun r s₆ ⟨hr, q⟩ => ?_))
        subst hr
        exact wpAny_pure ⟨rfl, q⟩
theorem compStart_any {elt target iter : Expr} {ifs : List Expr} {gens : List Comprehension} {scope : Scope} {pos : Pos} {d : Nat} {it acc : Value} {env : Env} (hg : gens[d]? = some ⟨target, iter, ifs, 0⟩)
    (h0 : codeAny (model prog w) A (.compLoop (.ListComp elt gens scope pos) d it acc env) R s)
    (h : wpAny (model prog w) A (pyIter it) (fun it' s' => codeAny (model prog w) A (.compLoop (.ListComp elt gens scope pos) d it' acc env) R s') (fun _ _ => False) s) :
    codeAny (model prog w) A (.compStart (.ListComp elt gens scope pos) d it acc env) R s := by
  refine codeAny_of_tree ?_
  show wpAny _ _ ((compStart (.ListComp elt gens scope pos) d it acc env).onRaise (fun x => do noteFrame x env; standAt theWindowsPlace)) _ _ s
  refine wpAny_notedAt (wpAny_noRaise ?_)
  unfold compStart
  have hc : clausesOf (.ListComp elt gens scope pos) = gens := rfl
  rw [hc, hg]
  show wpAny _ _ (ask >>= _) _ _ s
  refine wpAny_bind (wpAny_askSetting (wpAny_ite ?_))
  split
  · first
      | exact wpAny_bind (wpAny_pure (wpAny_pure (And.intro rfl h0)))
      | exact wpAny_pure (And.intro rfl h0)
  · first
      | exact wpAny_bind (wpAny_rule (wpAny_bind (wpAny_standAt (wpAny_bind (wpAny_mono h (fun it' s' h' => wpAny_pure (And.intro rfl h')) fun _ _ x => x)))))
      | (refine wpAny_bind (wpAny_rule ?_); show wpAny _ _ (standAt iter.pos >>= _) _ _ s; exact wpAny_bind (wpAny_standAt (wpAny_bind (wpAny_mono h (fun it' s' h' => wpAny_pure (And.intro rfl h')) fun _ _ x => x))))
end

/-- a loop's reading, the iterator at hand -/
def loopT (J : It) (g : TG) (tb : TS) : TS := fun D σ H => ∃ W : Nat → Nat → St → Hp → Prop, (∃ m, W 0 m σ H) ∧ ∀ i m σ H, W i m σ H →
  (J.stop i H ∧ D.nx σ H) ∨ (J.go i H ∧ ∃ N : St → Hp → Prop, (∀ σ' H', N σ' H' → ∃ m', m' < m ∧ W (i + 1) m' σ' H') ∧ ∀ x H', J.yld i H x H' → g x σ H' fun σ2 H2 => tb { D with nx := N, ct := N, bk := D.nx } σ2 H2)
def tIfB (ti : TT) (tb : TS) : TS := fun D σ H => ti σ H fun b H1 => if b = true then tb D σ H1 else D.nx σ H1
def PB (Y : Cx) (elt : Expr) (gens : List Comprehension) (scope : Scope) (pos : Pos) (d : Nat) (acc : Addr) (tb : TS) : Prop :=
  ∀ (pins : List (Addr × Obj)) (s : Shared) (σ : St) (H : Hp) (D : Ends), Inv Y pins σ H s → tb D σ H → LcW Y.prog Y.w Y.A elt gens scope pos d (.ref acc) Y.env (fun s' => ∃ σ' H', Inv Y pins σ' H' s' ∧ D.nx σ' H') s
section
variable {Y : Cx} {elt : Expr} {gens : List Comprehension} {scope : Scope} {pos : Pos} {d : Nat} {acc : Addr}
def tEmit (acc : Addr) (te : TE) : TS := fun D σ H => te σ H fun v H1 => ∃ xs, H1 acc = some (.lst xs) ∧ xs.length < sizeLine ∧ D.nx σ (upd H1 acc (.lst (xs ++ [v])))
theorem pb_emit {te : TE} (hg : gens[d + 1]? = none) (hx : Y.xe = fun _ _ => False) (he : PE Y elt te) : PB Y elt gens scope pos d acc (tEmit acc te) := by
  intro pins s σ H D I h
  unfold LcW
  rw [hg]
  dsimp only
  have he' := he pins s σ H _ I h
  rw [hx] at he'
  refine thn he' fun u s1 ⟨v, H1, I1, r1, xs, e, hl, q⟩ => ?_
  have a2 := mt_append pins s1 σ H1 (.ref acc) [v] (.ref acc) [u] (fun _ H2 => D.nx σ H2) I1 rfl (.cons r1 .nil) ⟨acc, xs, v, rfl, rfl, e, hl, q⟩
  rw [hx] at a2
  exact thn a2 fun _ s2 ⟨_, H2, I2, _, q2⟩ => ⟨σ, H2, I2, q2⟩
theorem lc_loop {tg iter : Expr} {ifs : List Expr} {g : TG} {ti : TT} {tb : TS} {pins : List (Addr × Obj)} {s : Shared} {σ : St} {H : Hp} {D : Ends} {J : It} {fp : List Addr} {it : Addr} {tn : Nat → Heap → Prop}
    (hgd : gens[d]? = some ⟨tg, iter, ifs, 0⟩) (hx : Y.xe = fun _ _ => False) (hc : Y.calm = true) (hg : PG Y tg g) (ht : PTs Y ifs ti) (hb : PB Y elt gens scope pos d acc tb)
    (I : Inv Y pins σ H s) (T : Turn Y.prog Y.w Y.K tg J fp it tn) (st : tn 0 s.heap) (f2 : ∀ b ∈ fp, FpOk Y pins H b) (h : loopT J g (tIfB ti tb) D σ H) :
    codeAny (model Y.prog Y.w) Y.A (.compLoop (.ListComp elt gens scope pos) d (.ref it) (.ref acc) Y.env) (fun r s' => r = .ok .next ∧ ∃ σ' H', Inv Y pins σ' H' s' ∧ D.nx σ' H') s := by
  obtain ⟨W, ⟨m0, w0⟩, turn⟩ := h
  have stat : ∀ {H' : Hp}, (∀ b ∈ fp, H' b = none) → ∀ b ∈ fp, FpOk Y pins H' b := fun hn b hb => ⟨hn b hb, (f2 b hb).2⟩
  refine compLoop_any hgd (fun n s' => ∃ i σ' H', Inv Y pins σ' H' s' ∧ tn i s'.heap ∧ (∀ b ∈ fp, H' b = none) ∧ W i n σ' H') ?_ m0 ⟨0, σ, H, I, st, fun b hb => (f2 b hb).1, w0⟩
  rintro n s3 ⟨i, σ3, H3, I3, st3, fr3, w3⟩
  rcases turn i n σ3 H3 w3 with ⟨stop, qn⟩ | ⟨go, N, hN, step⟩
  · refine thn (T.done Y rfl rfl rfl hc i pins s3 σ3 H3 _ I3 (stat fr3) st3 stop) fun r s4 ⟨hr, I4⟩ => ?_
    subst hr
    exact ⟨rfl, σ3, H3, I4, qn⟩
  · refine thn (T.item Y rfl rfl rfl hc i pins s3 σ3 H3 _ I3 (stat fr3) st3 go) fun r s4 ⟨u, hr, h4⟩ => ?_
    subst hr
    refine thn h4 fun _ s5 ⟨x, H5, I5, r5, y5, st5, fr5⟩ => ?_
    have I5' := I5.pinned (stat fr5) (T.obj _ _ st5)
    have a1 := hg _ s5 σ3 H5 x u _ I5' r5 (step x H5 y5)
    rw [hx] at a1
    refine thn a1 fun _ s6 ⟨σ6, H6, I6, q6⟩ => ?_
    have a2 := ht _ s6 σ6 H6 _ I6 q6
    rw [hx] at a2
    refine thn a2 fun ok s7 ⟨H7, I7, q7⟩ => ?_
    have again : ∀ {s8 : Shared} {σ7 : St} {H7 : Hp}, Inv Y (pins ++ pinsAt fp s5.heap) σ7 H7 s8 → N σ7 H7 → ∃ m, m < n ∧ ∃ i σ' H', Inv Y pins σ' H' s8 ∧ tn i s8.heap ∧ (∀ b ∈ fp, H' b = none) ∧ W i m σ' H' := fun {s8 σ7 H7} I7 n7 => by
      obtain ⟨m', hm, w7⟩ := hN σ7 H7 n7
      refine ⟨m', hm, i + 1, σ7, H7, I7.unpinned, T.keep _ _ _ st5 fun b hb o e => (I7.pin (b, o) (List.mem_append_right _ (List.mem_append_right _ (mem_pinsAt hb e)))).1, fun b hb => ?_, w7⟩
      obtain ⟨o, e, d⟩ := T.obj _ _ st5 b hb
      exact (I7.pin (b, o) (List.mem_append_right _ (List.mem_append_right _ (mem_pinsAt hb e)))).2.1
    cases ok with
    | false =>
      rw [if_neg Bool.false_ne_true] at q7 ⊢
      exact again I7 q7
    | true =>
      rw [if_pos rfl] at q7 ⊢
      have a3 := hb _ s7 σ6 H7 _ I7 q7
      unfold LcW at a3 ⊢
      cases e : gens[d + 1]? with
      | none =>
        rw [e] at a3
        exact thn a3 fun x s8 h8 => thn h8 fun _ s9 ⟨σ9, H9, I9, n9⟩ => again I9 n9
      | some g' =>
        rw [e] at a3
        exact ⟨a3.1, thn a3.2 fun x s8 h8 => thn h8 fun _ s9 h9 => codeAny_mono h9 fun r s10 ⟨hr, σ9, H9, I9, n9⟩ => ⟨hr, again I9 n9⟩⟩
end
end L2

namespace L2
open PySem PySem.Spec PyProof.Rows

/-- the cells that a block takes over -/
def clFrom (env : Env) : List (Str × NameKind) → List (Str × Addr) → List (Str × Addr)
  | [], acc => acc
  | (n, k) :: r, acc => if k == .free then clFrom env r ((n, (env.cells.lookup n).getD 0) :: acc) else clFrom env r acc
theorem clFrom_go {env : Env} (f : Str × NameKind → List (Str × Addr) → Sem (ForInStep (List (Str × Addr))))
    (hf : ∀ n k cs, f (n, k) cs = if k == .free then (do let c ← cellOf env n; pure (.yield ((n, c) :: cs))) else pure (.yield cs)) :
    ∀ (names : List (Str × NameKind)) (acc : List (Str × Addr)), (∀ x ∈ names, x.2 = .free → ∃ c, env.cells.lookup x.1 = some c) → forIn names acc f = pure (clFrom env names acc)
  | [], acc, _ => by rw [List.forIn_nil]; rfl
  | (n, k) :: r, acc, h => by
    rw [List.forIn_cons, hf]
    unfold clFrom
    by_cases hk : (k == NameKind.free) = true
    · rw [if_pos hk, if_pos hk]
      obtain ⟨c, hc⟩ := h (n, k) List.mem_cons_self (by simpa using hk)
      have hc' : env.cells.lookup n = some c := hc
      have e : cellOf env n = pure c := by unfold cellOf; rw [hc']
      rw [e, hc']
      exact clFrom_go f hf r _ fun x hx => h x (List.mem_cons_of_mem _ hx)
    · rw [if_neg hk, if_neg hk]
      exact clFrom_go f hf r _ fun x hx => h x (List.mem_cons_of_mem _ hx)
theorem closureFor_cl {scope : Scope} {env : Env} (h : ∀ x ∈ scope.names, x.2 = .free → ∃ c, env.cells.lookup x.1 = some c) : closureFor scope env = pure (clFrom env scope.names []) := by
  unfold closureFor
  dsimp only
  rw [clFrom_go (env := env) _ (fun n k cs => by cases hk : k == NameKind.free <;> simp [hk]) scope.names [] h]
  rfl
theorem clFrom_look {env : Env} {x : Str} {c : Addr} : ∀ (names : List (Str × NameKind)) (acc : List (Str × Addr)), (∀ y ∈ names, y.2 = .free → ∃ c, env.cells.lookup y.1 = some c) →
    (clFrom env names acc).lookup x = some c → (((x, NameKind.free) ∈ names ∧ env.cells.lookup x = some c) ∨ acc.lookup x = some c)
  | [], acc, _, e => .inr e
  | (n, k) :: r, acc, h, e => by
    unfold clFrom at e
    have hr : ∀ y ∈ r, y.2 = .free → ∃ c, env.cells.lookup y.1 = some c := fun y hy => h y (List.mem_cons_of_mem _ hy)
    by_cases hk : (k == NameKind.free) = true
    · rw [if_pos hk] at e
      have hk' : k = .free := by simpa using hk
      subst hk'
      rcases clFrom_look r _ hr e with ⟨h1, h2⟩ | h1
      · exact .inl ⟨List.mem_cons_of_mem _ h1, h2⟩
      · rw [List.lookup_cons] at h1
        cases q : x == n with
        | true =>
          rw [q] at h1
          have : x = n := by simpa using q
          subst this
          obtain ⟨c', hc'⟩ := h (x, .free) List.mem_cons_self rfl
          have hc'' : env.cells.lookup x = some c' := hc'
          rw [hc''] at h1
          exact .inl ⟨List.mem_cons_self, by rw [hc'']; exact h1⟩
        | false =>
          rw [q] at h1
          exact .inr h1
    · rw [if_neg hk] at e
      rcases clFrom_look r _ hr e with ⟨h1, h2⟩ | h1
      · exact .inl ⟨List.mem_cons_of_mem _ h1, h2⟩
      · exact .inr h1
theorem clFrom_some {env : Env} {x : Str} : ∀ (names : List (Str × NameKind)) (acc : List (Str × Addr)), (x, NameKind.free) ∈ names ∨ (acc.lookup x).isSome = true → ((clFrom env names acc).lookup x).isSome = true
  | [], acc, h => by rcases h with h | h; cases h; exact h
  | (n, k) :: r, acc, h => by
    unfold clFrom
    by_cases hk : (k == NameKind.free) = true
    · rw [if_pos hk]
      refine clFrom_some r _ ?_
      rw [List.lookup_cons]
      cases q : x == n with
      | true => exact .inr rfl
      | false =>
        rcases h with h | h
        · rcases List.mem_cons.mp h with e | e
          · cases e; simp at q
          · exact .inl e
        · exact .inr h
    · rw [if_neg hk]
      refine clFrom_some r _ ?_
      rcases h with h | h
      · rcases List.mem_cons.mp h with e | e
        · cases e; exact absurd rfl hk
        · exact .inl e
      · exact .inr h
theorem clFrom_mem {env : Env} {x : Str} {c : Addr} : ∀ (names : List (Str × NameKind)) (acc : List (Str × Addr)), (∀ y ∈ names, y.2 = .free → ∃ c, env.cells.lookup y.1 = some c) → (x, c) ∈ clFrom env names acc → env.cells.lookup x = some c ∨ (x, c) ∈ acc
  | [], acc, _, e => .inr e
  | (n, k) :: r, acc, h, e => by
    unfold clFrom at e
    have hr : ∀ y ∈ r, y.2 = .free → ∃ c, env.cells.lookup y.1 = some c := fun y hy => h y (List.mem_cons_of_mem _ hy)
    by_cases hk : (k == NameKind.free) = true
    · rw [if_pos hk] at e
      have hk' : k = .free := by simpa using hk
      subst hk'
      rcases clFrom_mem r _ hr e with h1 | h1
      · exact .inl h1
      · rcases List.mem_cons.mp h1 with q | q
        · obtain ⟨c', hc'⟩ := h (n, .free) List.mem_cons_self rfl
          have hc'' : env.cells.lookup n = some c' := hc'
          rw [hc''] at q
          cases q
          exact .inl hc''
        · exact .inr q
    · rw [if_neg hk] at e
      exact clFrom_mem r _ hr e
/-- where a name's cell lies -/
theorem cellsFrom_look {x : Str} {c : Addr} : ∀ (names : List (Str × NameKind)) (n : Nat) (acc : List (Str × Addr)), (cellsFrom n names acc).lookup x = some c → ((x, NameKind.cell) ∈ names ∧ n ≤ c) ∨ acc.lookup x = some c
  | [], n, acc, e => .inr e
  | (y, k) :: r, n, acc, e => by
    unfold cellsFrom at e
    by_cases hk : (k == NameKind.cell) = true
    · rw [if_pos hk] at e
      have hk' : k = .cell := by simpa using hk
      subst hk'
      rcases cellsFrom_look r _ _ e with ⟨h1, h2⟩ | h1
      · exact .inl ⟨List.mem_cons_of_mem _ h1, by omega⟩
      · rw [List.lookup_cons] at h1
        cases q : x == y with
        | true =>
          rw [q] at h1
          have : x = y := by simpa using q
          subst this
          cases h1
          exact .inl ⟨List.mem_cons_self, Nat.le_refl _⟩
        | false => rw [q] at h1; exact .inr h1
    · rw [if_neg hk] at e
      rcases cellsFrom_look r _ _ e with ⟨h1, h2⟩ | h1
      · exact .inl ⟨List.mem_cons_of_mem _ h1, h2⟩
      · exact .inr h1
/-- a name that is no cell of the block keeps what was there -/
theorem cellsFrom_old {x : Str} : ∀ (names : List (Str × NameKind)) (n : Nat) (acc : List (Str × Addr)), (x, NameKind.cell) ∉ names → (cellsFrom n names acc).lookup x = acc.lookup x
  | [], n, acc, _ => rfl
  | (y, k) :: r, n, acc, h => by
    unfold cellsFrom
    have hr : (x, NameKind.cell) ∉ r := fun z => h (List.mem_cons_of_mem _ z)
    by_cases hk : (k == NameKind.cell) = true
    · rw [if_pos hk, cellsFrom_old r _ _ hr, List.lookup_cons]
      cases q : x == y with
      | true =>
        have : x = y := by simpa using q
        subst this
        have hk' : k = .cell := by simpa using hk
        subst hk'
        exact absurd List.mem_cons_self h
      | false => rfl
    · rw [if_neg hk]
      exact cellsFrom_old r _ _ hr
/-- the new cells stand in the heap, apart -/
theorem cellsFrom_new : ∀ (names : List (Str × NameKind)) (h : Heap) (acc : List (Str × Addr)) (lo : Nat), lo ≤ h.objs.size → (∀ y c, (y, c) ∈ acc → lo ≤ c → h.IsCell c none) → (acc.Pairwise fun x y => lo ≤ x.2 → x.2 ≠ y.2) → (∀ y c, (y, c) ∈ acc → c < h.objs.size) →
    (∀ y c, (y, c) ∈ cellsFrom h.objs.size names acc → lo ≤ c → (pushCells h names).IsCell c none) ∧ ((cellsFrom h.objs.size names acc).Pairwise fun x y => lo ≤ x.2 → x.2 ≠ y.2)
  | [], h, acc, lo, _, h1, h2, _ => ⟨h1, h2⟩
  | (n, k) :: r, h, acc, lo, hlo, h1, h2, h3 => by
    unfold cellsFrom pushCells
    by_cases hk : (k == NameKind.cell) = true
    · rw [if_pos hk, if_pos hk]
      have := cellsFrom_new r (h.push { cls := .type "cell", data := .cell none }) ((n, h.objs.size) :: acc) lo (by rw [Heap.size_push]; omega) (fun y c hm hc => by
        rcases List.mem_cons.mp hm with e | hm
        · cases e; exact ⟨_, Heap.get?_push_size _ rfl, rfl⟩
        · exact (h1 y c hm hc).keeps fun b o e => Heap.get?_push_of_some _ e) (List.pairwise_cons.mpr ⟨fun y hy _ e => by
          have := h3 y.1 y.2 hy
          have e' : h.objs.size = y.2 := e
          exact absurd (e' ▸ this) (Nat.lt_irrefl _), h2⟩) (fun y c hm => by
        rw [Heap.size_push]
        rcases List.mem_cons.mp hm with e | hm
        · cases e; exact Nat.lt_succ_self _
        · exact Nat.lt_succ_of_lt (h3 y c hm))
      rw [Heap.size_push] at this
      exact this
    · rw [if_neg hk, if_neg hk]
      exact cellsFrom_new r h acc lo hlo h1 h2 h3

/-- the block's own env -/
def inEnv (scope : Scope) (env : Env) (C : Addr) : Env :=
  { scope := relabel scope env, locals := C, globals := env.globals, cells := cellsFrom (C + 1) scope.names (clFrom env scope.names []), qual := env.qual, func := none, code := env.code, frame := env.frame, builtins := env.builtins }
theorem newEnv_in {M : Model} {A : Around} {E : Value → Shared → Prop} {s : Shared} {scope : Scope} {env : Env} {Q : Env → Shared → Prop}
    (h : Q (newEnv scope s.heap.objs.size env.globals (cellsFrom (s.heap.objs.size + 1) scope.names (clFrom env scope.names [])) env.qual none .none (some env) builtinsNs)
      { s with heap := pushCells (s.heap.push { cls := .type "dict", data := .dict #[] }) scope.names }) :
    wpAny M A (newFunctionEnv scope env.globals (clFrom env scope.names []) [] env.qual none .none (some env)) Q E s := by
  simp only [newFunctionEnv, Option.isSome_some, if_true]
  refine wpAny_bind (wpAny_alloc ?_)
  refine wpAny_bind (wpAny_layCells _ (fun name kind cells => by cases hkc : kind == NameKind.cell <;> simp [hkc]) _ _ _ _ ?_)
  rw [show ({ s with heap := s.heap.push { cls := .type "dict", data := .dict #[] } } : Shared).heap.objs.size = s.heap.objs.size + 1 from Heap.size_push ..]
  rw [List.forIn_nil]
  exact wpAny_bind (wpAny_pure (wpAny_pure h))
/-- the block's context -/
def Cx.inn (X : Cx) (scope : Scope) (N : List Str) (s₃ : Shared) (H₃ : Hp) (fp : List Addr) : Cx :=
  { X with N := N, s₀ := s₃, H₀ := H₃, env := inEnv scope X.env s₃.heap.objs.size, outer := X.stack, stack := X.stack, ex := fp, fn := fun x => scope.names.lookup x == some .cell, pn := [], xe := fun _ _ => False }
/-- the names of a block: its own, and those that it takes over (with their places outside) -/
def capN (own : List Str) (cap : List (Str × Nat)) : List Str := own ++ cap.map (·.1)
def capS (own : List Str) (cap : List (Str × Nat)) (σ : St) : St := own.map (fun _ => none) ++ cap.map fun p => (σ[p.2]?).join
structure LcScope (X : Cx) (scope : Scope) (own : List Str) (cap : List (Str × Nat)) : Prop where
  kind : scope.kind = .function
  nd : (scope.names.map (·.1)).Nodup
  loc : ∀ x ∈ scope.names, x.2 = .local → scope.names.lookup x.1 = some .local
  fre : ∀ x ∈ scope.names, x.2 = .free → X.env.kindOf x.1 = some .cell ∨ X.env.kindOf x.1 = some .free
  cap : ∀ p ∈ cap, X.N[p.2]? = some p.1 ∧ (p.1, NameKind.free) ∈ scope.names
theorem nodup_kind {names : List (Str × NameKind)} (nd : (names.map (·.1)).Nodup) {x : Str} {k k' : NameKind} (h : (x, k) ∈ names) (h' : (x, k') ∈ names) : k = k' := by
  induction names with
  | nil => cases h
  | cons p r ih =>
    rw [List.map_cons, List.nodup_cons] at nd
    rcases List.mem_cons.mp h with e | h <;> rcases List.mem_cons.mp h' with e' | h'
    · rw [← e] at e'; cases e'; rfl
    · exact absurd (List.mem_map.mpr ⟨_, h', by rw [← e]⟩) nd.1
    · exact absurd (List.mem_map.mpr ⟨_, h, by rw [← e']⟩) nd.1
    · exact ih nd.2 h h'
theorem nodup_look {names : List (Str × NameKind)} (nd : (names.map (·.1)).Nodup) {x : Str} {k : NameKind} (h : (x, k) ∈ names) : names.lookup x = some k := by
  cases e : names.lookup x with
  | some k' => rw [nodup_kind nd h (PySem.mem_of_lookup e)]
  | none =>
    have : ∀ p ∈ names, (x == p.1) = false := by
      have := List.lookup_eq_none_iff.mp e
      intro p hp
      have := this p hp
      simpa using this
    have := this _ h
    simp at this
theorem name_of_addr' {lo : Nat} : ∀ {cs : List (Str × Addr)}, (cs.Pairwise fun x y => lo ≤ x.2 → x.2 ≠ y.2) → ∀ {n n' : Str} {c : Addr}, (n, c) ∈ cs → (n', c) ∈ cs → lo ≤ c → n = n'
  | x :: r, hp, n, n', c, h, h', hc => by
    obtain ⟨h1, h2⟩ := List.pairwise_cons.mp hp
    rcases List.mem_cons.mp h with e | h <;> rcases List.mem_cons.mp h' with e' | h'
    · rw [← e'] at e; exact (Prod.mk.inj e).1
    · exact absurd (by rw [← e]) (h1 _ h' (by rw [← e]; exact hc))
    · exact absurd (by rw [← e']) (h1 _ h (by rw [← e']; exact hc))
    · exact name_of_addr' h2 h h' hc
theorem map_look {f : Str → NameKind → Bool} {x : Str} : ∀ {names : List (Str × NameKind)}, (names.map fun p => if f p.1 p.2 = true then (p.1, NameKind.cell) else p).lookup x = (names.lookup x).map fun k => if f x k = true then NameKind.cell else k
  | [] => rfl
  | (n, k) :: r => by
    rw [List.map_cons]
    have ih := @map_look f x r
    cases hx : x == n with
    | true =>
      have : x = n := by simpa using hx
      subst this
      cases hc : f x k <;> simp [List.lookup_cons, hc]
    | false =>
      cases hc : f n k <;> simp only [List.lookup_cons, hx, hc, if_true, if_false, Bool.false_eq_true] <;> exact ih
theorem relabel_look {scope : Scope} {env : Env} {x : Str} : (relabel scope env).names.lookup x =
    (scope.names.lookup x).map fun k => if (k == NameKind.free && env.scope.kind == .function && env.kindOf x == some .cell) = true then NameKind.cell else k := by
  have e : (relabel scope env).names = scope.names.map fun p => if (fun n k => (k == NameKind.free && env.scope.kind == .function && env.kindOf n == some .cell)) p.1 p.2 = true then (p.1, NameKind.cell) else p := by
    unfold relabel
    dsimp only
  rw [e]
  exact map_look (f := fun n k => (k == NameKind.free && env.scope.kind == .function && env.kindOf n == some .cell))
section
variable {X : Cx} {pins : List (Addr × Obj)} {σ : St} {H : Hp} {s : Shared} {scope : Scope} {own : List Str} {cap : List (Str × Nat)} {fp : List Addr}
theorem inv_in (L : LcScope X scope own cap) (I : Inv X pins σ H s) (hf : ∀ b ∈ fp, FpOk X pins H b) (ho : ∀ b ∈ fp, ∃ o, s.heap.get? b = some o) :
    Inv (X.inn scope (capN own cap) s H fp) [] (capS own cap σ) H { s with heap := pushCells (s.heap.push { cls := .type "dict", data := .dict #[] }) scope.names } := by
  have hcl : ∀ x ∈ scope.names, x.2 = .free → ∃ c, X.env.cells.lookup x.1 = some c := fun x hx hk => I.ok.has x.1 (L.fre x hx hk)
  have old : ∀ x c, (clFrom X.env scope.names []).lookup x = some c → (x, NameKind.free) ∈ scope.names ∧ X.env.cells.lookup x = some c := fun x c e => by
    rcases clFrom_look _ _ hcl e with h | h
    · exact h
    · cases h
  have keep : ∀ b o, s.heap.get? b = some o → (pushCells (s.heap.push { cls := .type "dict", data := .dict #[] }) scope.names).get? b = some o := fun b o e => pushCells_keeps _ _ b o (Heap.get?_push_of_some _ e)
  have look : ∀ x c, (X.inn scope (capN own cap) s H fp).env.cells.lookup x = some c → ((x, NameKind.cell) ∈ scope.names ∧ s.heap.objs.size + 1 ≤ c) ∨ ((x, NameKind.free) ∈ scope.names ∧ X.env.cells.lookup x = some c) := fun x c e => by
    rcases cellsFrom_look _ _ _ e with h | h
    · exact .inl h
    · exact .inr (old x c h)
  have oldlt : ∀ x c, X.env.cells.lookup x = some c → c < s.heap.objs.size := fun x c e => by
    obtain ⟨v, hv⟩ := I.cell x c e
    exact hv.lt
  have nf : ∀ x, (x, NameKind.free) ∈ scope.names → (x, NameKind.cell) ∉ scope.names := fun x h h' => by cases nodup_kind L.nd h h'
  have ml : ∀ y c, (y, c) ∈ clFrom X.env scope.names [] → c < s.heap.objs.size := fun y c hm => by
    rcases clFrom_mem _ _ hcl hm with h | h
    · exact oldlt y c h
    · cases h
  have clnd : (clFrom X.env scope.names []).Pairwise fun x y => s.heap.objs.size + 1 ≤ x.2 → x.2 ≠ y.2 := List.pairwise_iff_forall_sublist.mpr fun {a b} hs hle => by
    have : a ∈ clFrom X.env scope.names [] := hs.subset List.mem_cons_self
    have := ml a.1 a.2 this
    exact absurd (Nat.lt_of_le_of_lt hle this) (Nat.not_lt.mpr (Nat.le_succ _))
  have nst := cellsFrom_new scope.names (s.heap.push { cls := .type "dict", data := .dict #[] }) (clFrom X.env scope.names []) (s.heap.objs.size + 1) (by rw [Heap.size_push]; exact Nat.le_refl _)
    (fun y c hm hc => absurd (Nat.lt_of_le_of_lt hc (ml y c hm)) (Nat.not_lt.mpr (Nat.le_succ _))) clnd (fun y c hm => by rw [Heap.size_push]; exact Nat.lt_succ_of_lt (ml y c hm))
  rw [Heap.size_push] at nst
  have newcell : ∀ x c, (X.inn scope (capN own cap) s H fp).env.cells.lookup x = some c → s.heap.objs.size + 1 ≤ c → (pushCells (s.heap.push { cls := .type "dict", data := .dict #[] }) scope.names).IsCell c none := fun x c e hc => nst.1 x c (PySem.mem_of_lookup e) hc
  have kindY : ∀ x, (X.inn scope (capN own cap) s H fp).env.kindOf x = (scope.names.lookup x).map fun k => if (k == NameKind.free && X.env.scope.kind == .function && X.env.kindOf x == some .cell) = true then NameKind.cell else k := fun x => relabel_look
  refine ⟨⟨I.ok.mod, L.kind, I.ok.glob, I.ok.blt, Nat.le_refl _, fun x y c h1 h2 => ?inj, fun x hx => ?has, fun x c hx h => ?cab, I.ok.hd, I.ok.frames, .inl rfl, fun b hb => ⟨?ex1, fun x c h => ?ex2⟩, fun b o e => I.bs b o e, Nat.le_trans I.ok.bsz I.sz, fun b o e hb => ?noex, fun b hb hb' => ?exfs, I.stack, I.stkFree⟩,
    rfl, I.bare, Un.kept keep, ⟨fun _ => none, ?ns, fun i x v h1 h2 h3 => ?look⟩, fun x c h => ?cell, I.fresh, fun x c h => ?freeC, fun p hp => absurd (show p ∈ ([] : List (Addr × Obj)) from hp) (by simp), I.hok.kept keep, ?len⟩
  case inj =>
    rcases look x c h1 with ⟨_, g1⟩ | ⟨_, g1⟩ <;> rcases look y c h2 with ⟨_, g2⟩ | ⟨_, g2⟩
    · exact name_of_addr' nst.2 (PySem.mem_of_lookup h1) (PySem.mem_of_lookup h2) g1
    · exact absurd (Nat.lt_of_le_of_lt g1 (oldlt y c g2)) (Nat.not_lt.mpr (Nat.le_succ _))
    · exact absurd (Nat.lt_of_le_of_lt g2 (oldlt x c g1)) (Nat.not_lt.mpr (Nat.le_succ _))
    · exact I.ok.inj x y c g1 g2
  case has =>
    rw [kindY] at hx
    cases e : scope.names.lookup x with
    | none => rw [e] at hx; rcases hx with h | h <;> cases h
    | some k =>
      rw [e] at hx
      have hm := PySem.mem_of_lookup e
      have hk : k = .cell ∨ k = .free := by
        by_cases hc : (k == NameKind.free && X.env.scope.kind == .function && X.env.kindOf x == some .cell) = true
        · simp only [Bool.and_eq_true, beq_iff_eq] at hc
          exact .inr hc.1.1
        · rw [Option.map_some, if_neg hc] at hx
          rcases hx with h | h
          · exact .inl (Option.some.inj h)
          · exact .inr (Option.some.inj h)
      rcases hk with rfl | rfl
      · exact Option.isSome_iff_exists.mp (PySem.W.cellsFrom_some scope.names _ _ (.inl e))
      · exact Option.isSome_iff_exists.mp (PySem.W.cellsFrom_some scope.names _ _ (.inr (clFrom_some _ _ (.inl hm))))
  case cab =>
    have hx' : scope.names.lookup x = some .cell := by simpa [Cx.inn] using hx
    rcases look x c h with ⟨_, g⟩ | ⟨g, _⟩
    · exact Nat.le_of_succ_le g
    · exact absurd (PySem.mem_of_lookup hx') (nf x g)
  case ex1 =>
    obtain ⟨o, e⟩ := ho b hb
    exact Nat.ne_of_lt (Heap.lt_size e)
  case ex2 =>
    obtain ⟨o, e⟩ := ho b hb
    rcases look x c h with ⟨_, g⟩ | ⟨_, g⟩
    · rintro rfl
      exact absurd (Nat.lt_of_le_of_lt g (Heap.lt_size e)) (Nat.not_lt.mpr (Nat.le_succ _))
    · exact (hf b hb).2.2.2.2.1 x c g
  case noex =>
    rcases (hf b hb).2.2.2.1 with g | g
    · exact I.ok.noex b o e g
    · exact absurd (Nat.lt_of_lt_of_le (Heap.lt_size e) I.ok.bsz) (Nat.not_lt.mpr g)
  case exfs =>
    rcases List.mem_cons.mp (I.stkSub b hb') with g | g
    · exact (hf b hb).2.1 g
    · exact (hf b hb).2.2.1 g
  case ns => exact (Heap.Ns.new s.heap (.type "dict")).keeps (pushCells_keeps _ _)
  case look =>
    obtain ⟨j, p, hp, rfl, hv⟩ : ∃ (j : Nat) (p : Str × Nat), cap[j]? = some p ∧ p.1 = x ∧ σ[p.2]? = some (some v) := by
      have h1 : (own ++ cap.map (·.1))[i]? = some x := h1
      unfold capS at h2
      by_cases hi : i < own.length
      · rw [List.getElem?_append_left (by simpa using hi), List.getElem?_map] at h2
        cases e : own[i]? with
        | none => rw [e] at h2; cases h2
        | some y => rw [e] at h2; cases h2
      · rw [List.getElem?_append_right (by omega)] at h1
        rw [List.getElem?_append_right (by simpa using hi)] at h2
        rw [List.length_map] at h2
        rw [List.getElem?_map] at h1 h2
        cases e : cap[i - own.length]? with
        | none => rw [e] at h1; cases h1
        | some p =>
          rw [e] at h1 h2
          refine ⟨_, p, e, Option.some.inj h1, ?_⟩
          have h2 : (σ[p.2]?).join = some v := Option.some.inj h2
          cases q : σ[p.2]? with
          | none => rw [q] at h2; cases h2
          | some z => rw [q] at h2; exact congrArg some h2
    obtain ⟨c1, c2⟩ := L.cap p (List.mem_of_getElem? hp)
    have hk := L.fre _ c2 rfl
    obtain ⟨m, hn, hl⟩ := I.loc
    obtain ⟨u, ru, lk⟩ := hl p.2 p.1 v c1 hv (.inr hk)
    refine ⟨u, ru, .inr ?_⟩
    rcases lk with ⟨lk, _⟩ | ⟨_, c, e, hc⟩
    · rcases hk with hk | hk
      · have : X.env.kindOf p.1 = some .cell := hk
        rw [lk] at this; cases this
      · have : X.env.kindOf p.1 = some .free := hk
        rw [lk] at this; cases this
    · have hlk := nodup_look L.nd c2
      refine ⟨?_, c, ?_, hc.keeps keep⟩
      · rw [kindY, hlk, Option.map_some]
        split
        · exact .inl rfl
        · exact .inr rfl
      · show (cellsFrom _ scope.names _).lookup p.1 = some c
        rw [cellsFrom_old _ _ _ (nf _ c2)]
        obtain ⟨c', e'⟩ := Option.isSome_iff_exists.mp (clFrom_some (env := X.env) scope.names [] (.inl c2))
        rw [e', ← e]
        exact (old _ _ e').2.symm
  case cell =>
    rcases look x c h with ⟨_, g⟩ | ⟨_, g⟩
    · exact ⟨_, newcell x c h g⟩
    · obtain ⟨v, hv⟩ := I.cell x c g
      exact ⟨v, hv.keeps keep⟩
  case freeC =>
    rcases look x c h with ⟨_, g⟩ | ⟨_, g⟩
    · exact I.hok.fresh (Nat.le_of_succ_le g)
    · exact I.freeC x c g
  case len =>
    show (capS own cap σ).length = (capN own cap).length
    unfold capS capN
    simp
end

/-- a list comprehension: the first clause's iterator outside, the rest a loop inside -/
def tLC (wi : TI) (g : TG) (ti : TT) (tb : Addr → TS) (own : List Str) (cap : List (Str × Nat)) : TE := fun σ H Q => wi σ H fun J H1 => ∀ acc, H1 acc = none →
  loopT J g (tIfB ti (tb acc)) { nx := fun _ H' => Q (.ref acc) H', rt := fun _ _ => False } (capS own cap σ) (upd H1 acc (.lst []))
theorem pe_lc {X : Cx} {elt tg iter : Expr} {ifs : List Expr} {rest : List Comprehension} {scope : Scope} {pos : Pos} {wi : TI} {g : TG} {ti : TT} {tb : Addr → TS} (own : List Str) (cap : List (Str × Nat)) (hc : X.calm = true) (L : LcScope X scope own cap) (hi : PI X tg iter wi)
    (hin : ∀ (s₃ : Shared) (H₃ : Hp) (fp : List Addr) (acc : Addr), PG (X.inn scope (capN own cap) s₃ H₃ fp) tg g ∧ PTs (X.inn scope (capN own cap) s₃ H₃ fp) ifs ti ∧ PB (X.inn scope (capN own cap) s₃ H₃ fp) elt (⟨tg, iter, ifs, 0⟩ :: rest) scope pos 0 acc (tb acc))
    (hs : ∀ x, foldedSetIterable iter X.env x = pure x := by intro _; rfl) : PE X (.ListComp elt (⟨tg, iter, ifs, 0⟩ :: rest) scope pos) (tLC wi g ti tb own cap) := by
  intro pins s σ H Q I h
  rw [eval_ListComp]
  have hcl : ∀ x ∈ scope.names, x.2 = .free → ∃ c, X.env.cells.lookup x.1 = some c := fun x hx hk => I.ok.has x.1 (L.fre x hx hk)
  refine wpAny_comprehension_free (use := none) rfl hs (closureFor_cl hcl) L.kind L.loc (thn (hi pins s σ H _ I h) fun x s1 h1 => thn h1 fun itv s2 ⟨it, fp, tn, J, H2, e, I2, T, st2, f2, q2⟩ => ?_)
  subst e
  refine wpAny_newObj_type ?_
  have I3 := I2.lnew (t' := s2.toks) (ys := []) (its := []) .nil (Nat.zero_le _)
  have fr2 : H2 s2.heap.objs.size = none := I2.fresh
  have f3 : ∀ b ∈ fp, FpOk X pins (upd H2 s2.heap.objs.size (.lst [])) b := fun b hb => by
    obtain ⟨o, eo, _⟩ := T.obj 0 _ st2 b hb
    obtain ⟨g1, g2⟩ := f2 b hb
    exact ⟨by rw [upd_ne (Nat.ne_of_lt (Heap.lt_size eo))]; exact g1, g2⟩
  have k3 : ∀ b o, s2.heap.get? b = some o → (s2.heap.push { cls := .type "list", data := .seq ([] : List Value).toArray }).get? b = some o := fun b o e => Heap.get?_push_of_some _ e
  have st3 : tn 0 (s2.heap.push { cls := .type "list", data := .seq ([] : List Value).toArray }) := T.keep 0 _ _ st2 fun b _ o e => k3 b o e
  refine newEnv_in ?_
  have I4 := inv_in L I3 f3 fun b hb => by obtain ⟨o, eo, _⟩ := T.obj 0 _ st3 b hb; exact ⟨o, eo⟩
  obtain ⟨hg, ht, hb⟩ := hin { s2 with heap := s2.heap.push { cls := .type "list", data := .seq ([] : List Value).toArray }, toks := s2.toks } (upd H2 s2.heap.objs.size (.lst [])) fp s2.heap.objs.size
  have st4 := T.keep 0 _ (pushCells ((s2.heap.push { cls := .type "list", data := .seq ([] : List Value).toArray }).push { cls := .type "dict", data := .dict #[] }) scope.names) st3 fun b _ o e => pushCells_keeps _ _ b o (Heap.get?_push_of_some _ e)
  have f4 : ∀ b ∈ fp, FpOk (X.inn scope (capN own cap) { s2 with heap := s2.heap.push { cls := .type "list", data := .seq ([] : List Value).toArray }, toks := s2.toks } (upd H2 s2.heap.objs.size (.lst [])) fp) [] (upd H2 s2.heap.objs.size (.lst [])) b := fun b hb =>
    ⟨(f3 b hb).1, (I4.ok.exf b hb).1, I4.ok.exfs b hb, .inl hb, (I4.ok.exf b hb).2, fun p hp => absurd (show p ∈ ([] : List (Addr × Obj)) from hp) (by simp)⟩
  have lp := lc_loop (Y := X.inn scope (capN own cap) { s2 with heap := s2.heap.push { cls := .type "list", data := .seq ([] : List Value).toArray }, toks := s2.toks } (upd H2 s2.heap.objs.size (.lst [])) fp) (acc := s2.heap.objs.size) (gens := ⟨tg, iter, ifs, 0⟩ :: rest) (d := 0) rfl rfl hc hg ht hb I4 T st4 f4 (q2 _ fr2)
  have lp' := codeAny_mono lp (R' := compPost (model X.prog X.w) X.A X.xe none (EP X pins σ Q) (.ref s2.heap.objs.size) (s2.heap.push { cls := .type "list", data := .seq ([] : List Value).toArray }).objs.size) fun r s' ⟨hr, σ', H', I', q'⟩ => by
    subst hr
    obtain ⟨m', hn', _⟩ := id I'.loc
    refine ⟨m', hn', fun h' hsb => ?_⟩
    refine ⟨.ref s2.heap.objs.size, H', ?_, rfl, q'⟩
    have neC : ∀ b o, (s2.heap.push { cls := .type "list", data := .seq ([] : List Value).toArray }).get? b = some o → b ≠ (s2.heap.push { cls := .type "list", data := .seq ([] : List Value).toArray }).objs.size := fun b o e => Nat.ne_of_lt (Heap.lt_size e)
    have B := I'.base
    refine I3.call' (ch := fp) I'.os ⟨fun b o e n hb hx => (hsb.2 b (neC b o e)).trans (B.keep b o e n hb hx), fun b o e n hb hx => ?_, B.free, fun b o e hx => ?_, B.tups, B.frzs, B.tbls⟩ (fun b u e => ?_) I'.bare fun b hb => ⟨(f3 b hb).2.2.2.1, (f3 b hb).2.1, (f3 b hb).2.2.2.2.1, (f3 b hb).2.2.2.2.2⟩
    · obtain ⟨sl, e1⟩ := B.slot b o e n hb hx
      exact ⟨sl, (hsb.2 b (neC b o e)).trans e1⟩
    · obtain ⟨o', e1⟩ := B.there b o e hx
      exact ⟨o', (hsb.2 b (neC b o e)).trans e1⟩
    · have hC : H' (s2.heap.push { cls := .type "list", data := .seq ([] : List Value).toArray }).objs.size = none := I'.free
      refine (I'.hok b u e).stay (fun c v hc' q => (hsb.2 c ?_).trans q) (fun _ q => q) fun _ _ q => q
      rintro rfl
      rcases hc' with hc' | hc'
      · rw [← hc', hC] at e; cases e
      · rw [hC] at hc'; cases hc'
  exact compStart_any rfl lp' (T.self _ _ _ _ _ st4 lp')
/-- name = [..], a local name: stored ahead of the block's end -/
theorem ps_setlc {X : Cx} {i : Nat} {y : Str} {py spos : Pos} {elt tg iter : Expr} {ifs : List Expr} {rest : List Comprehension} {scope : Scope} {pos : Pos} {wi : TI} {g : TG} {ti : TT} {tb : Addr → TS} (own : List Str) (cap : List (Str × Nat)) (hN : X.N.Nodup) (hyi : X.N[i]? = some y) (hy : X.env.scope.names.lookup y = some .local) (hc : X.calm = true) (L : LcScope X scope own cap) (hi : PI X tg iter wi)
    (hin : ∀ (s₃ : Shared) (H₃ : Hp) (fp : List Addr) (acc : Addr), PG (X.inn scope (capN own cap) s₃ H₃ fp) tg g ∧ PTs (X.inn scope (capN own cap) s₃ H₃ fp) ifs ti ∧ PB (X.inn scope (capN own cap) s₃ H₃ fp) elt (⟨tg, iter, ifs, 0⟩ :: rest) scope pos 0 acc (tb acc))
    (hsw : swapsWith (.ListComp elt (⟨tg, iter, ifs, 0⟩ :: rest) scope pos) (some (.Name y py)) spos.line X.env = pure true := by rfl) (hs : ∀ x, foldedSetIterable iter X.env x = pure x := by intro _; rfl) :
    PS X (.Assign [.Name y py] (.ListComp elt (⟨tg, iter, ifs, 0⟩ :: rest) scope pos) spos) (tAsg (tLC wi g ti tb own cap) (gName i)) := by
  intro pins s σ H D I h
  rw [exec_Assign_Name_used _ _ _ _ hsw]
  refine wpAny_bind (wpAny_standAt (wpAny_bind ?_))
  show wpAny _ X.A (do let _ ← comprehension (.ListComp elt (⟨tg, iter, ifs, 0⟩ :: rest) scope pos) scope X.env _ (newList []) false (eval iter X.env) (some (assign (.Name y py) X.env))) _ _ s
  have hcl : ∀ x ∈ scope.names, x.2 = .free → ∃ c, X.env.cells.lookup x.1 = some c := fun x hx hk => I.ok.has x.1 (L.fre x hx hk)
  refine wpAny_bind (wpAny_mono (wpAny_comprehension_free (use := some (assign (.Name y py) X.env)) (Q := fun _ s' => SP X pins D .next s') rfl hs (closureFor_cl hcl) L.kind L.loc (thn (hi pins s σ H _ I h) fun x s1 h1 => thn h1 fun itv s2 ⟨it, fp, tn, J, H2, e, I2, T, st2, f2, q2⟩ => ?_)) (fun _ s' hq => wpAny_pure (wpAny_pure hq)) fun _ _ e => e)
  subst e
  refine wpAny_newObj_type ?_
  have I3 := I2.lnew (t' := s2.toks) (ys := []) (its := []) .nil (Nat.zero_le _)
  have fr2 : H2 s2.heap.objs.size = none := I2.fresh
  have f3 : ∀ b ∈ fp, FpOk X pins (upd H2 s2.heap.objs.size (.lst [])) b := fun b hb => by
    obtain ⟨o, eo, _⟩ := T.obj 0 _ st2 b hb
    obtain ⟨g1, g2⟩ := f2 b hb
    exact ⟨by rw [upd_ne (Nat.ne_of_lt (Heap.lt_size eo))]; exact g1, g2⟩
  have k3 : ∀ b o, s2.heap.get? b = some o → (s2.heap.push { cls := .type "list", data := .seq ([] : List Value).toArray }).get? b = some o := fun b o e => Heap.get?_push_of_some _ e
  have st3 : tn 0 (s2.heap.push { cls := .type "list", data := .seq ([] : List Value).toArray }) := T.keep 0 _ _ st2 fun b _ o e => k3 b o e
  refine newEnv_in ?_
  have I4 := inv_in L I3 f3 fun b hb => by obtain ⟨o, eo, _⟩ := T.obj 0 _ st3 b hb; exact ⟨o, eo⟩
  obtain ⟨hg, ht, hb⟩ := hin { s2 with heap := s2.heap.push { cls := .type "list", data := .seq ([] : List Value).toArray }, toks := s2.toks } (upd H2 s2.heap.objs.size (.lst [])) fp s2.heap.objs.size
  have st4 := T.keep 0 _ (pushCells ((s2.heap.push { cls := .type "list", data := .seq ([] : List Value).toArray }).push { cls := .type "dict", data := .dict #[] }) scope.names) st3 fun b _ o e => pushCells_keeps _ _ b o (Heap.get?_push_of_some _ e)
  have f4 : ∀ b ∈ fp, FpOk (X.inn scope (capN own cap) { s2 with heap := s2.heap.push { cls := .type "list", data := .seq ([] : List Value).toArray }, toks := s2.toks } (upd H2 s2.heap.objs.size (.lst [])) fp) [] (upd H2 s2.heap.objs.size (.lst [])) b := fun b hb =>
    ⟨(f3 b hb).1, (I4.ok.exf b hb).1, I4.ok.exfs b hb, .inl hb, (I4.ok.exf b hb).2, fun p hp => absurd (show p ∈ ([] : List (Addr × Obj)) from hp) (by simp)⟩
  have lp := lc_loop (Y := X.inn scope (capN own cap) { s2 with heap := s2.heap.push { cls := .type "list", data := .seq ([] : List Value).toArray }, toks := s2.toks } (upd H2 s2.heap.objs.size (.lst [])) fp) (acc := s2.heap.objs.size) (gens := ⟨tg, iter, ifs, 0⟩ :: rest) (d := 0) rfl rfl hc hg ht hb I4 T st4 f4 (q2 _ fr2)
  have lp' := codeAny_mono lp (R' := compPost (model X.prog X.w) X.A X.xe (some (assign (.Name y py) X.env)) (fun _ s' => SP X pins D .next s') (.ref s2.heap.objs.size) (s2.heap.push { cls := .type "list", data := .seq ([] : List Value).toArray }).objs.size) fun r s' ⟨hr, σ', H', I', q'⟩ => by
    subst hr
    obtain ⟨m', hn', _⟩ := id I'.loc
    have B := I'.base
    have I5 : Inv X pins σ H' s' := I3.call' (ch := fp) I'.os B I'.hok I'.bare fun b hb => ⟨(f3 b hb).2.2.2.1, (f3 b hb).2.1, (f3 b hb).2.2.2.2.1, (f3 b hb).2.2.2.2.2⟩
    have hC : H' (s2.heap.push { cls := .type "list", data := .seq ([] : List Value).toArray }).objs.size = none := I'.free
    show wpAny _ X.A (assign (.Name y py) X.env (.ref s2.heap.objs.size)) _ _ _
    refine wpAny_assign_Name (store_ok2 I5 hN hyi (.inl hy) (v := .ref s2.heap.objs.size) rfl (fun s6 I6 ⟨a6, sb6, ha6⟩ => ?_) (.inr hy))
    have neL : X.env.locals ≠ (s2.heap.push { cls := .type "list", data := .seq ([] : List Value).toArray }).objs.size := Nat.ne_of_lt I3.lt
    have ha : a6 ≠ (s2.heap.push { cls := .type "list", data := .seq ([] : List Value).toArray }).objs.size := by
      rcases ha6 with rfl | ha6
      · exact neL
      · obtain ⟨v, hv⟩ := I3.cell y a6 ha6
        exact Nat.ne_of_lt hv.lt
    refine ⟨m', hn'.sameBut sb6 ha.symm, fun h' hsb => ?_⟩
    refine ⟨_, H', ?_, q'⟩
    have kb : ∀ b o, b ≠ (s2.heap.push { cls := .type "list", data := .seq ([] : List Value).toArray }).objs.size → s6.heap.get? b = some o → h'.get? b = some o := fun b o hb e => (hsb.2 b hb).trans e
    refine I6.turned (t' := s6.toks) (it := (s2.heap.push { cls := .type "list", data := .seq ([] : List Value).toArray }).objs.size) kb hC neL.symm (.inr I3.sz) (fun x c e z => ?_) (fun p hp z => ?_)
    · obtain ⟨v, hv⟩ := I3.cell x c e
      exact absurd z (Nat.ne_of_lt hv.lt)
    · have := (I3.pin p hp).1
      exact absurd z (Nat.ne_of_lt (Heap.lt_size this))
  exact compStart_any rfl lp' (T.self _ _ _ _ _ st4 lp')
end L2

namespace L2
open PySem PySem.Spec PyProof.Rows

/-! ### deep data -/
mutual
inductive Den (K : PySem.W.Frag) (H : Hp) : V → PyData → Prop
  | non : Den K H .non .none
  | bl (b) : Den K H (.bl b) (.bool b)
  | int (i) : Den K H (.int i) (.int i)
  | str (x) : Den K H (.str x) (.str x)
  | lst {a us ds} : SqL K H a us → Dens K H us ds → Den K H (.ref a) (.list ds)
  | tup {a us ds} : SqT K H a us → Dens K H us ds → Den K H (.ref a) (.tuple ds)
inductive Dens (K : PySem.W.Frag) (H : Hp) : List V → List PyData → Prop
  | nil : Dens K H [] []
  | cons {v vs d ds} : Den K H v d → Dens K H vs ds → Dens K H (v :: vs) (d :: ds)
end
theorem Same.tup {K : PySem.W.Frag} {H H' : Hp} {a : Addr} {xs : List V} (e : Same H H') (h : SqT K H a xs) : SqT K H' a xs := by
  rcases h with (h | ⟨o, h⟩) | h
  · exact .inl (.inl (e _ _ h))
  · exact .inl (.inr ⟨o, e _ _ h⟩)
  · exact .inr h
section
variable {X : Cx} {pins : List (Addr × Obj)} {σ : St} {H : Hp} {s : Shared}
mutual
theorem Den.reads (I : Inv X pins σ H s) : ∀ {v d} {u : Value}, Den X.K H v d → RelV v u → ∃ as, Reads s.heap u d as
  | _, _, _, .non, r => by cases r; exact ⟨_, .none⟩
  | _, _, _, .bl b, r => by cases r; exact ⟨_, .bool b⟩
  | _, _, _, .int i, r => by obtain ⟨t, rfl⟩ := r; exact ⟨_, .int i t⟩
  | _, _, _, .str i, r => by obtain ⟨t, rfl⟩ := r; exact ⟨_, .str i t⟩
  | _, _, _, .lst h hr, r => by
    cases r
    obtain ⟨its, rv, ⟨o, n, e, c, _, d⟩, _⟩ := I.list h
    obtain ⟨as, q⟩ := Dens.reads I hr rv
    exact ⟨_, .list e c d (by simpa using q)⟩
  | _, _, _, .tup h hr, r => by
    cases r
    obtain ⟨its, rv, ⟨o, e, c, n, d⟩, _⟩ := I.tuple h
    obtain ⟨as, q⟩ := Dens.reads I hr rv
    exact ⟨_, .tuple e c d (by simpa using q)⟩
theorem Dens.reads (I : Inv X pins σ H s) : ∀ {vs ds} {us : List Value}, Dens X.K H vs ds → Vals vs us → ∃ as, ReadsAll s.heap us ds as
  | _, _, _, .nil, r => by cases r; exact ⟨_, .nil⟩
  | _, _, _, .cons h hr, r => by
    cases r with
    | cons r1 r2 =>
      obtain ⟨as, q⟩ := Den.reads I h r1
      obtain ⟨bs, q2⟩ := Dens.reads I hr r2
      exact ⟨_, .cons q q2⟩
end
end
def rEqD (K : PySem.W.Frag) (f : Bool → Bool) : R2 := fun x y H Q => ∃ dx dy, Den K H x dx ∧ Den K H y dy ∧ dx.canLay0 = true ∧ dy.canLay0 = true ∧ dx.depth ≤ 32 ∧ Q (.bl (f (PyData.eqv dx dy))) H
section
variable {X : Cx}
theorem op_eqD (hu : X.A.units + 64 < cLine) : OpR X (compareOp .Eq) (rEqD X.K id) := by
  intro pins s σ H x y v u Q I rx ry h
  obtain ⟨dx, dy, h1, h2, h3, h4, h5, q⟩ := h
  obtain ⟨as, r1⟩ := h1.reads I rx
  obtain ⟨bs, r2⟩ := h2.reads I ry
  exact SeqAt.compareEq_reads r1 r2 h3 h4 (by omega) ⟨.bl _, H, I, rfl, q⟩
theorem op_neD (hu : X.A.units + 64 < cLine) : OpR X (compareOp .NotEq) (rEqD X.K not) := by
  intro pins s σ H x y v u Q I rx ry h
  obtain ⟨dx, dy, h1, h2, h3, h4, h5, q⟩ := h
  obtain ⟨as, r1⟩ := h1.reads I rx
  obtain ⟨bs, r2⟩ := h2.reads I ry
  exact SeqAt.compareNe_reads r1 r2 h3 h4 (by omega) ⟨.bl _, H, I, rfl, q⟩
/-! ### isinstance of one class -/
/-! ### all, any over a list of bools -/
theorem vals_bools {bs : List Bool} : ∀ {us : List Value}, Vals (bs.map V.bl) us → us = bs.map Value.bool := by
  induction bs with
  | nil => intro us h; cases h; rfl
  | cons b r ih =>
    intro us h
    cases h with
    | cons h1 h2 => cases h1; rw [ih h2]; rfl
theorem range_all {bs : List Bool} : (List.range bs.length).all (fun i => bs.getD i false) = bs.all id := by
  rw [Bool.eq_iff_iff, List.all_eq_true, List.all_eq_true]
  constructor
  · intro h b hb
    obtain ⟨i, hi, rfl⟩ := List.mem_iff_getElem.mp hb
    have := h i (List.mem_range.mpr hi)
    simpa [hi] using this
  · intro h i hi
    have hi := List.mem_range.mp hi
    have := h _ (List.getElem_mem hi)
    simpa [hi] using this
theorem bools_truth {prog : Program} {w : World} {A : Around} {bs : List Bool} : TruthOf prog w A (fun i v => (bs.map Value.bool).toArray[i]? = some v) (fun i => bs.getD i false) := by
  intro i v s Q E hv hq
  simp only [List.getElem?_toArray, List.getElem?_map] at hv
  cases e : bs[i]? with
  | none => rw [e] at hv; cases hv
  | some b =>
    rw [e] at hv; cases hv
    have hq : Q (bs.getD i false) s := hq
    rw [List.getD_eq_getElem?_getD, e] at hq
    exact wpAny_truthy_bool hq
theorem call_all_bools (hc : X.calm = true) : CallR X (.builtin "all") (fun xs H Q => ∃ (a : Addr) (bs : List Bool), xs = [.ref a] ∧ SqL X.K H a (bs.map V.bl) ∧ Q (.bl (bs.all id)) H) := by
  intro pins s σ H xs us Q I r h
  obtain ⟨a, bs, rfl, hq, q⟩ := h
  obtain ⟨u, rfl, r1⟩ := vals1 r
  cases r1
  obtain ⟨its, rv, p, hz⟩ := I.list hq
  cases vals_bools rv
  refine call_all_walk (wpAny_pyIter_list p.isList ?_)
  have hne : a ≠ s.heap.objs.size := by obtain ⟨o, n, e, _⟩ := p; exact Nat.ne_of_lt (Heap.lt_size e)
  refine ⟨_, _, _, _, _, _, _, rfl, Walks.list (A := X.A.in1) (I.ok.hd hc) s.heap.objs.size a hne _, ⟨⟨_, Heap.get?_push_size _ rfl, rfl, rfl⟩, (p.keeps fun b o e => Heap.get?_push_of_some _ e).isList⟩, bools_truth, fun h' tk k => ?_⟩
  have e1 : ((bs.map Value.bool).toArray.size) = bs.length := by simp
  rw [e1, range_all]
  refine ⟨.bl _, H, I.kept fun b o e => k b o ?_ (Heap.get?_push_of_some _ e), rfl, q⟩
  simp only [List.mem_singleton]
  exact Nat.ne_of_lt (Heap.lt_size e)
/-! ### sum of a list of ints, of any size -/
/-! ### list(range(n)) -/
def tLR (ta : TA) : TE := fun σ H Q => ta σ H fun vs H1 => ∃ n : Nat, vs = [.int n] ∧ n ≤ 1000000 ∧ ∀ l, H1 l = none → Q (.ref l) (upd H1 l (.lst ((List.range n).map fun (i : Nat) => V.int (i : Int))))
end
/-! ### an iterator's step that lays a new object -/
section
variable {X : Cx} {pins : List (Addr × Obj)} {σ : St} {H : Hp} {s : Shared} {h' : Heap} {t' : Nat}
theorem Inv.turnLay {a : Addr} {o : HO} {ch : List Addr} (I : Inv X pins σ H s) (k : ∀ b u, b ∉ ch → s.heap.get? b = some u → h'.get? b = some u) (hp : s.heap.objs.size ≤ a) (new : ObjOk X.prog X.w (upd H a o) h' a o) (hch : ∀ b ∈ ch, FpOk X pins H b) :
    Inv X pins σ (upd H a o) { s with heap := h', toks := t' } := by
  have hn : H a = none := I.hok.fresh hp
  have nch : ∀ b u, H b = some u → b ∉ ch := fun b u e z => by rw [(hch b z).1] at e; cases e
  refine I.call (g' := s.gens) (d' := s.drawn) (ch := ch) ⟨fun b u q _ _ hx => k b u hx q, fun b u q _ _ hx => ⟨u.slots, k b u hx q⟩, fun b u q n _ => ?_, fun b u q hx => ⟨u, k b u hx q⟩, fun b xs q => ?_, fun b u xs q => ?_, fun b ps q => ⟨#[], ?_⟩⟩ (fun b u e => ?_) I.bare
    fun b hb => ⟨(hch b hb).2.2.2.1, (hch b hb).2.1, (hch b hb).2.2.2.2.1, (hch b hb).2.2.2.2.2⟩
  · rw [upd_ne (Nat.ne_of_lt (Nat.lt_of_lt_of_le (Heap.lt_size q) hp))]; exact n
  · rw [upd_ne (ne_of_none q hn)]; exact q
  · rw [upd_ne (ne_of_none q hn)]; exact q
  · rw [upd_ne (ne_of_none q hn), q]; simp
  · by_cases hb : b = a
    · subst hb; rw [upd_same] at e; cases e; exact new
    · rw [upd_ne hb] at e
      refine (I.hok b u e).stay (fun c v hc q => k c v ?_ q) (fun c q => by rw [upd_ne (ne_of_none q hn)]; exact q) fun c xs q => by rw [upd_ne (ne_of_none q hn)]; exact q
      rcases hc with z | z
      · rw [z]; exact nch b u e
      · exact nch c _ z
end
/-! ### enumerate(xs) -/
def Ite (K : PySem.W.Frag) (a : Addr) : It :=
  ⟨fun i H => ∃ xs x, SqL K H a xs ∧ xs[i]? = some x, fun i H x H' => ∃ p y, H p = none ∧ (∀ xs, SqL K H a xs → xs[i]? = some y) ∧ x = .ref p ∧ H' = upd H p (.tup [.int i, y]), fun i H => ∃ xs, SqL K H a xs ∧ xs.length ≤ i⟩
section
variable {X : Cx}
def iEnum (K : PySem.W.Frag) (ta : TA) : TI := fun σ H R => ta σ H fun vs H1 => ∃ a, vs = [.ref a] ∧ (∃ xs, SqL K H1 a xs) ∧ R (Ite K a) H1
end
end L2

namespace L2
open PySem PySem.Spec PyProof.Rows

def lcCheck (osc : Scope) (oN : List Str) (scope : Scope) (own : List Str) (cap : List (Str × Nat)) : Bool :=
  scope.kind == .function && decide ((scope.names.map (·.1)).Nodup) && (scope.names.all fun x => x.2 != .local || scope.names.lookup x.1 == some .local)
    && (scope.names.all fun x => x.2 != .free || (osc.names.lookup x.1 == some .cell || osc.names.lookup x.1 == some .free))
    && (cap.all fun p => oN[p.2]? == some p.1 && scope.names.contains (p.1, NameKind.free))
theorem LcScope.of {X : Cx} {scope : Scope} {own : List Str} {cap : List (Str × Nat)} (h : lcCheck X.env.scope X.N scope own cap = true) : LcScope X scope own cap := by
  unfold lcCheck at h
  simp only [Bool.and_eq_true, List.all_eq_true, beq_iff_eq, decide_eq_true_eq, Bool.or_eq_true, bne_iff_ne, ne_eq] at h
  obtain ⟨⟨⟨⟨h1, h2⟩, h3⟩, h4⟩, h5⟩ := h
  refine ⟨h1, h2, fun x hx hk => ?_, fun x hx hk => ?_, fun p hp => ?_⟩
  · rcases h3 x hx with z | z
    · exact absurd hk z
    · exact z
  · rcases h4 x hx with z | z
    · exact absurd hk z
    · exact z
  · obtain ⟨a, b⟩ := h5 p hp
    exact ⟨a, by simpa using b⟩
section
variable {X : Cx} {e : Expr} {te : TE} {pos : Pos}
theorem pset (i : Nat) {x : Str} {pos' : Pos} (hN : X.N.Nodup) (he : PE X e te) (hi : X.N[i]? = some x := by rfl) (hx : Loc X.env.scope x := by first | exact Or.inl rfl | exact Or.inr rfl) (hs : swapsWith e (some (.Name x pos')) pos.line X.env = pure false := by rfl)
    (hf : X.fn x = true ∨ X.env.scope.names.lookup x = some .local := by first | exact .inl rfl | exact .inr rfl | assumption) : PS X (.Assign [.Name x pos'] e pos) (tAsg te (gName i)) := ps_set hN hi hx he hs hf
theorem pgn (i : Nat) {x : Str} (hN : X.N.Nodup) (hi : X.N[i]? = some x := by rfl) (hx : Loc X.env.scope x := by first | exact Or.inl rfl | exact Or.inr rfl) (hf : X.fn x = true ∨ X.env.scope.names.lookup x = some .local := by first | exact .inl rfl | exact .inr rfl | assumption) : PG X (.Name x pos) (gName i) := pg_name hN hi hx hf
end
/-- a def of the text that keeps its promise -/
structure Df (P : Program) (w : World) (K : PySem.W.Frag) (mg : Str → Option Value) (base : Heap) (x : Str) (ps : List Str) (k : Nat) (sp : Sp) : Prop where
  ex : ∃ f fd, FnOk P w K mg base CX0 k f fd ps sp ∧ mg x = some (.ref f) ∧ PySem.W.keepIn K (.ref f) = true ∧ Binds K fd ps []
theorem pe_df {X : Cx} {x : Str} {ps : List Str} {k : Nat} {sp : Sp} {p pos : Pos} {e : Expr} {es : List Expr} {t : TA} (D : Df X.prog X.w X.K X.mg X.base x ps k sp) (hr : Room k X.A) (ha : PA X (e :: es) t) (hg : Gl X x := by rfl) (hdb : (x == ("__debug__" : Str)) = false := by decide)
    (he : starEach (e :: es) X.env = (false, eval e X.env) :: starEach es X.env := by rfl) (hpl : (backTo pos (starEach es X.env)).any (·.1) = false := by rfl) : PE X (.Call (.Name x p) (e :: es) [] pos) (tCall sp [] E0 t) := by
  obtain ⟨f, fd, F, hm, hk, hb⟩ := D.ex
  exact pe_call F hr hg hm hk hb .nil pass0 ha hdb he hpl
section
variable {X : Cx} {o e : Expr} {to : TE} {te : TE} {apos cpos : Pos}
theorem pm_append (ho : PE X o to) (he : PE X e te) (hs : starEach [e] X.env = [(false, eval e X.env)]) (hbase : attributeBase o "append" X.env (eval o X.env) = eval o X.env := by rfl)
    (hline : (apos.endLine == cpos.line) = true := by rfl) : PE X (.Call (.Attribute o "append" apos) [e] [] cpos) (tBM X.K "list" rAppend to (tCons te tNil)) :=
  pe_bm PySem.F.plainAttrs_list PySem.F.slot_list_append PySem.F.type_list_append mt_append ho (pa_cons he pa_nil hs) hbase (by rw [hs]; rfl) hline hs rfl
end
def rGetL (K : PySem.W.Frag) : R2 := fun x y H Q => ∃ p xs j v, x = .ref p ∧ y = .int ((j : Nat) : Int) ∧ SqL K H p xs ∧ xs[j]? = some v ∧ Q v H
theorem get_list {X : Cx} : PGet X (rGetL X.K) := by
  intro pins s σ H x y v u Q I rx ry h
  obtain ⟨p, xs, j, z, rfl, rfl, hq, he, q⟩ := h
  cases rx
  obtain ⟨t, rfl⟩ := ry
  obtain ⟨its, r, pl, hz⟩ := I.list hq
  obtain ⟨w, ew, rw'⟩ := r.get he
  have hl := r.length
  have hn := line63
  have hj : j < xs.length := (List.getElem?_eq_some_iff.mp he).1
  exact wpAny_getItem_list pl.isList (by omega) (by omega) (by simpa using ew) ⟨z, H, I, rw', q⟩
theorem nd_of {N : List Str} (h : decide N.Nodup = true) : N.Nodup := of_decide_eq_true h

/-! ### the same rules, the fragment written by its name -/
section
variable {X : Cx} {K : PySem.W.Frag}
theorem pg_tupK (K : PySem.W.Frag) (n : Nat) (hK : X.K = K) {es : List Expr} {k : Nat} {t : TGs} {pos : Pos} (hc : X.calm = true) (h : PGs X es t) (hn : (assignEach es X.env).length = n) (hst : (assignEach es X.env).findIdx? (·.1) = none) : PG X (.Tuple es k pos) (gTup K n t) := by
  subst hK; exact pg_tup hc h hn hst
theorem pi_listK (K : PySem.W.Frag) (hK : X.K = K) {tg l : Expr} {tl : TE} (hl : PE X l tl) : PI X tg l (iList K tl) := by subst hK; exact pi_list hl
def rLen (K : PySem.W.Frag) : List V → Hp → VK → Prop := fun xs H Q => ∃ p ys, xs = [.ref p] ∧ (SqL K H p ys ∨ SqT K H p ys) ∧ Q (.int ys.length) H
theorem call_lenK (K : PySem.W.Frag) (hK : X.K = K) : CallR X (.builtin "len") (rLen K) := by subst hK; exact call_len_seq
def rAll (K : PySem.W.Frag) : List V → Hp → VK → Prop := fun xs H Q => ∃ (a : Addr) (bs : List Bool), xs = [.ref a] ∧ SqL K H a (bs.map V.bl) ∧ Q (.bl (bs.all id)) H
def rAny (K : PySem.W.Frag) : List V → Hp → VK → Prop := fun xs H Q => ∃ (a : Addr) (bs : List Bool), xs = [.ref a] ∧ SqL K H a (bs.map V.bl) ∧ Q (.bl (bs.any id)) H
def rSum (K : PySem.W.Frag) : List V → Hp → VK → Prop := fun xs H Q => ∃ (a : Addr) (ns : List Int), xs = [.ref a] ∧ SqL K H a (ns.map V.int) ∧ Q (.int ns.sum) H
def rIsi (K : PySem.W.Frag) : List V → Hp → VK → Prop := fun xs H Q => ∃ x T t b, xs = [x, .ty T] ∧ TyOf K H x t ∧ PySem.W.kitOne K t (.type T) = some b ∧ Q (.bl b) H
def rListOf (K : PySem.W.Frag) : List V → Hp → VK → Prop := fun xs H Q => ∃ p ys, xs = [.ref p] ∧ (SqL K H p ys ∨ SqT K H p ys) ∧ ∀ l, H l = none → Q (.ref l) (upd H l (.lst ys))
theorem call_allK (K : PySem.W.Frag) (hK : X.K = K) (hc : X.calm = true) : CallR X (.builtin "all") (rAll K) := by subst hK; exact call_all_bools hc
theorem call_listK (K : PySem.W.Frag) (hK : X.K = K) : CallR X (.type "list") (rListOf K) := by subst hK; exact call_list_of
theorem op_eqK (K : PySem.W.Frag) (hK : X.K = K) (hu : X.A.units + 64 < cLine) : OpR X (compareOp .Eq) (rEqD K id) := by subst hK; exact op_eqD hu
theorem op_neK (K : PySem.W.Frag) (hK : X.K = K) (hu : X.A.units + 64 < cLine) : OpR X (compareOp .NotEq) (rEqD K not) := by subst hK; exact op_neD hu
theorem get_listK (K : PySem.W.Frag) (hK : X.K = K) : PGet X (rGetL K) := by subst hK; exact get_list
theorem pm_appendK (K : PySem.W.Frag) (hK : X.K = K) {o e : Expr} {to te : TE} {apos cpos : Pos} (ho : PE X o to) (he : PE X e te) (hs : starEach [e] X.env = [(false, eval e X.env)]) (hbase : attributeBase o "append" X.env (eval o X.env) = eval o X.env)
    (hline : (apos.endLine == cpos.line) = true) : PE X (.Call (.Attribute o "append" apos) [e] [] cpos) (tBM K "list" rAppend to (tCons te tNil)) := by subst hK; exact pm_append ho he hs hbase hline
end

/-! ### a display of written ints -/
def intE (e : Expr) : Option Int := match e with
  | .Constant (.int i) _ _ => some i
  | _ => none
theorem intE_of {e : Expr} {i : Int} (h : intE e = some i) : ∃ k p, e = .Constant (.int i) k p := by
  unfold intE at h
  split at h
  · cases h; exact ⟨_, _, rfl⟩
  · cases h
def intsOf : List Expr → Option (List Int)
  | [] => some []
  | e :: r => match intE e, intsOf r with
    | some i, some l => some (i :: l)
    | _, _ => none
theorem pa_ints {X : Cx} : ∀ {es : List Expr} {ns : List Int}, intsOf es = some ns → PA X es (fun _ H Q => Q (ns.map V.int) H)
  | [], ns, h => by
    cases h
    exact pa_nil
  | e :: r, ns, h => by
    unfold intsOf at h
    split at h
    · rename_i i ms e1 e2
      cases h
      obtain ⟨k, p, rfl⟩ := intE_of e1
      exact pa_cons pe_int (pa_ints e2) rfl
    · cases h
end L2

namespace L2
open PySem PySem.Spec PyProof.Rows

theorem Same.put {H H' : Hp} {p : Addr} {o : HO} (e : Same H H') (h : H p = none) : Same H (upd H' p o) := fun b o' hb => by rw [upd_ne (ne_of_none hb h)]; exact e b o' hb
theorem Same.new {H : Hp} {p : Addr} {o : HO} (h : H p = none) : Same H (upd H p o) := (Same.refl H).put h
theorem Same.gone {H H' : Hp} {p : Addr} (e : Same H H') (h : H' p = none) : H p = none := e.free h
theorem tyl {K : PySem.W.Frag} {H : Hp} {p : Addr} {xs : List V} (h : SqL K H p xs) : tyV K "list" (.ref p) H := .inl ⟨rfl, _, h⟩
end L2

namespace L2
open PySem PySem.Spec PyProof.Rows
structure QE (X : Cx) (e : Expr) (t : TE) : Prop where
  h : PE X e t
structure QT (X : Cx) (e : Expr) (t : TT) : Prop where
  h : PT X e t
structure QW (X : Cx) (e : Expr) (t : TT) : Prop where
  h : PW X e t
structure QA (X : Cx) (e : List Expr) (t : TA) : Prop where
  h : PA X e t
structure QS (X : Cx) (e : Stmt) (t : TS) : Prop where
  h : PS X e t
structure QSs (X : Cx) (e : List Stmt) (t : TS) : Prop where
  h : PSs X e t
structure QG (X : Cx) (e : Expr) (t : TG) : Prop where
  h : PG X e t
structure QGs (X : Cx) (e : List Expr) (t : TGs) : Prop where
  h : PGs X e t
structure QTs (X : Cx) (e : List Expr) (t : TT) : Prop where
  h : PTs X e t
structure QO (X : Cx) (e : Option Expr) (t : TO) : Prop where
  h : PO X e t
structure QI (X : Cx) (tg e : Expr) (t : TI) : Prop where
  h : PI X tg e t
structure QB (Y : Cx) (elt : Expr) (gens : List Comprehension) (scope : Scope) (pos : Pos) (d : Nat) (acc : Addr) (tb : TS) : Prop where
  h : PB Y elt gens scope pos d acc tb
theorem qpv (i : Nat) {x : Str} {pos : Pos} (hN : X.N[i]? = some x := by rfl) (hv : Vis X.env.scope x := by first | exact Or.inl rfl | exact Or.inr (Or.inl rfl) | exact Or.inr (Or.inr rfl)) (hd : (x == ("__debug__" : Str)) = false := by decide) (hcd : (x == ("__classdict__" : Str)) = false := by decide) : QE X (.Name x pos) (tVar i) := ⟨pv i hN hv hd hcd⟩
theorem qpe_bltn {x : Str} {v : V} {u : Value} {pos : Pos} (hg : Gl X x) (hm : X.mg x = none) (hv : bootBuiltins x = some u) (r : RelV v u) (hn : x ≠ "__name__" := by decide) (hd : (x == ("__debug__" : Str)) = false := by decide) : QE X (.Name x pos) (tC v) := ⟨pe_bltn hg hm hv r hn hd⟩
theorem qpe_bl {b j pos} : QE X (.Constant (.bool b) j pos) (tC (.bl b)) := ⟨pe_bl ⟩
theorem qpe_int {i j pos} : QE X (.Constant (.int i) j pos) (tC (.int i)) := ⟨pe_int ⟩
theorem qpe_un {op : UnaryOp} {r : V → Hp → VK → Prop} (ho : UnR X (unaryOp op) r) (ha : QE X a ta) : QE X (.UnaryOp op a pos) (tUn r ta) := ⟨pe_un ho ha.h⟩
theorem qpe_not (ha : QE X a ta) : QE X (.UnaryOp .Not a pos) (tNotV ta) := ⟨pe_not ha.h⟩
theorem qpe_op {op : Operator} {r : R2} (ho : OpR X (binaryOp op) r) (ha : QE X a ta) (hb : QE X b tb) : QE X (.BinOp a op b pos) (tOp r ta tb) := ⟨pe_op ho ha.h hb.h⟩
theorem qpe_and {rest : List Expr} (ha : QE X a ta) (hb : QE X (.BoolOp .And (b :: rest) pos) tb) : QE X (.BoolOp .And (a :: b :: rest) pos) (tAndV ta tb) := ⟨pe_and ha.h hb.h⟩
theorem qpe_one {op} {t : TE} (h : QE X a t) : QE X (.BoolOp op [a] pos) t := ⟨pe_one h.h⟩
theorem qpe_ifExp {c : Expr} (hc : QT X c tA) (ha : QE X a ta) (hb : QE X b tb) : QE X (.IfExp c a b pos) (tIf tA ta tb) := ⟨pe_ifExp hc.h ha.h hb.h⟩
theorem qpe_tup {x1} (h : QA X es t) : QE X (.Tuple es x1 pos) (tTup t) := ⟨pe_tup h.h⟩
theorem qpe_lst (h : QA X es t) : QE X (.List es pos) (tLst t) := ⟨pe_lst h.h⟩
theorem qpe_slice {lo hi : Option Expr} {r : V → Option Int → Option Int → Hp → VK → Prop} (hr : SlR X r) (he : QE X e te) (hl : QO X lo tl) (hu : QO X hi th) : QE X (.Subscript e (.Slice lo hi none p2) pos) (tSl r te tl th) := ⟨pe_slice hr he.h hl.h hu.h⟩
theorem qpe_ix {r : R2} (hr : IxR X r) (ha : QE X a ta) (hb : QE X b tb) (hs : PlainIx b) : QE X (.Subscript a b pos) (tOp r ta tb) := ⟨pe_ix hr ha.h hb.h hs⟩
theorem qpe_df {X : Cx} {x : Str} {ps : List Str} {k : Nat} {sp : Sp} {p pos : Pos} {e : Expr} {es : List Expr} {t : TA} (D : Df X.prog X.w X.K X.mg X.base x ps k sp) (hr : Room k X.A) (ha : QA X (e :: es) t) (hg : Gl X x := by rfl) (hdb : (x == ("__debug__" : Str)) = false := by decide) (he : starEach (e :: es) X.env = (false, eval e X.env) :: starEach es X.env := by rfl) (hpl : (backTo pos (starEach es X.env)).any (·.1) = false := by rfl) : QE X (.Call (.Name x p) (e :: es) [] pos) (tCall sp [] E0 t) := ⟨pe_df D hr ha.h hg hdb he hpl⟩
theorem qpe_callB {id : String} (hc : CallR X (.builtin id) r) (hg : Gl X x) (hm : X.mg x = none) (hv : bootBuiltins x = some (.builtin id)) (ha : QA X (e :: es) t) (hn : x ≠ "__name__" := by decide) (hdb : (x == ("__debug__" : Str)) = false := by decide) (he : starEach (e :: es) X.env = (false, eval e X.env) :: starEach es X.env := by rfl) (hpl : (backTo pos (starEach es X.env)).any (·.1) = false := by rfl) : QE X (.Call (.Name x p) (e :: es) [] pos) (tCB r t) := ⟨pe_callB hc hg hm hv ha.h hn hdb he hpl⟩
theorem qpe_callTy (hc : CallR X (.type T) r) (hg : Gl X x) (hm : X.mg x = none) (hv : bootBuiltins x = some (.type T)) (ha : QA X (e :: es) t) (hn : x ≠ "__name__" := by decide) (hdb : (x == ("__debug__" : Str)) = false := by decide) (he : starEach (e :: es) X.env = (false, eval e X.env) :: starEach es X.env := by rfl) (hpl : (backTo pos (starEach es X.env)).any (·.1) = false := by rfl) : QE X (.Call (.Name x p) (e :: es) [] pos) (tCB r t) := ⟨pe_callTy hc hg hm hv ha.h hn hdb he hpl⟩
theorem qpm_appendK (K : PySem.W.Frag) (hK : X.K = K) {o e : Expr} {to te : TE} {apos cpos : Pos} (ho : QE X o to) (he : QE X e te) (hs : starEach [e] X.env = [(false, eval e X.env)]) (hbase : attributeBase o "append" X.env (eval o X.env) = eval o X.env) (hline : (apos.endLine == cpos.line) = true) : QE X (.Call (.Attribute o "append" apos) [e] [] cpos) (tBM K "list" rAppend to (tCons te tNil)) := ⟨pm_appendK K hK ho.h he.h hs hbase hline⟩
theorem qpi_listK (K : PySem.W.Frag) (hK : X.K = K) {tg l : Expr} {tl : TE} (hl : QE X l tl) : QI X tg l (iList K tl) := ⟨pi_listK K hK hl.h⟩
theorem qpi_range1 {a : Expr} {ta : TA} {p pos : Pos} (hg : Gl X "range") (hm : X.mg "range" = none) (ha : QA X [a] ta) (hs : starEach [a] X.env = [(false, eval a X.env)] := by rfl) : QI X tg (.Call (.Name "range" p) [a] [] pos) (iRng1 ta) := ⟨pi_range1 hg hm ha.h hs⟩
theorem qpgn (i : Nat) {x : Str} (hN : X.N.Nodup) (hi : X.N[i]? = some x := by rfl) (hx : Loc X.env.scope x := by first | exact Or.inl rfl | exact Or.inr rfl) (hf : X.fn x = true ∨ X.env.scope.names.lookup x = some .local := by first | exact .inl rfl | exact .inr rfl | assumption) : QG X (.Name x pos) (gName i) := ⟨pgn i hN hi hx hf⟩
theorem qpg_tupK (K : PySem.W.Frag) (n : Nat) (hK : X.K = K) {es : List Expr} {k : Nat} {t : TGs} {pos : Pos} (hc : X.calm = true) (h : QGs X es t) (hn : (assignEach es X.env).length = n) (hst : (assignEach es X.env).findIdx? (·.1) = none) : QG X (.Tuple es k pos) (gTup K n t) := ⟨pg_tupK K n hK hc h.h hn hst⟩
theorem qpg_sub {o i : Expr} {to ti : TE} {t : TSet} (ho : QE X o to) (hi : QE X i ti) (hs : PSet X t) (ha : ∀ v, assign (.Subscript o i pos) X.env v = (do
      let ov ← holding [v] (eval o X.env)
      let iv ← holding [v, ov] (eval i X.env)
      standAt pos
      holding [v, ov, iv] (setItem ov iv v)
      release [v, ov, iv] []) := by intro _; rfl) : QG X (.Subscript o i pos) (gSub to ti t) := ⟨pg_sub ho.h hi.h hs ha⟩
theorem qpgs_cons {e : Expr} {es : List Expr} {t : TG} {u : TGs} (h1 : QG X e t) (h2 : QGs X es u) (hs : (assignEach (e :: es) X.env).map (·.2) = assign e X.env :: (assignEach es X.env).map (·.2) := by rfl) : QGs X (e :: es) (gCons t u) := ⟨pgs_cons h1.h h2.h hs⟩
theorem qpgs_nil  : QGs X [] gNil := ⟨pgs_nil ⟩
theorem qpt_cmpR {op : CmpOp} {r : R2} (ho : OpR X (compareOp op) r) (ha : QE X a ta) (hb : QE X b tb) (hm : behindInMarks op b = false) : QT X (.Compare a [op] [b] pos) (tTest (tOp r ta tb)) := ⟨pt_cmpR ho ha.h hb.h hm⟩
theorem qPWpt {X : Cx} {e : Expr} {t : TT} (h : QW X e t) : QT X e t := ⟨PW.pt h.h⟩
theorem qpw_and {rest : List Expr} (ha : QT X a tA) (hb : QW X (.BoolOp .And (b :: rest) pos) tB') : QW X (.BoolOp .And (a :: b :: rest) pos) (tAnd tA tB') := ⟨pw_and ha.h hb.h⟩
theorem qpw_and1 (ha : QT X a tA) : QW X (.BoolOp .And [a] pos) tA := ⟨pw_and1 ha.h⟩
theorem qpw_or {rest : List Expr} (ha : QT X a tA) (hb : QW X (.BoolOp .Or (b :: rest) pos) tB') : QW X (.BoolOp .Or (a :: b :: rest) pos) (tOr tA tB') := ⟨pw_or ha.h hb.h⟩
theorem qpw_or1 (ha : QT X a tA) : QW X (.BoolOp .Or [a] pos) tA := ⟨pw_or1 ha.h⟩
theorem qpt_not (ha : QT X a tA) : QT X (.UnaryOp .Not a pos) (tNot tA) := ⟨pt_not ha.h⟩
theorem qpt_val {e : Expr} {t : TE} (h : QE X e t) (he : ∀ whole, isTrue e X.env whole = (do let v ← whole; standAt e.pos; holding [v] (truthy v)) := by intro _; rfl) : QT X e (tB t) := ⟨pt_val h.h he⟩
theorem qpss_cons {st : Stmt} {rest : List Stmt} (h1 : QS X st t) (h2 : QSs X rest u) : QSs X (st :: rest) (tSeq t u) := ⟨pss_cons h1.h h2.h⟩
theorem qpss_one {st : Stmt} (h1 : QS X st t) : QSs X [st] t := ⟨pss_one h1.h⟩
theorem qpss_nil  : QSs X [] tNext := ⟨pss_nil ⟩
theorem qps_ret (he : QE X e te) : QS X (.Return (some e) pos) (tRet te) := ⟨ps_ret he.h⟩
theorem qps_expr (he : QE X e te) (hs : swapsWith e none pos.line X.env = pure false := by rfl) : QS X (.Expr e pos) (tDrop te) := ⟨ps_expr he.h hs⟩
theorem qpset (i : Nat) {x : Str} {pos' : Pos} (hN : X.N.Nodup) (he : QE X e te) (hi : X.N[i]? = some x := by rfl) (hx : Loc X.env.scope x := by first | exact Or.inl rfl | exact Or.inr rfl) (hs : swapsWith e (some (.Name x pos')) pos.line X.env = pure false := by rfl) (hf : X.fn x = true ∨ X.env.scope.names.lookup x = some .local := by first | exact .inl rfl | exact .inr rfl | assumption) : QS X (.Assign [.Name x pos'] e pos) (tAsg te (gName i)) := ⟨pset i hN he.h hi hx hs hf⟩
theorem qps_asg {tg e : Expr} {te : TE} {g : TG} (he : QE X e te) (hg : QG X tg g) (hs : swapsWithSole [tg] e pos.line X.env = pure false := by rfl) (hw : swappedStores [tg] e X.env = pure none := by rfl) (h1 : (assignEach [tg] X.env).map (·.2) = [assign tg X.env] := by rfl) : QS X (.Assign [tg] e pos) (tAsg te g) := ⟨ps_asg he.h hg.h hs hw h1⟩
theorem qps_aug {i : Nat} {x : Str} {e : Expr} {te : TE} {op : Operator} {ti : TIp} {pos' : Pos} (hN : X.N.Nodup) (hi : X.N[i]? = some x) (hx : Loc X.env.scope x) (he : QE X e te) (ho : PIp X op ti) (hf : X.fn x = true ∨ X.env.scope.names.lookup x = some .local := by first | exact .inl rfl | exact .inr rfl | assumption) : QS X (.AugAssign (.Name x pos') op e pos) (tAug i te ti) := ⟨ps_aug hN hi hx he.h ho hf⟩
theorem qps_augS {o i e : Expr} {to ti te : TE} {tget : V → V → Hp → VK → Prop} {tip : TIp} {tset : TSet} {op : Operator} {tpos : Pos} (ho : QE X o to) (hi : QE X i ti) (hg : PGet X tget) (he : QE X e te) (hp : PIp X op tip) (hs : PSet X tset) (ha : ∀ ov iv new, augStore i ov iv new = (do holding [new, ov, iv] (setItem ov iv new); release [new, ov, iv] []; pure .next) := by intros; rfl) : QS X (.AugAssign (.Subscript o i tpos) op e pos) (tAugS to ti te tget tip tset) := ⟨ps_augS ho.h hi.h hg he.h hp hs ha⟩
theorem qps_if {c : Expr} {a b : List Stmt} {tc : TT} (hc : QT X c tc) (ha : QSs X a t) (hb : QSs X b u) : QS X (.If c a b pos) (tIfS tc t u) := ⟨ps_if hc.h ha.h hb.h⟩
theorem qps_for {iter : Expr} {body : List Stmt} {wi : TI} {g : TG} {tb : TS} {pos : Pos} (hp : PassesOwn (model X.prog X.w) X.A X.env X.xe) (hc : X.calm = true) (hi : QI X tg iter wi) (hg : QG X tg g) (hb : QSs X body tb) (hs : ∀ x, foldedSetIterable iter X.env x = pure x := by intro _; rfl) : QS X (.For tg iter body [] pos) (tFor wi g tb) := ⟨ps_for hp hc hi.h hg.h hb.h hs⟩
theorem qps_while {c : Expr} {body : List Stmt} {tc : TT} {tb : TS} (hp : PassesOwn (model X.prog X.w) X.A X.env X.xe) (hc : QT X c tc) (hb : QSs X body tb) : QS X (.While c body [] pos) (tWhile tc tb) := ⟨ps_while hp hc.h hb.h⟩
theorem qpts_nil {Y : Cx} : QTs Y [] (fun _ H Q => Q true H) := ⟨pts_nil ⟩
theorem qpb_emit {te : TE} (hg : gens[d + 1]? = none) (hx : Y.xe = fun _ _ => False) (he : QE Y elt te) : QB Y elt gens scope pos d acc (tEmit acc te) := ⟨pb_emit hg hx he.h⟩
theorem qpa_cons (ha : QE X e te) (hr : QA X es t) (hs : starEach (e :: es) X.env = (false, eval e X.env) :: starEach es X.env := by rfl) : QA X (e :: es) (tCons te t) := ⟨pa_cons ha.h hr.h hs⟩
theorem qpa_nil  : QA X [] tNil := ⟨pa_nil ⟩
theorem qpo_none  : QO X none tNoPart := ⟨po_none ⟩
theorem qpo_some (h : QE X e te) : QO X (some e) (tPart te) := ⟨po_some h.h⟩
theorem qpa_ints {X : Cx} {es : List Expr} {ns : List Int} (h : intsOf es = some ns) : QA X es (fun _ H Q => Q (ns.map V.int) H) := ⟨pa_ints h⟩
theorem qpe_lc {X : Cx} {elt tg iter : Expr} {ifs : List Expr} {rest : List Comprehension} {scope : Scope} {pos : Pos} {wi : TI} {g : TG} {ti : TT} {tb : Addr → TS} (own : List Str) (cap : List (Str × Nat)) (hc : X.calm = true) (L : LcScope X scope own cap) (hi : QI X tg iter wi)
    (hin : ∀ (s₃ : Shared) (H₃ : Hp) (fp : List Addr) (acc : Addr), QG (X.inn scope (capN own cap) s₃ H₃ fp) tg g ∧ QTs (X.inn scope (capN own cap) s₃ H₃ fp) ifs ti ∧ QB (X.inn scope (capN own cap) s₃ H₃ fp) elt (⟨tg, iter, ifs, 0⟩ :: rest) scope pos 0 acc (tb acc))
    (hs : ∀ x, foldedSetIterable iter X.env x = pure x := by intro _; rfl) : QE X (.ListComp elt (⟨tg, iter, ifs, 0⟩ :: rest) scope pos) (tLC wi g ti tb own cap) := ⟨pe_lc own cap hc L hi.h (fun a b c d => ⟨(hin a b c d).1.h, (hin a b c d).2.1.h, (hin a b c d).2.2.h⟩) hs⟩
theorem qps_setlc {X : Cx} {i : Nat} {y : Str} {py spos : Pos} {elt tg iter : Expr} {ifs : List Expr} {rest : List Comprehension} {scope : Scope} {pos : Pos} {wi : TI} {g : TG} {ti : TT} {tb : Addr → TS} (own : List Str) (cap : List (Str × Nat)) (hN : X.N.Nodup) (hyi : X.N[i]? = some y) (hy : X.env.scope.names.lookup y = some .local) (hc : X.calm = true) (L : LcScope X scope own cap) (hi : QI X tg iter wi)
    (hin : ∀ (s₃ : Shared) (H₃ : Hp) (fp : List Addr) (acc : Addr), QG (X.inn scope (capN own cap) s₃ H₃ fp) tg g ∧ QTs (X.inn scope (capN own cap) s₃ H₃ fp) ifs ti ∧ QB (X.inn scope (capN own cap) s₃ H₃ fp) elt (⟨tg, iter, ifs, 0⟩ :: rest) scope pos 0 acc (tb acc))
    (hsw : swapsWith (.ListComp elt (⟨tg, iter, ifs, 0⟩ :: rest) scope pos) (some (.Name y py)) spos.line X.env = pure true := by rfl) (hs : ∀ x, foldedSetIterable iter X.env x = pure x := by intro _; rfl) :
    QS X (.Assign [.Name y py] (.ListComp elt (⟨tg, iter, ifs, 0⟩ :: rest) scope pos) spos) (tAsg (tLC wi g ti tb own cap) (gName i)) := ⟨ps_setlc own cap hN hyi hy hc L hi.h (fun a b c d => ⟨(hin a b c d).1.h, (hin a b c d).2.1.h, (hin a b c d).2.2.h⟩) hsw hs⟩
end L2

namespace L2
open PySem PySem.Spec PyProof.Rows
section
variable {X : Cx} {i o value : Expr} {ty td tv : TE} {pos pos' : Pos}
end
def rLenD : List V → Hp → VK → Prop := fun xs H Q => ∃ a kvs, xs = [V.ref a] ∧ H a = some (.dK kvs) ∧ Q (.int kvs.length) H
end L2

namespace L2
open PySem PySem.Spec PyProof.Rows
/-! ### products of any size, a raise that is not reached -/
section
variable {X : Cx} {pos : Pos}
theorem op_mulB : OpR X (binaryOp .Mult) (rI IntMulOk fun i j => .int (i * j)) := opI fun _ _ _ _ _ _ _ hc q => mul_int q hc
end
theorem ne_add (n i j : Nat) (h : i ≠ j) : n + i ≠ n + j := by omega
theorem bits_lt {a : Int} {m : Nat} (h1 : -(2 ^ m) < a) (h2 : a < 2 ^ m) : Builtin.Int.intBits a ≤ m := by
  refine intBits_le_iff.mpr ?_
  have e : ((2 ^ m : Nat) : Int) = (2 : Int) ^ m := by simp
  omega
theorem mulB {a b : Int} {m n : Nat} (h1 : -(2 ^ m) < a) (h2 : a < 2 ^ m) (h3 : -(2 ^ n) < b) (h4 : b < 2 ^ n) (h : m + n ≤ 134217728) : IntMulOk a b := mulOk_of_bits (bits_lt h1 h2) (bits_lt h3 h4) h
/-! ### zip(xs, ys) of two lists -/
section
variable {X : Cx} {pins : List (Addr × Obj)} {σ : St} {H : Hp} {s : Shared} {h' : Heap} {t' : Nat}
theorem Inv.turnMany {ch : List Addr} (I : Inv X pins σ H s) (k : ∀ b u, b ∉ ch → s.heap.get? b = some u → h'.get? b = some u) (hch : ∀ b ∈ ch, FpOk X pins H b) :
    Inv X pins σ H { s with heap := h', toks := t' } := by
  have nch : ∀ b u, H b = some u → b ∉ ch := fun b u e z => by rw [(hch b z).1] at e; cases e
  refine I.call (g' := s.gens) (d' := s.drawn) (ch := ch) ⟨fun b u q _ _ hx => k b u hx q, fun b u q _ _ hx => ⟨u.slots, k b u hx q⟩, fun b u q n _ => n, fun b u q hx => ⟨u, k b u hx q⟩, fun b xs q => q, fun b u xs q => q, fun b ps q => ⟨#[], by rw [q]; simp⟩⟩ (fun b u e => ?_) I.bare
    fun b hb => ⟨(hch b hb).2.2.2.1, (hch b hb).2.1, (hch b hb).2.2.2.2.1, (hch b hb).2.2.2.2.2⟩
  refine (I.hok b u e).stay (fun c v hc q => k c v ?_ q) (fun c q => q) fun c xs q => q
  rcases hc with z | z
  · rw [z]; exact nch b u e
  · exact nch c _ z
end
def Itz (K : PySem.W.Frag) (a b : Addr) : It :=
  ⟨fun i H => ∃ xs ys x y, SqL K H a xs ∧ SqL K H b ys ∧ xs[i]? = some x ∧ ys[i]? = some y, fun i H z H' => ∃ p x y, H p = none ∧ (∀ xs, SqL K H a xs → xs[i]? = some x) ∧ (∀ ys, SqL K H b ys → ys[i]? = some y) ∧ z = .ref p ∧ H' = upd H p (.tup [x, y]), fun i H => ∃ xs ys, SqL K H a xs ∧ SqL K H b ys ∧ (xs.length ≤ i ∨ ys.length ≤ i)⟩
theorem turn_zip {P : Program} {w : World} {K : PySem.W.Frag} {elts : List Expr} {x1} {tp : Pos} (a b z TI TO i1 i2 : Addr) (h1z : TI ≠ z) (h2z : TO ≠ z) (h3z : i1 ≠ z) (h4z : i2 ≠ z) (h5 : TI ≠ TO) (h6 : TI ≠ i1) (h7 : TI ≠ i2) (h8 : TO ≠ i1) (h9 : TO ≠ i2) (h10 : i1 ≠ i2) :
    Turn P w K (.Tuple elts x1 tp) (Itz K a b) [z, TI, TO, i1, i2] z (fun i h => IsZip h z TI TO .none ∧ IsPair h TI (.ref i1) (.ref i2) ∧ (∃ u v, IsPair h TO u v) ∧ h.IsListIter i1 a i ∧ h.IsListIter i2 b i) where
  mem := by simp
  obj := fun i h st c hc => by
    obtain ⟨hz, hTI, ⟨u, v, hTO⟩, ⟨o1, e1, c1, d1⟩, ⟨o2, e2, c2, d2⟩⟩ := st
    simp only [List.mem_cons, List.not_mem_nil, or_false] at hc
    rcases hc with rfl | rfl | rfl | rfl | rfl
    · exact ⟨_, hz, fun v z => by
        have z' : Data.fields _ = Data.cell v := z
        cases z'⟩
    · exact ⟨_, hTI, fun v z => by
        have z' : Data.seq _ = Data.cell v := z
        cases z'⟩
    · exact ⟨_, hTO, fun v z => by
        have z' : Data.seq _ = Data.cell v := z
        cases z'⟩
    · exact ⟨o1, e1, fun v z => by rw [d1] at z; cases z⟩
    · exact ⟨o2, e2, fun v z => by rw [d2] at z; cases z⟩
  keep := fun i h h' st k => by
    obtain ⟨hz, hTI, ⟨u, v, hTO⟩, g1, g2⟩ := st
    exact ⟨k z (by simp) _ hz, k TI (by simp) _ hTI, ⟨u, v, k TO (by simp) _ hTO⟩, g1.at fun o e => k i1 (by simp) o e, g2.at fun o e => k i2 (by simp) o e⟩
  item := by
    intro X hP hw hK hc i pins s σ H E I hf st hg
    subst hP hw hK
    obtain ⟨hz, hTI, ⟨u, v, hTO⟩, g1, g2⟩ := st
    obtain ⟨xs, ys, x, y, hq, hq2, hx, hy⟩ := hg
    obtain ⟨its, rv, p, _⟩ := I.list hq
    obtain ⟨its2, rv2, p2, _⟩ := I.list hq2
    obtain ⟨ux, hux, rux⟩ := rv.get hx
    obtain ⟨uy, huy, ruy⟩ := rv2.get hy
    have hl1 := p.isList
    have hl2 := p2.isList
    have nz : ∀ {c l : Addr} {o : Obj} {r : Array Value}, s.heap.get? c = some o → o.cls ≠ .type "list" → s.heap.IsList l r → l ≠ c := fun {c l o r} e hn hL z => by
      subst z
      obtain ⟨o', e', c', _⟩ := hL
      rw [e] at e'; cases e'; exact hn c'
    obtain ⟨o1, e1, c1, d1⟩ := id g1
    obtain ⟨o2, e2, c2, d2⟩ := id g2
    have lt1 : z < s.heap.objs.size := Heap.lt_size hz
    have lt2 : TO < s.heap.objs.size := Heap.lt_size hTO
    have lt3 : i1 < s.heap.objs.size := Heap.lt_size e1
    have lt4 : i2 < s.heap.objs.size := Heap.lt_size e2
    have lt5 : TI < s.heap.objs.size := Heap.lt_size hTI
    have nZ : (Value.type "zip") ≠ .type "list" := by decide
    have nT : (Value.type "tuple") ≠ .type "list" := by decide
    have D : ZipApart z TI TO i1 i2 a b := ⟨h1z, h2z, h3z, h4z, h5, h6, h7, h8, h9, h10, nz hz nZ hl1, nz hTO nT hl1, nz e1 (by rw [c1]; decide) hl1, nz e2 (by rw [c2]; decide) hl1, nz hz nZ hl2, nz hTO nT hl2, nz e1 (by rw [c1]; decide) hl2, nz e2 (by rw [c2]; decide) hl2⟩
    refine wpAny_pyNext_zip_item D hz hTI hTO g1 g2 hl1 hl2 (x := ux) (y := uy) (by simpa using hux) (by simpa using huy) fun h' a1 a2 a3 a4 a5 a6 hk => ?_
    refine ⟨_, rfl, wpAny_letOwnedTupleGo_zip (s := { s with heap := h' }) a1 fun h2 hz' hs' => ?_⟩
    have k2 : ∀ c o, c ≠ z → c ≠ TO → c ≠ i1 → c ≠ i2 → s.heap.get? c = some o → h2.get? c = some o := fun c o n1 n2 n3 n4 e => (hs'.2 c n1).trans (hk c o n1 n2 n3 n4 e)
    refine ⟨.ref s.heap.objs.size, upd H s.heap.objs.size (.tup [x, y]), ?_, rfl, ⟨_, x, y, I.fresh, fun q hy => by rw [I.list_inj hy hq]; exact hx, fun q h => by rw [I.list_inj h hq2]; exact hy, rfl, rfl⟩, ⟨hz', k2 _ _ h1z h5 h6 h7 hTI, ⟨_, _, (hs'.2 TO h2z).trans a2⟩, a3.at fun o e => (hs'.2 i1 h3z).trans e, a4.at fun o e => (hs'.2 i2 h4z).trans e⟩, fun c hc => ?_⟩
    · have I1 := I.turnLay (h' := h2) (t' := s.toks) (a := s.heap.objs.size) (o := .tup [x, y]) (ch := [z, TI, TO, i1, i2]) (fun c o hc q => k2 c o (fun e => hc (by simp [e])) (fun e => hc (by simp [e])) (fun e => hc (by simp [e])) (fun e => hc (by simp [e])) q) (Nat.le_refl _) ?_ hf
      · exact I1
      exact ⟨by show 2 ≤ sizeLine; decide, [ux, uy], .cons rux (.cons ruy .nil), ⟨_, (hs'.2 _ (Nat.ne_of_gt lt1)).trans a5, rfl, 0, rfl⟩⟩
    · have nn := (hf c hc).1
      have : c ≠ s.heap.objs.size := by
        simp only [List.mem_cons, List.not_mem_nil, or_false] at hc
        rcases hc with hc | hc | hc | hc | hc <;> (rw [hc]; apply Nat.ne_of_lt; assumption)
      rw [upd_ne this]; exact nn
  done := by
    intro X hP hw hK hc i pins s σ H E I hf st hg
    subst hP hw hK
    obtain ⟨hz, hTI, ⟨u, v, hTO⟩, g1, g2⟩ := st
    obtain ⟨xs, ys, hq, hq2, hend⟩ := hg
    obtain ⟨its, rv, p, _⟩ := I.list hq
    obtain ⟨its2, rv2, p2, _⟩ := I.list hq2
    have hl1 := p.isList
    have hl2 := p2.isList
    have nz : ∀ {c l : Addr} {o : Obj} {r : Array Value}, s.heap.get? c = some o → o.cls ≠ .type "list" → s.heap.IsList l r → l ≠ c := fun {c l o r} e hn hL z => by
      subst z
      obtain ⟨o', e', c', _⟩ := hL
      rw [e] at e'; cases e'; exact hn c'
    obtain ⟨o1, e1, c1, d1⟩ := id g1
    obtain ⟨o2, e2, c2, d2⟩ := id g2
    have nZ : (Value.type "zip") ≠ .type "list" := by decide
    have nT : (Value.type "tuple") ≠ .type "list" := by decide
    have D : ZipApart z TI TO i1 i2 a b := ⟨h1z, h2z, h3z, h4z, h5, h6, h7, h8, h9, h10, nz hz nZ hl1, nz hTO nT hl1, nz e1 (by rw [c1]; decide) hl1, nz e2 (by rw [c2]; decide) hl1, nz hz nZ hl2, nz hTO nT hl2, nz e1 (by rw [c1]; decide) hl2, nz e2 (by rw [c2]; decide) hl2⟩
    have l1 := rv.length
    have l2 := rv2.length
    refine wpAny_pyNext_zip_end (I.ok.hd hc) D hz hTI hTO g1 g2 hl1 hl2 (by rcases hend with h | h <;> simp <;> omega) fun h' hk => ⟨rfl, ?_⟩
    exact I.turnMany (t' := s.toks) (ch := [z, TI, TO, i1, i2]) (fun c o hc q => hk c o (fun e => hc (by simp [e])) (fun e => hc (by simp [e])) (fun e => hc (by simp [e])) (fun e => hc (by simp [e])) q) hf
  self := fun _ _ _ _ _ st h => wpAny_pyIter_zip st.1 h
section
variable {X : Cx}
def iZip (K : PySem.W.Frag) (ta : TA) : TI := fun σ H R => ta σ H fun vs H1 => ∃ a b, vs = [.ref a, .ref b] ∧ (∃ xs, SqL K H1 a xs) ∧ (∃ ys, SqL K H1 b ys) ∧ R (Itz K a b) H1
theorem pi_zip {a b : Expr} {ta : TA} {p pos : Pos} {elts : List Expr} {x1} {tp : Pos} (hg : Gl X "zip") (hm : X.mg "zip" = none) (ha : PA X [a, b] ta) (hs : starEach [a, b] X.env = [(false, eval a X.env), (false, eval b X.env)] := by rfl) (hs2 : starEach [b] X.env = [(false, eval b X.env)] := by rfl) :
    PI X (.Tuple elts x1 tp) (.Call (.Name "zip" p) [a, b] [] pos) (iZip X.K ta) := by
  intro pins s σ H R I h
  refine Call_ (ld_blt I hg hm boot_zip (PyProof.Rows.callWith_type1 (thn (ha pos pins s σ H _ I h) fun us s1 ⟨vs, H1, I1, r1, q1⟩ => ?_) (by rw [hs, hs2]) (by rw [hs2]; rfl)))
  obtain ⟨a, b, e, ⟨xs, hq⟩, ⟨ys, hq2⟩, q⟩ := q1
  subst e
  obtain ⟨u, v, rfl, ru, rv'⟩ := vals2 r1
  cases ru
  cases rv'
  obtain ⟨its, rv, p, hz⟩ := I1.list hq
  obtain ⟨its2, rv2, p2, hz2⟩ := I1.list hq2
  refine call_zip_2 p.isList p2.isList fun h' g1 g2 g3 g4 g5 hsz hk => ?_
  refine wpAny_pyIter_zip g1 ?_
  have I2 : Inv X pins σ H1 { s1 with heap := h' } := I1.kept (t' := s1.toks) hk
  refine ⟨s1.heap.objs.size + 4, [s1.heap.objs.size + 4, s1.heap.objs.size + 2, s1.heap.objs.size + 3, s1.heap.objs.size, s1.heap.objs.size + 1], _, _, H1, rfl, I2, turn_zip a b _ _ _ _ _ (ne_add _ 2 4 (by decide)) (ne_add _ 3 4 (by decide)) (ne_add _ 0 4 (by decide)) (ne_add _ 1 4 (by decide)) (ne_add _ 2 3 (by decide)) (ne_add _ 2 0 (by decide)) (ne_add _ 2 1 (by decide)) (ne_add _ 3 0 (by decide)) (ne_add _ 3 1 (by decide)) (ne_add _ 0 1 (by decide)), ⟨g1, g2, ⟨_, _, g3⟩, g4, g5⟩, fun c hc => ?_, q⟩
  have : s1.heap.objs.size ≤ c := by
    simp only [List.mem_cons, List.not_mem_nil, or_false] at hc
    rcases hc with hc | hc | hc | hc | hc <;> (rw [hc]; first | exact Nat.le_refl _ | exact Nat.le_add_right _ _)
  exact I1.fpOk this (I1.hok.fresh this)
theorem pi_zipK (K : PySem.W.Frag) (hK : X.K = K) {a b : Expr} {ta : TA} {p pos : Pos} {elts : List Expr} {x1} {tp : Pos} (hg : Gl X "zip") (hm : X.mg "zip" = none) (ha : PA X [a, b] ta) (hs : starEach [a, b] X.env = [(false, eval a X.env), (false, eval b X.env)]) (hs2 : starEach [b] X.env = [(false, eval b X.env)]) :
    PI X (.Tuple elts x1 tp) (.Call (.Name "zip" p) [a, b] [] pos) (iZip K ta) := by subst hK; exact pi_zip hg hm ha hs hs2
theorem qpi_zipK (K : PySem.W.Frag) (hK : X.K = K) {a b : Expr} {ta : TA} {p pos : Pos} {elts : List Expr} {x1} {tp : Pos} (hg : Gl X "zip") (hm : X.mg "zip" = none) (ha : QA X [a, b] ta) (hs : starEach [a, b] X.env = [(false, eval a X.env), (false, eval b X.env)] := by rfl) (hs2 : starEach [b] X.env = [(false, eval b X.env)] := by rfl) :
    QI X (.Tuple elts x1 tp) (.Call (.Name "zip" p) [a, b] [] pos) (iZip K ta) := ⟨pi_zipK K hK hg hm ha.h hs hs2⟩
end
end L2

namespace M36
def sumN (n : Nat) (f : Nat → Int) : Int := ((List.range n).map f).sum
def mmul (n : Nat) (A B : Nat → Nat → Int) (i j : Nat) : Int := sumN n fun k => A i k * B k j
def mid (i j : Nat) : Int := if i = j then 1 else 0
def mpow (n : Nat) (M : Nat → Nat → Int) : Nat → Nat → Nat → Int
  | 0 => mid
  | e + 1 => mmul n (mpow n M e) M
def Bd (n B : Nat) (M : Nat → Nat → Int) : Prop := ∀ i j, i < n → j < n → -(2 ^ B) < M i j ∧ M i j < 2 ^ B
theorem Bd.congr {n B : Nat} {M M' : Nat → Nat → Int} (h : Bd n B M) (e : ∀ i j, i < n → j < n → M i j = M' i j) : Bd n B M' := fun i j hi hj => by
  rw [← e i j hi hj]; exact h i j hi hj
end M36

namespace L2
open PySem PySem.Spec PyProof.Rows M36
/-! ### what a comprehension has made so far -/
structure IntsAcc (H H1 : Hp) (acc : Addr) (i : Nat) (f : Nat → Int) : Prop where
  at_ : H1 acc = some (.lst ((List.range i).map fun j => V.int (f j)))
  sm : Same H H1
  no : H acc = none
theorem IntsAcc.start {H : Hp} {acc : Addr} (f : Nat → Int) (h : H acc = none) : IntsAcc H (upd H acc (.lst [])) acc 0 f := ⟨upd_same, Same.new h, h⟩
structure BlsAcc (H H1 : Hp) (acc : Addr) (i : Nat) (f : Nat → Bool) : Prop where
  at_ : H1 acc = some (.lst (((List.range i).map f).map V.bl))
  sm : Same H H1
  no : H acc = none
theorem BlsAcc.start {H : Hp} {acc : Addr} (f : Nat → Bool) (h : H acc = none) : BlsAcc H (upd H acc (.lst [])) acc 0 f := ⟨upd_same, Same.new h, h⟩
structure RowsAcc (H H1 : Hp) (acc : Addr) (i : Nat) (F : Nat → List Int) : Prop where
  ex : ∃ ts : List Addr, ts.length = i ∧ H1 acc = some (.lst (ts.map V.ref)) ∧ (∀ (j : Nat) (r : Addr), ts[j]? = some r → H1 r = some (.lst ((F j).map V.int)) ∧ H r = none ∧ r ≠ acc) ∧ ts.Nodup
  sm : Same H H1
  no : H acc = none
theorem RowsAcc.start {H : Hp} {acc : Addr} (F : Nat → List Int) (h : H acc = none) : RowsAcc H (upd H acc (.lst [])) acc 0 F := ⟨⟨[], rfl, upd_same, by simp, List.nodup_nil⟩, Same.new h, h⟩
/-- a list of n lists of n ints, to be read -/
def rowN (n : Nat) (f : Nat → Int) : List Int := (List.range n).map f
structure Mx (H : Hp) (a : Addr) (n : Nat) (M : Nat → Nat → Int) : Prop where
  ex : ∃ rs : List Addr, rs.length = n ∧ H a = some (.lst (rs.map V.ref)) ∧ ∀ (i : Nat) (r : Addr), rs[i]? = some r → H r = some (.lst ((rowN n (M i)).map V.int))
theorem rowN_congr {n : Nat} {f g : Nat → Int} (h : ∀ j, j < n → f j = g j) : rowN n f = rowN n g := by
  unfold rowN
  exact List.map_congr_left fun j hj => h j (List.mem_range.mp hj)
theorem Mx.congr {H : Hp} {a : Addr} {n : Nat} {M M' : Nat → Nat → Int} (h : Mx H a n M) (e : ∀ i j, i < n → j < n → M i j = M' i j) : Mx H a n M' := by
  obtain ⟨rs, h1, h2, h3⟩ := h
  refine ⟨rs, h1, h2, fun i r hi => ?_⟩
  have hin : i < n := by rw [← h1]; exact (List.getElem?_eq_some_iff.mp hi).1
  rw [← rowN_congr fun j hj => e i j hin hj]
  exact h3 i r hi
end L2

namespace L2
open PySem PySem.Spec PyProof.Rows
/-! ### an exception under way of which it is also known that it has no context (its third field) -/
def TrX (h base : Heap) (e : Addr) (cls a0 fl : Value) : Prop :=
  ∃ oe vs T oT ts, h.get? e = some oe ∧ (oe.cls = cls ∧ vs[0]? = some a0 ∧ vs[2]? = some .none) ∧ oe.data = .fields vs ∧ vs[1]? = some (.ref T) ∧ base.get? T = none ∧ T ≠ e ∧ h.get? T = some oT ∧ oT.data = .fields ts ∧ ts[3]? = some fl
def FlyX (base : Heap) (l : List Env) (e : Addr) (cls a0 : Value) (h : Heap) : Prop := base.StaysIn h ∧ base.get? e = none ∧ h.FunFrames base l ∧ TrX h base e cls a0 .none
def HeldX (base : Heap) (l : List Env) (e : Addr) (cls a0 : Value) (L : Addr) (h : Heap) : Prop := base.StaysIn h ∧ base.get? e = none ∧ h.FunFrames base l ∧ TrX h base e cls a0 (rawInt L)
theorem TrX.w {h base : Heap} {e : Addr} {cls a0 fl : Value} (x : TrX h base e cls a0 fl) : h.TracedAtW base e cls a0 fl :=
  let ⟨oe, vs, T, oT, ts, h1, h2, r⟩ := x; ⟨oe, vs, T, oT, ts, h1, ⟨h2.1, h2.2.1⟩, r⟩
theorem FlyX.w {base h : Heap} {l : List Env} {e : Addr} {cls a0 : Value} (x : FlyX base l e cls a0 h) : Heap.FlyingW base l e cls a0 h := ⟨x.1, x.2.1, x.2.2.1, x.2.2.2.w⟩
theorem FlyX.own {base h : Heap} {l : List Env} {e : Addr} {cls a0 : Value} (x : FlyX base l e cls a0 h) : ∃ oe vs, h.get? e = some oe ∧ oe.cls = cls ∧ oe.data = .fields vs ∧ vs[2]? = some .none :=
  let ⟨_, _, _, oe, vs, _, _, _, he, hc, hd, _⟩ := x; ⟨oe, vs, he, hc.1, hd, hc.2.2⟩
section
variable {M : Model} {A : Around} {E : Value → Shared → Prop} {s : Shared} {base : Heap} {env : Env} {outer l : List Env} {L e : Addr} {oe : Obj} {vs : Array Value} {cls a0 : Value} {Q : Unit → Shared → Prop}
/-! the five ways of an exception -/
end
end L2

namespace L2
open PySem PySem.Spec PyProof.Rows PySem.Calls
/-! ### any(), all() of a list within a handler: the StopIteration gets the caught one as its context -/
def NoCtx (oe : Obj) : Prop := ∃ ws, oe.data = .fields ws ∧ ws[2]? = some .none
def XOf (oe : Obj) (C : Addr) : Prop := oe.cls = .ref C ∧ NoCtx oe
section
variable {prog : Program} {w : World} {A : Around} {E : Value → Shared → Prop} {s : Shared} {ea it l : Addr} {oe : Obj}
end
section
variable {X : Cx}
end
end L2

namespace L2
open PySem PySem.Spec PyProof.Rows
/-! ### exceptions under way -/
theorem ObjOk.there {P : Program} {w : World} {H : Hp} {h : Heap} {a : Addr} {o : HO} (x : ObjOk P w H h a o) : ∃ ob, h.get? a = some ob := by
  cases o with
  | lst xs => obtain ⟨_, _, _, _, e⟩ := x; exact ⟨_, e⟩
  | tup xs => obtain ⟨_, _, _, o, e, _⟩ := x; exact ⟨_, e⟩
  | dK kvs => obtain ⟨_, _, _, _, o, _, _, e, _⟩ := x; exact ⟨_, e⟩
  | dT kvs => obtain ⟨_, _, _, _, o, _, _, e, _⟩ := x; exact ⟨_, e⟩
  | set S n => obtain ⟨o, _, _, _, e, _⟩ := x; exact ⟨_, e⟩
  | ins C dx fs => obtain ⟨_, _, _, e, _⟩ := x; exact ⟨_, e⟩
  | own y => obtain ⟨_, e⟩ := x; exact ⟨_, e⟩
  | xd fs => obtain ⟨_, ⟨_, _, _, e, _⟩, _⟩ := x; exact ⟨_, e⟩
  | rng lo hi => obtain ⟨_, _, _, e⟩ := x; exact ⟨_, e⟩
  | frz ob u => obtain ⟨e, _⟩ := x; exact ⟨_, e⟩
  | tbl ps => exact ⟨_, (show h.get? a = some _ from x)⟩
  | met f y => exact ⟨_, (show h.get? a = some _ from x)⟩
  | ext φ => obtain ⟨_, ⟨_, e⟩, _⟩ := x; exact ⟨_, e⟩
/-- B: what is kept to the last sign while the exception passes; what is neither in B nor a running frame is the exception's own, made since h0 -/
def Fly (base : Heap) (l : List Env) (ea : Addr) (cls : Value) (H : Hp) (h0 h : Heap) : Prop :=
  ∃ (B : Heap) (a0 : Value), base.StaysIn B ∧ FlyX B l ea cls a0 h ∧ ∀ b, B.get? b = none → b ∉ frs l → (∃ o, h.get? b = some o) → h0.get? b = none ∧ H b = none
def CXE (P : Program) (w : World) (base : Heap) : CXT := fun outer H s E e s' =>
  ∃ (ea : Addr) (cls : Value) (H' : Hp), e = .ref ea ∧ s'.os = s.os ∧ AllBare s'.gens ∧ Un (frs outer) [] H H' s.heap s'.heap ∧ HOk P w H' s'.heap ∧ Fly base outer ea cls H' s.heap s'.heap ∧ E cls none H'
section
variable {X : Cx} {pins : List (Addr × Obj)} {σ : St} {H : Hp} {s : Shared}
end
/-- an exception that is made here leaves -/
def RaiseOk (X : Cx) (E : XK) : Prop := ∀ (pins : List (Addr × Obj)) (σ : St) (H : Hp) (s : Shared) (ea : Addr) (cls : Value) (vs : List Value) (h' : Heap), Inv X pins σ H s → Heap.MadeExcOf s.heap h' ea cls vs → E cls none H → X.xe (.ref ea) { s with heap := h' }
section
variable {P : Program} {w : World} {K : PySem.W.Frag} {mg : Str → Option Value} {base : Heap} {N : List Str} {qual : Str} {scope : Scope} {f : Addr} {cd : Value} {A : Around} {outer : List Env} {s0 : Shared} {H0 : Hp} {E : XK}
end
end L2

namespace L2
open PySem PySem.Spec PyProof.Rows
abbrev bmV : List Value := [.type "ValueError", .type "Exception", .type "BaseException", .type "object"]
/-- an own class under ValueError, as the fragment has it -/
structure ExC (K : PySem.W.Frag) (mg : Str → Option Value) (x : Str) (C : Addr) : Prop where
  mgx : mg x = some (.ref C)
  exc : PySem.W.excIn K C bmV "ValueError.__new__" = true
theorem ExC.own {K : PySem.W.Frag} {mg : Str → Option Value} {x : Str} {C : Addr} {h : Heap} (c : ExC K mg x C) (X : K.In h) : OwnCls x C bmV "ValueError.__new__" mg h := by
  obtain ⟨hm, hq⟩ := c
  refine ⟨hm, ?_⟩
  unfold PySem.W.excIn at hq
  split at hq
  case h_2 => cases hq
  case h_1 dk cdk slk hok =>
    split at hq
    case h_2 => cases hq
    case h_1 Ck bk a0 a1 a2 a3 nk a5 hmro hsl =>
      rw [Bool.and_eq_true, Bool.and_eq_true, Bool.and_eq_true, Bool.and_eq_true, Bool.and_eq_true, beq_iff_eq, beq_iff_eq, beq_iff_eq] at hq
      obtain ⟨⟨⟨⟨⟨e1, e2⟩, e3⟩, e4⟩, e5⟩, e6⟩ := hq
      have e3 : cdk.hasDel = false := by simpa using e3
      have hok' := X _ _ hok
      cases e1
      cases e2
      cases cdk with
      | mk x1 x2 x3 x4 x5 x6 x7 x8 x9 x10 x11 =>
        cases slk with
        | mk lk =>
          cases hmro
          cases e3
          cases hsl
          exact ⟨_, _, _, _, _, _, _, _, _, _, _, _, _, _, _, _, _, hok', Heap.Ns.of_isNs (PySem.W.isNs_of_in X e5), PySem.W.nsMap_none_of_in X e5 e6, PySem.W.tail_of_in X e4⟩
section
variable {X : Cx} {pos np cpos : Pos} {x : Str} {C : Addr} {E : XK} {e0 : Expr} {es : List Expr} {ta : TA}
def tRaise (C : Addr) (E : XK) (ta : TA) : TS := fun _ σ H => ta σ H fun vs H1 => vs.length ≤ sizeLine ∧ E (.ref C) none H1
end
/-! ### defs from which exceptions may leave -/
structure DfE (P : Program) (w : World) (K : PySem.W.Frag) (mg : Str → Option Value) (base : Heap) (x : Str) (ps : List Str) (k : Nat) (sp : Sp) : Prop where
  ex : ∃ f fd, FnOk P w K mg base (CXE P w base) k f fd ps sp ∧ mg x = some (.ref f) ∧ PySem.W.keepIn K (.ref f) = true ∧ Binds K fd ps []
/-! the same over structures -/
section
variable {X : Cx}
end
end L2

namespace L2
open PySem PySem.Spec PyProof.Rows
/-! ### the class of a handler fits -/
structure Fits (K : PySem.W.Frag) (C R : Addr) : Prop where
  sub : PySem.W.kitCls K (.ref C) (.ref R) = some true
  exc : PySem.W.subIn K (.ref R) (.type "BaseException") = some true
/-! ### within a handler -/
abbrev Cx.within (X : Cx) (ea : Addr) (oe : Obj) : Cx := { X with A := X.A.mark (some (.ref ea)), calm := false, pn := X.pn ++ [(ea, oe)], xe := fun _ _ => False }
theorem Cx.Ok.within {X : Cx} (ok : X.Ok) (ea : Addr) (oe : Obj) : (X.within ea oe).Ok :=
  ⟨ok.mod, ok.kind, ok.glob, ok.blt, ok.above, ok.inj, ok.has, ok.cab, (fun z => nomatch z), ok.frames, ok.stk, ok.exf, ok.bs, ok.bsz, ok.noex, ok.exfs, ok.funs, ok.frf⟩
/-- what the exception has for its own -/
def Priv (X : Cx) (pins : List (Addr × Obj)) (B : Heap) (H : Hp) (h : Heap) : Prop :=
  ∀ b, B.get? b = none → b ∉ frs X.stack → (∃ o, h.get? b = some o) → X.s₀.heap.get? b = none ∧ H b = none ∧ ∀ p ∈ X.pn ++ pins, p.1 ≠ b
structure Flat (X : Cx) : Prop where
  ex : X.ex = []
  st : X.stack = X.env :: X.outer
  fr : X.env.frame = some X.env.locals
section
variable {X : Cx} {pins : List (Addr × Obj)} {σ : St} {H : Hp} {s : Shared}
theorem Inv.within {ea : Addr} {oe : Obj} {ws : Array Value} (I : Inv X pins σ H s) (he : s.heap.get? ea = some oe) (hd : oe.data = .fields ws) (hH : H ea = none) (hL : ea ≠ X.env.locals) (hF : ea ∉ X.fs) : Inv (X.within ea oe) pins σ H s :=
  ⟨I.ok.within ea oe, I.os, I.bare, I.base, I.loc, I.cell, I.free, I.freeC, fun p hp => by
    rcases List.mem_append.mp hp with hp | hp
    · rcases List.mem_append.mp hp with hp | hp
      · exact I.pin p (List.mem_append_left _ hp)
      · obtain rfl : p = (ea, oe) := by simpa using hp
        exact ⟨he, hH, hL, hF, fun v z => by rw [hd] at z; cases z⟩
    · exact I.pin p (List.mem_append_right _ hp), I.hok, I.len⟩
theorem Inv.without {ea : Addr} {oe : Obj} (ok : X.Ok) (I : Inv (X.within ea oe) pins σ H s) : Inv X pins σ H s :=
  ⟨ok, I.os, I.bare, I.base, I.loc, I.cell, I.free, I.freeC, fun p hp => I.pin p (by
    rcases List.mem_append.mp hp with hp | hp
    · exact List.mem_append_left _ (List.mem_append_left _ hp)
    · exact List.mem_append_right _ hp), I.hok, I.len⟩
theorem SP.without {ea : Addr} {oe : Obj} {D : Ends} {f : Flow} {s' : Shared} (ok : X.Ok) (h : SP (X.within ea oe) pins D f s') : SP X pins D f s' := by
  cases f with
  | next => obtain ⟨σ', H', I, q⟩ := h; exact ⟨σ', H', I.without ok, q⟩
  | brk => obtain ⟨σ', H', I, q⟩ := h; exact ⟨σ', H', I.without ok, q⟩
  | cont => obtain ⟨σ', H', I, q⟩ := h; exact ⟨σ', H', I.without ok, q⟩
  | ret u => obtain ⟨v, σ', H', I, r, q⟩ := h; exact ⟨v, σ', H', I.without ok, r, q⟩
theorem Flat.fs (F : Flat X) : frs X.stack = X.env.locals :: X.fs := by rw [F.st]; unfold frs; rw [List.filterMap_cons, F.fr]; rfl
end
section
variable {X : Cx} {pins : List (Addr × Obj)} {σ : St} {H : Hp} {s : Shared} {ea C R : Addr} {B : Heap} {a0 : Value} {x : Str} {np pos : Pos} {b0 : Stmt} {suite : List Stmt} {rest : List ExceptHandler} {ts : TS} {D : Ends}
end
end L2

namespace L2
open PySem PySem.Spec PyProof.Rows
/-! ### what may raise, within a try -/
def XPr (X : Cx) (pins : List (Addr × Obj)) (σ : St) (E : XK) (e : Value) (s' : Shared) : Prop :=
  ∃ (ea : Addr) (cls : Value) (H' : Hp) (B : Heap) (a0 : Value), e = .ref ea ∧ Inv X pins σ H' s' ∧ X.base.StaysIn B ∧ FlyX B X.stack ea cls a0 s'.heap ∧ Priv X pins B H' s'.heap ∧ E cls none H'
abbrev TEX := St → Hp → VK → XK → Prop
abbrev TSX := Ends → (St → XK) → St → Hp → Prop
structure PEX (X : Cx) (e : Expr) (t : TEX) : Prop where
  h : ∀ (pins : List (Addr × Obj)) (s : Shared) (σ : St) (H : Hp) (Q : VK) (E : XK), Inv X pins σ H s → t σ H Q E → wpAny (model X.prog X.w) X.A (eval e X.env) (EP X pins σ Q) (XPr X pins σ E) s
structure PSX (X : Cx) (st : Stmt) (t : TSX) : Prop where
  h : ∀ (pins : List (Addr × Obj)) (s : Shared) (σ : St) (H : Hp) (D : Ends) (E : St → XK), Inv X pins σ H s → t D E σ H → wpAny (model X.prog X.w) X.A (exec st X.env) (SP X pins D) (fun e s' => ∃ σ', XPr X pins σ' (E σ') e s') s
structure PSXs (X : Cx) (st : List Stmt) (t : TSX) : Prop where
  h : ∀ (pins : List (Addr × Obj)) (s : Shared) (σ : St) (H : Hp) (D : Ends) (E : St → XK), Inv X pins σ H s → t D E σ H → wpAny (model X.prog X.w) X.A (execs st X.env) (SP X pins D) (fun e s' => ∃ σ', XPr X pins σ' (E σ') e s') s
section
variable {X : Cx}
def xE (te : TE) : TEX := fun σ H Q _ => te σ H Q
def xCall (sp : Sp) (t : TA) : TEX := fun σ H Q E => t σ H fun vs H1 => sp vs H1 Q E
def xTup2 (ta : TE) (tb : TEX) : TEX := fun σ H Q E => ta σ H fun x H1 => tb σ H1 (fun y H2 => ∀ p, H2 p = none → Q (.ref p) (upd H2 p (.tup [x, y]))) E
def xIsT (ta : TEX) : TEX := fun σ H Q E => ta σ H (fun x H1 => ∃ b, x = .bl b ∧ Q (.bl b) H1) E
def xS (t : TS) : TSX := fun D _ σ H => t D σ H
def xRet (te : TEX) : TSX := fun D E σ H => te σ H D.rt (E σ)
def xSet (i : Nat) (te : TEX) : TSX := fun D E σ H => te σ H (fun v H1 => D.nx (σ.set i (some v)) H1) (E σ)
def xDrop (te : TEX) : TSX := fun D E σ H => te σ H (fun _ H1 => D.nx σ H1) (E σ)
def xIf (tc : TT) (a b : TSX) : TSX := fun D E σ H => tc σ H fun d H1 => if d = true then a D E σ H1 else b D E σ H1
def xNext : TSX := fun D _ σ H => D.nx σ H
def xSeq (a b : TSX) : TSX := fun D E σ H => a { D with nx := b D E } E σ H
/-- try: .. except X: .. -/
def tTry0 (R : Addr) (tb : TSX) (ts : TS) (K : PySem.W.Frag) : TS := fun D σ H => tb D (fun σ' cls _ H' => ∃ C, cls = .ref C ∧ Fits K C R ∧ ts D σ' H') σ H
end
end L2

namespace L2
open PySem PySem.Spec PyProof.Rows
/-! ### isinstance of an exception -/
structure ExK (K : PySem.W.Frag) (C : Addr) : Prop where
  ga : PySem.W.findIn K (.ref C) "__getattribute__" = some (some (.builtin "BaseException.__getattribute__"))
  cl : PySem.W.findIn K (.ref C) "__class__" = some (some (.builtin "object.__class__"))
  gg : PySem.W.findIn K (.ref C) "__getattr__" = some none
  ob : PySem.W.subIn K (.ref C) (.type "object") = some true
  be : PySem.W.subIn K (.ref C) (.type "BaseException") = some true
  se : PySem.W.kitCls K (.ref C) (.ref C) = some true
section
variable {K : PySem.W.Frag} {prog : Program} {w : World} {A : Around} {E : Value → Shared → Prop} {h : Heap} {g : Array GenState} {d : Drawn} {t : Nat} {os : OsState} {a C : Addr} {o : Obj}
end
section
variable {X : Cx} {K : PySem.W.Frag}
/-- isinstance(e, C) of an exception that lies pinned -/
def rIsX (K : PySem.W.Frag) (ea C : Addr) : List V → Hp → VK → Prop := fun xs H Q => ∃ T b, xs = [.ref ea, T] ∧ ((∃ D, T = .ref D ∧ PySem.W.kitOne K (.ref C) (.ref D) = some b) ∨ (∃ n, T = .ty n ∧ PySem.W.kitOne K (.ref C) (.type n) = some b)) ∧ Q (.bl b) H
/-- isinstance(e, (C, D, ..)) -/
def rIsXT (K : PySem.W.Frag) (ea C : Addr) : List V → Hp → VK → Prop := fun xs H Q => ∃ (tp : Addr) (Ds : List Addr) (b : Bool), xs = [.ref ea, .ref tp] ∧ H tp = some (.tup (Ds.map V.ref)) ∧ PySem.W.kitAny K (.ref C) (Ds.map Value.ref) = some b ∧ Q (.bl b) H
end
end L2

namespace L2
open PySem PySem.Spec PyProof.Rows
section
variable {X : Cx} {pins : List (Addr × Obj)} {σ : St} {H : Hp} {s : Shared}
end
abbrev onlyRet (D : Ends) : Ends := { nx := fun _ _ => False, rt := D.rt, bk := fun _ _ => False, ct := fun _ _ => False }
section
variable {X : Cx} {pins : List (Addr × Obj)} {σ : St} {H : Hp} {s : Shared} {ea C R : Addr} {B : Heap} {a0 : Value} {x n : Str} {i : Nat} {np pos : Pos} {b0 : Stmt} {suite : List Stmt} {rest : List ExceptHandler} {ts : TS} {D : Ends}
end
section
variable {X : Cx}
/-- try: .. except X as n: .. (a suite that returns) -/
def tTryN (R : Addr) (i : Nat) (tb : TSX) (ts : Addr → Addr → TS) (K : PySem.W.Frag) (mg : Str → Option Value) : TS := fun D σ H =>
  tb D (fun σ' cls _ H' => ∃ C x, cls = .ref C ∧ Fits K C R ∧ ExC K mg x C ∧ ExK K C ∧ ∀ ea, H' ea = none → ts ea C (onlyRet D) (σ'.set i (some (.ref ea))) H') σ H
end
end L2

namespace L2
open PySem PySem.Spec PyProof.Rows M36
/-- a list of lists of ints that may be written: its rows stand apart -/
structure Grid (H : Hp) (a : Addr) (rs : List Addr) (g : List (List Int)) : Prop where
  tp : H a = some (.lst (rs.map V.ref))
  row : ∀ (i : Nat) (r : Addr), rs[i]? = some r → ∃ ns : List Int, g[i]? = some ns ∧ H r = some (.lst (ns.map V.int))
  len : rs.length = g.length
  nd : rs.Nodup
  na : a ∉ rs
theorem Grid.at {H : Hp} {a : Addr} {rs : List Addr} {g : List (List Int)} (G : Grid H a rs g) {i : Nat} {ns : List Int} (h : g[i]? = some ns) : ∃ r, rs[i]? = some r ∧ H r = some (.lst (ns.map V.int)) ∧ r ≠ a := by
  have hi : i < rs.length := by rw [G.len]; exact (List.getElem?_eq_some_iff.mp h).1
  obtain ⟨ms, h1, h2⟩ := G.row i rs[i] (by simp [hi])
  rw [h] at h1; cases h1
  exact ⟨rs[i], by simp [hi], h2, fun e => G.na (e ▸ List.getElem_mem hi)⟩
def dI (ns : List Int) : List PyData := ns.map PyData.int
def dG (g : List (List Int)) : PyData := .list (g.map fun ns => .list (dI ns))
theorem dens_ints {K : PySem.W.Frag} {H : Hp} : ∀ (ns : List Int), Dens K H (ns.map V.int) (dI ns)
  | [] => .nil
  | o :: r => .cons (.int _) (dens_ints r)
theorem lay_ints : ∀ (ns : List Int), PyData.canLayAll0 (dI ns) = true
  | [] => rfl
  | o :: r => by
    show (PyData.canLay0 (.int _) && PyData.canLayAll0 (dI r)) = true
    rw [lay_ints r]; rfl
theorem depth_ints : ∀ (ns : List Int), PyData.depthAll (dI ns) = 0
  | [] => rfl
  | o :: r => by
    show max (PyData.depth (.int _)) (PyData.depthAll (dI r)) = 0
    rw [depth_ints r]; rfl
/-- n rows of c numbers below 2^b either way -/
def Rect (n c b : Nat) (g : List (List Int)) : Prop := g.length = n ∧ ∀ ns ∈ g, ns.length = c ∧ ∀ x ∈ ns, -(2 ^ b) < x ∧ x < 2 ^ b
def gM (g : List (List Int)) (i j : Nat) : Int := (g.getD i []).getD j 0
/-- n rows of c ints, to be read -/
structure Mx2 (H : Hp) (a : Addr) (n c : Nat) (M : Nat → Nat → Int) : Prop where
  ex : ∃ rs : List Addr, rs.length = n ∧ H a = some (.lst (rs.map V.ref)) ∧ ∀ (i : Nat) (r : Addr), rs[i]? = some r → H r = some (.lst ((rowN c (M i)).map V.int))
/-- the list of lists of a function -/
def gOf (n c : Nat) (M : Nat → Nat → Int) : List (List Int) := (List.range n).map fun i => rowN c (M i)
/-- a new list of n rows of c ints -/
structure New2 (H0 H : Hp) (a : Addr) (n c : Nat) (M : Nat → Nat → Int) : Prop where
  ex : ∃ rs : List Addr, rs.length = n ∧ H a = some (.lst (rs.map V.ref)) ∧ ∀ (i : Nat) (r : Addr), rs[i]? = some r → H r = some (.lst ((rowN c (M i)).map V.int)) ∧ H0 r = none
  no : H0 a = none
theorem New2.old {H0 H1 H : Hp} {a : Addr} {n c : Nat} {M : Nat → Nat → Int} (h : New2 H1 H a n c M) (e : Same H0 H1) : New2 H0 H a n c M := by
  obtain ⟨⟨rs, h1, h2, h3⟩, h4⟩ := h
  exact ⟨⟨rs, h1, h2, fun i r hi => ⟨(h3 i r hi).1, e.gone (h3 i r hi).2⟩⟩, e.gone h4⟩
theorem New2.congr {H0 H : Hp} {a : Addr} {n c : Nat} {M M' : Nat → Nat → Int} (h : New2 H0 H a n c M) (e : ∀ i j, i < n → j < c → M i j = M' i j) : New2 H0 H a n c M' := by
  obtain ⟨⟨rs, h1, h2, h3⟩, h4⟩ := h
  refine ⟨⟨rs, h1, h2, fun i r hi => ?_⟩, h4⟩
  have hin : i < n := by rw [← h1]; exact (List.getElem?_eq_some_iff.mp hi).1
  rw [← rowN_congr fun j hj => e i j hin hj]
  exact h3 i r hi
/-! floor division by great numbers -/
def CDivB (i j : Int) : Prop := 0 < j ∧ ∃ m : Nat, m < 9000 ∧ j < 2 ^ m
end L2

namespace L2
open PySem PySem.Spec PyProof.Rows
/-! ### a dict while a loop walks it -/
section
variable {X : Cx} {pins : List (Addr × Obj)} {σ : St} {H : Hp} {s : Shared} {d : Addr} {kvs : List (Key × V)}
end
def Itk (d : Addr) (o : Obj) (kvs : List (Key × V)) : It :=
  ⟨fun i H => H d = some (.frz o (.dK kvs)) ∧ i < kvs.length, fun i H x H' => (∃ k v, kvs[i]? = some (k, v) ∧ x = kV k) ∧ H' = H, fun i H => H d = some (.frz o (.dK kvs)) ∧ kvs.length ≤ i⟩
section
variable {X : Cx}
def iDict (tl : TE) : TI := fun σ H R => tl σ H fun x H1 => ∃ d kvs, x = .ref d ∧ H1 d = some (.dK kvs) ∧ ∀ o, R (Itk d o kvs) (upd H1 d (.frz o (.dK kvs)))
def tThaw (H0 : Hp) (te : TE) : TE := fun σ H Q => te σ H fun v H1 => ∃ d o kvs, H1 d = some (.frz o (.dK kvs)) ∧ H0 d = none ∧ Q v (upd H1 d (.dK kvs))
def sThaw (H0 : Hp) (t : TS) : TS := fun D σ H => t { D with nx := fun σ' H1 => ∃ d o kvs, H1 d = some (.frz o (.dK kvs)) ∧ H0 d = none ∧ D.nx σ' (upd H1 d (.dK kvs)) } σ H
end
end L2

namespace L2
open PySem PySem.Spec PyProof.Rows
/-! ### a list turned about: xs[::-1] -/
section
variable {X : Cx} {e k : Expr} {te tk : TE} {p2 pos : Pos}
def tRev (K : PySem.W.Frag) (te tk : TE) : TE := fun σ H Q => te σ H fun x H1 => tk σ H1 fun y H2 => y = .int (-1) ∧ ∃ a xs, x = .ref a ∧ SqL K H2 a xs ∧ ∀ p, H2 p = none → Q (.ref p) (upd H2 p (.lst xs.reverse))
end
end L2

namespace L2
open PySem PySem.Spec PyProof.Rows
/-! ### for k, v in d.items() -/
def Itmm (d : Addr) (o : Obj) (kvs : List (Key × V)) : It :=
  ⟨fun i H => H d = some (.frz o (.dK kvs)) ∧ i < kvs.length, fun i H x H' => ∃ p k v, H p = none ∧ kvs[i]? = some (k, v) ∧ x = .ref p ∧ H' = upd H p (.tup [kV k, v]), fun i H => H d = some (.frz o (.dK kvs)) ∧ kvs.length ≤ i⟩
section
variable {X : Cx}
def iItems (tl : TE) : TI := fun σ H R => tl σ H fun x H1 => ∃ d kvs, x = .ref d ∧ H1 d = some (.dK kvs) ∧ ∀ o, R (Itmm d o kvs) (upd H1 d (.frz o (.dK kvs)))
theorem qps_par {i j : Nat} {x y : Str} {a b : Expr} {ta : TA} {px py pt pos : Pos} {kt k2 pt2} (hc : X.calm = true) (hN : X.N.Nodup) (hi : X.N[i]? = some x) (hj : X.N[j]? = some y) (hij : i ≠ j)
    (hx : X.env.scope.names.lookup x = some .local) (hy : X.env.scope.names.lookup y = some .local) (ha : QA X [a, b] ta)
    (hw : swappedStores [.Tuple [.Name x px, .Name y py] kt pt] (.Tuple [a, b] k2 pt2) X.env = pure (some [x, y]))
    (hs : swapsWithSole [.Tuple [.Name x px, .Name y py] kt pt] (.Tuple [a, b] k2 pt2) pos.line X.env = pure false := by rfl) :
    QS X (.Assign [.Tuple [.Name x px, .Name y py] kt pt] (.Tuple [a, b] k2 pt2) pos) (tPar i j ta) := ⟨ps_par hc hN hi hj hij hx hy ha.h hw hs⟩
/-! ### {i: j} of two numbers -/
def tDOne (i j : Int) : TE := fun _ H Q => ∀ p, H p = none → Q (.ref p) (upd H p (.dK [(Sum.inl i, .int j)]))
end
end L2

namespace L2
open PySem PySem.Spec PyProof.Rows
section
variable {X : Cx}
/-! ### xs.insert(k, y) -/
def rInsert : V → List V → Hp → VK → Prop := fun x vs H Q => ∃ l xs k y, x = .ref l ∧ vs = [.int k, y] ∧ H l = some (.lst xs) ∧ 0 ≤ k ∧ k ≤ xs.length ∧ xs.length < sizeLine ∧ Q .non (upd H l (.lst (xs.take k.toNat ++ [y] ++ xs.drop k.toNat)))
end
/-! ### rows without a place, with one more -/
/-- the places of the longer row that stand in the shorter one -/
def up (p i : Nat) : Nat := if i < p then i else i + 1
def dn (p i : Nat) : Nat := if i < p then i else i - 1
end L2

namespace L2
open PySem PySem.Spec PyProof.Rows
/-! ### min and max of a list of ints -/
def rMinL (K : PySem.W.Frag) : List V → Hp → VK → Prop := fun xs H Q => ∃ (a : Addr) (ns : List Int), xs = [.ref a] ∧ SqL K H a (ns.map V.int) ∧ ns ≠ [] ∧ ∀ M, M ∈ ns → (∀ x ∈ ns, M ≤ x) → Q (.int M) H
def rMaxL (K : PySem.W.Frag) : List V → Hp → VK → Prop := fun xs H Q => ∃ (a : Addr) (ns : List Int), xs = [.ref a] ∧ SqL K H a (ns.map V.int) ∧ ns ≠ [] ∧ ∀ M, M ∈ ns → (∀ x ∈ ns, x ≤ M) → Q (.int M) H
section
variable {X : Cx}
end
end L2

namespace DL
open PySem PySem.Spec PyProof.Rows L2
abbrev D := PyData
/-! ### things that change: lists and dicts -/
def muO : HO → Bool
  | .lst _ => true
  | .dK _ => true
  | .dT _ => true
  | _ => false
abbrev MuS := {o : HO // muO o = true}
def Mu (H : Hp) (a : Addr) : Prop := ∃ o : MuS, H a = some o.1
theorem Mu.lst {H : Hp} {a : Addr} {us : List V} (h : H a = some (.lst us)) : Mu H a := ⟨⟨.lst us, rfl⟩, h⟩
theorem Mu.of {H : Hp} {a : Addr} {o : HO} (h : H a = some o) (m : muO o = true) : Mu H a := ⟨⟨o, m⟩, h⟩
theorem Mu.no {H : Hp} {a : Addr} {o : HO} (h : Mu H a) (e : H a = some o) (n : muO o = false) : False := by
  obtain ⟨u, q⟩ := h
  rw [e] at q
  have q := Option.some.inj q
  have m := u.2
  rw [← q, n] at m
  cases m
/-! ### dicts as data: keys are ints, texts, or tuples of them; values are None, truths, ints, texts -/
def keyV : Key → D
  | .inl i => .int i
  | .inr x => .str x
def valD : D → Option V
  | .none => some .non
  | .bool b => some (.bl b)
  | .int i => some (.int i)
  | .str x => some (.str x)
  | _ => Option.none
def DKps : List (Key × V) → List (D × D) → Prop
  | [], [] => True
  | (k, v) :: r, (d, e) :: t => d = keyV k ∧ valD e = some v ∧ DKps r t
  | _, _ => False
def DTps : List (List Key × V) → List (D × D) → Prop
  | [], [] => True
  | (k, v) :: r, (d, e) :: t => d = .tuple (k.map keyV) ∧ valD e = some v ∧ DTps r t
  | _, _ => False
def DctO : HO → Bool → List (D × D) → Prop
  | .dK kvs, false, kds => DKps kvs kds
  | .dT kvs, true, kds => DTps kvs kds
  | _, _, _ => False
/-- b: the keys are tuples -/
def dctD (b : Bool) (kds : List (D × D)) : D := .dict ((.bool false, .bool b) :: kds)
theorem DctO.mu {o : HO} {b : Bool} {kds : List (D × D)} (h : DctO o b kds) : muO o = true := by cases o <;> first | rfl | (cases b <;> exact h.elim)
/-! ### data in the heap: lists are tracked ones; the script is a thing of its own -/
mutual
inductive Dn (K : PySem.W.Frag) (H : Hp) : V → D → Prop
  | non : Dn K H .non .none
  | bl (b) : Dn K H (.bl b) (.bool b)
  | int (i) : Dn K H (.int i) (.int i)
  | str (x) : Dn K H (.str x) (.str x)
  | lst {a us ds} : H a = some (.lst us) → Dns K H us ds → Dn K H (.ref a) (.list ds)
  | tup {a us ds} : SqT K H a us → Dns K H us ds → Dn K H (.ref a) (.tuple ds)
  | scr {a} (ns : List Int) : SqL K H a (ns.map V.int) → Dn K H (.ref a) (.dict [(.none, .list (ns.map .int))])
  | opq (a : Addr) : Dn K H (.ref a) (.dict [(.bool true, .int (a : Nat))])
  | dct {a o b kds} : H a = some o → DctO o b kds → Dn K H (.ref a) (.dict ((.bool false, .bool b) :: kds))
inductive Dns (K : PySem.W.Frag) (H : Hp) : List V → List D → Prop
  | nil : Dns K H [] []
  | cons {v vs d ds} : Dn K H v d → Dns K H vs ds → Dns K H (v :: vs) (d :: ds)
end
theorem Dn.both {K : PySem.W.Frag} {H : Hp} {P : V → D → Prop} {Q : List V → List D → Prop} (c1 : P .non .none) (c2 : ∀ b, P (.bl b) (.bool b)) (c3 : ∀ i, P (.int i) (.int i)) (c4 : ∀ x, P (.str x) (.str x))
    (c5 : ∀ {a us ds}, H a = some (.lst us) → Q us ds → P (.ref a) (.list ds)) (c6 : ∀ {a us ds}, SqT K H a us → Q us ds → P (.ref a) (.tuple ds)) (c7 : ∀ {a} (ns : List Int), SqL K H a (ns.map V.int) → P (.ref a) (.dict [(.none, .list (ns.map .int))]))
    (c8 : ∀ a : Addr, P (.ref a) (.dict [(.bool true, .int (a : Nat))])) (c9 : ∀ {a o b kds}, H a = some o → DctO o b kds → P (.ref a) (.dict ((.bool false, .bool b) :: kds))) (n0 : Q [] []) (n1 : ∀ {v vs d ds}, P v d → Q vs ds → Q (v :: vs) (d :: ds)) :
    (∀ {v d}, Dn K H v d → P v d) ∧ ∀ {vs ds}, Dns K H vs ds → Q vs ds :=
  ⟨fun h => Dn.rec (motive_1 := fun v d _ => P v d) (motive_2 := fun vs ds _ => Q vs ds) c1 c2 c3 c4 (fun h _ r => c5 h r) (fun h _ r => c6 h r) (fun ns h => c7 ns h) c8 (fun h r => c9 h r) n0 (fun _ _ p q => n1 p q) h,
   fun h => Dns.rec (motive_1 := fun v d _ => P v d) (motive_2 := fun vs ds _ => Q vs ds) c1 c2 c3 c4 (fun h _ r => c5 h r) (fun h _ r => c6 h r) (fun ns h => c7 ns h) c8 (fun h r => c9 h r) n0 (fun _ _ p q => n1 p q) h⟩
theorem Dn.same2 {K : PySem.W.Frag} {H H' : Hp} (e : Same H H') : (∀ {v d}, Dn K H v d → Dn K H' v d) ∧ ∀ {vs ds}, Dns K H vs ds → Dns K H' vs ds :=
  Dn.both .non .bl .int .str (fun h r => .lst (e _ _ h) r) (fun h r => .tup (e.tup h) r) (fun ns h => .scr ns (e.seq h)) .opq (fun h r => .dct (e _ _ h) r) .nil fun p q => .cons p q
theorem Dn.same {K : PySem.W.Frag} {H H' : Hp} (e : Same H H') {v : V} {d : D} (h : Dn K H v d) : Dn K H' v d := (Dn.same2 e).1 h
theorem Dns.same {K : PySem.W.Frag} {H H' : Hp} (e : Same H H') {vs : List V} {ds : List D} (h : Dns K H vs ds) : Dns K H' vs ds := (Dn.same2 e).2 h
theorem Dn.deep2 {K : PySem.W.Frag} {H : Hp} : (∀ {v d}, Dn K H v d → d.canLay0 = true → Den K H v d) ∧ ∀ {vs ds}, Dns K H vs ds → PyData.canLayAll0 ds = true → Dens K H vs ds :=
  Dn.both (fun _ => .non) (fun b _ => .bl b) (fun b _ => .int b) (fun b _ => .str b) (fun h r q => .lst (SqL.of h) (r (by simpa [PyData.canLay0] using q))) (fun h r q => .tup h (r (by simpa [PyData.canLay0] using q)))
    (fun ns h q => by simp [PyData.canLay0] at q) (fun a q => by simp [PyData.canLay0] at q) (fun h r q => by simp [PyData.canLay0] at q) (fun _ => .nil) fun p r q => by
    simp only [PyData.canLayAll0, Bool.and_eq_true] at q
    exact .cons (p q.1) (r q.2)
theorem Dn.deep {K : PySem.W.Frag} {H : Hp} {v : V} {d : D} (h : Dn K H v d) (q : d.canLay0 = true) : Den K H v d := Dn.deep2.1 h q
theorem Dns.length {K : PySem.W.Frag} {H : Hp} : ∀ {vs ds}, Dns K H vs ds → vs.length = ds.length
  | _, _, .nil => rfl
  | _, _, .cons _ r => by rw [List.length_cons, List.length_cons, Dns.length r]
theorem Dns.get {K : PySem.W.Frag} {H : Hp} : ∀ {vs ds} {i : Nat} {d : D}, Dns K H vs ds → ds[i]? = some d → ∃ v, vs[i]? = some v ∧ Dn K H v d
  | _, _, 0, _, .cons h r, e => by simp at e; subst e; exact ⟨_, rfl, h⟩
  | _, _, i + 1, d, .cons h r, e => by simp at e ⊢; exact Dns.get r e
theorem Dns.append {K : PySem.W.Frag} {H : Hp} : ∀ {vs ds us es}, Dns K H vs ds → Dns K H us es → Dns K H (vs ++ us) (ds ++ es)
  | _, _, _, _, .nil, q => q
  | _, _, _, _, .cons h r, q => .cons h (Dns.append r q)
/-! ### trees that are owned: ns are the nodes of its lists -/
mutual
inductive Ow (K : PySem.W.Frag) (H : Hp) : V → D → List Addr → Prop
  | non : Ow K H .non .none []
  | bl (b) : Ow K H (.bl b) (.bool b) []
  | int (i) : Ow K H (.int i) (.int i) []
  | str (x) : Ow K H (.str x) (.str x) []
  | lst {a us ds ns} : H a = some (.lst us) → Ows K H us ds ns → Ow K H (.ref a) (.list ds) (a :: ns)
  | tup {a us ds ns} : SqT K H a us → Ows K H us ds ns → Ow K H (.ref a) (.tuple ds) ns
  | dct {a o b kds} : H a = some o → DctO o b kds → Ow K H (.ref a) (.dict ((.bool false, .bool b) :: kds)) [a]
inductive Ows (K : PySem.W.Frag) (H : Hp) : List V → List D → List Addr → Prop
  | nil : Ows K H [] [] []
  | cons {v vs d ds ns ms} : Ow K H v d ns → Ows K H vs ds ms → Ows K H (v :: vs) (d :: ds) (ns ++ ms)
end
theorem Ow.both {K : PySem.W.Frag} {H : Hp} {P : V → D → List Addr → Prop} {Q : List V → List D → List Addr → Prop} (c1 : P .non .none []) (c2 : ∀ b, P (.bl b) (.bool b) []) (c3 : ∀ i, P (.int i) (.int i) []) (c4 : ∀ x, P (.str x) (.str x) [])
    (c5 : ∀ {a us ds ns}, H a = some (.lst us) → Q us ds ns → P (.ref a) (.list ds) (a :: ns)) (c6 : ∀ {a us ds ns}, SqT K H a us → Q us ds ns → P (.ref a) (.tuple ds) ns)
    (c9 : ∀ {a o b kds}, H a = some o → DctO o b kds → P (.ref a) (.dict ((.bool false, .bool b) :: kds)) [a]) (n0 : Q [] [] []) (n1 : ∀ {v vs d ds ns ms}, P v d ns → Q vs ds ms → Q (v :: vs) (d :: ds) (ns ++ ms)) :
    (∀ {v d ns}, Ow K H v d ns → P v d ns) ∧ ∀ {vs ds ns}, Ows K H vs ds ns → Q vs ds ns :=
  ⟨fun h => Ow.rec (motive_1 := fun v d ns _ => P v d ns) (motive_2 := fun vs ds ns _ => Q vs ds ns) c1 c2 c3 c4 (fun h _ r => c5 h r) (fun h _ r => c6 h r) (fun h r => c9 h r) n0 (fun _ _ p q => n1 p q) h,
   fun h => Ows.rec (motive_1 := fun v d ns _ => P v d ns) (motive_2 := fun vs ds ns _ => Q vs ds ns) c1 c2 c3 c4 (fun h _ r => c5 h r) (fun h _ r => c6 h r) (fun h r => c9 h r) n0 (fun _ _ p q => n1 p q) h⟩
theorem Ow.den2 {K : PySem.W.Frag} {H : Hp} : (∀ {v d ns}, Ow K H v d ns → Dn K H v d) ∧ ∀ {v d ns}, Ows K H v d ns → Dns K H v d :=
  Ow.both .non .bl .int .str (fun h r => .lst h r) (fun h r => .tup h r) (fun h r => .dct h r) .nil fun p q => .cons p q
theorem Ow.den {K : PySem.W.Frag} {H : Hp} {v : V} {d : D} {ns : List Addr} (h : Ow K H v d ns) : Dn K H v d := Ow.den2.1 h
theorem Ows.den {K : PySem.W.Frag} {H : Hp} {v : List V} {d : List D} {ns : List Addr} (h : Ows K H v d ns) : Dns K H v d := Ow.den2.2 h
theorem Ow.there2 {K : PySem.W.Frag} {H : Hp} : (∀ {v d ns}, Ow K H v d ns → ∀ a ∈ ns, Mu H a) ∧ ∀ {v d ns}, Ows K H v d ns → ∀ a ∈ ns, Mu H a :=
  Ow.both (P := fun _ _ ns => ∀ a ∈ ns, Mu H a) (Q := fun _ _ ns => ∀ a ∈ ns, Mu H a) (fun _ z => nomatch z) (fun _ _ z => nomatch z) (fun _ _ z => nomatch z) (fun _ _ z => nomatch z) (fun h r a ha => (List.mem_cons.mp ha).elim (fun e => e ▸ .lst h) (r a)) (fun _ r => r)
    (fun h r a ha => List.mem_singleton.mp ha ▸ .of h r.mu) (fun _ z => nomatch z) fun p q a ha => (List.mem_append.mp ha).elim (p a) (q a)
theorem Ow.there {K : PySem.W.Frag} {H : Hp} {v : V} {d : D} {ns : List Addr} (h : Ow K H v d ns) : ∀ a ∈ ns, Mu H a := Ow.there2.1 h
theorem Ows.there {K : PySem.W.Frag} {H : Hp} {v : List V} {d : List D} {ns : List Addr} (h : Ows K H v d ns) : ∀ a ∈ ns, Mu H a := Ow.there2.2 h
/-- lists at ns and all that is no list are as they were -/
def Kept (ns : List Addr) (H H' : Hp) : Prop := (∀ a ∈ ns, H' a = H a) ∧ ∀ a o, H a = some o → muO o = false → H' a = some o
theorem Kept.sqt {K : PySem.W.Frag} {ns : List Addr} {H H' : Hp} (k : Kept ns H H') {a : Addr} {us : List V} (h : SqT K H a us) : SqT K H' a us := by
  rcases h with (h | ⟨o, h⟩) | h
  · exact .inl (.inl (k.2 _ _ h rfl))
  · exact .inl (.inr ⟨o, k.2 _ _ h rfl⟩)
  · exact .inr h
theorem Ow.kept2 {K : PySem.W.Frag} {H H' : Hp} : (∀ {v d ns}, Ow K H v d ns → Kept ns H H' → Ow K H' v d ns) ∧ ∀ {v d ns}, Ows K H v d ns → Kept ns H H' → Ows K H' v d ns :=
  Ow.both (P := fun v d ns => Kept ns H H' → Ow K H' v d ns) (Q := fun v d ns => Kept ns H H' → Ows K H' v d ns) (fun _ => .non) (fun b _ => .bl b) (fun b _ => .int b) (fun b _ => .str b) (fun h r k => .lst ((k.1 _ List.mem_cons_self).trans h) (r ⟨fun a ha => k.1 a (List.mem_cons_of_mem _ ha), k.2⟩))
    (fun h r k => .tup (k.sqt h) (r k)) (fun h r k => .dct ((k.1 _ List.mem_cons_self).trans h) r) (fun _ => .nil) fun p q k => .cons (p ⟨fun a ha => k.1 a (List.mem_append_left _ ha), k.2⟩) (q ⟨fun a ha => k.1 a (List.mem_append_right _ ha), k.2⟩)
theorem Ow.kept {K : PySem.W.Frag} {H H' : Hp} {v : V} {d : D} {ns : List Addr} (h : Ow K H v d ns) (k : Kept ns H H') : Ow K H' v d ns := Ow.kept2.1 h k
theorem Ows.kept {K : PySem.W.Frag} {H H' : Hp} {v : List V} {d : List D} {ns : List Addr} (h : Ows K H v d ns) (k : Kept ns H H') : Ows K H' v d ns := Ow.kept2.2 h k
theorem Ow.same2 {K : PySem.W.Frag} {H H' : Hp} (e : Same H H') : (∀ {v d ns}, Ow K H v d ns → Ow K H' v d ns) ∧ ∀ {v d ns}, Ows K H v d ns → Ows K H' v d ns :=
  Ow.both .non .bl .int .str (fun h r => .lst (e _ _ h) r) (fun h r => .tup (e.tup h) r) (fun h r => .dct (e _ _ h) r) .nil fun p q => .cons p q
theorem Ow.same {K : PySem.W.Frag} {H H' : Hp} (e : Same H H') {v : V} {d : D} {ns : List Addr} (h : Ow K H v d ns) : Ow K H' v d ns := (Ow.same2 e).1 h
theorem Ows.same {K : PySem.W.Frag} {H H' : Hp} (e : Same H H') {v : List V} {d : List D} {ns : List Addr} (h : Ows K H v d ns) : Ows K H' v d ns := (Ow.same2 e).2 h
/-! ### data without lists -/
mutual
def flat : D → Bool
  | .none => true
  | .bool _ => true
  | .int _ => true
  | .str _ => true
  | .list _ => false
  | .tuple ds => flats ds
  | .dict _ => false
def flats : List D → Bool
  | [] => true
  | d :: ds => flat d && flats ds
end
theorem ow_flat2 {K : PySem.W.Frag} {H : Hp} : (∀ {v d}, Dn K H v d → flat d = true → Ow K H v d []) ∧ ∀ {v d}, Dns K H v d → flats d = true → Ows K H v d [] :=
  Dn.both (fun _ => .non) (fun b _ => .bl b) (fun b _ => .int b) (fun b _ => .str b) (fun _ _ h => nomatch h) (fun h r q => .tup h (r q)) (fun _ _ h => nomatch h) (fun _ h => nomatch h) (fun _ _ h => nomatch h) (fun _ => .nil) fun p r q => by
    rw [flats, Bool.and_eq_true] at q
    exact .cons (ns := []) (ms := []) (p q.1) (r q.2)
theorem ow_flat {K : PySem.W.Frag} {H : Hp} {v : V} {d : D} (h : Dn K H v d) (q : flat d = true) : Ow K H v d [] := ow_flat2.1 h q
theorem ows_flat {K : PySem.W.Frag} {H : Hp} {v : List V} {d : List D} (h : Dns K H v d) (q : flats d = true) : Ows K H v d [] := ow_flat2.2 h q
theorem den_kept2 {K : PySem.W.Frag} {H H' : Hp} (k : ∀ a o, H a = some o → muO o = false → H' a = some o) : (∀ {v d}, Dn K H v d → flat d = true → Dn K H' v d) ∧ ∀ {v d}, Dns K H v d → flats d = true → Dns K H' v d :=
  Dn.both (fun _ => .non) (fun b _ => .bl b) (fun b _ => .int b) (fun b _ => .str b) (fun _ _ h => nomatch h) (fun h r q => .tup (Kept.sqt (ns := []) ⟨fun _ z => (by cases z), k⟩ h) (r q)) (fun _ _ h => nomatch h) (fun _ h => nomatch h) (fun _ _ h => nomatch h) (fun _ => .nil) fun p r q => by
    rw [flats, Bool.and_eq_true] at q
    exact .cons (p q.1) (r q.2)
theorem den_kept {K : PySem.W.Frag} {H H' : Hp} (k : ∀ a o, H a = some o → muO o = false → H' a = some o) {v : V} {d : D} (h : Dn K H v d) (q : flat d = true) : Dn K H' v d := (den_kept2 k).1 h q
theorem dens_kept {K : PySem.W.Frag} {H H' : Hp} (k : ∀ a o, H a = some o → muO o = false → H' a = some o) {v : List V} {d : List D} (h : Dns K H v d) (q : flats d = true) : Dns K H' v d := (den_kept2 k).2 h q
/-! ### a heap less what is hidden -/
open Classical in
noncomputable def hid (Z : Addr → Prop) (H : Hp) : Hp := fun a => if Z a then none else H a
theorem hid_of {Z : Addr → Prop} {H : Hp} {a : Addr} {o : HO} (h : H a = some o) (z : ¬ Z a) : hid Z H a = some o := by unfold hid; rw [if_neg z]; exact h
theorem of_hid {Z : Addr → Prop} {H : Hp} {a : Addr} {o : HO} (h : hid Z H a = some o) : H a = some o ∧ ¬ Z a := by
  unfold hid at h
  split at h
  · cases h
  · exact ⟨h, ‹_›⟩
theorem hid_same {Z : Addr → Prop} {H : Hp} : Same (hid Z H) H := fun _ _ h => (of_hid h).1
theorem hid_mono {Z : Addr → Prop} {H H' : Hp} (e : Same H H') : Same (hid Z H) (hid Z H') := fun b o h => hid_of (e b o (of_hid h).1) (of_hid h).2
theorem hid_less {Z Z' : Addr → Prop} {H : Hp} (h : ∀ a, Z' a → Z a) : Same (hid Z H) (hid Z' H) := fun b o e => hid_of (of_hid e).1 fun z => (of_hid e).2 (h b z)
/-- only lists are hidden: data without lists is seen -/
theorem den_hid {K : PySem.W.Frag} {Z : Addr → Prop} {H : Hp} {v : V} {d : D} (hl : ∀ a, Z a → Mu H a) (h : Dn K H v d) (hf : flat d = true) : Dn K (hid Z H) v d :=
  den_kept (fun a o e n => hid_of e fun z => (hl a z).no e n) h hf
theorem ow_hid2 {K : PySem.W.Frag} {Z : Addr → Prop} {H : Hp} (hl : ∀ a, Z a → Mu H a) : (∀ {v d ns}, Ow K H v d ns → (∀ a ∈ ns, ¬ Z a) → Dn K (hid Z H) v d) ∧ ∀ {v d ns}, Ows K H v d ns → (∀ a ∈ ns, ¬ Z a) → Dns K (hid Z H) v d :=
  Ow.both (P := fun v d ns => (∀ a ∈ ns, ¬ Z a) → Dn K (hid Z H) v d) (Q := fun v d ns => (∀ a ∈ ns, ¬ Z a) → Dns K (hid Z H) v d) (fun _ => .non) (fun b _ => .bl b) (fun b _ => .int b) (fun b _ => .str b) (fun h r k => .lst (hid_of h (k _ List.mem_cons_self)) (r fun a ha => k a (List.mem_cons_of_mem _ ha)))
    (fun h r k => .tup (Kept.sqt (ns := []) ⟨fun _ z => (by cases z), fun a o e n => hid_of e fun z => (hl a z).no e n⟩ h) (r k)) (fun h r k => .dct (hid_of h (k _ List.mem_cons_self)) r) (fun _ => .nil) fun p q k => .cons (p fun a ha => k a (List.mem_append_left _ ha)) (q fun a ha => k a (List.mem_append_right _ ha))
theorem ow_hid {K : PySem.W.Frag} {Z : Addr → Prop} {H : Hp} (hl : ∀ a, Z a → Mu H a) {v : V} {d : D} {ns : List Addr} (h : Ow K H v d ns) (k : ∀ a ∈ ns, ¬ Z a) : Dn K (hid Z H) v d := (ow_hid2 hl).1 h k
theorem ows_hid {K : PySem.W.Frag} {Z : Addr → Prop} {H : Hp} (hl : ∀ a, Z a → Mu H a) {v : List V} {d : List D} {ns : List Addr} (h : Ows K H v d ns) (k : ∀ a ∈ ns, ¬ Z a) : Dns K (hid Z H) v d := (ow_hid2 hl).2 h k
/-! ### the state of a def's names -/
abbrev Ren := List (Option (Bool × D))
def Z0 : Addr → Prop := fun _ => False
def Hd (Z : Addr → Prop) (ν : Nat → List Addr) : Addr → Prop := fun a => Z a ∨ ∃ i, a ∈ ν i
structure StOk (K : PySem.W.Frag) (Z : Addr → Prop) (H0 : Hp) (ν : Nat → List Addr) (ρ : Ren) (σ : L2.St) (H : Hp) : Prop where
  sm : Same H0 H
  len : σ.length = ρ.length
  sl : ∀ i b d, ρ[i]? = some (some (b, d)) → ∃ v, σ[i]? = some (some v) ∧ if b = true then Ow K H v d (ν i) else Dn K (hid (Hd Z ν) H) v d
  nd : ∀ i, (ν i).Nodup
  dj : ∀ i j a, a ∈ ν i → a ∈ ν j → i = j
  fr : ∀ i a, a ∈ ν i → H0 a = none ∧ ¬ Z a ∧ Mu H a
  zf : ∀ a, Z a → H0 a = none ∧ Mu H a
section
variable {K : PySem.W.Frag} {Z : Addr → Prop} {H0 H H' : Hp} {ν : Nat → List Addr} {ρ : Ren} {σ : L2.St} {v : V} {d : D}
theorem StOk.hl (S : StOk K Z H0 ν ρ σ H) : ∀ a, Hd Z ν a → Mu H a := fun a h => by
  rcases h with h | ⟨i, h⟩
  · exact (S.zf a h).2
  · exact (S.fr i a h).2.2
theorem StOk.same (S : StOk K Z H0 ν ρ σ H) (e : Same H H') : StOk K Z H0 ν ρ σ H' where
  sm := S.sm.trans e
  len := S.len
  sl := fun i b d h => by
    obtain ⟨v, h1, h2⟩ := S.sl i b d h
    refine ⟨v, h1, ?_⟩
    cases b with
    | true => exact Ow.same e h2
    | false => exact Dn.same (hid_mono e) h2
  nd := S.nd
  dj := S.dj
  fr := fun i a h => by obtain ⟨h1, h2, us, h3⟩ := S.fr i a h; exact ⟨h1, h2, us, e _ _ h3⟩
  zf := fun a h => by obtain ⟨h1, us, h3⟩ := S.zf a h; exact ⟨h1, us, e _ _ h3⟩
theorem StOk.get (S : StOk K Z H0 ν ρ σ H) {i : Nat} {b : Bool} (h : ρ[i]? = some (some (b, d))) : ∃ v, σ[i]? = some (some v) ∧ Dn K H v d := by
  obtain ⟨v, h1, h2⟩ := S.sl i b d h
  refine ⟨v, h1, ?_⟩
  cases b with
  | true => exact h2.den
  | false => exact Dn.same hid_same h2
theorem set_get {α : Type} {l : List α} {i j : Nat} {x y : α} (h : (l.set i x)[j]? = some y) : (j = i ∧ y = x ∧ i < l.length) ∨ (j ≠ i ∧ l[j]? = some y) := by
  rw [List.getElem?_set] at h
  split at h
  · split at h
    · cases h; exact .inl ⟨by omega, rfl, by omega⟩
    · cases h
  · exact .inr ⟨by omega, h⟩
/-- a name is set to what is not ours -/
theorem StOk.setOld (S : StOk K Z H0 ν ρ σ H) (i : Nat) (h : Dn K (hid (Hd Z ν) H) v d) : StOk K Z H0 ν (ρ.set i (some (false, d))) (σ.set i (some v)) H where
  sm := S.sm
  len := by rw [List.length_set, List.length_set]; exact S.len
  sl := fun j b e hj => by
    rcases set_get hj with ⟨rfl, h1, h2⟩ | ⟨h1, h2⟩
    · cases h1
      exact ⟨v, by rw [List.getElem?_set_self (by rw [S.len]; exact h2)], h⟩
    · obtain ⟨u, q1, q2⟩ := S.sl j b e h2
      exact ⟨u, by rw [List.getElem?_set_ne (Ne.symm h1)]; exact q1, q2⟩
  nd := S.nd
  dj := S.dj
  fr := S.fr
  zf := S.zf
/-- a name is dropped -/
theorem StOk.drop (S : StOk K Z H0 ν ρ σ H) (i : Nat) : StOk K Z H0 ν (ρ.set i none) σ H where
  sm := S.sm
  len := by rw [List.length_set]; exact S.len
  sl := fun j b e hj => by
    rcases set_get hj with ⟨rfl, h1, h2⟩ | ⟨h1, h2⟩
    · cases h1
    · exact S.sl j b e h2
  nd := S.nd
  dj := S.dj
  fr := S.fr
  zf := S.zf
def dropS (ρ : Ren) : List Nat → Ren
  | [] => ρ
  | i :: r => dropS (ρ.set i none) r
theorem dropS_len : ∀ (s : List Nat) (ρ : Ren), (dropS ρ s).length = ρ.length
  | [], _ => rfl
  | i :: r, ρ => by unfold dropS; rw [dropS_len r, List.length_set]
theorem dropS_get : ∀ (s : List Nat) {ρ : Ren} {i : Nat} {x : Bool × D}, (dropS ρ s)[i]? = some (some x) → i ∉ s ∧ ρ[i]? = some (some x)
  | [], _, _, _, h => ⟨by simp, h⟩
  | j :: r, ρ, i, x, h => by
    obtain ⟨h1, h2⟩ := dropS_get r h
    rcases set_get h2 with ⟨rfl, q, _⟩ | ⟨q1, q2⟩
    · cases q
    · exact ⟨by simp [h1, q1], q2⟩
/-- a name is set to a tree: new nodes, and those of the names s, which go -/
theorem StOk.setOwn (S : StOk K Z H0 ν ρ σ H) (s : List Nat) (i : Nat) {ms : List Addr} (e : Same H H') (h : Ow K H' v d ms) (nd : ms.Nodup) (fr : ∀ a ∈ ms, H a = none ∨ ∃ j ∈ s, a ∈ ν j) :
    StOk K Z H0 (fun j => if j = i then ms else if j ∈ s then [] else ν j) ((dropS ρ s).set i (some (true, d))) (σ.set i (some v)) H' where
  sm := S.sm.trans e
  len := by rw [List.length_set, List.length_set, dropS_len]; exact S.len
  sl := fun j b c hj => by
    rcases set_get hj with ⟨rfl, h1, h2⟩ | ⟨h1, h2⟩
    · cases h1
      exact ⟨v, by rw [List.getElem?_set_self (by rw [S.len]; rw [dropS_len] at h2; exact h2)], by rw [if_pos rfl]; rw [if_pos rfl]; exact h⟩
    · obtain ⟨h3, h4⟩ := dropS_get s h2
      obtain ⟨u, q1, q2⟩ := S.sl j b c h4
      refine ⟨u, by rw [List.getElem?_set_ne (Ne.symm h1)]; exact q1, ?_⟩
      cases b with
      | true =>
        rw [if_pos rfl, if_neg h1, if_neg h3]
        exact Ow.same e q2
      | false =>
        refine Dn.same (fun a o ha => ?_) q2
        obtain ⟨g1, g2⟩ := of_hid ha
        refine hid_of (e _ _ g1) fun z => ?_
        rcases z with z | ⟨k, z⟩
        · exact g2 (.inl z)
        · dsimp only at z
          split at z
          · rcases fr a z with z | ⟨l, _, z⟩
            · rw [g1] at z; cases z
            · exact g2 (.inr ⟨l, z⟩)
          · split at z
            · cases z
            · exact g2 (.inr ⟨k, z⟩)
  nd := fun j => by
    split
    · exact nd
    · split
      · exact List.nodup_nil
      · exact S.nd j
  dj := fun j k a hj hk => by
    have key : ∀ l, l ∉ s → a ∈ ν l → a ∉ ms := fun l hl ha hm => by
      rcases fr a hm with z | ⟨m, hm, z⟩
      · obtain ⟨_, _, us, q⟩ := S.fr l a ha
        rw [z] at q; cases q
      · rw [S.dj l m a ha z] at hl; exact hl hm
    split at hj
    · split at hk
      · omega
      · split at hk
        · cases hk
        · exact absurd hj (key k ‹_› hk)
    · split at hj
      · cases hj
      · split at hk
        · exact absurd hk (key j ‹_› hj)
        · split at hk
          · cases hk
          · exact S.dj j k a hj hk
  fr := fun j a ha => by
    split at ha
    · have ht := h.there a ha
      rcases fr a ha with z | ⟨m, _, z⟩
      · exact ⟨S.sm.gone z, (fun q => by obtain ⟨_, us, q⟩ := S.zf a q; rw [z] at q; cases q), ht⟩
      · obtain ⟨q1, q2, us, q3⟩ := S.fr m a z
        exact ⟨q1, q2, us, e _ _ q3⟩
    · split at ha
      · cases ha
      · obtain ⟨q1, q2, us, q3⟩ := S.fr j a ha
        exact ⟨q1, q2, us, e _ _ q3⟩
  zf := fun a h => by obtain ⟨h1, us, h3⟩ := S.zf a h; exact ⟨h1, us, e _ _ h3⟩
/-- all that is ours becomes what is not -/
def frz (ρ : Ren) : Ren := ρ.map fun x => x.map fun y => (false, y.2)
theorem frz_get {ρ : Ren} {i : Nat} {b : Bool} {d : D} (h : (frz ρ)[i]? = some (some (b, d))) : b = false ∧ ∃ c, ρ[i]? = some (some (c, d)) := by
  unfold frz at h
  rw [List.getElem?_map] at h
  cases q : ρ[i]? with
  | none => rw [q] at h; cases h
  | some x =>
    rw [q] at h
    cases x with
    | none => cases h
    | some y => cases h; exact ⟨rfl, y.1, rfl⟩
theorem StOk.frz (S : StOk K Z H0 ν ρ σ H) : StOk K Z H0 (fun _ => []) (frz ρ) σ H where
  sm := S.sm
  len := by unfold DL.frz; rw [List.length_map]; exact S.len
  sl := fun i b d h => by
    obtain ⟨rfl, c, h⟩ := frz_get h
    obtain ⟨v, h1, h2⟩ := S.sl i c d h
    refine ⟨v, h1, ?_⟩
    have hl : ∀ a, Hd Z (fun _ => []) a → Mu H a := fun a z => by
      rcases z with z | ⟨_, z⟩
      · exact (S.zf a z).2
      · cases z
    cases c with
    | true =>
      refine ow_hid hl h2 fun a ha z => ?_
      rcases z with z | ⟨_, z⟩
      · exact (S.fr i a ha).2.1 z
      · cases z
    | false => exact Dn.same (hid_less fun a z => by rcases z with z | ⟨_, z⟩; exact .inl z; cases z) h2
  nd := fun _ => List.nodup_nil
  dj := fun _ _ _ z => by cases z
  fr := fun _ _ z => by cases z
  zf := S.zf
/-- one name's tree becomes what is not ours -/
def frz1 (i : Nat) (ρ : Ren) : Ren := match ρ[i]? with
  | some (some (_, d)) => ρ.set i (some (false, d))
  | _ => ρ
theorem StOk.frz1 (S : StOk K Z H0 ν ρ σ H) (i : Nat) : StOk K Z H0 (fun j => if j = i then [] else ν j) (frz1 i ρ) σ H := by
  have hl : ∀ a, Hd Z (fun j => if j = i then [] else ν j) a → Hd Z ν a := fun a z => by
    rcases z with z | ⟨j, z⟩
    · exact .inl z
    · dsimp only at z
      split at z
      · cases z
      · exact .inr ⟨j, z⟩
  have sl : ∀ j b d, ρ[j]? = some (some (b, d)) → j ≠ i → ∃ v, σ[j]? = some (some v) ∧ if b = true then Ow K H v d (if j = i then [] else ν j) else Dn K (hid (Hd Z fun j => if j = i then [] else ν j) H) v d := fun j b d h hj => by
    obtain ⟨v, h1, h2⟩ := S.sl j b d h
    refine ⟨v, h1, ?_⟩
    rw [if_neg hj]
    cases b with
    | true => exact h2
    | false => exact Dn.same (hid_less hl) h2
  refine ⟨S.sm, ?_, ?_, fun j => ?_, fun j k a hj hk => ?_, fun j a ha => ?_, S.zf⟩
  · unfold DL.frz1
    split
    · rw [List.length_set]; exact S.len
    · exact S.len
  · intro j b d h
    unfold DL.frz1 at h
    split at h
    case h_1 x b' d' e =>
      rcases set_get h with ⟨rfl, h1, h2⟩ | ⟨h1, h2⟩
      · cases h1
        obtain ⟨v, h1, h2⟩ := S.sl j b' d e
        refine ⟨v, h1, ?_⟩
        cases b' with
        | true =>
          refine ow_hid (fun a z => S.hl a (hl a z)) h2 fun a ha z => ?_
          rcases z with z | ⟨k, z⟩
          · exact (S.fr j a ha).2.1 z
          · dsimp only at z
            split at z
            · cases z
            · exact absurd (S.dj _ _ _ z ha) ‹_›
        | false => exact Dn.same (hid_less hl) h2
      · exact sl j b d h2 h1
    case h_2 e =>
      by_cases hj : j = i
      · subst hj; exact absurd h (fun q => e _ _ q)
      · exact sl j b d h hj
  · skip
    split
    · exact List.nodup_nil
    · exact S.nd j
  · skip
    split at hj
    · cases hj
    · split at hk
      · cases hk
      · exact S.dj _ _ _ hj hk
  · skip
    split at ha
    · cases ha
    · exact S.fr _ _ ha
end
/-! ### what an expression gives -/
inductive Kd where
  | own (s : List Nat)
  | old
  | mix
def Res (K : PySem.W.Frag) (Z : Addr → Prop) (ν : Nat → List Addr) (H H' : Hp) : Kd → V → D → Prop
  | .own s, v, d => ∃ ms, Ow K H' v d ms ∧ ms.Nodup ∧ ∀ a ∈ ms, H a = none ∨ ∃ j ∈ s, a ∈ ν j
  | .old, v, d => Dn K (hid (Hd Z ν) H') v d
  | .mix, v, d => Dn K H' v d
section
variable {K : PySem.W.Frag} {Z : Addr → Prop} {H0 H H1 H' : Hp} {ν : Nat → List Addr} {ρ : Ren} {σ : L2.St} {v : V} {d : D} {k : Kd}
theorem Res.den (h : Res K Z ν H H' k v d) : Dn K H' v d := by
  cases k with
  | own s => obtain ⟨ms, h, _⟩ := h; exact h.den
  | old => exact Dn.same hid_same h
  | mix => exact h
theorem Res.same (h : Res K Z ν H H1 k v d) (e : Same H1 H') : Res K Z ν H H' k v d := by
  cases k with
  | own s => obtain ⟨ms, h, r⟩ := h; exact ⟨ms, h.same e, r⟩
  | old => exact Dn.same (hid_mono e) h
  | mix => exact Dn.same e h
theorem Res.later (h : Res K Z ν H1 H' k v d) (e : Same H H1) : Res K Z ν H H' k v d := by
  cases k with
  | own s =>
    obtain ⟨ms, h, r, f⟩ := h
    exact ⟨ms, h, r, fun a ha => by rcases f a ha with z | z; exact .inl (e.gone z); exact .inr z⟩
  | old => exact h
  | mix => exact h
theorem Res.flat (h : Dn K H' v d) (hf : DL.flat d = true) (hl : ∀ a, Hd Z ν a → Mu H' a) (k : Kd) : Res K Z ν H H' k v d := by
  cases k with
  | own s => exact ⟨[], ow_flat h hf, List.nodup_nil, fun _ z => by cases z⟩
  | old => exact den_hid hl h hf
  | mix => exact h
end
end DL

namespace DL
open PySem PySem.Spec PyProof.Rows L2
/-! ### readings over data -/
abbrev QD := D → Kd → Prop
abbrev XD := Addr → Prop
abbrev TD := Ren → QD → XD → Prop
abbrev TDT := Ren → (Bool → Prop) → XD → Prop
abbrev TDA := Ren → (List D → Kd → Prop) → XD → Prop
/-- the kinds of the items of a list, together -/
def RsL (K : PySem.W.Frag) (Z : Addr → Prop) (ν : Nat → List Addr) (H H' : Hp) : Kd → List V → List D → Prop
  | .own s, v, d => ∃ ms, Ows K H' v d ms ∧ ms.Nodup ∧ ∀ a ∈ ms, H a = none ∨ ∃ j ∈ s, a ∈ ν j
  | .old, v, d => Dns K (hid (Hd Z ν) H') v d
  | .mix, v, d => Dns K H' v d
def LE (K : PySem.W.Frag) (E : XK) (t : TD) : TE := fun σ H Q => ∃ H0 ν ρ Qd Xd, StOk K Z0 H0 ν ρ σ H ∧ t ρ Qd Xd ∧ (∀ d k v H', Qd d k → Same H H' → Res K Z0 ν H H' k v d → Q v H') ∧ ∀ C H', Xd C → Same H0 H' → E (.ref C) none H'
def LT (K : PySem.W.Frag) (E : XK) (t : TDT) : TT := fun σ H Q => ∃ H0 ν ρ Qd Xd, StOk K Z0 H0 ν ρ σ H ∧ t ρ Qd Xd ∧ (∀ b H', Qd b → Same H H' → Q b H') ∧ ∀ C H', Xd C → Same H0 H' → E (.ref C) none H'
def LA (K : PySem.W.Frag) (E : XK) (t : TDA) : TA := fun σ H Q => ∃ H0 ν ρ Qd Xd, StOk K Z0 H0 ν ρ σ H ∧ t ρ Qd Xd ∧ (∀ ds k vs H', Qd ds k → Same H H' → RsL K Z0 ν H H' k vs ds → Q vs H') ∧ ∀ C H', Xd C → Same H0 H' → E (.ref C) none H'
structure DE (X : Cx) (K : PySem.W.Frag) (E : XK) (e : Expr) (t : TD) : Prop where
  q : QE X e (LE K E t)
structure DT (X : Cx) (K : PySem.W.Frag) (E : XK) (e : Expr) (t : TDT) : Prop where
  q : QT X e (LT K E t)
structure DW (X : Cx) (K : PySem.W.Frag) (E : XK) (e : Expr) (t : TDT) : Prop where
  q : QW X e (LT K E t)
structure DA (X : Cx) (K : PySem.W.Frag) (E : XK) (e : List Expr) (t : TDA) : Prop where
  q : QA X e (LA K E t)
theorem qe_imp {X : Cx} {e : Expr} {t t' : TE} (h : QE X e t) (i : ∀ σ H Q, t' σ H Q → t σ H Q) : QE X e t' := ⟨fun pins s σ H Q I w => h.h pins s σ H Q I (i σ H Q w)⟩
theorem qt_imp {X : Cx} {e : Expr} {t t' : TT} (h : QT X e t) (i : ∀ σ H Q, t' σ H Q → t σ H Q) : QT X e t' := ⟨fun pins s σ H Q I w => h.h pins s σ H Q I (i σ H Q w)⟩
theorem qw_imp {X : Cx} {e : Expr} {t t' : TT} (h : QW X e t) (i : ∀ σ H Q, t' σ H Q → t σ H Q) : QW X e t' := ⟨fun wh pins s σ H Q I w => h.h wh pins s σ H Q I (i σ H Q w)⟩
theorem qa_imp {X : Cx} {e : List Expr} {t t' : TA} (h : QA X e t) (i : ∀ σ H Q, t' σ H Q → t σ H Q) : QA X e t' := ⟨fun pos pins s σ H Q I w => h.h pos pins s σ H Q I (i σ H Q w)⟩
theorem qs_imp {X : Cx} {e : Stmt} {t t' : TS} (h : QS X e t) (i : ∀ D σ H, t' D σ H → t D σ H) : QS X e t' := ⟨fun pins s σ H D I w => h.h pins s σ H D I (i D σ H w)⟩
theorem qss_imp {X : Cx} {e : List Stmt} {t t' : TS} (h : QSs X e t) (i : ∀ D σ H, t' D σ H → t D σ H) : QSs X e t' := ⟨fun pins s σ H D I w => h.h pins s σ H D I (i D σ H w)⟩
section
variable {X : Cx} {K : PySem.W.Frag} {E : XK} {pos : Pos}
/-! ### names and constants -/
def dVar (i : Nat) : TD := fun ρ Q _ => ∃ b d, ρ[i]? = some (some (b, d)) ∧ Q d (if b = true then .own [i] else .old)
theorem dpv (i : Nat) {x : Str} (hN : X.N[i]? = some x := by rfl) (hv : Vis X.env.scope x := by first | exact Or.inl rfl | exact Or.inr (Or.inl rfl) | exact Or.inr (Or.inr rfl)) (hd : (x == ("__debug__" : Str)) = false := by decide)
    (hcd : (x == ("__classdict__" : Str)) = false := by decide) : DE X K E (.Name x pos) (dVar i) := ⟨qe_imp (qpv i hN hv hd hcd) fun σ H Q h => by
  obtain ⟨H0, ν, ρ, Qd, Xd, S, ⟨b, d, h1, h2⟩, q, _⟩ := h
  obtain ⟨v, g1, g2⟩ := S.sl i b d h1
  refine ⟨v, g1, q d _ v H h2 (Same.refl H) ?_⟩
  cases b with
  | true => exact ⟨ν i, g2, S.nd i, fun a ha => .inr ⟨i, by simp, ha⟩⟩
  | false => exact g2⟩
def dC (d : D) : TD := fun _ Q _ => Q d .old
theorem dc_of {e : Expr} {v : V} {d : D} (h : QE X e (tC v)) (hd : ∀ H, Dn K H v d) : DE X K E e (dC d) := ⟨qe_imp h fun σ H Q h => by
  obtain ⟨H0, ν, ρ, Qd, Xd, S, h1, q, _⟩ := h
  exact q d _ v H h1 (Same.refl H) (hd _)⟩
theorem dpe_int {i : Int} {j} : DE X K E (.Constant (.int i) j pos) (dC (.int i)) := dc_of qpe_int fun _ => .int _
theorem dpe_bl {i : Bool} {j} : DE X K E (.Constant (.bool i) j pos) (dC (.bool i)) := dc_of qpe_bl fun _ => .bl _
/-! ### operators -/
abbrev F2 := D → Kd → D → Kd → QD → Prop
def Prim2 (K : PySem.W.Frag) (r : R2) (f : F2) : Prop := ∀ (Z : Addr → Prop) (ν : Nat → List Addr) (Hs H : Hp) (x y : V) (d : D) (k : Kd) (e : D) (l : Kd) (Qf : QD) (Q : VK), (∀ a, Hd Z ν a → Mu H a) → (∀ a, Hd Z ν a → Mu Hs a) → Same Hs H → Res K Z ν Hs H k x d → Res K Z ν Hs H l y e →
  f d k e l Qf → (∀ d k v H', Qf d k → Same H H' → Res K Z ν Hs H' k v d → Q v H') → r x y H Q
/-- an operator and what it does with data -/
structure DOp (X : Cx) (K : PySem.W.Frag) (f : Value → Value → Sem Value) (g : F2) : Prop where
  ex : ∃ r, OpR X f r ∧ Prim2 K r g
structure DIx (X : Cx) (K : PySem.W.Frag) (g : F2) : Prop where
  ex : ∃ r, IxR X r ∧ Prim2 K r g
def dOp (f : F2) (ta tb : TD) : TD := fun ρ Q Xd => ta ρ (fun d k => tb ρ (fun e l => f d k e l Q) Xd) Xd
theorem le_two {r : R2} {f : F2} {ta tb : TD} (p : Prim2 K r f) : ∀ σ H Q, LE K E (dOp f ta tb) σ H Q → tOp r (LE K E ta) (LE K E tb) σ H Q := fun σ H Q h => by
  obtain ⟨H0, ν, ρ, Qd, Xd, S, h1, q, x⟩ := h
  refine ⟨H0, ν, ρ, _, Xd, S, h1, fun d k v H1 hd e1 r1 => ?_, x⟩
  refine ⟨H0, ν, ρ, _, Xd, S.same e1, hd, fun d2 k2 v2 H2 hd2 e2 r2 => ?_, x⟩
  refine p Z0 ν H H2 v v2 d k d2 k2 Qd Q (S.same (e1.trans e2)).hl S.hl (e1.trans e2) (r1.same e2) (r2.later e1) hd2 fun d3 k3 v3 H3 g1 g2 g3 => q d3 k3 v3 H3 g1 ((e1.trans e2).trans g2) g3
theorem dpe_op {op : Operator} {f : F2} {a b : Expr} {ta tb : TD} (ho : DOp X K (binaryOp op) f) (ha : DE X K E a ta) (hb : DE X K E b tb) : DE X K E (.BinOp a op b pos) (dOp f ta tb) := by
  obtain ⟨r, o, p⟩ := ho.ex
  exact ⟨qe_imp (qpe_op o ha.q hb.q) (le_two p)⟩
theorem dpe_ix {f : F2} {a b : Expr} {ta tb : TD} (ho : DIx X K f) (ha : DE X K E a ta) (hb : DE X K E b tb) (hs : PlainIx b) : DE X K E (.Subscript a b pos) (dOp f ta tb) := by
  obtain ⟨r, o, p⟩ := ho.ex
  exact ⟨qe_imp (qpe_ix o ha.q hb.q hs) (le_two p)⟩
theorem DOp.or {h : Value → Value → Sem Value} {f g : F2} (a : DOp X K h f) (b : DOp X K h g) : DOp X K h (fun d k e l Q => f d k e l Q ∨ g d k e l Q) := by
  obtain ⟨r, o, p⟩ := a.ex
  obtain ⟨r', o', p'⟩ := b.ex
  refine ⟨_, o.or o', fun Z ν Hs H x y d k e l Qf Q h1 h0 h2 h3 h4 h5 h6 => ?_⟩
  rcases h5 with h5 | h5
  · exact .inl (p Z ν Hs H x y d k e l Qf Q h1 h0 h2 h3 h4 h5 h6)
  · exact .inr (p' Z ν Hs H x y d k e l Qf Q h1 h0 h2 h3 h4 h5 h6)
theorem DOp.mono {h : Value → Value → Sem Value} {f g : F2} (a : DOp X K h f) (i : ∀ d k e l Q, g d k e l Q → f d k e l Q) : DOp X K h g := by
  obtain ⟨r, o, p⟩ := a.ex
  exact ⟨r, o, fun Z ν Hs H x y d k e l Qf Q h1 h0 h2 h3 h4 h5 h6 => p Z ν Hs H x y d k e l Qf Q h1 h0 h2 h3 h4 (i _ _ _ _ _ h5) h6⟩
/-- ints to an int or a bool -/
def fI (C : Int → Int → Prop) (g : Int → Int → D) : F2 := fun d _ e _ Q => match d, e with
  | .int i, .int j => C i j ∧ Q (g i j) .old
  | _, _ => False
theorem prim_int {C : Int → Int → Prop} {g : Int → Int → Int} : Prim2 K (rI C fun i j => .int (g i j)) (fI C fun i j => .int (g i j)) := fun Z ν Hs H x y d k e l Qf Q _ _ _ h3 h4 h5 h6 => by
  unfold fI at h5
  split at h5
  · have a := h3.den
    have b := h4.den
    cases a
    cases b
    exact ⟨_, _, rfl, rfl, h5.1, h6 _ _ _ _ h5.2 (Same.refl H) (.int _)⟩
  · exact h5.elim
def T2 (_ _ : Int) : Prop := True
theorem prim_int0 {g : Int → Int → Int} : Prim2 K (rI0 fun i j => .int (g i j)) (fI T2 fun i j => .int (g i j)) := fun Z ν Hs H x y d k e l Qf Q _ _ _ h3 h4 h5 h6 => by
  unfold fI at h5
  split at h5
  · have a := h3.den
    have b := h4.den
    cases a
    cases b
    exact ⟨_, _, rfl, rfl, h6 _ _ _ _ h5.2 (Same.refl H) (.int _)⟩
  · exact h5.elim
theorem prim_bool0 {g : Int → Int → Bool} : Prim2 K (rI0 fun i j => .bl (g i j)) (fI T2 fun i j => .bool (g i j)) := fun Z ν Hs H x y d k e l Qf Q _ _ _ h3 h4 h5 h6 => by
  unfold fI at h5
  split at h5
  · have a := h3.den
    have b := h4.den
    cases a
    cases b
    exact ⟨_, _, rfl, rfl, h6 _ _ _ _ h5.2 (Same.refl H) (.bl _)⟩
  · exact h5.elim
theorem dop_sub : DOp X K (binaryOp .Sub) (fI T2 fun i j => .int (i - j)) := ⟨_, op_sub, prim_int0⟩
theorem dop_mul : DOp X K (binaryOp .Mult) (fI IntMulOk fun i j => .int (i * j)) := ⟨_, op_mulB, prim_int⟩
theorem dop_mod : DOp X K (binaryOp .Mod) (fI (fun _ j => 0 < j) fun i j => .int (i % j)) := ⟨_, op_mod, prim_int⟩
theorem dop_modN : DOp X K (binaryOp .Mod) (fI (fun _ j => j ≠ 0) fun i j => .int (i.fmod j)) := ⟨_, op_modN, prim_int⟩
theorem dop_pow : DOp X K (binaryOp .Pow) (fI CPow fun i j => .int (i ^ j.toNat)) := ⟨_, op_pow, prim_int⟩
theorem dop_lt : DOp X K (compareOp .Lt) (fI T2 fun i j => .bool (decide (i < j))) := ⟨_, op_lt, prim_bool0⟩
theorem dop_gt : DOp X K (compareOp .Gt) (fI T2 fun i j => .bool (decide (j < i))) := ⟨_, op_gt, prim_bool0⟩
theorem dop_ge : DOp X K (compareOp .GtE) (fI T2 fun i j => .bool (decide (j ≤ i))) := ⟨_, op_ge, prim_bool0⟩
def fEq (f : Bool → Bool) : F2 := fun d _ e _ Q => d.canLay0 = true ∧ e.canLay0 = true ∧ d.depth ≤ 32 ∧ Q (.bool (f (PyData.eqv d e))) .old
theorem prim_eq {f : Bool → Bool} : Prim2 K (rEqD K f) (fEq f) := fun Z ν Hs H x y d k e l Qf Q _ _ _ h3 h4 h5 h6 =>
  ⟨d, e, h3.den.deep h5.1, h4.den.deep h5.2.1, h5.1, h5.2.1, h5.2.2.1, h6 _ _ _ _ h5.2.2.2 (Same.refl H) (.bl _)⟩
theorem dop_eq (hK : X.K = K) (hu : X.A.units + 64 < cLine) : DOp X K (compareOp .Eq) (fEq id) := ⟨_, op_eqK K hK hu, prim_eq⟩
theorem dop_ne (hK : X.K = K) (hu : X.A.units + 64 < cLine) : DOp X K (compareOp .NotEq) (fEq not) := ⟨_, op_neK K hK hu, prim_eq⟩
def isNon : D → Bool
  | .none => true
  | _ => false
def fIs (f : Bool → Bool) : F2 := fun d _ e _ Q => e = .none ∧ Q (.bool (f (isNon d))) .old
end
end DL

namespace DL
open PySem PySem.Spec PyProof.Rows L2
/-! ### kinds of what is put together -/
def Kd.isOld : Kd → Bool
  | .old => true
  | .own [] => true
  | _ => false
/-- the items of a list of kind k -/
def kels (ds : List D) (k : Kd) : Kd := if flats ds = true then .own [] else if k.isOld = true then .old else .mix
def kels2 (ds : List D) (k : Kd) (es : List D) (l : Kd) : Kd := if (flats ds && flats es) = true then .own [] else if (k.isOld && l.isOld) = true then .old else .mix
/-- an item of something of kind k -/
def Kd.sub : Kd → Kd
  | .own [] => .own []
  | .old => .old
  | _ => .mix
section
variable {K : PySem.W.Frag} {Z : Addr → Prop} {Hs H H' : Hp} {ν : Nat → List Addr} {v : V} {d : D} {k l : Kd} {us vs : List V} {ds es : List D} {a p : Addr}
theorem Res.old (hl : ∀ a, Hd Z ν a → Mu H a) (hn : ∀ a, Hd Z ν a → Mu Hs a) (h : Res K Z ν Hs H k v d) (hk : k.isOld = true) : Dn K (hid (Hd Z ν) H) v d := by
  cases k with
  | own s =>
    cases s with
    | nil =>
      obtain ⟨ms, h1, _, h3⟩ := h
      refine ow_hid hl h1 fun a ha z => ?_
      rcases h3 a ha with q | ⟨j, q, _⟩
      · obtain ⟨us, z⟩ := hn a z; rw [q] at z; cases z
      · cases q
    | cons => cases hk
  | old => exact h
  | mix => cases hk
theorem RsL.dens (h : RsL K Z ν Hs H k vs ds) : Dns K H vs ds := by
  cases k with
  | own s => obtain ⟨ms, h, _⟩ := h; exact h.den
  | old => exact Dns.same hid_same h
  | mix => exact h
/-- a new list of such items -/
theorem res_newL (hl : ∀ a, Hd Z ν a → Mu H a) (hs : Same Hs H) (hp : H p = none) (h : RsL K Z ν Hs H k vs ds) : Res K Z ν Hs (upd H p (.lst vs)) k (.ref p) (.list ds) := by
  have sm : Same H (upd H p (.lst vs)) := Same.new hp
  cases k with
  | own s =>
    obtain ⟨ms, h1, h2, h3⟩ := h
    refine ⟨p :: ms, .lst upd_same (h1.same sm), List.nodup_cons.mpr ⟨fun hm => ?_, h2⟩, fun a ha => ?_⟩
    · obtain ⟨us, q⟩ := h1.there p hm; rw [hp] at q; cases q
    · rcases List.mem_cons.mp ha with rfl | ha
      · exact .inl (hs.gone hp)
      · exact h3 a ha
  | old =>
    have hz : ¬ Hd Z ν p := fun z => by obtain ⟨us, q⟩ := hl p z; rw [hp] at q; cases q
    exact .lst (hid_of upd_same hz) (Dns.same (hid_mono sm) h)
  | mix => exact .lst upd_same (Dns.same sm h)
theorem res_newT (hl : ∀ a, Hd Z ν a → Mu H a) (hs : Same Hs H) (hp : H p = none) (h : RsL K Z ν Hs H k vs ds) : Res K Z ν Hs (upd H p (.tup vs)) k (.ref p) (.tuple ds) := by
  have sm : Same H (upd H p (.tup vs)) := Same.new hp
  cases k with
  | own s =>
    obtain ⟨ms, h1, h2, h3⟩ := h
    exact ⟨ms, .tup (SqT.of upd_same) (h1.same sm), h2, h3⟩
  | old =>
    have hz : ¬ Hd Z ν p := fun z => by obtain ⟨us, q⟩ := hl p z; rw [hp] at q; cases q
    exact .tup (SqT.of (hid_of upd_same hz)) (Dns.same (hid_mono sm) h)
  | mix => exact .tup (SqT.of upd_same) (Dns.same sm h)
theorem dns_of_lst {v : V} (h : Dn K H v (.list ds)) : ∃ a us, v = .ref a ∧ H a = some (.lst us) ∧ Dns K H us ds := by
  cases h with
  | lst h r => exact ⟨_, _, rfl, h, r⟩
theorem dns_of_tup {v : V} (h : Dn K H v (.tuple ds)) : ∃ a us, v = .ref a ∧ SqT K H a us ∧ Dns K H us ds := by
  cases h with
  | tup h r => exact ⟨_, _, rfl, h, r⟩
/-- the items of a list -/
theorem res_list (hl : ∀ a, Hd Z ν a → Mu H a) (hn : ∀ a, Hd Z ν a → Mu Hs a) (h : Res K Z ν Hs H k v (.list ds)) : ∃ a us, v = .ref a ∧ H a = some (.lst us) ∧ Dns K H us ds ∧ RsL K Z ν Hs H (kels ds k) us ds := by
  obtain ⟨a, us, rfl, h1, h2⟩ := dns_of_lst h.den
  refine ⟨a, us, rfl, h1, h2, ?_⟩
  unfold kels
  split
  · exact ⟨[], ows_flat h2 ‹_›, List.nodup_nil, fun _ z => by cases z⟩
  · split
    · have q := h.old hl hn ‹_›
      obtain ⟨a', us', e, q1, q2⟩ := dns_of_lst q
      cases e
      have := (of_hid q1).1
      rw [h1] at this; cases this
      exact q2
    · exact h2
theorem dns_hid {Z : Addr → Prop} (hl : ∀ a, Z a → Mu H a) (h : Dns K H us ds) (hf : flats ds = true) : Dns K (hid Z H) us ds :=
  dens_kept (fun a o e n => hid_of e fun z => (hl a z).no e n) h hf
theorem flats_app : flats ds = true → flats es = true → flats (ds ++ es) = true := by
  intro h1 h2
  induction ds with
  | nil => exact h2
  | cons x r ih =>
    simp only [flats, Bool.and_eq_true] at h1
    show (flat x && flats (r ++ es)) = true
    rw [h1.1, ih h1.2]; rfl
theorem rsl_old (hl : ∀ a, Hd Z ν a → Mu H a) (hk : k.isOld = true) (h : RsL K Z ν Hs H (kels ds k) us ds) : Dns K (hid (Hd Z ν) H) us ds := by
  have A := h.dens
  unfold kels at h
  split at h
  · exact dns_hid hl A ‹_›
  · exact h
theorem rsl_app (hl : ∀ a, Hd Z ν a → Mu H a) (h : RsL K Z ν Hs H (kels ds k) us ds) (g : RsL K Z ν Hs H (kels es l) vs es) : RsL K Z ν Hs H (kels2 ds k es l) (us ++ vs) (ds ++ es) := by
  have A := h.dens
  have B := g.dens
  unfold kels2
  split
  case isTrue e =>
    rw [Bool.and_eq_true] at e
    exact ⟨[], ows_flat (A.append B) (flats_app e.1 e.2), List.nodup_nil, fun _ z => by cases z⟩
  case isFalse e =>
    split
    case isFalse => exact A.append B
    case isTrue q =>
      rw [Bool.and_eq_true] at q
      exact (rsl_old hl q.1 h).append (rsl_old hl q.2 g)
/-- some of the items -/
theorem rsl_part (hl : ∀ a, Hd Z ν a → Mu H a) (h : RsL K Z ν Hs H (kels ds k) us ds) {us' : List V} {ds' : List D} (p : ∀ {G : Hp}, Dns K G us ds → Dns K G us' ds') (hf : flats ds = true → flats ds' = true) : RsL K Z ν Hs H (kels ds' k) us' ds' := by
  have A := p h.dens
  unfold kels
  split
  · exact ⟨[], ows_flat A ‹_›, List.nodup_nil, fun _ z => by cases z⟩
  · split
    · exact p (rsl_old hl ‹_› h)
    · exact A
end
/-! ### lists: +, index, slices -/
section
variable {X : Cx} {K : PySem.W.Frag} {E : XK} {pos : Pos}
def fCat : F2 := fun d k e l Q => match d, e with
  | .list ds, .list es => ds.length + es.length ≤ 1000000 ∧ Q (.list (ds ++ es)) (kels2 ds k es l)
  | _, _ => False
/-- what is hidden was there at the start: Prim2's own start -/
theorem million : (1000000 : Nat) ≤ sizeLine := by decide
theorem prim_cat : Prim2 K rCat fCat := fun Z ν Hs H x y d k e l Qf Q hl hn hs h3 h4 h5 h6 => by
  unfold fCat at h5
  split at h5
  · obtain ⟨a, us, rfl, a1, a2, a3⟩ := res_list hl hn h3
    obtain ⟨b, vs, rfl, b1, b2, b3⟩ := res_list hl hn h4
    refine ⟨a, b, us, vs, rfl, rfl, a1, b1, ?_, fun p hp => ?_⟩
    · rw [a2.length, b2.length]; exact Nat.le_trans h5.1 million
    · exact h6 _ _ _ _ h5.2 (Same.new hp) (res_newL hl hs hp (rsl_app hl a3 b3))
  · exact h5.elim
end
end DL

namespace DL
open PySem PySem.Spec PyProof.Rows L2
section
variable {X : Cx} {K : PySem.W.Frag} {E : XK} {pos : Pos}
def fStr : F2 := fun d _ e _ Q => match d, e with
  | .str x, .str y => x.length + y.length ≤ 1000000 ∧ Q (.str (x ++ y)) .old
  | _, _ => False
theorem dop_addS : DOp X K (binaryOp .Add) fStr := ⟨_, op_add_str, fun Z ν Hs H x y d k e l Qf Q _ _ _ h3 h4 h5 h6 => by
  unfold fStr at h5
  split at h5
  · have a := h3.den
    have b := h4.den
    cases a
    cases b
    exact ⟨_, _, rfl, rfl, Nat.le_trans h5.1 million, h6 _ _ _ _ h5.2 (Same.refl H) (.str _)⟩
  · exact h5.elim⟩
/-- + -/
def fAdd : F2 := fun d k e l Q => match d, e with
  | .int i, .int j => Q (.int (i + j)) .old
  | .list ds, .list es => ds.length + es.length ≤ 1000000 ∧ Q (.list (ds ++ es)) (kels2 ds k es l)
  | .str x, .str y => x.length + y.length ≤ 1000000 ∧ Q (.str (x ++ y)) .old
  | _, _ => False
theorem dop_add : DOp X K (binaryOp .Add) fAdd := DOp.mono (DOp.or ⟨_, op_add, prim_int0⟩ (DOp.or ⟨_, op_cat, prim_cat⟩ dop_addS)) fun d k e l Q h => by
  unfold fAdd at h
  split at h
  · exact .inl ⟨trivial, h⟩
  · exact .inr (.inl h)
  · exact .inr (.inr h)
  · exact h.elim
/-- x[i] -/
def fIx : F2 := fun d k e _ Q => match d, e with
  | .list ds, .int i => ∃ x, atI ds i = some x ∧ Q x k.sub
  | .tuple ds, .int i => ∃ x, atI ds i = some x ∧ Q x k.sub
  | .str z, .int i => z.length ≤ 1000000 ∧ ∃ c, atI z.cps.toList i = some c ∧ Q (.str ⟨#[c]⟩) .old
  | .dict [(.none, .list ds)], .int i => ∃ x, atI ds i = some x ∧ Q x .old
  | _, _ => False
theorem ows_get {H : Hp} : ∀ {us : List V} {ds : List D} {ns : List Addr} {j : Nat} {x : D}, Ows K H us ds ns → ds[j]? = some x → ∃ u ms, us[j]? = some u ∧ Ow K H u x ms ∧ (∀ a ∈ ms, a ∈ ns) ∧ (ns.Nodup → ms.Nodup)
  | _, _, _, 0, x, .cons h r, e => by simp at e; subst e; exact ⟨_, _, rfl, h, fun a ha => List.mem_append_left _ ha, fun n => (List.nodup_append.mp n).1⟩
  | _, _, _, j + 1, x, .cons h r, e => by
    simp at e
    obtain ⟨u, ms, h1, h2, h3, h4⟩ := ows_get r e
    exact ⟨u, ms, by simpa using h1, h2, fun a ha => List.mem_append_right _ (h3 a ha), fun n => h4 (List.nodup_append.mp n).2.1⟩
theorem atI_nth {α : Type} {xs : List α} {i : Int} {x : α} (h : atI xs i = some x) : ∃ j, ixN xs.length i = some j ∧ xs[j]? = some x := by
  unfold atI at h
  cases e : ixN xs.length i with
  | none => rw [e] at h; cases h
  | some j => rw [e] at h; exact ⟨j, rfl, h⟩
theorem atI_of {α : Type} {xs : List α} {i : Int} {j : Nat} {x : α} (h : ixN xs.length i = some j) (g : xs[j]? = some x) : atI xs i = some x := by
  unfold atI; rw [h]; exact g
theorem items_own {Z : Addr → Prop} {ν : Nat → List Addr} {Hs H : Hp} {us : List V} {ds : List D} {ms : List Addr} (h : Ows K H us ds ms) (nd : ms.Nodup) (fr : ∀ a ∈ ms, Hs a = none ∨ ∃ j ∈ ([] : List Nat), a ∈ ν j) : ∀ (j : Nat) x, ds[j]? = some x → ∃ u, us[j]? = some u ∧ Res K Z ν Hs H (.own []) u x := fun j x e => by
  obtain ⟨u, ns, r1, r2, r3, r4⟩ := ows_get h e
  exact ⟨u, r1, ns, r2, r4 nd, fun a ha => fr a (r3 a ha)⟩
theorem items_den {H : Hp} {us : List V} {ds : List D} (h : Dns K H us ds) : ∀ (j : Nat) x, ds[j]? = some x → ∃ u, us[j]? = some u ∧ Dn K H u x := fun j x e => h.get e
theorem res_itemsT {Z : Addr → Prop} {ν : Nat → List Addr} {Hs H : Hp} {k : Kd} {v : V} {ds : List D} (h : Res K Z ν Hs H k v (.tuple ds)) : ∃ a us, v = .ref a ∧ SqT K H a us ∧ us.length = ds.length ∧ Dns K H us ds ∧ ∀ (j : Nat) x, ds[j]? = some x → ∃ u, us[j]? = some u ∧ Res K Z ν Hs H k.sub u x := by
  unfold Kd.sub
  split
  · obtain ⟨ms, h1, h2, h3⟩ := h
    cases h1 with
    | tup q1 q2 => exact ⟨_, _, rfl, q1, q2.den.length, q2.den, items_own q2 h2 h3⟩
  · obtain ⟨a, us, rfl, q1, q2⟩ := dns_of_tup (show Dn K _ _ _ from h)
    exact ⟨a, us, rfl, Same.tup hid_same q1, q2.length, Dns.same hid_same q2, items_den q2⟩
  · obtain ⟨a, us, rfl, q1, q2⟩ := dns_of_tup h.den
    exact ⟨a, us, rfl, q1, q2.length, q2, items_den q2⟩
theorem res_itemsL {Z : Addr → Prop} {ν : Nat → List Addr} {Hs H : Hp} {k : Kd} {v : V} {ds : List D} (h : Res K Z ν Hs H k v (.list ds)) : ∃ a us, v = .ref a ∧ H a = some (.lst us) ∧ us.length = ds.length ∧ Dns K H us ds ∧ ∀ (j : Nat) x, ds[j]? = some x → ∃ u, us[j]? = some u ∧ Res K Z ν Hs H k.sub u x := by
  unfold Kd.sub
  split
  · obtain ⟨ms, h1, h2, h3⟩ := h
    cases h1 with
    | lst q1 q2 => exact ⟨_, _, rfl, q1, q2.den.length, q2.den, items_own q2 (List.nodup_cons.mp h2).2 fun a ha => h3 a (List.mem_cons_of_mem _ ha)⟩
  · obtain ⟨a, us, rfl, q1, q2⟩ := dns_of_lst (show Dn K _ _ _ from h)
    exact ⟨a, us, rfl, (of_hid q1).1, q2.length, Dns.same hid_same q2, items_den q2⟩
  · obtain ⟨a, us, rfl, q1, q2⟩ := dns_of_lst h.den
    exact ⟨a, us, rfl, q1, q2.length, q2, items_den q2⟩
theorem dix (hK : X.K = K) : DIx X K fIx := by
  subst hK
  refine ⟨_, ix_seq, fun Z ν Hs H x y d k e l Qf Q hl hn hs h3 h4 h5 h6 => ?_⟩
  unfold fIx at h5
  split at h5
  · obtain ⟨z, e1, q⟩ := h5
    obtain ⟨j, e2, e3⟩ := atI_nth e1
    obtain ⟨a, us, rfl, g1, g2, _, g3⟩ := res_itemsL h3
    obtain ⟨u, g4, g5⟩ := g3 j z e3
    have := h4.den
    cases this
    exact .inl ⟨a, us, _, u, rfl, rfl, SqL.of g1, atI_of (by rw [g2]; exact e2) g4, h6 _ _ _ _ q (Same.refl H) g5⟩
  · obtain ⟨z, e1, q⟩ := h5
    obtain ⟨j, e2, e3⟩ := atI_nth e1
    obtain ⟨a, us, rfl, g1, g2, _, g3⟩ := res_itemsT h3
    obtain ⟨u, g4, g5⟩ := g3 j z e3
    have := h4.den
    cases this
    exact .inr (.inl ⟨a, us, _, u, rfl, rfl, g1, atI_of (by rw [g2]; exact e2) g4, h6 _ _ _ _ q (Same.refl H) g5⟩)
  · have a := h3.den
    have b := h4.den
    cases a
    cases b
    obtain ⟨h0, c, e1, q⟩ := h5
    exact .inr (.inr ⟨_, _, c, rfl, rfl, Nat.le_trans h0 million, e1, h6 _ _ _ _ q (Same.refl H) (.str _)⟩)
  · obtain ⟨z, e1, q⟩ := h5
    obtain ⟨j, e2, e3⟩ := atI_nth e1
    have b := h4.den
    cases b
    have a := h3.den
    cases a with
    | scr ns h =>
      rw [List.getElem?_map] at e3
      cases en : ns[j]? with
      | none => rw [en] at e3; cases e3
      | some n =>
        rw [en] at e3; cases e3
        exact .inl ⟨_, _, _, V.int n, rfl, rfl, h, atI_of (by rw [List.length_map]; rw [List.length_map] at e2; exact e2) (by rw [List.getElem?_map, en]; rfl), h6 _ _ _ _ q (Same.refl H) (.int _)⟩
  · exact h5.elim
/-! ### slices of lists -/
def cutD (xs : List D) (lo hi : Option Int) : List D := (xs.drop (HT.sIx xs.length 0 lo)).take (HT.sIx xs.length xs.length hi - HT.sIx xs.length 0 lo)
theorem Dns.take {H : Hp} : ∀ {us : List V} {ds : List D} (n : Nat), Dns K H us ds → Dns K H (us.take n) (ds.take n)
  | _, _, 0, _ => by rw [List.take_zero, List.take_zero]; exact .nil
  | _, _, n + 1, .nil => .nil
  | _, _, n + 1, .cons h r => .cons h (Dns.take n r)
theorem Dns.drop {H : Hp} : ∀ {us : List V} {ds : List D} (n : Nat), Dns K H us ds → Dns K H (us.drop n) (ds.drop n)
  | _, _, 0, h => h
  | _, _, n + 1, .nil => .nil
  | _, _, n + 1, .cons h r => Dns.drop n r
theorem flats_iff : ∀ {ds : List D}, flats ds = true ↔ ∀ d ∈ ds, flat d = true
  | [] => by simp [flats]
  | d :: r => by simp [flats, flats_iff (ds := r)]
def TDO := Ren → (Option Int → Prop) → XD → Prop
def LO (K : PySem.W.Frag) (E : XK) (t : TDO) : TO := fun σ H Q => ∃ H0 ν ρ Qd Xd, StOk K Z0 H0 ν ρ σ H ∧ t ρ Qd Xd ∧ (∀ b H', Qd b → Same H H' → Q b H') ∧ ∀ C H', Xd C → Same H0 H' → E (.ref C) none H'
structure DO (X : Cx) (K : PySem.W.Frag) (E : XK) (e : Option Expr) (t : TDO) : Prop where
  q : QO X e (LO K E t)
def dNoPart : TDO := fun _ Q _ => Q none
def dPart (t : TD) : TDO := fun ρ Q Xd => t ρ (fun d _ => match d with | .int i => Q (some i) | _ => False) Xd
theorem dpo_none : DO X K E none dNoPart := ⟨⟨fun pins s σ H Q I h => qpo_none.h pins s σ H Q I (by
  obtain ⟨H0, ν, ρ, Qd, Xd, S, h1, q, _⟩ := h
  exact q _ _ h1 (Same.refl H))⟩⟩
theorem dpo_some {e : Expr} {t : TD} (he : DE X K E e t) : DO X K E (some e) (dPart t) := ⟨⟨fun pins s σ H Q I h => (qpo_some he.q).h pins s σ H Q I (by
  obtain ⟨H0, ν, ρ, Qd, Xd, S, h1, q, x⟩ := h
  refine ⟨H0, ν, ρ, _, Xd, S, h1, fun d k v H' g1 g2 g3 => ?_, x⟩
  have := g3.den
  cases d with
  | int i => cases this; exact ⟨i, rfl, q _ _ g1 g2⟩
  | _ => exact g1.elim)⟩⟩
abbrev F3 := D → Kd → Option Int → Option Int → QD → Prop
def fSl : F3 := fun d k lo hi Q => match d with
  | .list ds => Q (.list (cutD ds lo hi)) (kels (cutD ds lo hi) k)
  | _ => False
def dSl (f : F3) (te : TD) (tl th : TDO) : TD := fun ρ Q Xd => te ρ (fun d k => tl ρ (fun l => th ρ (fun h => f d k l h Q) Xd) Xd) Xd
theorem dpe_slice {e : Expr} {lo hi : Option Expr} {te : TD} {tl th : TDO} {p2 : Pos} (hK : X.K = K) (he : DE X K E e te) (hl : DO X K E lo tl) (hu : DO X K E hi th) : DE X K E (.Subscript e (.Slice lo hi none p2) pos) (dSl fSl te tl th) := ⟨by
  subst hK
  refine qe_imp (qpe_slice sl_list he.q hl.q hu.q) fun σ H Q h => ?_
  obtain ⟨H0, ν, ρ, Qd, Xd, S, h1, q, x⟩ := h
  refine ⟨H0, ν, ρ, _, Xd, S, h1, fun d k v H1 g1 e1 r1 => ?_, x⟩
  refine ⟨H0, ν, ρ, _, Xd, S.same e1, g1, fun l H2 g2 e2 => ?_, x⟩
  refine ⟨H0, ν, ρ, _, Xd, S.same (e1.trans e2), g2, fun u H3 g3 e3 => ?_, x⟩
  have e03 := (e1.trans e2).trans e3
  have r3 := (r1.same e2).same e3
  have hl3 := (S.same e03).hl
  cases d with
  | list ds =>
    obtain ⟨a, us, rfl, a1, a2, a3⟩ := res_list hl3 S.hl r3
    refine ⟨a, us, rfl, SqL.of a1, fun p hp => q _ _ _ _ g3 (e03.trans (Same.new hp)) (res_newL hl3 e03 hp ?_)⟩
    refine rsl_part hl3 a3 (fun {G} hd => ?_) fun hf => flats_iff.mpr fun d hd => flats_iff.mp hf d (List.mem_of_mem_drop (List.mem_of_mem_take hd))
    unfold cutV cutD
    rw [hd.length]
    exact (hd.drop _).take _
  | _ => exact g3.elim⟩
/-! ### displays -/
def disj (s t : List Nat) : Bool := s.all fun i => !t.contains i
def kcons (d : D) (k : Kd) (l : Kd) : Kd := match (if flat d = true then Kd.own [] else k), l with
  | .own s, .own t => if disj s t = true then .own (s ++ t) else .mix
  | .own [], .old => .old
  | .old, .own [] => .old
  | .old, .old => .old
  | _, _ => .mix
def dNil : TDA := fun _ Q _ => Q [] (.own [])
def dCons (ta : TD) (tr : TDA) : TDA := fun ρ Q Xd => ta ρ (fun d k => tr ρ (fun ds l => Q (d :: ds) (kcons d k l)) Xd) Xd
theorem RsL.old0 {Z : Addr → Prop} {ν : Nat → List Addr} {Hs H : Hp} {k : Kd} {us : List V} {ds : List D} (hl : ∀ a, Hd Z ν a → Mu H a) (hn : ∀ a, Hd Z ν a → Mu Hs a) (h : RsL K Z ν Hs H k us ds) (hk : k.isOld = true) : Dns K (hid (Hd Z ν) H) us ds := by
  cases k with
  | own s =>
    cases s with
    | nil =>
      obtain ⟨ms, h1, _, h3⟩ := h
      refine ows_hid hl h1 fun a ha z => ?_
      rcases h3 a ha with q | ⟨j, q, _⟩
      · obtain ⟨us, z⟩ := hn a z; rw [q] at z; cases z
      · cases q
    | cons => cases hk
  | old => exact h
  | mix => cases hk
theorem rsl_cons {Z : Addr → Prop} {ν : Nat → List Addr} {Hs H1 H2 : Hp} {k l : Kd} {v : V} {d : D} {us : List V} {ds : List D} (hn : ∀ a, Hd Z ν a → Mu Hs a) (dj : ∀ i j a, a ∈ ν i → a ∈ ν j → i = j) (e1 : Same Hs H1) (e2 : Same H1 H2) (h : Res K Z ν Hs H1 k v d) (g : RsL K Z ν H1 H2 l us ds) :
    RsL K Z ν Hs H2 (kcons d k l) (v :: us) (d :: ds) := by
  have hl1 : ∀ a, Hd Z ν a → Mu H1 a := fun a z => by obtain ⟨us, q⟩ := hn a z; exact ⟨us, e1 _ _ q⟩
  have hl2 : ∀ a, Hd Z ν a → Mu H2 a := fun a z => by obtain ⟨us, q⟩ := hl1 a z; exact ⟨us, e2 _ _ q⟩
  have h' : Res K Z ν Hs H1 (if flat d = true then Kd.own [] else k) v d := by
    split
    · exact Res.flat h.den ‹_› hl1 _
    · exact h
  have all : Dns K H2 (v :: us) (d :: ds) := .cons (Dn.same e2 h.den) g.dens
  have old : ∀ {k' : Kd}, Res K Z ν Hs H1 k' v d → k'.isOld = true → l.isOld = true → Dns K (hid (Hd Z ν) H2) (v :: us) (d :: ds) := fun {k'} r1 q1 q2 => .cons ((r1.same e2).old hl2 hn q1) (g.old0 hl2 hl1 q2)
  unfold kcons
  generalize (if flat d = true then Kd.own [] else k) = k' at h'
  split
  · split
    case isTrue q =>
      obtain ⟨ms, a1, a2, a3⟩ := h'
      obtain ⟨ns, b1, b2, b3⟩ := g
      rename_i s t
      refine ⟨ms ++ ns, .cons (a1.same e2) b1, List.nodup_append.mpr ⟨a2, b2, fun x hx y hy e => ?_⟩, fun a ha => ?_⟩
      · subst e
        obtain ⟨us', z1⟩ := a1.there x hx
        rcases b3 x hy with z | ⟨j, hj, z⟩
        · rw [z1] at z; cases z
        · rcases a3 x hx with z' | ⟨i, hi, z'⟩
          · obtain ⟨us'', z''⟩ := hn x (.inr ⟨j, z⟩)
            rw [z'] at z''; cases z''
          · have := dj i j x z' z
            subst this
            unfold disj at q
            have := List.all_eq_true.mp q i hi
            simp at this
            exact this hj
      · rcases List.mem_append.mp ha with ha | ha
        · rcases a3 a ha with z | ⟨j, hj, z⟩
          · exact .inl z
          · exact .inr ⟨j, List.mem_append_left _ hj, z⟩
        · rcases b3 a ha with z | ⟨j, hj, z⟩
          · exact .inl (e1.gone z)
          · exact .inr ⟨j, List.mem_append_right _ hj, z⟩
    case isFalse => exact all
  · exact old h' rfl rfl
  · exact old h' rfl rfl
  · exact old h' rfl rfl
  · exact all
theorem dpa_nil : DA X K E [] dNil := ⟨qa_imp qpa_nil fun σ H Q h => by
  obtain ⟨H0, ν, ρ, Qd, Xd, S, h1, q, x⟩ := h
  exact q _ _ _ _ h1 (Same.refl H) ⟨[], .nil, List.nodup_nil, fun _ z => by cases z⟩⟩
theorem dpa_cons {e : Expr} {es : List Expr} {te : TD} {t : TDA} (ha : DE X K E e te) (hr : DA X K E es t) (hs : starEach (e :: es) X.env = (false, eval e X.env) :: starEach es X.env := by rfl) : DA X K E (e :: es) (dCons te t) := ⟨qa_imp (qpa_cons ha.q hr.q hs) fun σ H Q h => by
  obtain ⟨H0, ν, ρ, Qd, Xd, S, h1, q, x⟩ := h
  refine ⟨H0, ν, ρ, _, Xd, S, h1, fun d k v H1 g1 e1 r1 => ?_, x⟩
  refine ⟨H0, ν, ρ, _, Xd, S.same e1, g1, fun ds l us H2 g2 e2 r2 => ?_, x⟩
  exact q _ _ _ _ g2 (e1.trans e2) (rsl_cons S.hl S.dj e1 e2 r1 r2)⟩
def dTup (t : TDA) : TD := fun ρ Q Xd => t ρ (fun ds k => ds.length ≤ 1000 ∧ Q (.tuple ds) k) Xd
def dLst (t : TDA) : TD := fun ρ Q Xd => t ρ (fun ds k => ds.length ≤ 1000 ∧ Q (.list ds) k) Xd
theorem dpe_tup {es : List Expr} {t : TDA} {x1} (h : DA X K E es t) : DE X K E (.Tuple es x1 pos) (dTup t) := ⟨qe_imp (qpe_tup h.q) fun σ H Q h => by
  obtain ⟨H0, ν, ρ, Qd, Xd, S, h1, q, x⟩ := h
  refine ⟨H0, ν, ρ, _, Xd, S, h1, fun ds k us H1 g1 e1 r1 => ?_, x⟩
  refine ⟨by rw [r1.dens.length]; exact Nat.le_trans g1.1 (by decide), fun p hp => q _ _ _ _ g1.2 (e1.trans (Same.new hp)) (res_newT (S.same e1).hl e1 hp r1)⟩⟩
theorem dpe_lst {es : List Expr} {t : TDA} (h : DA X K E es t) : DE X K E (.List es pos) (dLst t) := ⟨qe_imp (qpe_lst h.q) fun σ H Q h => by
  obtain ⟨H0, ν, ρ, Qd, Xd, S, h1, q, x⟩ := h
  refine ⟨H0, ν, ρ, _, Xd, S, h1, fun ds k us H1 g1 e1 r1 => ?_, x⟩
  refine ⟨by rw [r1.dens.length]; exact Nat.le_trans g1.1 (by decide), fun p hp => q _ _ _ _ g1.2 (e1.trans (Same.new hp)) (res_newL (S.same e1).hl e1 hp r1)⟩⟩
end
end DL

namespace DL
open PySem PySem.Spec PyProof.Rows L2
section
variable {X : Cx} {K : PySem.W.Frag} {E : XK} {pos : Pos} {a b c e : Expr} {rest : List Expr} {ta tb tc : TD} {tA tB : TDT}
theorem dn_bool {H : Hp} {v : V} {x : Bool} (h : Dn K H v (.bool x)) : v = .bl x := by cases h; rfl
theorem dn_int {H : Hp} {v : V} {x : Int} (h : Dn K H v (.int x)) : v = .int x := by cases h; rfl
/-! ### not, -, and, or of values -/
def dNeg (ta : TD) : TD := fun ρ Q Xd => ta ρ (fun d _ => match d with | .int i => Q (.int (-i)) .old | _ => False) Xd
theorem dpe_neg (ha : DE X K E a ta) : DE X K E (.UnaryOp .USub a pos) (dNeg ta) := ⟨qe_imp (qpe_un un_neg ha.q) fun σ H Q h => by
  obtain ⟨H0, ν, ρ, Qd, Xd, S, h1, q, x⟩ := h
  refine ⟨H0, ν, ρ, _, Xd, S, h1, fun d k v H' g1 g2 g3 => ?_, x⟩
  cases d with
  | int i => exact ⟨i, dn_int g3.den, q _ _ _ _ g1 g2 (.int _)⟩
  | _ => exact g1.elim⟩
def dNotV (ta : TD) : TD := fun ρ Q Xd => ta ρ (fun d _ => match d with | .bool i => Q (.bool (!i)) .old | _ => False) Xd
theorem dpe_not (ha : DE X K E a ta) : DE X K E (.UnaryOp .Not a pos) (dNotV ta) := ⟨qe_imp (qpe_not ha.q) fun σ H Q h => by
  obtain ⟨H0, ν, ρ, Qd, Xd, S, h1, q, x⟩ := h
  refine ⟨H0, ν, ρ, _, Xd, S, h1, fun d k v H' g1 g2 g3 => ?_, x⟩
  cases d with
  | bool i => exact ⟨i, dn_bool g3.den, q _ _ _ _ g1 g2 (.bl _)⟩
  | _ => exact g1.elim⟩
def dAndV (ta tb : TD) : TD := fun ρ Q Xd => ta ρ (fun d _ => match d with | .bool i => if i = true then tb ρ Q Xd else Q (.bool false) .old | _ => False) Xd
def dOrV (ta tb : TD) : TD := fun ρ Q Xd => ta ρ (fun d _ => match d with | .bool i => if i = true then Q (.bool true) .old else tb ρ Q Xd | _ => False) Xd
theorem dpe_one {op} (h : DE X K E a ta) : DE X K E (.BoolOp op [a] pos) ta := ⟨qpe_one h.q⟩
theorem dpe_and (ha : DE X K E a ta) (hb : DE X K E (.BoolOp .And (b :: rest) pos) tb) : DE X K E (.BoolOp .And (a :: b :: rest) pos) (dAndV ta tb) := ⟨qe_imp (qpe_and ha.q hb.q) fun σ H Q h => by
  obtain ⟨H0, ν, ρ, Qd, Xd, S, h1, q, x⟩ := h
  refine ⟨H0, ν, ρ, _, Xd, S, h1, fun d k v H' g1 g2 g3 => ?_, x⟩
  cases d with
  | bool i =>
    refine ⟨i, dn_bool g3.den, ?_⟩
    cases i with
    | true => exact ⟨H0, ν, ρ, Qd, Xd, S.same g2, g1, fun d k v H'' a1 a2 a3 => q d k v H'' a1 (g2.trans a2) (a3.later g2), x⟩
    | false => exact q _ _ _ _ g1 g2 (.bl _)
  | _ => exact g1.elim⟩
/-! ### tests -/
def dB (ta : TD) : TDT := fun ρ Q Xd => ta ρ (fun d _ => match d with | .bool i => Q i | _ => False) Xd
theorem le_b : ∀ {σ : L2.St} {H : Hp} {Q : Bool → Hp → Prop}, LT K E (dB ta) σ H Q → L2.tB (LE K E ta) σ H Q := fun {σ H Q} h => by
  obtain ⟨H0, ν, ρ, Qd, Xd, S, h1, q, x⟩ := h
  refine ⟨H0, ν, ρ, _, Xd, S, h1, fun d k v H' g1 g2 g3 => ?_, x⟩
  cases d with
  | bool i => exact ⟨i, dn_bool g3.den, q _ _ g1 g2⟩
  | _ => exact g1.elim
theorem dpt_val (h : DE X K E e ta) (he : ∀ whole, isTrue e X.env whole = (do let v ← whole; standAt e.pos; holding [v] (truthy v)) := by intro _; rfl) : DT X K E e (dB ta) := ⟨qt_imp (qpt_val h.q he) fun σ H Q h => le_b h⟩
/-- truth of ints, texts, lists, tuples, None -/
def truD : D → Option Bool
  | .none => some false
  | .bool b => some b
  | .int i => some (!decide (i = 0))
  | .str _ => Option.none
  | .list ds => some (!ds.isEmpty)
  | .tuple ds => some (!ds.isEmpty)
  | .dict _ => Option.none
def dTru (ta : TD) : TDT := fun ρ Q Xd => ta ρ (fun d _ => ∃ b, truD d = some b ∧ Q b) Xd
def cmpT (f : F2) (ta tb : TD) : TDT := dB (dOp f ta tb)
theorem dpt_cmp {op : CmpOp} {f : F2} (ho : DOp X K (compareOp op) f) (ha : DE X K E a ta) (hb : DE X K E b tb) (hm : behindInMarks op b = false) : DT X K E (.Compare a [op] [b] pos) (dB (dOp f ta tb)) := by
  obtain ⟨r, o, p⟩ := ho.ex
  refine ⟨qt_imp (qpt_cmpR o ha.q hb.q hm) fun σ H Q h => ?_⟩
  obtain ⟨H0, ν, ρ, Qd, Xd, S, h1, q, x⟩ := h
  refine le_two p σ H _ ⟨H0, ν, ρ, _, Xd, S, h1, fun d k v H' g1 g2 g3 => ?_, x⟩
  cases d with
  | bool i => exact ⟨i, dn_bool g3.den, q _ _ g1 g2⟩
  | _ => exact g1.elim
def dAnd (tA tB : TDT) : TDT := fun ρ Q Xd => tA ρ (fun b => if b = true then tB ρ Q Xd else Q false) Xd
def dOr (tA tB : TDT) : TDT := fun ρ Q Xd => tA ρ (fun b => if b = true then Q true else tB ρ Q Xd) Xd
def dNot (tA : TDT) : TDT := fun ρ Q Xd => tA ρ (fun b => Q (!b)) Xd
theorem dPWpt (h : DW X K E e tA) : DT X K E e tA := ⟨qPWpt h.q⟩
theorem dpw_and1 (ha : DT X K E a tA) : DW X K E (.BoolOp .And [a] pos) tA := ⟨qpw_and1 ha.q⟩
theorem dpw_or1 (ha : DT X K E a tA) : DW X K E (.BoolOp .Or [a] pos) tA := ⟨qpw_or1 ha.q⟩
theorem lt_and : ∀ σ H Q, LT K E (dAnd tA tB) σ H Q → tAnd (LT K E tA) (LT K E tB) σ H Q := fun σ H Q h => by
  obtain ⟨H0, ν, ρ, Qd, Xd, S, h1, q, x⟩ := h
  refine ⟨H0, ν, ρ, _, Xd, S, h1, fun b H' g1 g2 => ?_, x⟩
  cases b with
  | true => exact ⟨H0, ν, ρ, Qd, Xd, S.same g2, g1, fun b H'' a1 a2 => q b H'' a1 (g2.trans a2), x⟩
  | false => exact q _ _ g1 g2
theorem lt_or : ∀ σ H Q, LT K E (dOr tA tB) σ H Q → tOr (LT K E tA) (LT K E tB) σ H Q := fun σ H Q h => by
  obtain ⟨H0, ν, ρ, Qd, Xd, S, h1, q, x⟩ := h
  refine ⟨H0, ν, ρ, _, Xd, S, h1, fun b H' g1 g2 => ?_, x⟩
  cases b with
  | false => exact ⟨H0, ν, ρ, Qd, Xd, S.same g2, g1, fun b H'' a1 a2 => q b H'' a1 (g2.trans a2), x⟩
  | true => exact q _ _ g1 g2
theorem dpw_and (ha : DT X K E a tA) (hb : DW X K E (.BoolOp .And (b :: rest) pos) tB) : DW X K E (.BoolOp .And (a :: b :: rest) pos) (dAnd tA tB) := ⟨qw_imp (qpw_and ha.q hb.q) lt_and⟩
theorem dpw_or (ha : DT X K E a tA) (hb : DW X K E (.BoolOp .Or (b :: rest) pos) tB) : DW X K E (.BoolOp .Or (a :: b :: rest) pos) (dOr tA tB) := ⟨qw_imp (qpw_or ha.q hb.q) lt_or⟩
theorem dpt_not (ha : DT X K E a tA) : DT X K E (.UnaryOp .Not a pos) (dNot tA) := ⟨qt_imp (qpt_not ha.q) fun σ H Q h => by
  obtain ⟨H0, ν, ρ, Qd, Xd, S, h1, q, x⟩ := h
  exact ⟨H0, ν, ρ, _, Xd, S, h1, fun b H' g1 g2 => q _ _ g1 g2, x⟩⟩
/-! ### .. if .. else .. -/
def dIf (tA : TDT) (ta tb : TD) : TD := fun ρ Q Xd => tA ρ (fun b => if b = true then ta ρ Q Xd else tb ρ Q Xd) Xd
theorem dpe_ifExp (hc : DT X K E c tA) (ha : DE X K E a ta) (hb : DE X K E b tb) : DE X K E (.IfExp c a b pos) (dIf tA ta tb) := ⟨qe_imp (qpe_ifExp hc.q ha.q hb.q) fun σ H Q h => by
  obtain ⟨H0, ν, ρ, Qd, Xd, S, h1, q, x⟩ := h
  refine ⟨H0, ν, ρ, _, Xd, S, h1, fun b H' g1 g2 => ?_, x⟩
  cases b with
  | true => exact ⟨H0, ν, ρ, Qd, Xd, S.same g2, g1, fun d k v H'' a1 a2 a3 => q d k v H'' a1 (g2.trans a2) (a3.later g2), x⟩
  | false => exact ⟨H0, ν, ρ, Qd, Xd, S.same g2, g1, fun d k v H'' a1 a2 a3 => q d k v H'' a1 (g2.trans a2) (a3.later g2), x⟩⟩
/-! ### a < b < c of ints -/
def dChain (f g : Int → Int → Bool) (ta tb tc : TD) : TD := fun ρ Q Xd => ta ρ (fun x _ => tb ρ (fun y _ => match x, y with
  | .int i, .int j => if f i j = true then tc ρ (fun z _ => match z with | .int l => Q (.bool (g j l)) .old | _ => False) Xd else Q (.bool false) .old
  | _, _ => False) Xd) Xd
/-! ### calls -/
abbrev SpD := List D → (D → Bool → Prop) → XD → Prop
/-- what comes back: ours (new), or something that lies there -/
def RR (K : PySem.W.Frag) (H H' : Hp) : Bool → V → D → Prop
  | true, v, d => ∃ ms, Ow K H' v d ms ∧ ms.Nodup ∧ ∀ a ∈ ms, H a = none
  | false, v, d => Dn K H' v d
def SpL (K : PySem.W.Frag) (sp : SpD) : Sp := fun vs H Q E => ∃ ds Qd Xd, Dns K H vs ds ∧ sp ds Qd Xd ∧ (∀ d o v H', Qd d o → Same H H' → RR K H H' o v d → Q v H') ∧ ∀ C H', Xd C → Same H H' → E (.ref C) none H'
def kRet (o : Bool) : Kd := if o = true then .own [] else .mix
def dCall (sp : SpD) (t : TDA) : TD := fun ρ Q Xd => t ρ (fun ds _ => sp ds (fun d o => Q d (kRet o)) Xd) Xd
theorem rr_res {Z : Addr → Prop} {ν : Nat → List Addr} {Hs H H' : Hp} {o : Bool} {v : V} {d : D} (e : Same Hs H) (h : RR K H H' o v d) : Res K Z ν Hs H' (kRet o) v d := by
  cases o with
  | true => obtain ⟨ms, h1, h2, h3⟩ := h; exact ⟨ms, h1, h2, fun a ha => .inl (e.gone (h3 a ha))⟩
  | false => exact h
/-- a def that never refuses -/
def dCall0 (sp : SpD) (t : TDA) : TD := fun ρ Q Xd => t ρ (fun ds _ => sp ds (fun d o => Q d (kRet o)) (fun _ => False)) Xd
theorem le_call0 {sp : SpD} {t : TDA} : ∀ σ H Q, LE K E (dCall0 sp t) σ H Q → LA K E t σ H fun vs H1 => SpL K sp vs H1 Q E0 := fun σ H Q h => by
  obtain ⟨H0, ν, ρ, Qd, Xd, S, h1, q, x⟩ := h
  refine ⟨H0, ν, ρ, _, Xd, S, h1, fun ds k vs H1 g1 e1 r1 => ?_, x⟩
  exact ⟨ds, _, _, r1.dens, g1, fun d o v H' a1 a2 a3 => q _ _ _ _ a1 (e1.trans a2) (rr_res e1 a3), fun C H' z _ => z.elim⟩
theorem dpe_df {x : Str} {ps : List Str} {k : Nat} {sp : SpD} {p : Pos} {es : List Expr} {t : TDA} (D : Df X.prog X.w X.K X.mg X.base x ps k (SpL K sp)) (hr : Room k X.A) (ha : DA X K E (e :: es) t) (hg : Gl X x := by rfl) (hdb : (x == ("__debug__" : Str)) = false := by decide)
    (he : starEach (e :: es) X.env = (false, eval e X.env) :: starEach es X.env := by rfl) (hpl : (backTo pos (starEach es X.env)).any (·.1) = false := by rfl) : DE X K E (.Call (.Name x p) (e :: es) [] pos) (dCall0 sp t) :=
  ⟨qe_imp (qpe_df D hr ha.q hg hdb he hpl) fun σ H Q h => by
    show LA K E t σ H fun vs H1 => SpL K sp (vs ++ []) H1 Q E0
    simp only [List.append_nil]
    exact le_call0 σ H Q h⟩
/-! ### builtins -/
abbrev FA := List D → Kd → QD → Prop
def PrimA (K : PySem.W.Frag) (r : List V → Hp → VK → Prop) (f : FA) : Prop := ∀ (Z : Addr → Prop) (ν : Nat → List Addr) (Hs H : Hp) (xs : List V) (ds : List D) (k : Kd) (Qf : QD) (Q : VK), (∀ a, Hd Z ν a → Mu H a) → (∀ a, Hd Z ν a → Mu Hs a) → Same Hs H → RsL K Z ν Hs H k xs ds →
  f ds k Qf → (∀ d k v H', Qf d k → Same H H' → Res K Z ν Hs H' k v d → Q v H') → r xs H Q
structure DCl (X : Cx) (K : PySem.W.Frag) (f : Value) (g : FA) : Prop where
  ex : ∃ r, CallR X f r ∧ PrimA K r g
def dCB (g : FA) (t : TDA) : TD := fun ρ Q Xd => t ρ (fun ds k => g ds k Q) Xd
theorem le_cb {r : List V → Hp → VK → Prop} {g : FA} {t : TDA} (p : PrimA K r g) : ∀ σ H Q, LE K E (dCB g t) σ H Q → tCB r (LA K E t) σ H Q := fun σ H Q h => by
  obtain ⟨H0, ν, ρ, Qd, Xd, S, h1, q, x⟩ := h
  refine ⟨H0, ν, ρ, _, Xd, S, h1, fun ds k vs H1 g1 e1 r1 => ?_, x⟩
  exact p Z0 ν H H1 vs ds k _ _ (S.same e1).hl S.hl e1 r1 g1 fun d k v H' a1 a2 a3 => q d k v H' a1 (e1.trans a2) a3
theorem dpe_callB {id : String} {g : FA} {x : Str} {p : Pos} {es : List Expr} {t : TDA} (hc : DCl X K (.builtin id) g) (hg : Gl X x) (hm : X.mg x = none) (hv : bootBuiltins x = some (.builtin id)) (ha : DA X K E (e :: es) t) (hn : x ≠ "__name__" := by decide) (hdb : (x == ("__debug__" : Str)) = false := by decide)
    (he : starEach (e :: es) X.env = (false, eval e X.env) :: starEach es X.env := by rfl) (hpl : (backTo pos (starEach es X.env)).any (·.1) = false := by rfl) : DE X K E (.Call (.Name x p) (e :: es) [] pos) (dCB g t) := by
  obtain ⟨r, c, pr⟩ := hc.ex
  exact ⟨qe_imp (qpe_callB c hg hm hv ha.q hn hdb he hpl) (le_cb pr)⟩
theorem dpe_callTy {T : String} {g : FA} {x : Str} {p : Pos} {es : List Expr} {t : TDA} (hc : DCl X K (.type T) g) (hg : Gl X x) (hm : X.mg x = none) (hv : bootBuiltins x = some (.type T)) (ha : DA X K E (e :: es) t) (hn : x ≠ "__name__" := by decide) (hdb : (x == ("__debug__" : Str)) = false := by decide)
    (he : starEach (e :: es) X.env = (false, eval e X.env) :: starEach es X.env := by rfl) (hpl : (backTo pos (starEach es X.env)).any (·.1) = false := by rfl) : DE X K E (.Call (.Name x p) (e :: es) [] pos) (dCB g t) := by
  obtain ⟨r, c, pr⟩ := hc.ex
  exact ⟨qe_imp (qpe_callTy c hg hm hv ha.q hn hdb he hpl) (le_cb pr)⟩
theorem dns1 {H : Hp} {xs : List V} {d : D} (h : Dns K H xs [d]) : ∃ v, xs = [v] ∧ Dn K H v d := by
  cases h with
  | cons h r => cases r; exact ⟨_, rfl, h⟩
theorem dns2 {H : Hp} {xs : List V} {d e : D} (h : Dns K H xs [d, e]) : ∃ v w', xs = [v, w'] ∧ Dn K H v d ∧ Dn K H w' e := by
  cases h with
  | cons h r => obtain ⟨v, rfl, g⟩ := dns1 r; exact ⟨_, _, rfl, h, g⟩
def fLen : FA := fun ds _ Q => match ds with
  | [.list xs] => Q (.int xs.length) .old
  | [.tuple xs] => Q (.int xs.length) .old
  | [.dict [(.none, .list xs)]] => Q (.int xs.length) .old
  | _ => False
theorem dns_of_scr {H : Hp} {v : V} {ds : List D} (h : Dn K H v (.dict [(.none, .list ds)])) : ∃ (a : Addr) (ns : List Int), v = .ref a ∧ SqL K H a (ns.map V.int) ∧ ds = ns.map PyData.int := by
  cases h with
  | scr ns h => exact ⟨_, _, rfl, h, rfl⟩
theorem dcl_len (hK : X.K = K) : DCl X K (.builtin "len") fLen := ⟨_, call_lenK K hK, fun Z ν Hs H xs ds k Qf Q _ _ _ h g q => by
  unfold fLen at g
  split at g
  · obtain ⟨v, rfl, h1⟩ := dns1 h.dens
    obtain ⟨a, us, rfl, g1, g2⟩ := dns_of_lst h1
    exact ⟨a, us, rfl, .inl (SqL.of g1), q _ _ _ _ g (Same.refl H) (by rw [g2.length]; exact .int _)⟩
  · obtain ⟨v, rfl, h1⟩ := dns1 h.dens
    obtain ⟨a, us, rfl, g1, g2⟩ := dns_of_tup h1
    exact ⟨a, us, rfl, .inr g1, q _ _ _ _ g (Same.refl H) (by rw [g2.length]; exact .int _)⟩
  · obtain ⟨v, rfl, h1⟩ := dns1 h.dens
    obtain ⟨a, ns, rfl, g1, rfl⟩ := dns_of_scr h1
    exact ⟨a, _, rfl, .inl g1, q _ _ _ _ g (Same.refl H) (by rw [List.length_map, List.length_map]; exact .int _)⟩
  · exact g.elim⟩
/-- all ints -/
def intsD : List D → Option (List Int)
  | [] => some []
  | .int i :: r => (intsD r).map (i :: ·)
  | _ => Option.none
def boolsD : List D → Option (List Bool)
  | [] => some []
  | .bool i :: r => (boolsD r).map (i :: ·)
  | _ => Option.none
theorem dns_bools {H : Hp} : ∀ {us : List V} {ds : List D} {ns : List Bool}, Dns K H us ds → boolsD ds = some ns → us = ns.map V.bl
  | _, _, _, .nil, e => by cases e; rfl
  | _, _, ns, .cons h r, e => by
    cases h <;> first | (simp only [dctD, boolsD] at e; first | cases e | (rw [Option.map_eq_some_iff] at e; obtain ⟨ms, e1, rfl⟩ := e; rw [dns_bools r e1]; rfl))
def fSum : FA := fun ds _ Q => match ds with
  | [.list xs] => ∃ ns, intsD xs = some ns ∧ Q (.int ns.sum) .old
  | _ => False
def fBls (f : List Bool → Bool) : FA := fun ds _ Q => match ds with
  | [.list xs] => ∃ ns, boolsD xs = some ns ∧ Q (.bool (f ns)) .old
  | _ => False
theorem dcl_all (hK : X.K = K) (hc : X.calm = true) : DCl X K (.builtin "all") (fBls fun l => l.all id) := ⟨_, call_allK K hK hc, fun Z ν Hs H xs ds k Qf Q _ _ _ h g q => by
  unfold fBls at g
  split at g
  · obtain ⟨v, rfl, h1⟩ := dns1 h.dens
    obtain ⟨a, us, rfl, g1, g2⟩ := dns_of_lst h1
    obtain ⟨ns, e, g⟩ := g
    exact ⟨a, ns, rfl, SqL.of (by rw [g1, dns_bools g2 e]), q _ _ _ _ g (Same.refl H) (.bl _)⟩
  · exact g.elim⟩
def fAbs : FA := fun ds _ Q => match ds with
  | [.int i] => Q (.int (if i < 0 then -i else i)) .old
  | _ => False
theorem dcl_abs : DCl X K (.builtin "abs") fAbs := ⟨_, call_abs, fun Z ν Hs H xs ds k Qf Q _ _ _ h g q => by
  unfold fAbs at g
  split at g
  · obtain ⟨v, rfl, h1⟩ := dns1 h.dens
    exact ⟨_, by rw [dn_int h1], q _ _ _ _ g (Same.refl H) (.int _)⟩
  · exact g.elim⟩
def fInt : FA := fun ds _ Q => match ds with
  | [.int i] => Q (.int i) .old
  | [.bool i] => Q (.int (if i then 1 else 0)) .old
  | _ => False
end
end DL

namespace DL
open PySem PySem.Spec PyProof.Rows L2
section
variable {X : Cx} {K : PySem.W.Frag} {E : XK} {pos : Pos} {a b c e : Expr} {rest : List Expr} {ta tb tc : TD} {tA tB : TDT}
theorem rsl_one {Z : Addr → Prop} {ν : Nat → List Addr} {Hs H : Hp} {k : Kd} {v : V} {d : D} (h : RsL K Z ν Hs H k [v] [d]) : Res K Z ν Hs H k v d := by
  cases k with
  | own s =>
    obtain ⟨ms, h1, h2, h3⟩ := h
    cases h1 with
    | cons h r => cases r; rw [List.append_nil] at h2 h3; exact ⟨_, h, h2, h3⟩
  | old => cases (show Dns K _ [v] [d] from h) with | cons h r => exact h
  | mix => cases (show Dns K _ [v] [d] from h) with | cons h r => exact h
def fList : FA := fun ds k Q => match ds with
  | [.list xs] => Q (.list xs) (kels xs k)
  | _ => False
theorem dcl_list (hK : X.K = K) : DCl X K (.type "list") fList := ⟨_, call_listK K hK, fun Z ν Hs H xs ds k Qf Q hl hn hs h g q => by
  unfold fList at g
  split at g
  · obtain ⟨v, rfl, _⟩ := dns1 h.dens
    obtain ⟨a, us, rfl, g1, g2, g3⟩ := res_list hl hn (rsl_one h)
    exact ⟨a, us, rfl, .inl (SqL.of g1), fun p hp => q _ _ _ _ g (Same.new hp) (res_newL hl hs hp g3)⟩
  · exact g.elim⟩
def fTuple : FA := fun ds k Q => match ds with
  | [.list xs] => Q (.tuple xs) (kels xs k)
  | _ => False
def fMin : FA := fun ds _ Q => match ds with
  | [.int i, .int j] => Q (.int (if j < i then j else i)) .old
  | [.list xs] => ∃ ns, intsD xs = some ns ∧ ns ≠ [] ∧ ∀ m, m ∈ ns → (∀ x ∈ ns, m ≤ x) → Q (.int m) .old
  | _ => False
def fMax : FA := fun ds _ Q => match ds with
  | [.int i, .int j] => Q (.int (if j > i then j else i)) .old
  | [.list xs] => ∃ ns, intsD xs = some ns ∧ ns ≠ [] ∧ ∀ m, m ∈ ns → (∀ x ∈ ns, x ≤ m) → Q (.int m) .old
  | _ => False
/-! ### isinstance of data -/
def tyN : D → String
  | .none => "NoneType"
  | .bool _ => "bool"
  | .int _ => "int"
  | .str _ => "str"
  | .list _ => "list"
  | .tuple _ => "tuple"
  | .dict _ => "dict"
def isInt : D → Bool
  | .int _ => true
  | .bool _ => true
  | _ => false
def isBool : D → Bool
  | .bool _ => true
  | _ => false
def isList : D → Bool
  | .list _ => true
  | _ => false
def isTuple : D → Bool
  | .tuple _ => true
  | _ => false
def isStr : D → Bool
  | .str _ => true
  | _ => false
def noDict : D → Bool
  | .dict _ => false
  | _ => true
def KitT (K : PySem.W.Frag) (T : String) (f : D → Bool) : Prop := ∀ d, noDict d = true → PySem.W.kitOne K (.type (tyN d)) (.type T) = some (f d)
theorem kit_int : KitT K "int" isInt := by intro d h; cases d <;> first | rfl | simp [noDict] at h
theorem kit_bool : KitT K "bool" isBool := by intro d h; cases d <;> first | rfl | simp [noDict] at h
theorem kit_list : KitT K "list" isList := by intro d h; cases d <;> first | rfl | simp [noDict] at h
def rIsD (K : PySem.W.Frag) (T : String) (f : D → Bool) : List V → Hp → VK → Prop := fun xs H Q => ∃ x d, xs = [x, .ty T] ∧ Dn K H x d ∧ noDict d = true ∧ Q (.bl (f d)) H
theorem call_isD {T : String} {f : D → Bool} (hK : X.K = K) (kt : KitT K T f) : CallR X (.builtin "isinstance") (rIsD K T f) := by
  subst hK
  intro pins s σ H xs us Q I r h
  obtain ⟨x, d, rfl, hd, nd, q⟩ := h
  obtain ⟨u, w', rfl, r1, r2⟩ := vals2 r
  cases r2
  have k := kt d nd
  cases hd with
  | non => exact isinst_ok I r1 .non k fun tk => ⟨.bl _, H, I.tok _, rfl, q⟩
  | bl i => exact isinst_ok I r1 (.bl _) k fun tk => ⟨.bl _, H, I.tok _, rfl, q⟩
  | int i => exact isinst_ok I r1 (.int _) k fun tk => ⟨.bl _, H, I.tok _, rfl, q⟩
  | str i => exact isinst_ok I r1 (.str _) k fun tk => ⟨.bl _, H, I.tok _, rfl, q⟩
  | lst h _ => exact isinst_ok I r1 (.lst h) k fun tk => ⟨.bl _, H, I.tok _, rfl, q⟩
  | tup h _ =>
    cases r1
    obtain ⟨its, rv, ⟨o, e, c, n, d⟩, _⟩ := I.tuple h
    exact PySem.W.kia_one PySem.W.kitx_tuple I.kIn ⟨o, e, c⟩ k (fun z => nomatch z) fun tk => ⟨.bl _, H, I.tok _, rfl, q⟩
  | scr _ _ => cases nd
  | opq _ => cases nd
  | dct _ _ => cases nd
def dIs (f : D → Bool) (ta : TD) : TD := fun ρ Q Xd => ta ρ (fun d _ => noDict d = true ∧ Q (.bool (f d)) .old) Xd
theorem dpe_isi {T : String} {f : D → Bool} {y : Str} {p p2 : Pos} (hK : X.K = K) (kt : KitT K T f) (hg : Gl X "isinstance") (hm : X.mg "isinstance" = none) (ha : DE X K E a ta) (hg2 : Gl X y) (hm2 : X.mg y = none) (hv2 : bootBuiltins y = some (.type T)) (hn : y ≠ "__name__" := by decide) (hd : (y == ("__debug__" : Str)) = false := by decide)
    (he : starEach [a, .Name y p2] X.env = (false, eval a X.env) :: starEach [.Name y p2] X.env := by rfl) (hpl : (backTo pos (starEach [.Name y p2] X.env)).any (·.1) = false := by rfl) : DE X K E (.Call (.Name "isinstance" p) [a, .Name y p2] [] pos) (dIs f ta) :=
  ⟨qe_imp (qpe_callB (call_isD hK kt) hg hm (by decide +kernel) (qpa_cons ha.q (hs := he) (qpa_cons (qpe_bltn (v := .ty T) hg2 hm2 hv2 rfl hn hd) qpa_nil)) (by decide) (by decide) he hpl) fun σ H Q h => by
    obtain ⟨H0, ν, ρ, Qd, Xd, S, h1, q, x⟩ := h
    refine ⟨H0, ν, ρ, _, Xd, S, h1, fun d k v H' g1 g2 g3 => ?_, x⟩
    exact ⟨v, d, rfl, g3.den, g1.1, q _ _ _ _ g1.2 g2 (.bl _)⟩⟩
/-! ### in, not in a list or tuple of data without lists and tuples -/
def scalD : D → Bool
  | .none => true
  | .bool _ => true
  | .int _ => true
  | .str _ => true
  | _ => false
def inD (x : D) (xs : List D) : Bool := xs.any fun y => PyData.eqv y x
def fIn (f : Bool → Bool) : F2 := fun d _ e _ Q => scalD d = true ∧ match e with
  | .list es => es.all scalD = true ∧ Q (.bool (f (inD d es))) .old
  | .tuple es => es.all scalD = true ∧ Q (.bool (f (inD d es))) .old
  | _ => False
/-! ### truth -/
theorem dpt_truth {e : Expr} (hK : X.K = K) (h : DE X K E e ta) (he : ∀ whole, isTrue e X.env whole = (do let v ← whole; standAt e.pos; holding [v] (truthy v)) := by intro _; rfl) : DT X K E e (dTru ta) := ⟨by
  subst hK
  refine qt_imp ⟨pt_truth h.q.h he⟩ fun σ H Q h => ?_
  obtain ⟨H0, ν, ρ, Qd, Xd, S, h1, q, x⟩ := h
  refine ⟨H0, ν, ρ, _, Xd, S, h1, fun d k v H' g1 g2 g3 => ?_, x⟩
  obtain ⟨b, e1, e2⟩ := g1
  refine ⟨b, ?_, q _ _ e2 g2⟩
  have := g3.den
  cases this with
  | non => cases e1; exact rfl
  | bl i => cases e1; exact rfl
  | int i => cases e1; exact rfl
  | str i => cases e1
  | lst h r => cases e1; exact .inl ⟨_, SqL.of h, by cases r <;> rfl⟩
  | tup h r => cases e1; exact .inr (.inl ⟨_, h, by cases r <;> rfl⟩)
  | scr _ _ => cases e1
  | opq _ => cases e1
  | dct _ _ => cases e1⟩
end
end DL

namespace DL
open PySem PySem.Spec PyProof.Rows L2
/-! ### statements over data -/
structure EndsD where
  nx : Ren → Prop
  rt : D → Bool → Prop
  bk : Ren → Prop := fun _ => False
  ct : Ren → Prop := fun _ => False
abbrev TSD := EndsD → Ren → XD → Prop
structure EndsOk (K : PySem.W.Frag) (H0 : Hp) (En : Ends) (Dd : EndsD) : Prop where
  nx : ∀ ν ρ σ H, Dd.nx ρ → StOk K Z0 H0 ν ρ σ H → En.nx σ H
  bk : ∀ ν ρ σ H, Dd.bk ρ → StOk K Z0 H0 ν ρ σ H → En.bk σ H
  ct : ∀ ν ρ σ H, Dd.ct ρ → StOk K Z0 H0 ν ρ σ H → En.ct σ H
  rt : ∀ d o v H, Dd.rt d o → Same H0 H → RR K H0 H o v d → En.rt v H
def LS (K : PySem.W.Frag) (E : XK) (t : TSD) : TS := fun En σ H => ∃ H0 ν ρ Dd Xd, StOk K Z0 H0 ν ρ σ H ∧ t Dd ρ Xd ∧ EndsOk K H0 En Dd ∧ ∀ C H', Xd C → Same H0 H' → E (.ref C) none H'
structure DS (X : Cx) (K : PySem.W.Frag) (E : XK) (s : Stmt) (t : TSD) : Prop where
  q : QS X s (LS K E t)
structure DSs (X : Cx) (K : PySem.W.Frag) (E : XK) (s : List Stmt) (t : TSD) : Prop where
  q : QSs X s (LS K E t)
def setK (ρ : Ren) (i : Nat) (d : D) (k : Kd) : Ren := if flat d = true then ρ.set i (some (false, d)) else match k with
  | .own s => (dropS ρ s).set i (some (true, d))
  | .old => ρ.set i (some (false, d))
  | .mix => (frz ρ).set i (some (false, d))
section
variable {K : PySem.W.Frag} {H0 H H' : Hp} {ν : Nat → List Addr} {ρ : Ren} {σ : L2.St} {v : V} {d : D} {k : Kd}
theorem hid_z0 {H : Hp} : Same H (hid (Hd Z0 fun _ => []) H) := fun a o h => hid_of h fun z => by
  rcases z with z | ⟨_, z⟩
  · exact z
  · cases z
theorem StOk.setK (S : StOk K Z0 H0 ν ρ σ H) (e : Same H H') (h : Res K Z0 ν H H' k v d) (i : Nat) : ∃ ν', StOk K Z0 H0 ν' (setK ρ i d k) (σ.set i (some v)) H' := by
  unfold DL.setK
  split
  · exact ⟨_, (S.same e).setOld i (den_hid (S.same e).hl h.den ‹_›)⟩
  · cases k with
    | own s =>
      obtain ⟨ms, h1, h2, h3⟩ := h
      exact ⟨_, S.setOwn s i e h1 h2 h3⟩
    | old => exact ⟨_, (S.same e).setOld i h⟩
    | mix => exact ⟨_, (S.same e).frz.setOld i (Dn.same hid_z0 h)⟩
/-- what is handed back -/
def rtK (d : D) (k : Kd) : Bool := flat d || match k with
  | .own _ => true
  | _ => false
theorem rr_of (S : StOk K Z0 H0 ν ρ σ H) (e : Same H H') (h : Res K Z0 ν H H' k v d) : RR K H0 H' (rtK d k) v d := by
  unfold rtK
  cases hf : flat d with
  | true => exact ⟨[], ow_flat h.den hf, List.nodup_nil, fun _ z => by cases z⟩
  | false =>
    cases k with
    | own s =>
      obtain ⟨ms, h1, h2, h3⟩ := h
      refine ⟨ms, h1, h2, fun a ha => ?_⟩
      rcases h3 a ha with z | ⟨j, _, z⟩
      · exact S.sm.gone z
      · exact (S.fr j a z).1
    | old => exact Dn.same hid_same h
    | mix => exact h
theorem StOk.low {Z : Addr → Prop} {H1 : Hp} (S : StOk K Z H1 ν ρ σ H) (e : Same H0 H1) : StOk K Z H0 ν ρ σ H :=
  ⟨e.trans S.sm, S.len, S.sl, S.nd, S.dj, fun i a h => ⟨e.gone (S.fr i a h).1, (S.fr i a h).2⟩, fun a h => ⟨e.gone (S.zf a h).1, (S.zf a h).2⟩⟩
theorem StOk.base {Z : Addr → Prop} (S : StOk K Z H0 ν ρ σ H) : Same H0 (hid (Hd Z ν) H) := fun a o h => hid_of (S.sm a o h) fun z => by
  rcases z with z | ⟨i, z⟩
  · rw [(S.zf a z).1] at h; cases h
  · rw [(S.fr i a z).1] at h; cases h
/-- the frozen part as the new base -/
theorem StOk.high {Z : Addr → Prop} (S : StOk K Z H0 ν ρ σ H) : StOk K Z (hid (Hd Z ν) H) ν ρ σ H :=
  ⟨hid_same, S.len, S.sl, S.nd, S.dj, fun i a h => ⟨by unfold hid; rw [if_pos (.inr ⟨i, h⟩)], (S.fr i a h).2⟩, fun a h => ⟨by unfold hid; rw [if_pos (.inl h)], (S.zf a h).2⟩⟩
theorem RR.low {H1 : Hp} {o : Bool} (h : RR K H1 H o v d) (e : Same H0 H1) : RR K H0 H o v d := by
  cases o with
  | true => obtain ⟨ms, h1, h2, h3⟩ := h; exact ⟨ms, h1, h2, fun a ha => e.gone (h3 a ha)⟩
  | false => exact h
theorem EndsOk.high {En : Ends} {Dd : EndsD} {H1 : Hp} (h : EndsOk K H0 En Dd) (e : Same H0 H1) : EndsOk K H1 En Dd :=
  ⟨fun ν ρ σ H a S => h.nx ν ρ σ H a (S.low e), fun ν ρ σ H a S => h.bk ν ρ σ H a (S.low e), fun ν ρ σ H a S => h.ct ν ρ σ H a (S.low e), fun d o v H a b c => h.rt d o v H a (e.trans b) (c.low e)⟩
end
section
variable {X : Cx} {K : PySem.W.Frag} {E : XK} {pos : Pos} {a b c e : Expr} {te : TD} {tA : TDT} {t u : TSD}
def dSet (i : Nat) (te : TD) : TSD := fun Dd ρ Xd => te ρ (fun d k => Dd.nx (setK ρ i d k)) Xd
theorem dpset (i : Nat) {x : Str} {pos' : Pos} (hN : X.N.Nodup) (he : DE X K E e te) (hi : X.N[i]? = some x := by rfl) (hx : Loc X.env.scope x := by first | exact Or.inl rfl | exact Or.inr rfl) (hs : swapsWith e (some (.Name x pos')) pos.line X.env = pure false := by rfl) (hf : X.fn x = true ∨ X.env.scope.names.lookup x = some .local := by first | exact .inl rfl | exact .inr rfl | assumption) :
    DS X K E (.Assign [.Name x pos'] e pos) (dSet i te) := ⟨qs_imp (qpset i hN he.q hi hx hs hf) fun En σ H h => by
  obtain ⟨H0, ν, ρ, Dd, Xd, S, h1, ok, x⟩ := h
  refine ⟨H0, ν, ρ, _, Xd, S, h1, fun d k v H' g1 g2 g3 => ?_, x⟩
  obtain ⟨ν', S'⟩ := S.setK g2 g3 i
  exact ok.nx _ _ _ _ g1 S'⟩
def dRet (te : TD) : TSD := fun Dd ρ Xd => te ρ (fun d k => Dd.rt d (rtK d k)) Xd
theorem dps_ret (he : DE X K E e te) : DS X K E (.Return (some e) pos) (dRet te) := ⟨qs_imp (qps_ret he.q) fun En σ H h => by
  obtain ⟨H0, ν, ρ, Dd, Xd, S, h1, ok, x⟩ := h
  exact ⟨H0, ν, ρ, _, Xd, S, h1, fun d k v H' g1 g2 g3 => ok.rt _ _ _ _ g1 (S.sm.trans g2) (rr_of S g2 g3), x⟩⟩
def dRetN : TSD := fun Dd _ _ => Dd.rt .none true
def dDrop (te : TD) : TSD := fun Dd ρ Xd => te ρ (fun _ _ => Dd.nx ρ) Xd
def dNext : TSD := fun Dd ρ _ => Dd.nx ρ
def dBreak : TSD := fun Dd ρ _ => Dd.bk ρ
def dCont : TSD := fun Dd ρ _ => Dd.ct ρ
def dIfS (tA : TDT) (t u : TSD) : TSD := fun Dd ρ Xd => tA ρ (fun b => if b = true then t Dd ρ Xd else u Dd ρ Xd) Xd
theorem dps_if {as bs : List Stmt} (hc : DT X K E c tA) (ha : DSs X K E as t) (hb : DSs X K E bs u) : DS X K E (.If c as bs pos) (dIfS tA t u) := ⟨qs_imp (qps_if hc.q ha.q hb.q) fun En σ H h => by
  obtain ⟨H0, ν, ρ, Dd, Xd, S, h1, ok, x⟩ := h
  refine ⟨H0, ν, ρ, _, Xd, S, h1, fun b H' g1 g2 => ?_, x⟩
  cases b with
  | true => exact ⟨H0, ν, ρ, Dd, Xd, S.same g2, g1, ok, x⟩
  | false => exact ⟨H0, ν, ρ, Dd, Xd, S.same g2, g1, ok, x⟩⟩
def dSeq (t u : TSD) : TSD := fun Dd ρ Xd => t { Dd with nx := fun ρ' => u Dd ρ' Xd } ρ Xd
theorem dpss_nil : DSs X K E [] dNext := ⟨qss_imp qpss_nil fun En σ H h => by
  obtain ⟨H0, ν, ρ, Dd, Xd, S, h1, ok, x⟩ := h
  exact ok.nx _ _ _ _ h1 S⟩
theorem dpss_one {st : Stmt} (h1 : DS X K E st t) : DSs X K E [st] t := ⟨qpss_one h1.q⟩
theorem dpss_cons {st : Stmt} {rest : List Stmt} (h1 : DS X K E st t) (h2 : DSs X K E rest u) : DSs X K E (st :: rest) (dSeq t u) := ⟨qss_imp (qpss_cons h1.q h2.q) fun En σ H h => by
  obtain ⟨H0, ν, ρ, Dd, Xd, S, h1, ok, x⟩ := h
  exact ⟨H0, ν, ρ, _, Xd, S, h1, ⟨fun ν' ρ' σ' H' a S' => ⟨H0, ν', ρ', Dd, Xd, S', a, ok, x⟩, ok.bk, ok.ct, ok.rt⟩, x⟩⟩
/-- ahead of a statement a name's tree is given up -/
def dFrz (i : Nat) (t : TSD) : TSD := fun Dd ρ Xd => t Dd (frz1 i ρ) Xd
theorem dps_frz (i : Nat) {s : Stmt} (h : DS X K E s t) : DS X K E s (dFrz i t) := ⟨qs_imp h.q fun En σ H h => by
  obtain ⟨H0, ν, ρ, Dd, Xd, S, h1, ok, x⟩ := h
  exact ⟨H0, _, _, Dd, Xd, S.frz1 i, h1, ok, x⟩⟩
/-- raise -/
def dRaise (C : Addr) (t : TDA) : TSD := fun _ ρ Xd => t ρ (fun ds _ => ds.length ≤ 1000 ∧ Xd C) Xd
def dNever : TSD := fun _ _ _ => False
/-! ### while -/
def dWhile (tc : TDT) (tb : TSD) : TSD := fun Dd ρ Xd => ∃ W : Nat → Ren → Prop, (∃ m, W m ρ) ∧ ∀ m ρ, W m ρ → tc ρ (fun b => if b = true then tb { Dd with nx := fun ρ' => ∃ m', m' < m ∧ W m' ρ', ct := fun ρ' => ∃ m', m' < m ∧ W m' ρ', bk := Dd.nx } ρ Xd else Dd.nx ρ) Xd
theorem dps_while {body : List Stmt} {tb : TSD} (hp : PassesOwn (model X.prog X.w) X.A X.env X.xe) (hc : DT X K E c tA) (hb : DSs X K E body tb) : DS X K E (.While c body [] pos) (dWhile tA tb) := ⟨qs_imp (qps_while hp hc.q hb.q) fun En σ H h => by
  obtain ⟨H0, ν, ρ, Dd, Xd, S, ⟨W, ⟨m0, w0⟩, turn⟩, ok, x⟩ := h
  refine ⟨fun m σ H => ∃ ν ρ, StOk K Z0 H0 ν ρ σ H ∧ W m ρ, ⟨m0, ν, ρ, S, w0⟩, ?_⟩
  rintro m σ1 H1 ⟨ν1, ρ1, S1, w1⟩
  refine ⟨H0, ν1, ρ1, _, Xd, S1, turn m ρ1 w1, fun b H' g1 g2 => ?_, x⟩
  cases b with
  | true =>
    rw [if_pos rfl] at g1 ⊢
    refine ⟨fun σ' H' => ∃ m', m' < m ∧ ∃ ν ρ, StOk K Z0 H0 ν ρ σ' H' ∧ W m' ρ, fun σ' H' z => z, H0, ν1, ρ1, _, Xd, S1.same g2, g1, ⟨fun ν ρ σ H a S => ?_, fun ν ρ σ H a S => ok.nx ν ρ σ H a S, fun ν ρ σ H a S => ?_, ok.rt⟩, x⟩
    · obtain ⟨m', hm, w'⟩ := a; exact ⟨m', hm, ν, ρ, S, w'⟩
    · obtain ⟨m', hm, w'⟩ := a; exact ⟨m', hm, ν, ρ, S, w'⟩
  | false =>
    rw [if_neg Bool.false_ne_true] at g1 ⊢
    exact ok.nx _ _ _ _ g1 (S1.same g2)⟩
end
end DL

namespace DL
open PySem PySem.Spec PyProof.Rows L2
/-! ### what a name is bound to -/
abbrev TGD := D → Ren → (Ren → Prop) → Prop
abbrev TGsD := List D → Ren → (Ren → Prop) → Prop
def noOwn (ρ : Ren) : Prop := ∀ (i : Nat) d, ρ[i]? ≠ some (some (true, d))
theorem noOwn_set {ρ : Ren} (h : noOwn ρ) (i : Nat) (d : D) : noOwn (ρ.set i (some (false, d))) := fun j e z => by
  rcases set_get z with ⟨_, z, _⟩ | ⟨_, z⟩
  · cases z
  · exact h j e z
def Agr (T : List Nat) (ρ ρ' : Ren) : Prop := ρ'.length = ρ.length ∧ ∀ i, i ∉ T → ρ'[i]? = ρ[i]?
def BndOk (K : PySem.W.Frag) (g : TG) (T : List Nat) (bnd : TGD) : Prop := ∀ (H0 : Hp) (ν : Nat → List Addr) (ρ : Ren) (σ : L2.St) (H : Hp) (v : V) (d : D) (Qd : Ren → Prop) (Q : L2.St → Hp → Prop), StOk K Z0 H0 ν ρ σ H → Dn K (hid (Hd Z0 ν) H) v d → bnd d ρ Qd →
  (∀ ρ' σ', Qd ρ' → StOk K Z0 H0 ν ρ' σ' H → Agr T ρ ρ' → (noOwn ρ → noOwn ρ') → Q σ' H) → g v σ H Q
def BndsOk (K : PySem.W.Frag) (g : TGs) (T : List Nat) (bnd : TGsD) : Prop := ∀ (H0 : Hp) (ν : Nat → List Addr) (ρ : Ren) (σ : L2.St) (H : Hp) (vs : List V) (ds : List D) (Qd : Ren → Prop) (Q : L2.St → Hp → Prop), StOk K Z0 H0 ν ρ σ H → Dns K (hid (Hd Z0 ν) H) vs ds → bnd ds ρ Qd →
  (∀ ρ' σ', Qd ρ' → StOk K Z0 H0 ν ρ' σ' H → Agr T ρ ρ' → (noOwn ρ → noOwn ρ') → Q σ' H) → g vs σ H Q
structure DG (X : Cx) (K : PySem.W.Frag) (tg : Expr) (T : List Nat) (bnd : TGD) : Prop where
  ex : ∃ g, QG X tg g ∧ BndOk K g T bnd
structure DGs (X : Cx) (K : PySem.W.Frag) (tg : List Expr) (T : List Nat) (bnd : TGsD) : Prop where
  ex : ∃ g, QGs X tg g ∧ BndsOk K g T bnd
def bName (i : Nat) : TGD := fun d ρ Q => Q (ρ.set i (some (false, d)))
def bNil : TGsD := fun ds ρ Q => ds = [] ∧ Q ρ
def bCons (b : TGD) (bs : TGsD) : TGsD := fun ds ρ Q => match ds with
  | d :: r => b d ρ fun ρ' => bs r ρ' Q
  | [] => False
def bTup (n : Nat) (bs : TGsD) : TGD := fun d ρ Q => match d with
  | .tuple ds => ds.length = n ∧ bs ds ρ Q
  | _ => False
section
variable {X : Cx} {K : PySem.W.Frag} {E : XK} {pos : Pos}
theorem Agr.trans {T U : List Nat} {a b c : Ren} (h : Agr T a b) (g : Agr U b c) : Agr (T ++ U) a c := ⟨g.1.trans h.1, fun i hi => by
  rw [List.mem_append, not_or] at hi
  rw [g.2 i hi.2, h.2 i hi.1]⟩
theorem dpgn (i : Nat) {x : Str} (hN : X.N.Nodup) (hi : X.N[i]? = some x := by rfl) (hx : Loc X.env.scope x := by first | exact Or.inl rfl | exact Or.inr rfl) (hf : X.fn x = true ∨ X.env.scope.names.lookup x = some .local := by first | exact .inl rfl | exact .inr rfl | assumption) : DG X K (.Name x pos) [i] (bName i) :=
  ⟨_, qpgn i hN hi hx hf, fun H0 ν ρ σ H v d Qd Q S h b q => q _ _ b (S.setOld i h) ⟨List.length_set, fun j hj => List.getElem?_set_ne (by simpa using Ne.symm (by simpa using hj))⟩ fun n => noOwn_set n i d⟩
theorem dpgs_nil : DGs X K [] [] bNil := ⟨_, qpgs_nil, fun H0 ν ρ σ H vs ds Qd Q S h b q => by
  obtain ⟨rfl, b⟩ := b
  cases h
  exact ⟨rfl, q _ _ b S ⟨rfl, fun _ _ => rfl⟩ id⟩⟩
theorem dpgs_cons {e : Expr} {es : List Expr} {T U : List Nat} {b : TGD} {bs : TGsD} (h1 : DG X K e T b) (h2 : DGs X K es U bs) (hs : (assignEach (e :: es) X.env).map (·.2) = assign e X.env :: (assignEach es X.env).map (·.2) := by rfl) : DGs X K (e :: es) (T ++ U) (bCons b bs) := by
  obtain ⟨g, q1, o1⟩ := h1.ex
  obtain ⟨gs, q2, o2⟩ := h2.ex
  refine ⟨_, qpgs_cons q1 q2 hs, fun H0 ν ρ σ H vs ds Qd Q S h b q => ?_⟩
  cases h with
  | nil => exact b.elim
  | cons h r =>
    refine ⟨_, _, rfl, o1 H0 ν ρ σ H _ _ _ _ S h b fun ρ' σ' b' S' A n1 => ?_⟩
    exact o2 H0 ν ρ' σ' H _ _ _ _ S' r b' fun ρ'' σ'' b'' S'' A' n2 => q _ _ b'' S'' (A.trans A') fun n => n2 (n1 n)
theorem dpg_tup (n : Nat) {es : List Expr} {k : Nat} {T : List Nat} {bs : TGsD} (hK : X.K = K) (hc : X.calm = true) (h : DGs X K es T bs) (hn : (assignEach es X.env).length = n) (hst : (assignEach es X.env).findIdx? (·.1) = none) : DG X K (.Tuple es k pos) T (bTup n bs) := by
  obtain ⟨gs, q1, o1⟩ := h.ex
  refine ⟨_, qpg_tupK K n hK hc q1 hn hst, fun H0 ν ρ σ H v d Qd Q S h b q => ?_⟩
  unfold bTup at b
  split at b
  · obtain ⟨a, us, rfl, g1, g2⟩ := dns_of_tup h
    exact ⟨a, us, rfl, Same.tup hid_same g1, by rw [g2.length]; exact b.1, o1 H0 ν ρ σ H _ _ _ _ S g2 b.2 q⟩
  · exact b.elim
end
/-! ### iterators -/
def ItOk (K : PySem.W.Frag) (F0 : Hp) (J : It) (ds : List D) : Prop := ∀ (W : Addr → Prop) (H2 : Hp), (∀ a, W a → Mu H2 a) → Same F0 (hid W H2) →
  J.stop ds.length H2 ∧ ∀ i d, ds[i]? = some d → J.go i H2 ∧ ∀ x H', J.yld i H2 x H' → Same H2 H' ∧ Dn K (hid W H') x d
abbrev TDI := Ren → (List D → Bool → Prop) → XD → Prop
/-- what the lists that are walked lie in: what is not ours, or all -/
noncomputable def fz (b : Bool) (ν : Nat → List Addr) (H : Hp) : Hp := if b = true then hid (Hd Z0 ν) H else H
def LI (K : PySem.W.Frag) (E : XK) (t : TDI) : TI := fun σ H R => ∃ H0 ν ρ Qd Xd, StOk K Z0 H0 ν ρ σ H ∧ t ρ Qd Xd ∧ (∀ ds b J H1, Qd ds b → Same H H1 → ItOk K (fz b ν H1) J ds → R J H1) ∧ ∀ C H', Xd C → Same H0 H' → E (.ref C) none H'
structure DI (X : Cx) (K : PySem.W.Frag) (E : XK) (tg e : Expr) (t : TDI) : Prop where
  q : QI X tg e (LI K E t)
theorem qi_imp {X : Cx} {tg e : Expr} {t t' : TI} (h : QI X tg e t) (i : ∀ σ H Q, t' σ H Q → t σ H Q) : QI X tg e t' := ⟨fun pins s σ H Q I w => h.h pins s σ H Q I (i σ H Q w)⟩
section
variable {X : Cx} {K : PySem.W.Frag} {E : XK} {pos : Pos} {tg l : Expr} {te : TD} {ta : TDA}
theorem itok_list {F0 : Hp} {a : Addr} {us : List V} {ds : List D} (h : F0 a = some (.lst us)) (r : Dns K F0 us ds) : ItOk K F0 (Itl K a) ds := fun W H2 hl sm => by
  have h2 : H2 a = some (.lst us) := (of_hid (sm _ _ h)).1
  refine ⟨⟨us, SqL.of h2, by rw [r.length]; exact Nat.le_refl _⟩, fun i d hd => ?_⟩
  obtain ⟨u, h3, h4⟩ := r.get hd
  refine ⟨⟨us, u, SqL.of h2, h3⟩, fun x H' y => ?_⟩
  obtain ⟨rfl, y⟩ := y
  have := y us (SqL.of h2)
  rw [h3] at this; cases this
  exact ⟨Same.refl _, Dn.same sm h4⟩
theorem res_fz {ν : Nat → List Addr} {Hs H : Hp} {k : Kd} {v : V} {d : D} (hl : ∀ a, Hd Z0 ν a → Mu H a) (hn : ∀ a, Hd Z0 ν a → Mu Hs a) (h : Res K Z0 ν Hs H k v d) : Dn K (fz k.isOld ν H) v d := by
  unfold fz
  split
  · exact h.old hl hn ‹_›
  · exact h.den
/-- over a list -/
def iL (te : TD) : TDI := fun ρ Q Xd => te ρ (fun d k => match d with
  | .list ds => Q ds k.isOld
  | _ => False) Xd
theorem dpi_list (hK : X.K = K) (hl : DE X K E l te) : DI X K E tg l (iL te) := ⟨qi_imp (qpi_listK K hK hl.q) fun σ H R h => by
  obtain ⟨H0, ν, ρ, Qd, Xd, S, h1, q, x⟩ := h
  refine ⟨H0, ν, ρ, _, Xd, S, h1, fun d k v H' g1 g2 g3 => ?_, x⟩
  cases d with
  | list ds =>
    have hf := res_fz (S.same g2).hl S.hl g3
    obtain ⟨a, us, rfl, q1, q2⟩ := dns_of_lst hf
    have q0 : H' a = some (.lst us) := by unfold fz at q1; split at q1; exact (of_hid q1).1; exact q1
    exact ⟨a, rfl, ⟨us, SqL.of q0⟩, q ds _ _ H' g1 g2 (itok_list q1 q2)⟩
  | _ => exact g1.elim⟩
def iT (te : TD) : TDI := fun ρ Q Xd => te ρ (fun d k => match d with
  | .tuple ds => Q ds k.isOld
  | _ => False) Xd
def rngD (lo : Int) (n : Nat) : List D := (List.range n).map fun (i : Nat) => PyData.int (lo + i)
theorem itok_rng {F0 : Hp} {lo : Int} {n : Nat} : ItOk K F0 (Itr lo n) (rngD lo n) := fun W H2 hl sm => by
  refine ⟨?_, fun i d hd => ?_⟩
  · show n ≤ _
    unfold rngD; rw [List.length_map, List.length_range]; exact Nat.le_refl _
  · unfold rngD at hd
    rw [List.getElem?_map] at hd
    cases e : (List.range n)[i]? with
    | none => rw [e] at hd; cases hd
    | some j =>
      rw [e] at hd; cases hd
      obtain ⟨h1, h2⟩ := List.getElem?_eq_some_iff.mp e
      rw [List.getElem_range] at h2
      subst h2
      rw [List.length_range] at h1
      refine ⟨h1, fun x H' y => ?_⟩
      obtain ⟨rfl, rfl⟩ := y
      exact ⟨Same.refl _, .int _⟩
def iR1 (ta : TDA) : TDI := fun ρ Q Xd => ta ρ (fun ds _ => match ds with
  | [.int j] => -(2 ^ 62) ≤ j ∧ j < 2 ^ 62 ∧ Q (rngD 0 j.toNat) true
  | _ => False) Xd
def iR2 (ta : TDA) : TDI := fun ρ Q Xd => ta ρ (fun ds _ => match ds with
  | [.int i, .int j] => (-(2 ^ 62) ≤ i ∧ i < 2 ^ 62 ∧ -(2 ^ 62) ≤ j ∧ j < 2 ^ 62) ∧ Q (rngD i (j - i).toNat) true
  | _ => False) Xd
theorem dpi_range1 {a : Expr} {p : Pos} (hg : Gl X "range") (hm : X.mg "range" = none) (ha : DA X K E [a] ta) (hs : starEach [a] X.env = [(false, eval a X.env)] := by rfl) : DI X K E tg (.Call (.Name "range" p) [a] [] pos) (iR1 ta) := ⟨qi_imp (qpi_range1 hg hm ha.q hs) fun σ H R h => by
  obtain ⟨H0, ν, ρ, Qd, Xd, S, h1, q, x⟩ := h
  refine ⟨H0, ν, ρ, _, Xd, S, h1, fun ds k vs H' g1 g2 g3 => ?_, x⟩
  split at g1
  · obtain ⟨v, rfl, h2⟩ := dns1 g3.dens
    exact ⟨_, by rw [dn_int h2], g1.1, g1.2.1, q _ _ _ H' g1.2.2 g2 itok_rng⟩
  · exact g1.elim⟩
end
end DL

namespace DL
open PySem PySem.Spec PyProof.Rows L2
section
variable {X : Cx} {K : PySem.W.Frag} {E : XK} {pos : Pos} {tg l : Expr} {te : TD} {ta : TDA}
theorem rsl_fz {ν : Nat → List Addr} {Hs H : Hp} {k : Kd} {vs : List V} {ds : List D} (hl : ∀ a, Hd Z0 ν a → Mu H a) (hn : ∀ a, Hd Z0 ν a → Mu Hs a) (h : RsL K Z0 ν Hs H k vs ds) : Dns K (fz k.isOld ν H) vs ds := by
  unfold fz
  split
  · exact h.old0 hl hn ‹_›
  · exact h.dens
theorem fz_lst {b : Bool} {ν : Nat → List Addr} {H : Hp} {a : Addr} {us : List V} (h : fz b ν H a = some (.lst us)) : H a = some (.lst us) := by
  unfold fz at h
  split at h
  · exact (of_hid h).1
  · exact h
/-- numbered items -/
def enumD : Nat → List D → List D
  | _, [] => []
  | i, d :: r => .tuple [.int i, d] :: enumD (i + 1) r
theorem new_tup {W : Addr → Prop} {H : Hp} {p : Addr} {vs : List V} {ds : List D} (hl : ∀ a, W a → Mu H a) (hp : H p = none) (h : Dns K (hid W H) vs ds) : Same H (upd H p (.tup vs)) ∧ Dn K (hid W (upd H p (.tup vs))) (.ref p) (.tuple ds) := by
  have hz : ¬ W p := fun z => by obtain ⟨us, q⟩ := hl p z; rw [hp] at q; cases q
  exact ⟨Same.new hp, .tup (SqT.of (hid_of upd_same hz)) (Dns.same (hid_mono (Same.new hp)) h)⟩
def iEn (ta : TDA) : TDI := fun ρ Q Xd => ta ρ (fun ds k => match ds with
  | [.list xs] => Q (enumD 0 xs) k.isOld
  | _ => False) Xd
def zipD : List D → List D → List D
  | d :: r, e :: s => .tuple [d, e] :: zipD r s
  | _, _ => []
theorem zipD_get : ∀ {i : Nat} {ds es : List D} {x : D}, (zipD ds es)[i]? = some x → ∃ d e, ds[i]? = some d ∧ es[i]? = some e ∧ x = .tuple [d, e]
  | 0, d :: r, e :: s, x, h => by simp [zipD] at h; exact ⟨d, e, rfl, rfl, h.symm⟩
  | i + 1, d :: r, e :: s, x, h => by
    simp [zipD] at h
    obtain ⟨d', e', h1, h2, h3⟩ := zipD_get h
    exact ⟨d', e', by simpa using h1, by simpa using h2, h3⟩
  | i, [], es, x, h => by simp [zipD] at h
  | i, d :: r, [], x, h => by simp [zipD] at h
theorem zipD_len : ∀ (ds es : List D), ds.length ≤ (zipD ds es).length ∨ es.length ≤ (zipD ds es).length
  | [], es => .inl (Nat.zero_le _)
  | d :: r, [] => .inr (Nat.zero_le _)
  | d :: r, e :: s => by
    rcases zipD_len r s with h | h
    · exact .inl (by simp [zipD]; exact h)
    · exact .inr (by simp [zipD]; exact h)
theorem itok_zip {F0 : Hp} {a b : Addr} {us vs : List V} {ds es : List D} (h : F0 a = some (.lst us)) (r : Dns K F0 us ds) (h' : F0 b = some (.lst vs)) (r' : Dns K F0 vs es) : ItOk K F0 (Itz K a b) (zipD ds es) := fun W H2 hl sm => by
  have h2 : H2 a = some (.lst us) := (of_hid (sm _ _ h)).1
  have h2' : H2 b = some (.lst vs) := (of_hid (sm _ _ h')).1
  refine ⟨⟨us, vs, SqL.of h2, SqL.of h2', by rw [r.length, r'.length]; exact zipD_len ds es⟩, fun i d hd => ?_⟩
  obtain ⟨e, e', hd2, hd', rfl⟩ := zipD_get hd
  obtain ⟨u, h3, h4⟩ := r.get hd2
  obtain ⟨u', h3', h4'⟩ := r'.get hd'
  refine ⟨⟨us, vs, u, u', SqL.of h2, SqL.of h2', h3, h3'⟩, fun x H' y => ?_⟩
  obtain ⟨p, z, z', hp, hy, hy', rfl, rfl⟩ := y
  have := hy us (SqL.of h2)
  rw [h3] at this; cases this
  have := hy' vs (SqL.of h2')
  rw [h3'] at this; cases this
  exact new_tup hl hp (.cons (Dn.same sm h4) (.cons (Dn.same sm h4') .nil))
def iZp (ta : TDA) : TDI := fun ρ Q Xd => ta ρ (fun ds k => match ds with
  | [.list xs, .list ys] => Q (zipD xs ys) k.isOld
  | _ => False) Xd
theorem dpi_zip {a b : Expr} {p : Pos} {elts : List Expr} {x1} {tp : Pos} (hK : X.K = K) (hg : Gl X "zip") (hm : X.mg "zip" = none) (ha : DA X K E [a, b] ta) (hs : starEach [a, b] X.env = [(false, eval a X.env), (false, eval b X.env)] := by rfl) (hs2 : starEach [b] X.env = [(false, eval b X.env)] := by rfl) : DI X K E (.Tuple elts x1 tp) (.Call (.Name "zip" p) [a, b] [] pos) (iZp ta) := ⟨qi_imp (qpi_zipK K hK hg hm ha.q hs hs2) fun σ H R h => by
  obtain ⟨H0, ν, ρ, Qd, Xd, S, h1, q, x⟩ := h
  refine ⟨H0, ν, ρ, _, Xd, S, h1, fun ds k vs H' g1 g2 g3 => ?_, x⟩
  split at g1
  · obtain ⟨v, w', rfl, h2, h3⟩ := dns2 (rsl_fz (S.same g2).hl S.hl g3)
    obtain ⟨a, us, rfl, q1, q2⟩ := dns_of_lst h2
    obtain ⟨b, us', rfl, q3, q4⟩ := dns_of_lst h3
    exact ⟨a, b, rfl, ⟨us, SqL.of (fz_lst q1)⟩, ⟨us', SqL.of (fz_lst q3)⟩, q _ _ _ H' g1 g2 (itok_zip q1 q2 q3 q4)⟩
  · exact g1.elim⟩
/-! ### for -/
def dFor (ti : TDI) (bnd : TGD) (tb : TSD) : TSD := fun Dd ρ Xd => ti ρ (fun ds b => b = true ∧ ∃ W : Nat → Ren → Prop, W 0 ρ ∧ (∀ i d ρ, ds[i]? = some d → W i ρ → bnd d ρ fun ρ' => tb { Dd with nx := W (i + 1), ct := W (i + 1), bk := Dd.nx } ρ' Xd) ∧ ∀ ρ, W ds.length ρ → Dd.nx ρ) Xd
theorem dps_for {iter : Expr} {body : List Stmt} {ti : TDI} {T : List Nat} {bnd : TGD} {tb : TSD} (hp : PassesOwn (model X.prog X.w) X.A X.env X.xe) (hc : X.calm = true) (hi : DI X K E tg iter ti) (hg : DG X K tg T bnd) (hb : DSs X K E body tb) (hs : ∀ x, foldedSetIterable iter X.env x = pure x := by intro _; rfl) :
    DS X K E (.For tg iter body [] pos) (dFor ti bnd tb) := by
  obtain ⟨g, qg, og⟩ := hg.ex
  refine ⟨qs_imp (qps_for hp hc hi.q qg hb.q hs) fun En σ H h => ?_⟩
  obtain ⟨H0, ν, ρ, Dd, Xd, S, h1, ok, x⟩ := h
  refine ⟨H0, ν, ρ, _, Xd, S, h1, fun ds b J H1 g1 e1 it => ?_, x⟩
  obtain ⟨rfl, W, w0, step, done⟩ := g1
  have S1 := (S.same e1).high
  have eb : Same H0 (hid (Hd Z0 ν) H1) := (S.same e1).base
  have ok1 := ok.high eb
  have x1 : ∀ C H', Xd C → Same (hid (Hd Z0 ν) H1) H' → E (.ref C) none H' := fun C H' a b => x C H' a (eb.trans b)
  have it : ItOk K (hid (Hd Z0 ν) H1) J ds := it
  refine ⟨fun i m σ H => m = ds.length - i ∧ i ≤ ds.length ∧ ∃ ν' ρ', StOk K Z0 (hid (Hd Z0 ν) H1) ν' ρ' σ H ∧ W i ρ', ⟨ds.length, by simp, Nat.zero_le _, ν, ρ, S1, w0⟩, ?_⟩
  rintro i m σ2 H2 ⟨rfl, hi, ν2, ρ2, S2, w2⟩
  obtain ⟨i1, i2⟩ := it (Hd Z0 ν2) H2 S2.hl S2.base
  by_cases hlt : i < ds.length
  · obtain ⟨j1, j2⟩ := i2 i ds[i] (List.getElem?_eq_getElem hlt)
    refine .inr ⟨j1, fun σ' H' => ∃ ν' ρ', StOk K Z0 (hid (Hd Z0 ν) H1) ν' ρ' σ' H' ∧ W (i + 1) ρ', fun σ' H' ⟨ν', ρ', S', w'⟩ => ⟨_, by omega, rfl, hlt, ν', ρ', S', w'⟩, fun y H' hy => ?_⟩
    obtain ⟨k1, k2⟩ := j2 y H' hy
    refine og _ ν2 ρ2 σ2 H' y _ _ _ (S2.same k1) k2 (step i _ ρ2 (List.getElem?_eq_getElem hlt) w2) fun ρ3 σ3 b3 S3 A _ => ?_
    exact ⟨_, ν2, ρ3, _, Xd, S3, b3, ⟨fun ν ρ σ H a S => ⟨ν, ρ, S, a⟩, fun ν ρ σ H a S => ok1.nx ν ρ σ H a S, fun ν ρ σ H a S => ⟨ν, ρ, S, a⟩, ok1.rt⟩, x1⟩
  · have e : i = ds.length := by omega
    subst e
    exact .inl ⟨i1, ok1.nx _ _ _ _ (done ρ2 w2) S2⟩
end
end DL

namespace DL
open PySem PySem.Spec PyProof.Rows L2
/-! ### comprehensions -/
abbrev Els := List (D × Bool)
abbrev TB := Ren → Els → (Els → Prop) → Prop
def Xf : XD := fun _ => False
structure In (K : PySem.W.Frag) (Hs Hm H0 : Hp) (ν : Nat → List Addr) (acc : Addr) (ρ : Ren) (σ : L2.St) (H : Hp) (es : Els) : Prop where
  st : StOk K Z0 H0 ν ρ σ H
  sm : Same Hm H
  nm : Hm acc = none
  hs : ∃ o, Hs acc = some o
  sh : ∀ a, H a = none → Hs a = none
  hd : ∃ j, acc ∈ ν j
  no : noOwn ρ
  ac : ∃ us, H acc = some (.lst us) ∧ Dns K (hid (Hd Z0 ν) H) us (es.map (·.1)) ∧ (es.all (·.2) = true → ∃ ms, Ows K H us (es.map (·.1)) ms ∧ ms.Nodup ∧ ∀ a ∈ ms, Hs a = none)
section
variable {K : PySem.W.Frag} {Hs Hm H0 H H' : Hp} {ν : Nat → List Addr} {acc : Addr} {ρ ρ' : Ren} {σ : L2.St} {es : Els}
theorem In.same (I : In K Hs Hm H0 ν acc ρ σ H es) (e : Same H H') : In K Hs Hm H0 ν acc ρ σ H' es := by
  obtain ⟨us, h1, h2, h3⟩ := I.ac
  refine ⟨I.st.same e, I.sm.trans e, I.nm, I.hs, fun a h => I.sh a (e.gone h), I.hd, I.no, us, e _ _ h1, Dns.same (hid_mono e) h2, fun q => ?_⟩
  obtain ⟨ms, g1, g2, g3⟩ := h3 q
  exact ⟨ms, g1.same e, g2, g3⟩
theorem In.ren {σ' : L2.St} (I : In K Hs Hm H0 ν acc ρ σ H es) (S : StOk K Z0 H0 ν ρ' σ' H) (no : noOwn ρ') : In K Hs Hm H0 ν acc ρ' σ' H es := ⟨S, I.sm, I.nm, I.hs, I.sh, I.hd, no, I.ac⟩
theorem ows_snoc {vs : List V} {ds : List D} {v : V} {d : D} {ns ms : List Addr} (h : Ow K H v d ns) (r : Ows K H vs ds ms) : Ows K H (vs ++ [v]) (ds ++ [d]) (ms ++ ns) := by
  induction vs generalizing ds ms with
  | nil =>
    cases r
    rw [List.nil_append, List.nil_append, List.nil_append]
    have := Ows.cons h (.nil (K := K) (H := H))
    rw [List.append_nil] at this; exact this
  | cons u us ih =>
    cases r with
    | cons a b => rw [List.append_assoc]; exact .cons a (ih b)
theorem StOk.updH {ws : List V} (S : StOk K Z0 H0 ν ρ σ H) (hd : ∃ j, acc ∈ ν j) (no : noOwn ρ) : StOk K Z0 H0 ν ρ σ (upd H acc (.lst ws)) where
  sm := by obtain ⟨j, hj⟩ := hd; exact S.sm.put (S.fr j acc hj).1
  len := S.len
  sl := fun i b d h => by
    obtain ⟨v, h1, h2⟩ := S.sl i b d h
    refine ⟨v, h1, ?_⟩
    cases b with
    | true => exact absurd h (no i d)
    | false =>
      refine Dn.same (fun a o ha => ?_) h2
      obtain ⟨g1, g2⟩ := of_hid ha
      have : a ≠ acc := fun z => g2 (.inr (by rw [z]; exact hd))
      exact hid_of (by rw [upd_ne this]; exact g1) g2
  nd := S.nd
  dj := S.dj
  fr := fun i a h => by
    obtain ⟨g1, g2, us, g3⟩ := S.fr i a h
    by_cases z : a = acc
    · subst z; exact ⟨g1, g2, Mu.lst upd_same⟩
    · exact ⟨g1, g2, us, by rw [upd_ne z]; exact g3⟩
  zf := fun a h => h.elim
theorem In.emit {He : Hp} {k : Kd} {v : V} {d : D} (I : In K Hs Hm H0 ν acc ρ σ H es) (e : Same H H') (r : Res K Z0 ν H H' k v d) (hk : (if flat d = true then Kd.own [] else k).isOld = true) (b : Bool) (hb : b = true → (if flat d = true then Kd.own [] else k) = .own []) :
    ∃ us, H' acc = some (.lst us) ∧ us.length = es.length ∧ In K Hs Hm H0 ν acc ρ σ (upd H' acc (.lst (us ++ [v]))) (es ++ [(d, b)]) := by
  have I' := I.same e
  obtain ⟨us, h1, h2, h3⟩ := I'.ac
  have hl := I'.st.hl
  have r' : Res K Z0 ν H H' (if flat d = true then Kd.own [] else k) v d := by
    split
    · exact Res.flat r.den ‹_› hl _
    · exact r
  generalize (if flat d = true then Kd.own [] else k) = k' at hk hb r'
  refine ⟨us, h1, by rw [h2.length, List.length_map], I'.st.updH I'.hd I'.no, I'.sm.put I'.nm, I'.nm, I'.hs, fun a h => ?_, I'.hd, I'.no, us ++ [v], upd_same, ?_, fun q => ?_⟩
  · by_cases z : a = acc
    · subst z; rw [upd_same] at h; cases h
    · rw [upd_ne z] at h; exact I'.sh a h
  · rw [List.map_append]
    have ho := r'.old hl I.st.hl hk
    have all : Dns K (hid (Hd Z0 ν) H') (us ++ [v]) (es.map (·.1) ++ [d]) := h2.append (.cons ho .nil)
    refine Dns.same (fun a o ha => ?_) all
    obtain ⟨g1, g2⟩ := of_hid ha
    have : a ≠ acc := fun z => g2 (.inr (by rw [z]; exact I'.hd))
    exact hid_of (by rw [upd_ne this]; exact g1) g2
  · rw [List.all_append, Bool.and_eq_true] at q
    obtain ⟨q1, q2⟩ := q
    have hb' := hb (by simpa using q2)
    subst hb'
    obtain ⟨ms, g1, g2, g3⟩ := h3 q1
    obtain ⟨ns, k1, k2, k3⟩ := r'
    have frn : ∀ a ∈ ns, H a = none := fun a ha => by
      rcases k3 a ha with z | ⟨j, z, _⟩
      · exact z
      · cases z
    obtain ⟨us0, _, _, h30⟩ := I.ac
    obtain ⟨ms0, g10, g20, g30⟩ := h30 q1
    refine ⟨ms0 ++ ns, ?_, List.nodup_append.mpr ⟨g20, k2, fun x hx y hy e' => ?_⟩, fun a ha => ?_⟩
    · have hu : us0 = us := by
        obtain ⟨us1, z1, _⟩ := I.ac
        have z2 := e _ _ z1
        rw [h1] at z2; cases z2
        rename_i hh _
        have : H acc = some (.lst us0) := by assumption
        rw [z1] at this; cases this; rfl
      subst hu
      rw [List.map_append]
      have hacc : ∀ a ∈ ms0 ++ ns, a ≠ acc := fun a ha z => by
        obtain ⟨o, ho⟩ := I.hs
        rcases List.mem_append.mp ha with ha | ha
        · have := g30 a ha; rw [z, ho] at this; cases this
        · have := I.sh a (frn a ha); rw [z, ho] at this; cases this
      refine (ows_snoc k1 (g10.same e)).kept ⟨fun a ha => upd_ne (hacc a ha), fun a o ha hn => ?_⟩
      have : a ≠ acc := fun z => by rw [z, h1] at ha; cases ha; cases (show true = false from hn)
      rw [upd_ne this]; exact ha
    · subst e'
      obtain ⟨ws, z⟩ := g10.there x hx
      rw [frn x hy] at z; cases z
    · rcases List.mem_append.mp ha with ha | ha
      · exact g30 a ha
      · exact I.sh a (frn a ha)
end
end DL

namespace DL
open PySem PySem.Spec PyProof.Rows L2
def go (f : D → Els → (Els → Prop) → Prop) : List D → Els → (Els → Prop) → Prop
  | [], es, Q => Q es
  | d :: r, es, Q => f d es fun es' => go f r es' Q
def LB (K : PySem.W.Frag) (acc : Addr) (T : List Nat) (tb : TB) : TS := fun En σ H => ∃ Hs Hm H0 ν ρ es Qd, In K Hs Hm H0 ν acc ρ σ H es ∧ tb ρ es Qd ∧ ∀ es' ρ' σ' H', Qd es' → In K Hs Hm H0 ν acc ρ' σ' H' es' → Agr T ρ ρ' → En.nx σ' H'
def LG (K : PySem.W.Frag) (T : List Nat) (bnd : TGD) : TG := fun v σ H Q => ∃ H0 ν ρ d Qd, StOk K Z0 H0 ν ρ σ H ∧ Dn K (hid (Hd Z0 ν) H) v d ∧ bnd d ρ Qd ∧ ∀ ρ' σ', Qd ρ' → StOk K Z0 H0 ν ρ' σ' H → Agr T ρ ρ' → (noOwn ρ → noOwn ρ') → Q σ' H
structure DB (Y : Cx) (K : PySem.W.Frag) (elt : Expr) (gens : List Comprehension) (scope : Scope) (pos : Pos) (d : Nat) (acc : Addr) (T : List Nat) (tb : TB) : Prop where
  q : QB Y elt gens scope pos d acc (LB K acc T tb)
structure DTs (Y : Cx) (K : PySem.W.Frag) (ifs : List Expr) (t : TDT) : Prop where
  q : QTs Y ifs (LT K E0 t)
theorem qg_imp {X : Cx} {e : Expr} {g g' : TG} (h : QG X e g) (i : ∀ v σ H Q, g' v σ H Q → g v σ H Q) : QG X e g' := ⟨fun pins s σ H x u Q I r w => h.h pins s σ H x u Q I r (i x σ H Q w)⟩
theorem qb_imp {Y : Cx} {elt : Expr} {gens : List Comprehension} {scope : Scope} {pos : Pos} {d : Nat} {acc : Addr} {t t' : TS} (h : QB Y elt gens scope pos d acc t) (i : ∀ En σ H, t' En σ H → t En σ H) : QB Y elt gens scope pos d acc t' := ⟨fun pins s σ H D I w => h.h pins s σ H D I (i D σ H w)⟩
theorem DG.lift {X : Cx} {K : PySem.W.Frag} {tg : Expr} {T : List Nat} {bnd : TGD} (h : DG X K tg T bnd) : QG X tg (LG K T bnd) := by
  obtain ⟨g, q, o⟩ := h.ex
  refine qg_imp q fun v σ H Q w => ?_
  obtain ⟨H0, ν, ρ, d, Qd, S, h1, h2, h3⟩ := w
  exact o H0 ν ρ σ H v d Qd Q S h1 h2 h3
def dTrue : TDT := fun _ Q _ => Q true
def isOwnK : Kd → Bool
  | .own [] => true
  | _ => false
def eff (d : D) (k : Kd) : Kd := if flat d = true then Kd.own [] else k
def dEmit (te : TD) : TB := fun ρ es Q => te ρ (fun d k => es.length < 1000000 ∧ (eff d k).isOld = true ∧ Q (es ++ [(d, isOwnK (eff d k))])) Xf
def bFor (ti : TDI) (T : List Nat) (bnd : TGD) (tif : TDT) (tb : TB) : TB := fun ρ es Q => ti ρ (fun ds b => b = true ∧ go (fun d es Q' => bnd d (dropS ρ T) fun ρ' => tif ρ' (fun c => if c = true then tb ρ' es Q' else Q' es) Xf) ds es Q) Xf
section
variable {Y : Cx} {K : PySem.W.Frag} {pos : Pos} {elt : Expr} {gens : List Comprehension} {scope : Scope} {dep : Nat} {acc : Addr}
theorem dpts_nil : DTs Y K [] dTrue := ⟨⟨fun pins s σ H Q I h => qpts_nil.h pins s σ H Q I (by
  obtain ⟨H0, ν, ρ, Qd, Xd, S, h1, q, x⟩ := h
  exact q _ _ h1 (Same.refl H))⟩⟩
theorem dpb_emit {te : TD} (hg : gens[dep + 1]? = none) (hx : Y.xe = fun _ _ => False) (he : DE Y K E0 elt te) : DB Y K elt gens scope pos dep acc [] (dEmit te) := ⟨qb_imp (qpb_emit hg hx he.q) fun En σ H h => by
  obtain ⟨Hs, Hm, H0, ν, ρ, es, Qd, I, h1, q⟩ := h
  refine ⟨H0, ν, ρ, _, _, I.st, h1, fun d k v H' g1 g2 g3 => ?_, fun C H' z _ => z.elim⟩
  obtain ⟨g0, g4, g5⟩ := g1
  obtain ⟨us, k1, k2, I'⟩ := I.emit (He := H) g2 g3 g4 (isOwnK (eff d k)) (fun z => by
    change eff d k = _
    generalize eff d k = k' at z
    unfold isOwnK at z
    split at z
    · rfl
    · cases z)
  exact ⟨us, k1, by rw [k2]; exact Nat.lt_of_lt_of_le g0 million, q _ _ _ _ g5 I' ⟨rfl, fun _ _ => rfl⟩⟩⟩
theorem noOwn_drop {ρ : Ren} {T : List Nat} (h : noOwn ρ) : noOwn (dropS ρ T) := fun i d z => h i d (dropS_get T z).2
theorem StOk.agr {H0 : Hp} {ν : Nat → List Addr} {ρ ρ' : Ren} {σ : L2.St} {H : Hp} {T : List Nat} (S : StOk K Z0 H0 ν ρ' σ H) (A : Agr T ρ ρ') : StOk K Z0 H0 ν (dropS ρ T) σ H :=
  ⟨S.sm, by rw [dropS_len, S.len, A.1], fun i b d h => by
    obtain ⟨h1, h2⟩ := dropS_get T h
    exact S.sl i b d (by rw [A.2 i h1]; exact h2), S.nd, S.dj, S.fr, S.zf⟩
theorem Agr.drop {ρ : Ren} {T : List Nat} : Agr T ρ (dropS ρ T) := by
  refine ⟨dropS_len T ρ, fun i hi => ?_⟩
  induction T generalizing ρ with
  | nil => rfl
  | cons j r ih =>
    rw [List.mem_cons, not_or] at hi
    show (dropS (ρ.set j none) r)[i]? = _
    rw [ih hi.2, List.getElem?_set_ne (Ne.symm hi.1)]
theorem Agr.same {ρ ρ' ρ'' : Ren} {T : List Nat} (h : Agr T ρ ρ') (g : Agr T ρ' ρ'') : Agr T ρ ρ'' := ⟨g.1.trans h.1, fun i hi => by rw [g.2 i hi, h.2 i hi]⟩
theorem Agr.less {ρ ρ' : Ren} {T U : List Nat} (h : Agr T ρ ρ') (s : ∀ i ∈ T, i ∈ U) : Agr U ρ ρ' := ⟨h.1, fun i hi => h.2 i fun z => hi (s i z)⟩
end
section
variable {Y : Cx} {K : PySem.W.Frag} {pos : Pos} {elt : Expr} {gens : List Comprehension} {scope : Scope} {dep : Nat} {acc : Addr}
theorem In.agr {Hs Hm H0 H : Hp} {ν : Nat → List Addr} {ρ ρ' : Ren} {σ : L2.St} {es : Els} {T : List Nat} (I : In K Hs Hm H0 ν acc ρ' σ H es) (A : Agr T ρ ρ') (n : noOwn ρ) : In K Hs Hm H0 ν acc (dropS ρ T) σ H es := I.ren (I.st.agr A) (noOwn_drop n)
/-- a clause's loop -/
theorem go_loop {Hs Hm H0 H F0 : Hp} {ν : Nat → List Addr} {ρ : Ren} {σ : L2.St} {es : Els} {J : It} {ds : List D} {T Tb : List Nat} {bnd : TGD} {tif : TDT} {tb : TB} {Qd : Els → Prop} {En : Ends} (I : In K Hs Hm H0 ν acc ρ σ H es) (it : ItOk K F0 J ds) (hf : Same F0 H0) (hT : ∀ i ∈ T, i ∈ T ++ Tb)
    (h : go (fun d es Q' => bnd d (dropS ρ (T ++ Tb)) fun ρ' => tif ρ' (fun c => if c = true then tb ρ' es Q' else Q' es) Xf) ds es Qd)
    (q : ∀ es' ρ' σ' H', Qd es' → In K Hs Hm H0 ν acc ρ' σ' H' es' → Agr (T ++ Tb) ρ ρ' → En.nx σ' H') :
    loopT J (LG K T bnd) (tIfB (LT K E0 tif) (LB K acc Tb tb)) En σ H := by
  refine ⟨fun i m σ H => m = ds.length - i ∧ i ≤ ds.length ∧ ∃ es, In K Hs Hm H0 ν acc (dropS ρ (T ++ Tb)) σ H es ∧ go (fun d es Q' => bnd d (dropS ρ (T ++ Tb)) fun ρ' => tif ρ' (fun c => if c = true then tb ρ' es Q' else Q' es) Xf) (ds.drop i) es Qd,
    ⟨ds.length, by simp, Nat.zero_le _, es, I.ren (I.st.agr ⟨rfl, fun _ _ => rfl⟩) (noOwn_drop I.no), by simpa using h⟩, ?_⟩
  rintro i m σ2 H2 ⟨rfl, hi, es2, I2, w2⟩
  obtain ⟨i1, i2⟩ := it (Hd Z0 ν) H2 I2.st.hl (hf.trans I2.st.base)
  by_cases hlt : i < ds.length
  · obtain ⟨j1, j2⟩ := i2 i ds[i] (List.getElem?_eq_getElem hlt)
    rw [List.drop_eq_getElem_cons hlt] at w2
    have back : ∀ es3 ρ3 σ3 H3, go (fun d es Q' => bnd d (dropS ρ (T ++ Tb)) fun ρ' => tif ρ' (fun c => if c = true then tb ρ' es Q' else Q' es) Xf) (ds.drop (i + 1)) es3 Qd → In K Hs Hm H0 ν acc ρ3 σ3 H3 es3 → Agr (T ++ Tb) (dropS ρ (T ++ Tb)) ρ3 →
        ∃ es, In K Hs Hm H0 ν acc (dropS ρ (T ++ Tb)) σ3 H3 es ∧ go (fun d es Q' => bnd d (dropS ρ (T ++ Tb)) fun ρ' => tif ρ' (fun c => if c = true then tb ρ' es Q' else Q' es) Xf) (ds.drop (i + 1)) es Qd := fun es3 ρ3 σ3 H3 g3 I3 A3 => ⟨es3, I3.agr (Agr.same Agr.drop A3) I.no, g3⟩
    refine .inr ⟨j1, fun σ' H' => ∃ es, In K Hs Hm H0 ν acc (dropS ρ (T ++ Tb)) σ' H' es ∧ go (fun d es Q' => bnd d (dropS ρ (T ++ Tb)) fun ρ' => tif ρ' (fun c => if c = true then tb ρ' es Q' else Q' es) Xf) (ds.drop (i + 1)) es Qd, fun σ' H' ⟨es', a, b⟩ => ⟨_, by omega, rfl, hlt, es', a, b⟩, fun y H' hy => ?_⟩
    obtain ⟨k1, k2⟩ := j2 y H' hy
    refine ⟨H0, ν, _, _, _, (I2.same k1).st, k2, w2, fun ρ3 σ3 b3 S3 A3 n3 => ?_⟩
    have I3 := (I2.same k1).ren S3 (n3 I2.no)
    have A3' : Agr (T ++ Tb) (dropS ρ (T ++ Tb)) ρ3 := A3.less hT
    refine ⟨H0, ν, ρ3, _, _, S3, b3, fun c H4 g4 e4 => ?_, fun C H' z _ => z.elim⟩
    cases c with
    | true =>
      rw [if_pos rfl] at g4 ⊢
      exact ⟨Hs, Hm, H0, ν, ρ3, es2, _, I3.same e4, g4, fun es5 ρ5 σ5 H5 g5 I5 A5 => back es5 ρ5 σ5 H5 g5 I5 (Agr.same A3' (A5.less fun i hi => List.mem_append_right _ hi))⟩
    | false =>
      rw [if_neg Bool.false_ne_true] at g4 ⊢
      exact back es2 ρ3 σ3 H4 g4 (I3.same e4) A3'
  · have e : i = ds.length := by omega
    subst e
    rw [List.drop_length] at w2
    exact .inl ⟨i1, q es2 _ σ2 H2 w2 I2 Agr.drop⟩
end
/-! a list comprehension -/
def capR (own : List Str) (cap : List (Str × Nat)) (ρ : Ren) : Ren := own.map (fun _ => none) ++ cap.map fun p => ((ρ[p.2]?).join).map fun y => (false, y.2)
def capOk (cap : List (Str × Nat)) (ρ : Ren) : Bool := cap.all fun p => match (ρ[p.2]?).join with
  | some (true, _) => false
  | _ => true
def dLC (ti : TDI) (T : List Nat) (bnd : TGD) (tif : TDT) (tb : TB) (own : List Str) (cap : List (Str × Nat)) : TD := fun ρ Q Xd => ti ρ (fun ds b =>
  go (fun d es Q' => bnd d (dropS (capR own cap ρ) T) fun ρ' => tif ρ' (fun c => if c = true then tb ρ' es Q' else Q' es) Xf) ds [] fun es => Q (.list (es.map (·.1))) (if es.all (·.2) = true then .own [] else if (b && capOk cap ρ) = true then .old else .mix)) Xd
end DL

namespace DL
open PySem PySem.Spec PyProof.Rows L2
section
variable {K : PySem.W.Frag}
theorem capR_get {own : List Str} {cap : List (Str × Nat)} {ρ : Ren} {i : Nat} {b : Bool} {d : D} (h : (capR own cap ρ)[i]? = some (some (b, d))) : b = false ∧ ∃ p c, cap[i - own.length]? = some p ∧ own.length ≤ i ∧ ρ[p.2]? = some (some (c, d)) := by
  unfold capR at h
  by_cases hi : i < own.length
  · rw [List.getElem?_append_left (by simpa using hi), List.getElem?_map] at h
    cases e : own[i]? with
    | none => rw [e] at h; cases h
    | some _ => rw [e] at h; cases h
  · rw [List.getElem?_append_right (by simpa using Nat.le_of_not_lt hi), List.length_map, List.getElem?_map] at h
    cases e : cap[i - own.length]? with
    | none => rw [e] at h; cases h
    | some p =>
      rw [e] at h
      simp only [Option.map_some, Option.some.injEq] at h
      cases e2 : ρ[p.2]? with
      | none => rw [e2] at h; cases h
      | some x =>
        rw [e2] at h
        cases x with
        | none => cases h
        | some y => cases h; exact ⟨rfl, p, y.1, rfl, Nat.le_of_not_lt hi, e2⟩
theorem capS_get {own : List Str} {cap : List (Str × Nat)} {σ : L2.St} {i : Nat} {p : Str × Nat} {v : V} (h : cap[i - own.length]? = some p) (hi : own.length ≤ i) (hv : σ[p.2]? = some (some v)) : (capS own cap σ)[i]? = some (some v) := by
  unfold capS
  rw [List.getElem?_append_right (by simpa using hi), List.length_map, List.getElem?_map, h]
  simp [hv]
theorem capR_no {own : List Str} {cap : List (Str × Nat)} {ρ : Ren} : noOwn (capR own cap ρ) := fun i d h => by
  have := (capR_get h).1; cases this
def capN (ok : Bool) (acc : Addr) (ν : Nat → List Addr) : Nat → List Addr
  | 0 => [acc]
  | i + 1 => if ok = true then ν i else []
theorem capN_succ {ok : Bool} {acc : Addr} {ν : Nat → List Addr} {i : Nat} : capN ok acc ν (i + 1) = if ok = true then ν i else [] := rfl
theorem lc_start {own : List Str} {cap : List (Str × Nat)} {H0 H1 : Hp} {ν : Nat → List Addr} {ρ : Ren} {σ : L2.St} {acc : Addr} (S : StOk K Z0 H0 ν ρ σ H1) (ha : H1 acc = none) (ok : Bool) (hok : ok = true → capOk cap ρ = true) :
    In K (upd H1 acc (.lst [])) H1 (fz ok ν H1) (capN ok acc ν) acc (capR own cap ρ) (capS own cap σ) (upd H1 acc (.lst [])) [] := by
  have sm : Same H1 (upd H1 acc (.lst [])) := Same.new ha
  have fzs : Same (fz ok ν H1) H1 := by unfold fz; split; exact hid_same; exact Same.refl _
  have nacc : ∀ i, acc ∉ ν i := fun i z => by obtain ⟨_, _, us, q⟩ := S.fr i acc z; rw [ha] at q; cases q
  refine ⟨⟨fzs.trans sm, ?_, ?_, ?_, ?_, ?_, fun a z => z.elim⟩, sm, ha, ⟨_, upd_same⟩, fun a h => h, ⟨0, by simp [capN]⟩, capR_no, [], upd_same, .nil, fun _ => ⟨[], .nil, List.nodup_nil, fun _ z => by cases z⟩⟩
  · unfold capS capR; simp
  · intro i b d h
    obtain ⟨rfl, p, c, h1, h2, h3⟩ := capR_get h
    obtain ⟨v, g1, g2⟩ := S.sl p.2 c d h3
    refine ⟨v, capS_get h1 h2 g1, ?_⟩
    cases ok with
    | true =>
      have hc := hok rfl
      unfold capOk at hc
      have hc := List.all_eq_true.mp hc p (List.mem_of_getElem? h1)
      rw [h3] at hc
      cases c with
      | true => cases hc
      | false =>
        refine Dn.same (fun a o q => ?_) (show Dn K (hid (Hd Z0 ν) H1) v d from g2)
        obtain ⟨q1, q2⟩ := of_hid q
        refine hid_of (sm _ _ q1) fun z => ?_
        rcases z with z | ⟨j, z⟩
        · exact z
        · cases j with
          | zero => rw [show capN true acc ν 0 = [acc] from rfl, List.mem_singleton] at z; rw [z, ha] at q1; cases q1
          | succ j => exact q2 (.inr ⟨j, z⟩)
    | false =>
      have gd : Dn K H1 v d := by
        cases c with
        | true => exact Ow.den g2
        | false => exact Dn.same hid_same g2
      refine Dn.same (fun a o q => ?_) gd
      refine hid_of (sm _ _ q) fun z => ?_
      rcases z with z | ⟨j, z⟩
      · exact z
      · cases j with
        | zero => rw [show capN false acc ν 0 = [acc] from rfl, List.mem_singleton] at z; rw [z, ha] at q; cases q
        | succ j => cases z
  · intro i
    cases i with
    | zero => simp [capN]
    | succ i => rw [capN_succ]; split; exact S.nd i; exact List.nodup_nil
  · intro i j a hi hj
    cases i with
    | zero =>
      have e : a = acc := by simpa [capN] using hi
      cases j with
      | zero => rfl
      | succ j =>
        rw [capN_succ] at hj
        split at hj
        · rw [e] at hj; exact absurd hj (nacc j)
        · cases hj
    | succ i =>
      rw [capN_succ] at hi
      split at hi
      case isFalse => cases hi
      case isTrue =>
        cases j with
        | zero =>
          have e : a = acc := by simpa [capN] using hj
          rw [e] at hi; exact absurd hi (nacc i)
        | succ j =>
          rename_i hk
          rw [capN_succ, if_pos hk] at hj
          rw [S.dj i j a hi hj]
  · intro i a h
    cases i with
    | zero =>
      have e : a = acc := by simpa [capN] using h
      subst e
      exact ⟨fzs.gone ha, fun z => z, Mu.lst upd_same⟩
    | succ i =>
      rw [capN_succ] at h
      split at h
      case isFalse => cases h
      case isTrue hk =>
        obtain ⟨_, _, us, q⟩ := S.fr i a h
        refine ⟨?_, fun z => z, us, sm _ _ q⟩
        unfold fz; rw [if_pos hk]; unfold hid; rw [if_pos (.inr ⟨i, h⟩)]
theorem lc_end {H0 Hs H1 H' Hq : Hp} {ν : Nat → List Addr} {ρ ρr : Ren} {σ σr : L2.St} {acc : Addr} {es : Els} {ok : Bool} (S : StOk K Z0 H0 ν ρ σ Hs) (e1 : Same Hs H1) (ha : H1 acc = none) (I : In K (upd H1 acc (.lst [])) H1 Hq (capN ok acc ν) acc ρr σr H' es) :
    Res K Z0 ν Hs H' (if es.all (·.2) = true then .own [] else if ok = true then .old else .mix) (.ref acc) (.list (es.map (·.1))) := by
  obtain ⟨us, h1, h2, h3⟩ := I.ac
  split
  · obtain ⟨ms, g1, g2, g3⟩ := h3 ‹_›
    refine ⟨acc :: ms, .lst h1 g1, List.nodup_cons.mpr ⟨fun z => ?_, g2⟩, fun a hm => .inl ?_⟩
    · have := g3 acc z; rw [upd_same] at this; cases this
    · rcases List.mem_cons.mp hm with rfl | hm
      · exact e1.gone ha
      · have := g3 a hm
        by_cases z : a = acc
        · subst z; exact e1.gone ha
        · rw [upd_ne z] at this; exact e1.gone this
  · split
    case isTrue hk =>
      have hz : ¬ Hd Z0 ν acc := fun z => by obtain ⟨us, q⟩ := S.hl acc z; rw [e1.gone ha] at q; cases q
      refine .lst (hid_of h1 hz) (Dns.same (hid_less fun a z => ?_) h2)
      rcases z with z | ⟨j, z⟩
      · exact z.elim
      · exact .inr ⟨j + 1, by rw [capN_succ, if_pos hk]; exact z⟩
    case isFalse => exact .lst h1 (Dns.same hid_same h2)
end
section
variable {X : Cx} {K : PySem.W.Frag} {E : XK} {pos : Pos} {elt tg iter : Expr} {ifs : List Expr} {rest : List Comprehension} {scope : Scope} {ti : TDI} {T Tb : List Nat} {bnd : TGD} {tif : TDT} {tb : TB}
theorem le_lc {own : List Str} {cap : List (Str × Nat)} : ∀ σ H Q, LE K E (dLC ti (T ++ Tb) bnd tif tb own cap) σ H Q → tLC (LI K E ti) (LG K T bnd) (LT K E0 tif) (fun acc => LB K acc Tb tb) own cap σ H Q := fun σ H Q h => by
  obtain ⟨H0, ν, ρ, Qd, Xd, S, h1, q, x⟩ := h
  refine ⟨H0, ν, ρ, _, Xd, S, h1, fun ds b J H1 g1 e1 it => ?_, x⟩
  intro acc ha
  obtain ⟨ok, hk⟩ : ∃ ok, ok = (b && capOk cap ρ) := ⟨_, rfl⟩
  have I := lc_start (own := own) (S.same e1) ha ok (fun z => by rw [hk, Bool.and_eq_true] at z; exact z.2)
  have hf : Same (fz b ν H1) (fz ok ν H1) := by
    cases ok with
    | true =>
      have : b = true := by rw [Eq.comm, Bool.and_eq_true] at hk; exact hk.1
      rw [this]; exact Same.refl _
    | false => unfold fz; split; exact hid_same; exact Same.refl _
  refine go_loop I it hf (fun i hi => List.mem_append_left _ hi) g1 fun es' ρ' σ' H' a I' A => ?_
  rw [← hk] at a
  exact q _ _ _ H' a (e1.trans I'.sm) (lc_end S e1 ha I')
theorem dpe_lc (own : List Str) (cap : List (Str × Nat)) (hc : X.calm = true) (L : LcScope X scope own cap) (hi : DI X K E tg iter ti)
    (hin : ∀ (s₃ : Shared) (H₃ : Hp) (fp : List Addr) (acc : Addr), DG (X.inn scope (L2.capN own cap) s₃ H₃ fp) K tg T bnd ∧ DTs (X.inn scope (L2.capN own cap) s₃ H₃ fp) K ifs tif ∧ DB (X.inn scope (L2.capN own cap) s₃ H₃ fp) K elt (⟨tg, iter, ifs, 0⟩ :: rest) scope pos 0 acc Tb tb)
    (hs : ∀ x, foldedSetIterable iter X.env x = pure x := by intro _; rfl) : DE X K E (.ListComp elt (⟨tg, iter, ifs, 0⟩ :: rest) scope pos) (dLC ti (T ++ Tb) bnd tif tb own cap) :=
  ⟨qe_imp (qpe_lc own cap hc L hi.q (fun a b c d => ⟨(hin a b c d).1.lift, (hin a b c d).2.1.q, (hin a b c d).2.2.q⟩) hs) le_lc⟩
theorem dps_setlc {i : Nat} {y : Str} {py spos : Pos} (own : List Str) (cap : List (Str × Nat)) (hN : X.N.Nodup) (hyi : X.N[i]? = some y) (hy : X.env.scope.names.lookup y = some .local) (hc : X.calm = true) (L : LcScope X scope own cap) (hi : DI X K E tg iter ti)
    (hin : ∀ (s₃ : Shared) (H₃ : Hp) (fp : List Addr) (acc : Addr), DG (X.inn scope (L2.capN own cap) s₃ H₃ fp) K tg T bnd ∧ DTs (X.inn scope (L2.capN own cap) s₃ H₃ fp) K ifs tif ∧ DB (X.inn scope (L2.capN own cap) s₃ H₃ fp) K elt (⟨tg, iter, ifs, 0⟩ :: rest) scope pos 0 acc Tb tb)
    (hsw : swapsWith (.ListComp elt (⟨tg, iter, ifs, 0⟩ :: rest) scope pos) (some (.Name y py)) spos.line X.env = pure true := by rfl) (hs : ∀ x, foldedSetIterable iter X.env x = pure x := by intro _; rfl) :
    DS X K E (.Assign [.Name y py] (.ListComp elt (⟨tg, iter, ifs, 0⟩ :: rest) scope pos) spos) (dSet i (dLC ti (T ++ Tb) bnd tif tb own cap)) :=
  ⟨qs_imp (qps_setlc own cap hN hyi hy hc L hi.q (fun a b c d => ⟨(hin a b c d).1.lift, (hin a b c d).2.1.q, (hin a b c d).2.2.q⟩) hsw hs) fun En σ H h => by
    obtain ⟨H0, ν, ρ, Dd, Xd, S, h1, ok, x⟩ := h
    refine le_lc σ H _ ⟨H0, ν, ρ, _, Xd, S, h1, fun d k v H' g1 g2 g3 => ?_, x⟩
    obtain ⟨ν', S'⟩ := S.setK g2 g3 i
    exact ok.nx _ _ _ _ g1 S'⟩
end
end DL

namespace DL
open PySem PySem.Spec PyProof.Rows L2
section
variable {K : PySem.W.Frag} {H0 H H' : Hp} {ν : Nat → List Addr} {ρ : Ren} {σ : L2.St} {v : V} {d : D}
/-- a tree of ours is changed in its place: what is no node of it stays; nodes of the names s go over to it -/
theorem StOk.mut (S : StOk K Z0 H0 ν ρ σ H) (s : List Nat) (i : Nat) {ms : List Addr} (hi : σ[i]? = some (some v)) (hr : i < ρ.length) (k : ∀ a o, H a = some o → a ∉ ν i → H' a = some o) (h : Ow K H' v d ms) (nd : ms.Nodup) (fr : ∀ a ∈ ms, a ∈ ν i ∨ H a = none ∨ ∃ j ∈ s, a ∈ ν j) (hs : i ∉ s)
    (gone : ∀ j ∈ s, ∀ a ∈ ν j, Mu H' a) :
    StOk K Z0 H0 (fun j => if j = i then ms else if j ∈ s then [] else ν j) ((dropS ρ s).set i (some (true, d))) σ H' where
  sm := fun a o ha => k a o (S.sm a o ha) fun z => by rw [(S.fr i a z).1] at ha; cases ha
  len := by rw [List.length_set, dropS_len]; exact S.len
  sl := fun j b c hj => by
    rcases set_get hj with ⟨rfl, h1, h2⟩ | ⟨h1, h2⟩
    · cases h1
      exact ⟨v, hi, by rw [if_pos rfl]; rw [if_pos rfl]; exact h⟩
    · obtain ⟨h3, h4⟩ := dropS_get s h2
      obtain ⟨u, q1, q2⟩ := S.sl j b c h4
      refine ⟨u, q1, ?_⟩
      cases b with
      | true =>
        rw [if_pos rfl, if_neg h1, if_neg h3]
        have q2 : Ow K H u c (ν j) := q2
        refine q2.kept ⟨fun a ha => ?_, fun a o ha hn => k a o ha fun z => ?_⟩
        · obtain ⟨us, q⟩ := q2.there a ha
          rw [k a _ q fun z => h1 (S.dj j i a ha z), q]
        · exact (S.fr i a z).2.2.no ha hn
      | false =>
        refine Dn.same (fun a o ha => ?_) q2
        obtain ⟨g1, g2⟩ := of_hid ha
        refine hid_of (k a o g1 fun z => g2 (.inr ⟨i, z⟩)) fun z => ?_
        rcases z with z | ⟨l, z⟩
        · exact z
        · have z : a ∈ (if l = i then ms else if l ∈ s then [] else ν l) := z
          split at z
          · rcases fr a z with z | z | ⟨l, _, z⟩
            · exact g2 (.inr ⟨i, z⟩)
            · rw [g1] at z; cases z
            · exact g2 (.inr ⟨l, z⟩)
          · split at z
            · cases z
            · exact g2 (.inr ⟨l, z⟩)
  nd := fun j => by
    split
    · exact nd
    · split
      · exact List.nodup_nil
      · exact S.nd j
  dj := fun j l a hj hl => by
    have key : ∀ m, m ≠ i → m ∉ s → a ∈ ν m → a ∉ ms := fun m hm hms ha hz => by
      rcases fr a hz with z | z | ⟨n, hn, z⟩
      · exact hm (S.dj m i a ha z)
      · obtain ⟨_, _, us, q⟩ := S.fr m a ha; rw [z] at q; cases q
      · rw [S.dj m n a ha z] at hms; exact hms hn
    split at hj
    · split at hl
      · omega
      · split at hl
        · cases hl
        · exact absurd hj (key l ‹_› ‹_› hl)
    · split at hj
      · cases hj
      · split at hl
        · exact absurd hl (key j ‹_› ‹_› hj)
        · split at hl
          · cases hl
          · exact S.dj j l a hj hl
  fr := fun j a ha => by
    split at ha
    · have ht := h.there a ha
      rcases fr a ha with z | z | ⟨m, _, z⟩
      · exact ⟨(S.fr i a z).1, (fun q => q), ht⟩
      · exact ⟨S.sm.gone z, (fun q => q), ht⟩
      · exact ⟨(S.fr m a z).1, (fun q => q), ht⟩
    · split at ha
      · cases ha
      · obtain ⟨q1, q2, us, q3⟩ := S.fr j a ha
        exact ⟨q1, q2, us, k a _ q3 fun z => absurd (S.dj j i a ha z) ‹_›⟩
  zf := fun a h => h.elim
theorem eff_own {k : Kd} {s : List Nat} {Hs : Hp} (e : eff d k = .own s) (hl : ∀ a, Hd Z0 ν a → Mu H a) (h : Res K Z0 ν Hs H k v d) : ∃ ms, Ow K H v d ms ∧ ms.Nodup ∧ ∀ a ∈ ms, Hs a = none ∨ ∃ j ∈ s, a ∈ ν j := by
  have h' : Res K Z0 ν Hs H (eff d k) v d := by
    unfold eff
    split
    · exact Res.flat h.den ‹_› hl _
    · exact h
  rw [e] at h'
  exact h'
end
section
variable {X : Cx} {K : PySem.W.Frag} {E : XK} {pos apos cpos : Pos} {e : Expr} {te t1 t2 : TD}
/-! ### x.append(e) -/
def dApp (i : Nat) (te : TD) : TSD := fun Dd ρ Xd => ∃ ds, ρ[i]? = some (some (true, .list ds)) ∧ ds.length < 1000000 ∧ te ρ (fun d k => match eff d k with
  | .own s => i ∉ s ∧ Dd.nx ((dropS ρ s).set i (some (true, .list (ds ++ [d]))))
  | _ => False) Xd
theorem own_list {H0 H : Hp} {ν : Nat → List Addr} {ρ : Ren} {σ : L2.St} {i : Nat} {ds : List D} (S : StOk K Z0 H0 ν ρ σ H) (h : ρ[i]? = some (some (true, .list ds))) : ∃ a us ns, σ[i]? = some (some (.ref a)) ∧ H a = some (.lst us) ∧ Ows K H us ds ns ∧ ν i = a :: ns ∧ a ∉ ns ∧ ns.Nodup := by
  obtain ⟨v, h1, h2⟩ := S.sl i true _ h
  have h2 : Ow K H v (.list ds) (ν i) := h2
  have hn := S.nd i
  generalize hv : ν i = n at h2 hn
  cases h2 with
  | lst h r => exact ⟨_, _, _, h1, h, r, rfl, (List.nodup_cons.mp hn).1, (List.nodup_cons.mp hn).2⟩
theorem len_of {α : Type} {l : List α} {i : Nat} {x : α} (h : l[i]? = some x) : i < l.length := (List.getElem?_eq_some_iff.mp h).1
theorem dps_append (i : Nat) {x : Str} {px : Pos} (hK : X.K = K) (ho : QE X (.Name x px) (tVar i)) (he : DE X K E e te) (hs : starEach [e] X.env = [(false, eval e X.env)]) (hbase : attributeBase (.Name x px) "append" X.env (eval (.Name x px) X.env) = eval (.Name x px) X.env) (hline : (apos.endLine == cpos.line) = true)
    (hsw : swapsWith (.Call (.Attribute (.Name x px) "append" apos) [e] [] cpos) none pos.line X.env = pure false := by rfl) : DS X K E (.Expr (.Call (.Attribute (.Name x px) "append" apos) [e] [] cpos) pos) (dApp i te) := ⟨qs_imp (qps_expr (qpm_appendK K hK ho he.q hs hbase hline) hsw) fun En σ H h => by
  obtain ⟨H0, ν, ρ, Dd, Xd, S, ⟨ds, h1, h2, h3⟩, ok, x⟩ := h
  obtain ⟨a, us, ns, g1, g2, g3, g4, g5, g6⟩ := own_list S h1
  refine ⟨_, g1, tyl (SqL.of g2), H0, ν, ρ, _, Xd, S, h3, fun d k v H1 q1 e1 r1 => ?_, x⟩
  split at q1
  case h_2 => exact q1.elim
  case h_1 s es =>
    obtain ⟨ms, m1, m2, m3⟩ := eff_own es (S.same e1).hl r1
    have ha1 : H1 a = some (.lst us) := e1 _ _ g2
    have nm : ∀ b ∈ ms, b ∉ ν i := fun b hb z => by
      rcases m3 b hb with y | ⟨j, hj, y⟩
      · obtain ⟨_, _, us, w⟩ := S.fr i b z; rw [y] at w; cases w
      · rw [S.dj i j b z y] at q1; exact q1.1 hj
    have ham : a ∉ ms := fun z => nm a z (by rw [g4]; exact List.mem_cons_self)
    refine ⟨a, us, v, rfl, rfl, ha1, by rw [g3.den.length]; exact Nat.lt_of_lt_of_le h2 million, ?_⟩
    have S1 := S.same e1
    refine ok.nx _ _ _ _ q1.2 (S.mut s i (ms := a :: (ns ++ ms)) (v := .ref a) g1 (len_of h1) (fun b o hb hn => ?_) ?_ ?_ ?_ q1.1 ?_)
    · rw [upd_ne (fun z => hn (by rw [z, g4]; exact List.mem_cons_self))]; exact e1 _ _ hb
    · have kp : ∀ l : List Addr, (∀ b ∈ l, b ≠ a) → Kept l H1 (upd H1 a (.lst (us ++ [v]))) := fun l hl => ⟨fun b hb => upd_ne (hl b hb), fun b o hb hn => by
        have : b ≠ a := fun z => by rw [z, ha1] at hb; cases hb; cases (show true = false from hn)
        rw [upd_ne this]; exact hb⟩
      have A := (g3.same e1).kept (kp ns fun b hb z => g5 (z ▸ hb))
      have B := m1.kept (kp ms fun b hb z => ham (z ▸ hb))
      exact .lst upd_same (ows_snoc B A)
    · refine List.nodup_cons.mpr ⟨fun z => ?_, List.nodup_append.mpr ⟨g6, m2, fun y hy z hz e => ?_⟩⟩
      · rcases List.mem_append.mp z with z | z
        · exact g5 z
        · exact ham z
      · subst e; exact nm y hz (by rw [g4]; exact List.mem_cons_of_mem _ hy)
    · intro b hb
      rcases List.mem_cons.mp hb with rfl | hb
      · exact .inl (by rw [g4]; exact List.mem_cons_self)
      · rcases List.mem_append.mp hb with hb | hb
        · exact .inl (by rw [g4]; exact List.mem_cons_of_mem _ hb)
        · rcases m3 b hb with y | y
          · exact .inr (.inl y)
          · exact .inr (.inr y)
    · intro j hj b hb
      obtain ⟨_, _, us', w⟩ := S1.fr j b hb
      have : b ≠ a := fun z => by
        have := S.dj i j b (by rw [g4, z]; exact List.mem_cons_self) hb
        rw [this] at q1; exact q1.1 hj
      exact ⟨us', by rw [upd_ne this]; exact w⟩⟩
end
end DL

namespace DL
open PySem PySem.Spec PyProof.Rows L2
section
variable {K : PySem.W.Frag}
theorem ows_split {H : Hp} : ∀ {us : List V} {ds : List D} {ns : List Addr} {j : Nat} {c : D}, Ows K H us ds ns → ds[j]? = some c → ∃ n1 n2 n3 u, ns = n1 ++ (n2 ++ n3) ∧ us[j]? = some u ∧ Ow K H u c n2 ∧
    (∀ H', Kept n1 H H' → Kept n3 H H' → ∀ v d ms, Ow K H' v d ms → Ows K H' (us.set j v) (ds.set j d) (n1 ++ (ms ++ n3))) ∧ ∀ H', Kept n1 H H' → Kept n3 H H' → Ows K H' (us.eraseIdx j) (ds.eraseIdx j) (n1 ++ n3)
  | _, _, _, 0, c, .cons (ns := n) (ms := m) h r, e => by
    simp at e; subst e
    exact ⟨[], n, m, _, rfl, rfl, h, fun H' _ k v d ms q => by simpa using Ows.cons q (r.kept k), fun H' _ k => by simpa using r.kept k⟩
  | _, _, _, j + 1, c, .cons (ns := n) (ms := m) h r, e => by
    simp at e
    obtain ⟨n1, n2, n3, u, e1, e2, e3, e4, e5⟩ := ows_split r e
    refine ⟨n ++ n1, n2, n3, u, by rw [e1]; simp, by simpa using e2, e3, fun H' k1 k3 v d ms q => ?_, fun H' k1 k3 => ?_⟩
    · have := Ows.cons (h.kept ⟨fun a ha => k1.1 a (List.mem_append_left _ ha), k1.2⟩) (e4 H' ⟨fun a ha => k1.1 a (List.mem_append_right _ ha), k1.2⟩ k3 v d ms q)
      simpa using this
    · have := Ows.cons (h.kept ⟨fun a ha => k1.1 a (List.mem_append_left _ ha), k1.2⟩) (e5 H' ⟨fun a ha => k1.1 a (List.mem_append_right _ ha), k1.2⟩ k3)
      simpa using this
theorem kept_upd {H H1 : Hp} {b : Addr} {o ow : HO} {l : List Addr} (e : Same H H1) (hb : H b = some ow) (hl : ∀ a ∈ l, (Mu H a) ∧ a ≠ b) (mb : muO ow = true := by rfl) : Kept l H (upd H1 b o) := ⟨fun a ha => by
  obtain ⟨⟨us, q⟩, z⟩ := hl a ha
  rw [upd_ne z, q]; exact e _ _ q, fun a o' ha hn => by
  have : a ≠ b := fun z => by rw [z, hb] at ha; cases ha; rw [mb] at hn; cases hn
  rw [upd_ne this]; exact e _ _ ha⟩
theorem kept_upd1 {H1 : Hp} {b : Addr} {o ow : HO} {l : List Addr} (hb : H1 b = some ow) (hl : ∀ a ∈ l, a ≠ b) (mb : muO ow = true := by rfl) : Kept l H1 (upd H1 b o) := ⟨fun a ha => upd_ne (hl a ha), fun a o' ha hn => by
  have : a ≠ b := fun z => by rw [z, hb] at ha; cases ha; rw [mb] at hn; cases hn
  rw [upd_ne this]; exact ha⟩
theorem new_out {H0 H : Hp} {ν : Nat → List Addr} {ρ : Ren} {σ : L2.St} {i : Nat} {s : List Nat} {ms : List Addr} (S : StOk K Z0 H0 ν ρ σ H) (m3 : ∀ b ∈ ms, H b = none ∨ ∃ l ∈ s, b ∈ ν l) (hs : i ∉ s) : ∀ b ∈ ms, b ∉ ν i := fun b hb z => by
  rcases m3 b hb with y | ⟨j, hj, y⟩
  · obtain ⟨_, _, us, w⟩ := S.fr i b z; rw [y] at w; cases w
  · rw [S.dj i j b z y] at hs; exact hs hj
theorem gone_ok {H0 H H2 : Hp} {ν : Nat → List Addr} {ρ : Ren} {σ : L2.St} {i : Nat} {s : List Nat} {a : Addr} {o : HO} (S : StOk K Z0 H0 ν ρ σ H) (hs : i ∉ s) (e : Same H H2) (ha : a ∈ ν i) : ∀ j ∈ s, ∀ b ∈ ν j, Mu (upd H2 a o) b := fun j hj b hb => by
  obtain ⟨_, _, us', w⟩ := S.fr j b hb
  have : b ≠ a := fun z => by
    have := S.dj i j b (by rw [z]; exact ha) hb
    rw [this] at hs; exact hs hj
  exact ⟨us', by rw [upd_ne this]; exact e _ _ w⟩
/-- an item of a list of ours is put -/
theorem StOk.put1 {H0 H H1 H2 : Hp} {ν : Nat → List Addr} {ρ : Ren} {σ : L2.St} {i j : Nat} {ds : List D} {a : Addr} {us : List V} {ns ms : List Addr} {s : List Nat} {v : V} {d c : D} (S : StOk K Z0 H0 ν ρ σ H) (h1 : ρ[i]? = some (some (true, .list ds))) (g1 : σ[i]? = some (some (.ref a))) (g2 : H a = some (.lst us)) (g3 : Ows K H us ds ns) (g4 : ν i = a :: ns) (g5 : a ∉ ns) (g6 : ns.Nodup)
    (hj : ds[j]? = some c) (e1 : Same H H1) (m1 : Ow K H1 v d ms) (m2 : ms.Nodup) (m3 : ∀ b ∈ ms, H b = none ∨ ∃ l ∈ s, b ∈ ν l) (hs : i ∉ s) (e2 : Same H1 H2) :
    ∃ ν', StOk K Z0 H0 ν' ((dropS ρ s).set i (some (true, .list (ds.set j d)))) σ (upd H2 a (.lst (us.set j v))) := by
  obtain ⟨n1, n2, n3, u, q1, q2, q3, q4, _⟩ := ows_split g3 hj
  have e := e1.trans e2
  have nm := new_out S m3 hs
  have ham : a ∉ ms := fun z => nm a z (by rw [g4]; exact List.mem_cons_self)
  have inI : ∀ b, b ∈ n1 ∨ b ∈ n3 → b ∈ ns := fun b hb => by rw [q1]; rcases hb with hb | hb <;> simp [hb]
  have nu := g6
  rw [q1, List.nodup_append, List.nodup_append] at nu
  have k1 : ∀ l : List Addr, (∀ b ∈ l, b ∈ ns) → Kept l H (upd H2 a (.lst (us.set j v))) := fun l hl => kept_upd e g2 fun b hb => ⟨g3.there b (hl b hb), fun z => g5 (z ▸ hl b hb)⟩
  have B := (m1.same e2).kept (kept_upd1 (o := .lst (us.set j v)) (e _ _ g2) fun b hb z => ham (z ▸ hb))
  refine ⟨_, S.mut s i (ms := a :: (n1 ++ (ms ++ n3))) (v := .ref a) g1 (len_of h1) (fun b o hb hn => ?_) (.lst upd_same (q4 _ (k1 n1 fun b hb => inI b (.inl hb)) (k1 n3 fun b hb => inI b (.inr hb)) v d ms B)) ?_ ?_ hs (gone_ok S hs e (by rw [g4]; exact List.mem_cons_self))⟩
  · rw [upd_ne (fun z => hn (by rw [z, g4]; exact List.mem_cons_self))]; exact e _ _ hb
  · refine List.nodup_cons.mpr ⟨fun z => ?_, List.nodup_append.mpr ⟨nu.1, List.nodup_append.mpr ⟨m2, nu.2.1.2.1, fun x hx y hy z => ?_⟩, fun x hx y hy z => ?_⟩⟩
    · rcases List.mem_append.mp z with z | z
      · exact g5 (inI a (.inl z))
      · rcases List.mem_append.mp z with z | z
        · exact ham z
        · exact g5 (inI a (.inr z))
    · subst z; exact nm x hx (by rw [g4]; exact List.mem_cons_of_mem _ (inI x (.inr hy)))
    · subst z
      rcases List.mem_append.mp hy with hy | hy
      · exact nm x hy (by rw [g4]; exact List.mem_cons_of_mem _ (inI x (.inl hx)))
      · exact nu.2.2 x hx x (List.mem_append_right _ hy) rfl
  · intro b hb
    rcases List.mem_cons.mp hb with rfl | hb
    · exact .inl (by rw [g4]; exact List.mem_cons_self)
    · rcases List.mem_append.mp hb with hb | hb
      · exact .inl (by rw [g4]; exact List.mem_cons_of_mem _ (inI b (.inl hb)))
      · rcases List.mem_append.mp hb with hb | hb
        · exact .inr (m3 b hb)
        · exact .inl (by rw [g4]; exact List.mem_cons_of_mem _ (inI b (.inr hb)))
end
end DL

namespace DL
open PySem PySem.Spec PyProof.Rows L2
section
variable {X : Cx} {K : PySem.W.Frag} {E : XK} {pos p1 p2 px : Pos} {e e1 e2 : Expr} {te t1 t2 : TD} {x : Str}
theorem some_of_lt {α : Type} {l : List α} {j : Nat} (h : j < l.length) : ∃ c, l[j]? = some c := ⟨_, List.getElem?_eq_getElem h⟩
theorem ixN_lt {n : Nat} {z : Int} {j : Nat} (h : ixN n z = some j) : j < n := (ixN_seq h).2.1
/-! ### x[e1] = e -/
def dPut1 (i : Nat) (t1 te : TD) : TSD := fun Dd ρ Xd => te ρ (fun d k => ∃ ds, ρ[i]? = some (some (true, .list ds)) ∧ t1 ρ (fun y _ => ∃ z j, y = .int z ∧ ixN ds.length z = some j ∧ match eff d k with
  | .own s => i ∉ s ∧ Dd.nx ((dropS ρ s).set i (some (true, .list (ds.set j d))))
  | _ => False) Xd) Xd
theorem dps_put1 (i : Nat) (ho : QE X (.Name x px) (tVar i)) (h1 : DE X K E e1 t1) (he : DE X K E e te)
    (ha : ∀ v, assign (.Subscript (.Name x px) e1 p1) X.env v = (do
      let ov ← holding [v] (eval (.Name x px) X.env)
      let iv ← holding [v, ov] (eval e1 X.env)
      standAt p1
      holding [v, ov, iv] (setItem ov iv v)
      release [v, ov, iv] []) := by intro _; rfl)
    (hs : swapsWithSole [.Subscript (.Name x px) e1 p1] e pos.line X.env = pure false := by rfl) (hw : swappedStores [.Subscript (.Name x px) e1 p1] e X.env = pure none := by rfl) (h2 : (assignEach [.Subscript (.Name x px) e1 p1] X.env).map (·.2) = [assign (.Subscript (.Name x px) e1 p1) X.env] := by rfl) :
    DS X K E (.Assign [.Subscript (.Name x px) e1 p1] e pos) (dPut1 i t1 te) := ⟨qs_imp (qps_asg he.q (qpg_sub ho h1.q set_list ha) hs hw h2) fun En σ H h => by
  obtain ⟨H0, ν, ρ, Dd, Xd, S, h1, ok, x⟩ := h
  refine ⟨H0, ν, ρ, _, Xd, S, h1, fun d k v H1 q1 e1 r1 => ?_, x⟩
  obtain ⟨ds, h1, q1⟩ := q1
  obtain ⟨a, us, ns, g1, g2, g3, g4, g5, g6⟩ := own_list S h1
  refine ⟨_, g1, H0, ν, ρ, _, Xd, S.same e1, q1, fun y l w H2 q2 e2 r2 => ?_, x⟩
  obtain ⟨z, j, rfl, hj, q2⟩ := q2
  split at q2
  case h_2 => exact q2.elim
  case h_1 s es =>
    obtain ⟨ms, m1, m2, m3⟩ := eff_own es (S.same e1).hl r1
    obtain ⟨c, hc⟩ := some_of_lt (ixN_lt hj)
    obtain ⟨ν', S'⟩ := S.put1 h1 g1 g2 g3 g4 g5 g6 hc e1 m1 m2 m3 q2.1 e2
    exact ⟨a, us, z, j, rfl, dn_int r2.den, (e1.trans e2) _ _ g2, by rw [g3.den.length]; exact hj, ok.nx _ _ _ _ q2.2 S'⟩⟩
/-! ### x[e1][e2] = e -/
def dPut2 (i : Nat) (t1 t2 te : TD) : TSD := fun Dd ρ Xd => te ρ (fun d k => ∃ ds, ρ[i]? = some (some (true, .list ds)) ∧ t1 ρ (fun y1 _ => ∃ z1 j1 es, y1 = .int z1 ∧ ixN ds.length z1 = some j1 ∧ ds[j1]? = some (.list es) ∧ t2 ρ (fun y2 _ => ∃ z2 j2, y2 = .int z2 ∧ ixN es.length z2 = some j2 ∧ match eff d k with
  | .own s => i ∉ s ∧ Dd.nx ((dropS ρ s).set i (some (true, .list (ds.set j1 (.list (es.set j2 d))))))
  | _ => False) Xd) Xd) Xd
/-! ### x[e1] += e, x[e1][e2] += e, of ints -/
def dAug1 (i : Nat) (t1 te : TD) (f : Int → Int → Int) : TSD := fun Dd ρ Xd => ∃ ds, ρ[i]? = some (some (true, .list ds)) ∧ t1 ρ (fun y _ => ∃ (j : Nat) (a : Int), y = .int j ∧ ds[j]? = some (.int a) ∧ te ρ (fun d _ => ∃ b, d = .int b ∧ Dd.nx (ρ.set i (some (true, .list (ds.set j (.int (f a b))))))) Xd) Xd
def dAug2 (i : Nat) (t1 t2 te : TD) (f : Int → Int → Int) : TSD := fun Dd ρ Xd => ∃ ds, ρ[i]? = some (some (true, .list ds)) ∧ t1 ρ (fun y1 _ => ∃ z1 j1 es, y1 = .int z1 ∧ ixN ds.length z1 = some j1 ∧ ds[j1]? = some (.list es) ∧ t2 ρ (fun y _ => ∃ (j : Nat) (a : Int), y = .int j ∧ es[j]? = some (.int a) ∧ te ρ (fun d _ => ∃ b, d = .int b ∧ Dd.nx (ρ.set i (some (true, .list (ds.set j1 (.list (es.set j (.int (f a b)))))))) ) Xd) Xd) Xd
theorem ixN_nat {n j : Nat} (h : j < n) : ixN n (j : Int) = some j := by
  unfold ixN
  rw [if_pos (by omega), if_pos (by omega)]; simp
theorem dps_aug1 (i : Nat) {op : Operator} {f : Int → Int → Int} (hK : X.K = K) (ho : QE X (.Name x px) (tVar i)) (h1 : DE X K E e1 t1) (he : DE X K E e te) (hp : PIp X op (ipI f))
    (ha : ∀ ov iv new, augStore e1 ov iv new = (do holding [new, ov, iv] (setItem ov iv new); release [new, ov, iv] []; pure .next) := by intros; rfl) :
    DS X K E (.AugAssign (.Subscript (.Name x px) e1 p1) op e pos) (dAug1 i t1 te f) := ⟨qs_imp (qps_augS ho h1.q (get_listK K hK) he.q hp set_list ha) fun En σ H h => by
  obtain ⟨H0, ν, ρ, Dd, Xd, S, ⟨ds, h1, h2⟩, ok, x⟩ := h
  obtain ⟨a, us, ns, g1, g2, g3, g4, g5, g6⟩ := own_list S h1
  refine ⟨_, g1, H0, ν, ρ, _, Xd, S, h2, fun y l w H1 q1 e1 r1 => ?_, x⟩
  obtain ⟨j, xi, rfl, hj, q1⟩ := q1
  obtain ⟨n1, n2, n3, u, _, hu, hw, _⟩ := ows_split g3 hj
  have hu' : u = .int xi := dn_int hw.den
  subst hu'
  refine ⟨a, us, j, _, rfl, dn_int r1.den, SqL.of (e1 _ _ g2), hu, H0, ν, ρ, _, Xd, S.same e1, q1, fun y l w H2 q2 e2 r2 => ?_, x⟩
  obtain ⟨b, rfl, q2⟩ := q2
  refine ⟨xi, b, rfl, dn_int r2.den, ?_⟩
  obtain ⟨ν', S'⟩ := S.put1 (s := []) (ms := []) h1 g1 g2 g3 g4 g5 g6 hj (e1.trans e2) (.int (f xi b)) List.nodup_nil (fun _ z => by cases z) (by simp) (Same.refl _)
  exact ⟨a, us, (j : Int), j, rfl, dn_int r1.den, (e1.trans e2) _ _ g2, ixN_nat (by rw [g3.den.length]; exact len_of hj), ok.nx _ _ _ _ q2 S'⟩⟩
/-- x += e of ints -/
def dAugN (i : Nat) (te : TD) (f : Int → Int → Int) : TSD := fun Dd ρ Xd => ∃ b a, ρ[i]? = some (some (b, .int a)) ∧ te ρ (fun d _ => ∃ c, d = .int c ∧ Dd.nx (ρ.set i (some (false, .int (f a c))))) Xd
theorem dps_augN (i : Nat) {op : Operator} {f : Int → Int → Int} (hN : X.N.Nodup) (he : DE X K E e te) (hp : PIp X op (ipI f)) (hi : X.N[i]? = some x := by rfl) (hx : Loc X.env.scope x := by first | exact Or.inl rfl | exact Or.inr rfl) (hf : X.fn x = true ∨ X.env.scope.names.lookup x = some .local := by first | exact .inl rfl | exact .inr rfl | assumption) :
    DS X K E (.AugAssign (.Name x px) op e pos) (dAugN i te f) := ⟨qs_imp (qps_aug hN hi hx he.q hp hf) fun En σ H h => by
  obtain ⟨H0, ν, ρ, Dd, Xd, S, ⟨b, a, h1, h2⟩, ok, x⟩ := h
  obtain ⟨v, g1, g2⟩ := S.get h1
  refine ⟨v, g1, H0, ν, ρ, _, Xd, S, h2, fun d k w H1 q1 e1 r1 => ?_, x⟩
  obtain ⟨c, rfl, q1⟩ := q1
  exact ⟨a, c, dn_int g2, dn_int r1.den, ok.nx _ _ _ _ q1 ((S.same e1).setOld i (.int _))⟩⟩
end
end DL

namespace DL
open PySem PySem.Spec PyProof.Rows L2
/-! ### a def's body -/
def startR (N : List Str) (ds : List D) : Ren := ds.map (fun d => some (false, d)) ++ List.replicate (N.length - ds.length) none
theorem start_ok {K : PySem.W.Frag} {H : Hp} {vs : List V} {ds : List D} {N : List Str} (h : Dns K H vs ds) : StOk K Z0 H (fun _ => []) (startR N ds) (start N vs) H := by
  have hl := h.length
  refine ⟨Same.refl H, ?_, fun i b d hi => ?_, fun _ => List.nodup_nil, (fun _ _ _ z => by cases z), (fun _ _ z => by cases z), fun _ z => False.elim z⟩
  · unfold startR L2.start; simp [hl]
  · unfold startR at hi
    by_cases hlt : i < ds.length
    · rw [List.getElem?_append_left (by simpa using hlt), List.getElem?_map] at hi
      cases e : ds[i]? with
      | none => rw [e] at hi; cases hi
      | some c =>
        rw [e] at hi; cases hi
        obtain ⟨v, g1, g2⟩ := h.get e
        refine ⟨v, ?_, Dn.same hid_z0 g2⟩
        unfold L2.start
        rw [List.getElem?_append_left (by rw [List.length_map, hl]; exact hlt), List.getElem?_map, g1]; rfl
    · rw [List.getElem?_append_right (by simpa using Nat.le_of_not_lt hlt), List.getElem?_replicate] at hi
      split at hi <;> cases hi
theorem dmk {X : Cx} {K : PySem.W.Frag} {E : XK} {b : List Stmt} {t : TSD} {N : List Str} {vs : List V} {H : Hp} {Q : VK} {ds : List D} {Qd : D → Bool → Prop} {Xd : XD} (h : DSs X K E b t) (hd : Dns K H vs ds) (q : ∀ d o v H', Qd d o → Same H H' → RR K H H' o v d → Q v H') (x : ∀ C H', Xd C → Same H H' → E (.ref C) none H')
    (r : t { nx := fun _ => Qd .none true, rt := Qd } (startR N ds) Xd) : ∃ t, PSs X b t ∧ t { nx := fun _ H' => Q .non H', rt := Q } (start N vs) H :=
  ⟨_, h.q.h, H, _, _, _, Xd, start_ok hd, r, ⟨fun ν ρ σ H' a S => q _ _ _ _ a S.sm ⟨[], .non, List.nodup_nil, fun _ z => by cases z⟩, fun _ _ _ _ z => z.elim, fun _ _ _ _ z => z.elim, q⟩, x⟩
/-- a def that never refuses -/
theorem ok0 {P : Program} {w : World} {K : PySem.W.Frag} {mg : Str → Option Value} {base : Heap} {x qual : Str} {st : Stmt} {f : Addr} {fd : FuncData} {N ps : List Str} {k : Nat} {sp : SpD} (F : Fun K x qual st f fd) (S : FnScope N ps (defScope st)) (len : ∀ ds Q X, sp ds Q X → ds.length = ps.length)
    (hbody : ∀ (cdv : Value) (A : Around) (outer : List Env) (s : Shared) (H : Hp) (E : XK), Room k (A.deeper (envOfC qual (defScope st) s.heap.objs.size f cdv)) → ∃ t, DSs (cxOf CX0 P w K mg base N qual (defScope st) f cdv A outer s H E).nox K E0 (defBody st) t ∧ ∀ ds Qd, sp ds Qd Xf → t { nx := fun _ => Qd .none true, rt := Qd } (startR N ds) Xf)
    (hx : ∀ ds Qd Xd, sp ds Qd Xd → sp ds Qd Xf) : FnOk P w K mg base CX0 (k + 1) f fd ps (SpL K sp) := by
  refine F.ok S (fun vs H Q E h => ?_) (fun cdv A outer s H vs Q E hr h => ?_)
  · obtain ⟨ds, Qd, Xd, h1, h2, _⟩ := h
    rw [h1.length]; exact len ds Qd Xd h2
  · obtain ⟨ds, Qd, Xd, h1, h2, h3, h4⟩ := h
    obtain ⟨t, D, r⟩ := hbody cdv A outer s H E hr
    exact dmk D h1 h3 (fun _ _ z _ => z.elim) (r ds Qd (hx _ _ _ h2))
section
variable {X : Cx} {K : PySem.W.Frag} {E : XK} {pos p1 p2 px apos cpos : Pos} {e e1 e2 : Expr} {te t1 t2 : TD} {x : Str}
/-! ### t = x.pop(e) -/
theorem StOk.popped {H0 H H1 : Hp} {ν : Nat → List Addr} {ρ : Ren} {σ : L2.St} {i j : Nat} {ds : List D} {a : Addr} {us : List V} {ns : List Addr} {c : D} (S : StOk K Z0 H0 ν ρ σ H) (h1 : ρ[i]? = some (some (true, .list ds))) (g1 : σ[i]? = some (some (.ref a))) (g2 : H a = some (.lst us)) (g3 : Ows K H us ds ns) (g4 : ν i = a :: ns) (g5 : a ∉ ns) (g6 : ns.Nodup)
    (hj : ds[j]? = some c) (e1 : Same H H1) : ∃ ν' u, us[j]? = some u ∧ StOk K Z0 H0 ν' (ρ.set i (some (true, .list (ds.eraseIdx j)))) σ (upd H1 a (.lst (us.eraseIdx j))) ∧ Dn K (hid (Hd Z0 ν') (upd H1 a (.lst (us.eraseIdx j)))) u c := by
  obtain ⟨n1, n2, n3, u, q1, q2, q3, _, q4⟩ := ows_split g3 hj
  have nu := g6
  rw [q1, List.nodup_append, List.nodup_append] at nu
  have inI : ∀ b, b ∈ n1 ∨ b ∈ n2 ∨ b ∈ n3 → b ∈ ns := fun b hb => by rw [q1]; rcases hb with hb | hb | hb <;> simp [hb]
  have k1 : ∀ l : List Addr, (∀ b ∈ l, b ∈ ns) → Kept l H (upd H1 a (.lst (us.eraseIdx j))) := fun l hl => kept_upd e1 g2 fun b hb => ⟨g3.there b (hl b hb), fun z => g5 (z ▸ hl b hb)⟩
  have S' := S.mut [] i (ms := a :: (n1 ++ n3)) (H' := upd H1 a (.lst (us.eraseIdx j))) (v := .ref a) g1 (len_of h1) (fun b o hb hn => by rw [upd_ne (fun z => hn (by rw [z, g4]; exact List.mem_cons_self))]; exact e1 _ _ hb)
    (.lst upd_same (q4 _ (k1 n1 fun b hb => inI b (.inl hb)) (k1 n3 fun b hb => inI b (.inr (.inr hb)))))
    (List.nodup_cons.mpr ⟨fun z => by rcases List.mem_append.mp z with z | z; exact g5 (inI a (.inl z)); exact g5 (inI a (.inr (.inr z))), List.nodup_append.mpr ⟨nu.1, nu.2.1.2.1, fun x hx y hy z => nu.2.2 x hx y (List.mem_append_right _ hy) z⟩⟩)
    (fun b hb => .inl (by
      rw [g4]
      rcases List.mem_cons.mp hb with rfl | hb
      · exact List.mem_cons_self
      · refine List.mem_cons_of_mem _ ?_
        rcases List.mem_append.mp hb with hb | hb
        · exact inI b (.inl hb)
        · exact inI b (.inr (.inr hb)))) (by simp) (fun _ z => by cases z)
  refine ⟨_, u, q2, S', ow_hid S'.hl (q3.kept (k1 n2 fun b hb => inI b (.inr (.inl hb)))) fun b hb z => ?_⟩
  rcases z with z | ⟨l, z⟩
  · exact z
  · have z : b ∈ (if l = i then a :: (n1 ++ n3) else if l ∈ ([] : List Nat) then [] else ν l) := z
    split at z
    · rcases List.mem_cons.mp z with z | z
      · exact g5 (z ▸ inI b (.inr (.inl hb)))
      · rcases List.mem_append.mp z with z | z
        · exact nu.2.2 b z b (List.mem_append_left _ hb) rfl
        · exact nu.2.1.2.2 b hb b z rfl
    · split at z
      · cases z
      · exact absurd (S.dj l i b z (by rw [g4]; exact List.mem_cons_of_mem _ (inI b (.inr (.inl hb))))) ‹_›
def dPop (t i : Nat) (te : TD) : TSD := fun Dd ρ Xd => ∃ ds, ρ[i]? = some (some (true, .list ds)) ∧ ds.length ≤ 1000000 ∧ te ρ (fun y _ => ∃ z j c, y = .int z ∧ ixN ds.length z = some j ∧ ds[j]? = some c ∧ Dd.nx ((ρ.set i (some (true, .list (ds.eraseIdx j)))).set t (some (false, c)))) Xd
/-! ### x.append(y.pop(e)), of data without lists -/
def dAppPop (i l : Nat) (te : TD) : TSD := fun Dd ρ Xd => ∃ ds es, ρ[i]? = some (some (true, .list ds)) ∧ i ≠ l ∧ ρ[l]? = some (some (true, .list es)) ∧ es.length ≤ 1000000 ∧ ds.length < 1000000 ∧ te ρ (fun y _ => ∃ z j c, y = .int z ∧ ixN es.length z = some j ∧ es[j]? = some c ∧ flat c = true ∧ Dd.nx ((ρ.set l (some (true, .list (es.eraseIdx j)))).set i (some (true, .list (ds ++ [c]))))) Xd
end
end DL

namespace DL
open PySem PySem.Spec PyProof.Rows L2
section
variable {X : Cx} {K : PySem.W.Frag} {E : XK} {pos p1 p2 px apos cpos : Pos} {e e1 e2 : Expr} {te t1 t2 : TD} {x : Str}
/-! ### a, b = e -/
def setAll (b : Bool) : Ren → List Nat → List D → Ren
  | ρ, i :: is, d :: ds => setAll b (ρ.set i (some (b && !flat d, d))) is ds
  | ρ, _, _ => ρ
def unpK (ρ : Ren) (is : List Nat) (ds : List D) (k : Kd) : Ren := match eff (.tuple ds) k with
  | .own [] => setAll true ρ is ds
  | .old => setAll false ρ is ds
  | _ => setAll false (frz ρ) is ds
/-- names set one after another -/
def sets : L2.St → List Nat → List V → L2.St
  | σ, i :: is, v :: vs => sets (σ.set i (some v)) is vs
  | σ, _, _ => σ
theorem all_old {H0 H : Hp} {ν : Nat → List Addr} : ∀ {is : List Nat} {vs : List V} {ds : List D} {ρ : Ren} {σ : L2.St}, StOk K Z0 H0 ν ρ σ H → Dns K (hid (Hd Z0 ν) H) vs ds → StOk K Z0 H0 ν (setAll false ρ is ds) (sets σ is vs) H
  | [], _, _, _, _, S, _ => S
  | i :: is, _, _, _, _, S, .nil => S
  | i :: is, _, _, _, _, S, .cons h r => by
    have := all_old (is := is) (S.setOld i h) r
    exact this
theorem all_own {H0 H' : Hp} : ∀ (is : List Nat) {vs : List V} {ds : List D} {ρ : Ren} {σ : L2.St} {ν : Nat → List Addr} {ms : List Addr}, StOk K Z0 H0 ν ρ σ (hid (· ∈ ms) H') → Ows K H' vs ds ms → ms.Nodup → ∃ ν', StOk K Z0 H0 ν' (setAll true ρ is ds) (sets σ is vs) H' := by
  intro is
  induction is with
  | nil => intro vs ds ρ σ ν ms S _ _; exact ⟨ν, by unfold setAll sets; exact S.same hid_same⟩
  | cons i is ih =>
    intro vs ds ρ σ ν ms S r0 nd
    cases r0 with
    | nil => exact ⟨ν, S.same hid_same⟩
    | cons h r =>
      rename_i v vs d ds n m
      rw [List.nodup_append] at nd
      have sm : Same (hid (· ∈ n ++ m) H') (hid (· ∈ m) H') := hid_less fun a z => List.mem_append_right _ z
      have nt : ∀ a o, H' a = some o → muO o = false → hid (· ∈ m) H' a = some o := fun a o ha hn => hid_of ha fun z => by
        exact (r.there a z).no ha hn
      have hk : Kept n H' (hid (· ∈ m) H') := ⟨fun a ha => by
        unfold hid
        rw [if_neg fun z => nd.2.2 a ha a z rfl], nt⟩
      show ∃ ν', StOk K Z0 H0 ν' (setAll true (ρ.set i (some (true && !flat d, d))) is _) (sets (σ.set i (some v)) is _) H'
      cases hf : flat d with
      | true =>
        have S1 := (S.same sm).setOld i (v := v) (d := d) (den_hid (S.same sm).hl (den_kept nt h.den hf) hf)
        exact ih S1 r nd.2.1
      | false =>
        have S1 := S.setOwn [] i sm (h.kept hk) nd.1 fun a ha => .inl (by unfold hid; rw [if_pos (List.mem_append_left _ ha)])
        exact ih S1 r nd.2.1
theorem unp_ok {H0 H H' : Hp} {ν : Nat → List Addr} {ρ : Ren} {σ : L2.St} {k : Kd} {a : Addr} {ds : List D} (S : StOk K Z0 H0 ν ρ σ H) (e : Same H H') (h : Res K Z0 ν H H' k (.ref a) (.tuple ds)) (is : List Nat) : ∃ us ν', SqT K H' a us ∧ us.length = ds.length ∧ StOk K Z0 H0 ν' (unpK ρ is ds k) (sets σ is us) H' := by
  have h' : Res K Z0 ν H H' (eff (.tuple ds) k) (.ref a) (.tuple ds) := by
    unfold eff
    split
    · exact Res.flat h.den ‹_› (S.same e).hl _
    · exact h
  have frzc : ∃ us ν', SqT K H' a us ∧ us.length = ds.length ∧ StOk K Z0 H0 ν' (setAll false (frz ρ) is ds) (sets σ is us) H' := by
    obtain ⟨a', us, q, q1, q2⟩ := dns_of_tup h.den
    cases q
    exact ⟨us, _, q1, q2.length, all_old (S.same e).frz (Dns.same hid_z0 q2)⟩
  unfold unpK
  generalize eff (.tuple ds) k = k' at h'
  split
  · obtain ⟨ms, m1, m2, m3⟩ := h'
    cases m1 with
    | tup q1 q2 =>
      have sm : Same H (hid (· ∈ ms) H') := fun b o hb => hid_of (e _ _ hb) fun z => by
        rcases m3 b z with y | ⟨_, y, _⟩
        · rw [hb] at y; cases y
        · cases y
      obtain ⟨ν', S'⟩ := all_own is (S.same sm) q2 m2
      exact ⟨_, ν', q1, q2.den.length, S'⟩
  · obtain ⟨a', us, q, q1, q2⟩ := dns_of_tup (show Dn K _ _ _ from h')
    cases q
    exact ⟨us, ν, Same.tup hid_same q1, q2.length, all_old (S.same e) q2⟩
  · exact frzc
/-- targets: names one after another -/
def gNames : List Nat → TGs
  | [] => gNil
  | i :: is => gCons (gName i) (gNames is)
theorem gNames_of : ∀ (is : List Nat) (vs : List V) (σ : L2.St) (H : Hp) (Q : L2.St → Hp → Prop), vs.length = is.length → Q (sets σ is vs) H → gNames is vs σ H Q
  | [], [], σ, H, Q, _, q => ⟨rfl, q⟩
  | i :: is, v :: vs, σ, H, Q, hl, q => ⟨v, vs, rfl, gNames_of is vs _ H Q (by simpa using hl) q⟩
  | [], _ :: _, _, _, _, hl, _ => by cases hl
  | _ :: _, [], _, _, _, hl, _ => by cases hl
def dUnp (is : List Nat) (te : TD) : TSD := fun Dd ρ Xd => te ρ (fun d k => match d with
  | .tuple ds => ds.length = is.length ∧ Dd.nx (unpK ρ is ds k)
  | _ => False) Xd
theorem dps_unp (is : List Nat) (n : Nat) {es : List Expr} {kt : Nat} {pt : Pos} (hn' : is.length = n) (hK : X.K = K) (hc : X.calm = true) (hg : QGs X es (gNames is)) (hn : (assignEach es X.env).length = n) (hst : (assignEach es X.env).findIdx? (·.1) = none) (he : DE X K E e te)
    (hs : swapsWithSole [.Tuple es kt pt] e pos.line X.env = pure false := by rfl) (hw : swappedStores [.Tuple es kt pt] e X.env = pure none := by rfl) (h1 : (assignEach [.Tuple es kt pt] X.env).map (·.2) = [assign (.Tuple es kt pt) X.env] := by rfl) :
    DS X K E (.Assign [.Tuple es kt pt] e pos) (dUnp is te) := ⟨qs_imp (qps_asg he.q (qpg_tupK K n hK hc hg hn hst) hs hw h1) fun En σ H h => by
  obtain ⟨H0, ν, ρ, Dd, Xd, S, h1, ok, x⟩ := h
  refine ⟨H0, ν, ρ, _, Xd, S, h1, fun d k v H' q1 e1 r1 => ?_, x⟩
  cases d with
  | tuple ds =>
    obtain ⟨a, us0, rfl, _, _⟩ := dns_of_tup r1.den
    obtain ⟨us, ν', k1, k2, S'⟩ := unp_ok S e1 r1 is
    exact ⟨a, us, rfl, k1, by rw [k2, q1.1, hn'], gNames_of is us σ H' _ (by rw [k2, q1.1]) (ok.nx _ _ _ _ q1.2 S')⟩
  | _ => exact q1.elim⟩
end
end DL

namespace DL
open PySem PySem.Spec PyProof.Rows L2
section
variable {X : Cx} {K : PySem.W.Frag} {E : XK} {pos p1 p2 px apos cpos : Pos} {e e1 e2 : Expr} {te t1 t2 : TD} {x : Str}
theorem flats_ints {ns : List Int} : flats (ns.map PyData.int) = true := flats_iff.mpr fun d hd => by
  obtain ⟨n, _, rfl⟩ := List.mem_map.mp hd
  rfl
theorem dns_of_ints {H : Hp} : ∀ (ns : List Int), Dns K H (ns.map V.int) (ns.map PyData.int)
  | [] => .nil
  | n :: r => .cons (.int n) (dns_of_ints r)
/-- a display of written ints -/
def dInts (ns : List Int) : TDA := fun _ Q _ => Q (ns.map PyData.int) (.own [])
theorem dpa_ints {es : List Expr} {ns : List Int} (h : intsOf es = some ns) : DA X K E es (dInts ns) := ⟨qa_imp (qpa_ints h) fun σ H Q h => by
  obtain ⟨H0, ν, ρ, Qd, Xd, S, h1, q, x⟩ := h
  exact q _ _ _ H h1 (Same.refl H) ⟨[], ows_flat (dns_of_ints ns) flats_ints, List.nodup_nil, fun _ z => by cases z⟩⟩
/-- list(range(n)) -/
def dLR (ta : TDA) : TD := fun ρ Q Xd => ta ρ (fun ds _ => match ds with
  | [.int z] => ∃ n : Nat, z = n ∧ n ≤ 1000000 ∧ Q (.list ((List.range n).map fun (i : Nat) => PyData.int (i : Int))) (.own [])
  | _ => False) Xd
end
end DL

namespace DL
open PySem PySem.Spec PyProof.Rows L2
/-! ### data of grids; the walk -/
def iD (r : List Int) : D := .list (r.map PyData.int)
def gD (g : List (List Int)) : D := .list (g.map iD)
theorem flat_int {i : Int} : flat (.int i) = true := rfl
theorem flat_bool {i : Bool} : flat (.bool i) = true := rfl
theorem flat_str {i : Str} : flat (.str i) = true := rfl
theorem flat_non : flat .none = true := rfl
theorem flat_list {l : List D} : flat (.list l) = false := rfl
theorem flat_tuple {l : List D} : flat (.tuple l) = flats l := rfl
theorem flats_nil : flats [] = true := rfl
theorem flats_cons {d : D} {l : List D} : flats (d :: l) = (flat d && flats l) := rfl
theorem flat_iD {r : List Int} : flat (iD r) = false := rfl
theorem flat_gD {r : List (List Int)} : flat (gD r) = false := rfl
/-! loops -/
def lpD (ds : List D) (bnd : TGD) (tb : TSD) : TSD := fun Dd ρ Xd => ∃ W : Nat → Ren → Prop, W 0 ρ ∧ (∀ i d ρ, ds[i]? = some d → W i ρ → bnd d ρ fun ρ' => tb { Dd with nx := W (i + 1), ct := W (i + 1), bk := Dd.nx } ρ' Xd) ∧ ∀ ρ, W ds.length ρ → Dd.nx ρ
theorem lp_list {ds : List D} {bnd : TGD} {tb : TSD} {Dd : EndsD} {ρ : Ren} {Xd : XD} (W : Nat → Ren → Prop) (h0 : W 0 ρ) (hs : ∀ i d ρ, ds[i]? = some d → W i ρ → bnd d ρ fun ρ' => tb { Dd with nx := W (i + 1), ct := W (i + 1), bk := Dd.nx } ρ' Xd) (hd : ∀ ρ, W ds.length ρ → Dd.nx ρ) : lpD ds bnd tb Dd ρ Xd := ⟨W, h0, hs, hd⟩
theorem rngD_get {lo : Int} {n i : Nat} {d : D} (h : (rngD lo n)[i]? = some d) : i < n ∧ d = .int (lo + i) := by
  unfold rngD at h
  rw [List.getElem?_map] at h
  cases e : (List.range n)[i]? with
  | none => rw [e] at h; cases h
  | some j =>
    rw [e] at h; cases h
    obtain ⟨h1, h2⟩ := List.getElem?_eq_some_iff.mp e
    rw [List.getElem_range] at h2
    rw [List.length_range] at h1
    exact ⟨h1, by rw [h2]⟩
theorem rngD_len {lo : Int} {n : Nat} : (rngD lo n).length = n := by unfold rngD; rw [List.length_map, List.length_range]
theorem lp_rng {lo : Int} {n : Nat} {bnd : TGD} {tb : TSD} {Dd : EndsD} {ρ : Ren} {Xd : XD} (W : Nat → Ren → Prop) (h0 : W 0 ρ) (hs : ∀ (i : Nat) ρ, i < n → W i ρ → bnd (.int (lo + i)) ρ fun ρ' => tb { Dd with nx := W (i + 1), ct := W (i + 1), bk := Dd.nx } ρ' Xd) (hd : ∀ ρ, W n ρ → Dd.nx ρ) : lpD (rngD lo n) bnd tb Dd ρ Xd :=
  ⟨W, h0, fun i d ρ e w => by obtain ⟨h1, rfl⟩ := rngD_get e; exact hs i ρ h1 w, fun ρ w => hd ρ (by rw [rngD_len] at w; exact w)⟩
/-! comprehensions -/
end DL

namespace DL
open PySem PySem.Spec PyProof.Rows L2
/-! ### the walk: one step at the head -/
def onB (d : D) (Q : Bool → Prop) : Prop := match d with | .bool i => Q i | _ => False
def onI (d : D) (Q : Int → Prop) : Prop := match d with | .int i => Q i | _ => False
def onL (d : D) (Q : List D → Prop) : Prop := match d with | .list l => Q l | _ => False
def onT (d : D) (Q : List D → Prop) : Prop := match d with | .tuple l => Q l | _ => False
section
variable {t u : TSD} {te ta tb tc : TD} {tA tB : TDT} {tl : TDA} {Dd : EndsD} {ρ : Ren} {Xd : XD} {Q : QD} {QT : Bool → Prop} {QA : List D → Kd → Prop} {i : Nat} {d e : D} {k l : Kd}
theorem w_onB {b : Bool} {Q : Bool → Prop} (h : Q b) : onB (.bool b) Q := h
theorem w_onI {b : Int} {Q : Int → Prop} (h : Q b) : onI (.int b) Q := h
theorem w_onL {b : List D} {Q : List D → Prop} (h : Q b) : onL (.list b) Q := h
theorem w_onLi {b : List Int} {Q : List D → Prop} (h : Q (b.map PyData.int)) : onL (iD b) Q := h
theorem w_onT {b : List D} {Q : List D → Prop} (h : Q b) : onT (.tuple b) Q := h
theorem w_seq (h : t { Dd with nx := fun ρ' => u Dd ρ' Xd } ρ Xd) : dSeq t u Dd ρ Xd := h
theorem w_set (h : te ρ (fun d k => Dd.nx (setK ρ i d k)) Xd) : dSet i te Dd ρ Xd := h
theorem w_ret (h : te ρ (fun d k => Dd.rt d (rtK d k)) Xd) : dRet te Dd ρ Xd := h
theorem w_next (h : Dd.nx ρ) : dNext Dd ρ Xd := h
theorem w_ifS (h : tA ρ (fun b => if b = true then t Dd ρ Xd else u Dd ρ Xd) Xd) : dIfS tA t u Dd ρ Xd := h
theorem w_nx {f b c : Ren → Prop} {r : D → Bool → Prop} (h : f ρ) : EndsD.nx ⟨f, r, b, c⟩ ρ := h
theorem w_rt {f b c : Ren → Prop} {r : D → Bool → Prop} {o : Bool} (h : r d o) : EndsD.rt ⟨f, r, b, c⟩ d o := h
theorem w_frz (h : t Dd (frz1 i ρ) Xd) : dFrz i t Dd ρ Xd := h
theorem w_c (h : Q d .old) : dC d ρ Q Xd := h
theorem w_op {f : F2} (h : ta ρ (fun d k => tb ρ (fun e l => f d k e l Q) Xd) Xd) : dOp f ta tb ρ Q Xd := h
theorem w_fI0 {g : Int → Int → D} {x y : Int} (h : Q (g x y) .old) : fI T2 g (.int x) k (.int y) l Q := ⟨trivial, h⟩
theorem w_fI {C : Int → Int → Prop} {g : Int → Int → D} {x y : Int} (h : C x y ∧ Q (g x y) .old) : fI C g (.int x) k (.int y) l Q := h
theorem w_addI {x y : Int} (h : Q (.int (x + y)) .old) : fAdd (.int x) k (.int y) l Q := h
def IxD (ds : List D) (i : Int) (Q : D → Prop) : Prop := ∃ x, atI ds i = some x ∧ Q x
theorem w_ixL {x : List D} {y : Int} (h : IxD x y fun d => Q d k.sub) : fIx (.list x) k (.int y) l Q := h
theorem w_ixLi {x : List Int} {y : Int} (h : IxD (x.map PyData.int) y fun d => Q d k.sub) : fIx (iD x) k (.int y) l Q := h
theorem w_ixT {x : List D} {y : Int} (h : IxD x y fun d => Q d k.sub) : fIx (.tuple x) k (.int y) l Q := h
theorem w_eq {f : Bool → Bool} (h : (d.canLay0 = true ∧ e.canLay0 = true ∧ d.depth ≤ 32) ∧ Q (.bool (f (PyData.eqv d e))) .old) : fEq f d k e l Q := ⟨h.1.1, h.1.2.1, h.1.2.2, h.2⟩
theorem w_eqI {f : Bool → Bool} {x y : Int} (h : Q (.bool (f (x == y))) .old) : fEq f (.int x) k (.int y) l Q := ⟨rfl, rfl, Nat.zero_le _, h⟩
theorem w_neg (h : ta ρ (fun d _ => onI d fun i => Q (.int (-i)) .old) Xd) : dNeg ta ρ Q Xd := h
theorem w_notV (h : ta ρ (fun d _ => onB d fun i => Q (.bool (!i)) .old) Xd) : dNotV ta ρ Q Xd := h
theorem w_andV (h : ta ρ (fun d _ => onB d fun i => if i = true then tb ρ Q Xd else Q (.bool false) .old) Xd) : dAndV ta tb ρ Q Xd := h
theorem w_B (h : ta ρ (fun d _ => onB d QT) Xd) : dB ta ρ QT Xd := h
theorem w_and (h : tA ρ (fun b => if b = true then tB ρ QT Xd else QT false) Xd) : dAnd tA tB ρ QT Xd := h
theorem w_or (h : tA ρ (fun b => if b = true then QT true else tB ρ QT Xd) Xd) : dOr tA tB ρ QT Xd := h
theorem w_not (h : tA ρ (fun b => QT (!b)) Xd) : dNot tA ρ QT Xd := h
theorem w_true (h : QT true) : dTrue ρ QT Xd := h
theorem w_tru (h : ta ρ (fun d _ => ∃ b, truD d = some b ∧ QT b) Xd) : dTru ta ρ QT Xd := h
theorem w_if (h : tA ρ (fun b => if b = true then ta ρ Q Xd else tb ρ Q Xd) Xd) : dIf tA ta tb ρ Q Xd := h
theorem w_nil (h : QA [] (.own [])) : dNil ρ QA Xd := h
theorem w_cons (h : ta ρ (fun d k => tl ρ (fun ds l => QA (d :: ds) (kcons d k l)) Xd) Xd) : dCons ta tl ρ QA Xd := h
theorem w_ints {ns : List Int} (h : QA (ns.map PyData.int) (.own [])) : dInts ns ρ QA Xd := h
theorem w_tup (h : tl ρ (fun ds k => ds.length ≤ 1000 ∧ Q (.tuple ds) k) Xd) : dTup tl ρ Q Xd := h
theorem w_lst (h : tl ρ (fun ds k => ds.length ≤ 1000 ∧ Q (.list ds) k) Xd) : dLst tl ρ Q Xd := h
theorem w_call0 {sp : SpD} (h : tl ρ (fun ds _ => sp ds (fun d o => Q d (kRet o)) Xf) Xd) : dCall0 sp tl ρ Q Xd := h
theorem w_cb {g : FA} (h : tl ρ (fun ds k => g ds k Q) Xd) : dCB g tl ρ Q Xd := h
theorem w_len {x : List D} (h : Q (.int x.length) .old) : fLen [.list x] k Q := h
theorem w_lenI {x : List Int} (h : Q (.int x.length) .old) : fLen [iD x] k Q := by show Q (.int (x.map PyData.int).length) .old; rw [List.length_map]; exact h
theorem w_lenS {x : List D} (h : Q (.int x.length) .old) : fLen [.dict [(.none, .list x)]] k Q := h
theorem w_bls {f : List Bool → Bool} {x : List D} (h : ∃ ns, boolsD x = some ns ∧ Q (.bool (f ns)) .old) : fBls f [.list x] k Q := h
theorem w_abs {x : Int} (h : Q (.int (if x < 0 then -x else x)) .old) : fAbs [.int x] k Q := h
theorem w_listI {x : List Int} (h : Q (iD x) (.own [])) : fList [iD x] k Q := by
  show Q (.list _) (kels _ k)
  unfold kels; rw [if_pos flats_ints]; exact h
theorem w_isi {f : D → Bool} (h : ta ρ (fun d _ => noDict d = true ∧ Q (.bool (f d)) .old) Xd) : dIs f ta ρ Q Xd := h
theorem w_sl {f : F3} {tlo thi : TDO} (h : te ρ (fun d k => tlo ρ (fun l => thi ρ (fun h => f d k l h Q) Xd) Xd) Xd) : dSl f te tlo thi ρ Q Xd := h
theorem w_noPart {Q : Option Int → Prop} (h : Q none) : dNoPart ρ Q Xd := h
theorem w_part {Q : Option Int → Prop} (h : te ρ (fun d _ => onI d fun i => Q (some i)) Xd) : dPart te ρ Q Xd := h
theorem w_bName {Q : Ren → Prop} (h : Q (ρ.set i (some (false, d)))) : bName i d ρ Q := h
theorem w_bTup {n : Nat} {bs : TGsD} {ds : List D} {Q : Ren → Prop} (h : ds.length = n ∧ bs ds ρ Q) : bTup n bs (.tuple ds) ρ Q := h
theorem w_bCons {b : TGD} {bs : TGsD} {ds : List D} {Q : Ren → Prop} (h : b d ρ fun ρ' => bs ds ρ' Q) : bCons b bs (d :: ds) ρ Q := h
theorem w_bNil {Q : Ren → Prop} (h : Q ρ) : bNil [] ρ Q := ⟨rfl, h⟩
theorem w_for {ti : TDI} {bnd : TGD} (h : ti ρ (fun ds b => b = true ∧ lpD ds bnd t Dd ρ Xd) Xd) : dFor ti bnd t Dd ρ Xd := h
theorem w_iL {Q : List D → Bool → Prop} (h : te ρ (fun d k => onL d fun ds => Q ds k.isOld) Xd) : iL te ρ Q Xd := h
def on1I (ds : List D) (Q : Int → Prop) : Prop := match ds with | [.int j] => Q j | _ => False
def on2I (ds : List D) (Q : Int → Int → Prop) : Prop := match ds with | [.int i, .int j] => Q i j | _ => False
def on1L (ds : List D) (Q : List D → Prop) : Prop := match ds with | [.list j] => Q j | _ => False
def on2L (ds : List D) (Q : List D → List D → Prop) : Prop := match ds with | [.list i, .list j] => Q i j | _ => False
theorem w_on1I {x : Int} {Q : Int → Prop} (h : Q x) : on1I [.int x] Q := h
theorem w_on2Li {x y : List Int} {Q : List D → List D → Prop} (h : Q (x.map PyData.int) (y.map PyData.int)) : on2L [iD x, iD y] Q := h
theorem w_iR1 {Q : List D → Bool → Prop} (h : tl ρ (fun ds _ => on1I ds fun j => (-(2 ^ 62) ≤ j ∧ j < 2 ^ 62) ∧ Q (rngD 0 j.toNat) true) Xd) : iR1 tl ρ Q Xd := by
  have e : (fun (ds : List D) (_ : Kd) => on1I ds fun j => (-(2 ^ 62) ≤ j ∧ j < 2 ^ 62) ∧ Q (rngD 0 j.toNat) true) = (fun ds _ => match ds with | [.int j] => -(2 ^ 62) ≤ j ∧ j < 2 ^ 62 ∧ Q (rngD 0 j.toNat) true | _ => False) := by
    funext ds _
    unfold on1I
    split
    · exact propext and_assoc
    · rfl
  rw [e] at h
  exact h
theorem w_iZp {Q : List D → Bool → Prop} (h : tl ρ (fun ds k => on2L ds fun x y => Q (zipD x y) k.isOld) Xd) : iZp tl ρ Q Xd := h
theorem w_unp {is : List Nat} (h : te ρ (fun d k => onT d fun ds => ds.length = is.length ∧ Dd.nx (unpK ρ is ds k)) Xd) : dUnp is te Dd ρ Xd := h
def LcD (f : D → Els → (Els → Prop) → Prop) (ds : List D) (ok : Bool) (Q : QD) : Prop := go f ds [] fun es => Q (.list (es.map (·.1))) (if es.all (·.2) = true then .own [] else if ok = true then .old else .mix)
theorem w_lc {ti : TDI} {T : List Nat} {bnd : TGD} {tif : TDT} {tb : TB} {own : List Str} {cap : List (Str × Nat)} (h : ti ρ (fun ds b => LcD (fun d es Q' => bnd d (dropS (capR own cap ρ) T) fun ρ' => tif ρ' (fun c => if c = true then tb ρ' es Q' else Q' es) Xf) ds (b && capOk cap ρ) Q) Xd) : dLC ti T bnd tif tb own cap ρ Q Xd := h
theorem w_emit {es : Els} {Q : Els → Prop} (h : te ρ (fun d k => es.length < 1000000 ∧ (eff d k).isOld = true ∧ Q (es ++ [(d, isOwnK (eff d k))])) Xf) : dEmit te ρ es Q := h
theorem w_ift {A B : Prop} (h : A) : if (true : Bool) = true then A else B := h
theorem w_iff {A B : Prop} (h : B) : if (false : Bool) = true then A else B := by rw [if_neg Bool.false_ne_true]; exact h
/-! what is set -/
theorem setK_int {x : Int} : setK ρ i (.int x) k = ρ.set i (some (false, .int x)) := rfl
theorem setK_bool {x : Bool} : setK ρ i (.bool x) k = ρ.set i (some (false, .bool x)) := rfl
theorem setK_str {x : Str} : setK ρ i (.str x) k = ρ.set i (some (false, .str x)) := rfl
theorem setK_non : setK ρ i .none k = ρ.set i (some (false, .none)) := rfl
theorem setK_own {x : List D} {s : List Nat} : setK ρ i (.list x) (.own s) = (dropS ρ s).set i (some (true, .list x)) := rfl
theorem setK_old {x : List D} : setK ρ i (.list x) .old = ρ.set i (some (false, .list x)) := rfl
theorem setK_mix {x : List D} : setK ρ i (.list x) .mix = (frz ρ).set i (some (false, .list x)) := rfl
theorem setK_ownI {x : List Int} {s : List Nat} : setK ρ i (iD x) (.own s) = (dropS ρ s).set i (some (true, iD x)) := rfl
theorem setK_oldI {x : List Int} : setK ρ i (iD x) .old = ρ.set i (some (false, iD x)) := rfl
theorem setK_mixI {x : List Int} : setK ρ i (iD x) .mix = (frz ρ).set i (some (false, iD x)) := rfl
theorem setK_ownG {x : List (List Int)} {s : List Nat} : setK ρ i (gD x) (.own s) = (dropS ρ s).set i (some (true, gD x)) := rfl
theorem setK_oldG {x : List (List Int)} : setK ρ i (gD x) .old = ρ.set i (some (false, gD x)) := rfl
theorem setK_mixG {x : List (List Int)} : setK ρ i (gD x) .mix = (frz ρ).set i (some (false, gD x)) := rfl
theorem setK_tup {x : List D} (h : flats x = true) : setK ρ i (.tuple x) k = ρ.set i (some (false, .tuple x)) := by unfold setK; rw [flat_tuple, if_pos h]
theorem rtK_int {x : Int} : rtK (.int x) k = true := rfl
theorem rtK_bool {x : Bool} : rtK (.bool x) k = true := rfl
theorem rtK_str {x : Str} : rtK (.str x) k = true := rfl
theorem rtK_non : rtK .none k = true := rfl
theorem rtK_own {s : List Nat} : rtK d (.own s) = true := by unfold rtK; rw [Bool.or_true]
theorem rtK_tup {x : List D} (h : flats x = true) : rtK (.tuple x) k = true := by unfold rtK; rw [flat_tuple, h]; rfl
theorem kcons_flat (h : flat d = true) : kcons d k (.own []) = .own [] := by unfold kcons; rw [if_pos h]; rfl
theorem kcons_own {s : List Nat} (h : flat d = false) : kcons d (.own s) (.own []) = .own (s ++ []) := by
  unfold kcons; rw [h, if_neg Bool.false_ne_true]
  show (if disj s [] = true then Kd.own (s ++ []) else .mix) = _
  rw [if_pos (by unfold disj; simp)]
theorem kcons_old (h : flat d = false) : kcons d .old (.own []) = .old := by unfold kcons; rw [h]; rfl
theorem frz_nil : frz [] = [] := rfl
theorem frz_some {b : Bool} {r : Ren} : frz (some (b, d) :: r) = some (false, d) :: frz r := rfl
theorem frz_none {r : Ren} : frz (none :: r) = none :: frz r := rfl
theorem dropS_nil : dropS ρ [] = ρ := rfl
theorem dropS_cons {s : List Nat} : dropS ρ (i :: s) = dropS (ρ.set i none) s := rfl
theorem kRet_t : kRet true = .own [] := rfl
theorem kRet_f : kRet false = .mix := rfl
theorem sub_own : Kd.sub (.own []) = .own [] := rfl
theorem sub_old : Kd.sub .old = .old := rfl
theorem sub_ownc {s : List Nat} : Kd.sub (.own (i :: s)) = .mix := rfl
theorem sub_mix : Kd.sub .mix = .mix := rfl
theorem isOld_own : Kd.isOld (.own []) = true := rfl
theorem isOld_old : Kd.isOld .old = true := rfl
theorem isOld_mix : Kd.isOld .mix = false := rfl
theorem isOld_ownc {s : List Nat} : Kd.isOld (.own (i :: s)) = false := rfl
theorem eff_int {x : Int} : eff (.int x) k = .own [] := rfl
theorem eff_bool {x : Bool} : eff (.bool x) k = .own [] := rfl
theorem eff_str {x : Str} : eff (.str x) k = .own [] := rfl
theorem eff_tup {x : List D} (h : flats x = true) : eff (.tuple x) k = .own [] := by unfold eff; rw [flat_tuple, h]; rfl
theorem eff_ltc {x : List D} : eff (.list x) k = k := rfl
theorem eff_iD {x : List Int} : eff (iD x) k = k := rfl
theorem eff_gD {x : List (List Int)} : eff (gD x) k = k := rfl
theorem isOwnK_own : isOwnK (.own []) = true := rfl
theorem isOwnK_old : isOwnK .old = false := rfl
theorem w_v0 {r : Ren} (q : Q d .old) : dVar 0 (some (false, d) :: r) Q Xd := ⟨false, d, rfl, q⟩
theorem w_o0 {r : Ren} (q : Q d (.own [0])) : dVar 0 (some (true, d) :: r) Q Xd := ⟨true, d, rfl, q⟩
theorem w_v1 {x0 : Option (Bool × D)} {r : Ren} (q : Q d .old) : dVar 1 (x0 :: some (false, d) :: r) Q Xd := ⟨false, d, rfl, q⟩
theorem w_o1 {x0 : Option (Bool × D)} {r : Ren} (q : Q d (.own [1])) : dVar 1 (x0 :: some (true, d) :: r) Q Xd := ⟨true, d, rfl, q⟩
theorem w_v2 {x0 x1 : Option (Bool × D)} {r : Ren} (q : Q d .old) : dVar 2 (x0 :: x1 :: some (false, d) :: r) Q Xd := ⟨false, d, rfl, q⟩
theorem w_o2 {x0 x1 : Option (Bool × D)} {r : Ren} (q : Q d (.own [2])) : dVar 2 (x0 :: x1 :: some (true, d) :: r) Q Xd := ⟨true, d, rfl, q⟩
theorem w_v3 {x0 x1 x2 : Option (Bool × D)} {r : Ren} (q : Q d .old) : dVar 3 (x0 :: x1 :: x2 :: some (false, d) :: r) Q Xd := ⟨false, d, rfl, q⟩
theorem w_o3 {x0 x1 x2 : Option (Bool × D)} {r : Ren} (q : Q d (.own [3])) : dVar 3 (x0 :: x1 :: x2 :: some (true, d) :: r) Q Xd := ⟨true, d, rfl, q⟩
theorem w_v4 {x0 x1 x2 x3 : Option (Bool × D)} {r : Ren} (q : Q d .old) : dVar 4 (x0 :: x1 :: x2 :: x3 :: some (false, d) :: r) Q Xd := ⟨false, d, rfl, q⟩
theorem w_o4 {x0 x1 x2 x3 : Option (Bool × D)} {r : Ren} (q : Q d (.own [4])) : dVar 4 (x0 :: x1 :: x2 :: x3 :: some (true, d) :: r) Q Xd := ⟨true, d, rfl, q⟩
theorem w_v5 {x0 x1 x2 x3 x4 : Option (Bool × D)} {r : Ren} (q : Q d .old) : dVar 5 (x0 :: x1 :: x2 :: x3 :: x4 :: some (false, d) :: r) Q Xd := ⟨false, d, rfl, q⟩
theorem w_o5 {x0 x1 x2 x3 x4 : Option (Bool × D)} {r : Ren} (q : Q d (.own [5])) : dVar 5 (x0 :: x1 :: x2 :: x3 :: x4 :: some (true, d) :: r) Q Xd := ⟨true, d, rfl, q⟩
theorem w_v6 {x0 x1 x2 x3 x4 x5 : Option (Bool × D)} {r : Ren} (q : Q d .old) : dVar 6 (x0 :: x1 :: x2 :: x3 :: x4 :: x5 :: some (false, d) :: r) Q Xd := ⟨false, d, rfl, q⟩
theorem w_o6 {x0 x1 x2 x3 x4 x5 : Option (Bool × D)} {r : Ren} (q : Q d (.own [6])) : dVar 6 (x0 :: x1 :: x2 :: x3 :: x4 :: x5 :: some (true, d) :: r) Q Xd := ⟨true, d, rfl, q⟩
end
end DL

namespace DL
open PySem PySem.Spec PyProof.Rows L2
/-! ### defs that may be called within a handler -/
structure RoomH (k : Nat) (A : Around) : Prop where
  dp : A.depth + 3 * k + 5 < recursionLimit
  un : A.units + 16 * k + 200 < cLine
theorem Room.h {k : Nat} {A : Around} (r : Room k A) : RoomH k A := ⟨r.dp, r.un⟩
structure FnOkH (P : Program) (w : World) (K : PySem.W.Frag) (mg : Str → Option Value) (base : Heap) (k : Nat) (f : Addr) (fd : FuncData) (ps : List Str) (sp : Sp) : Prop where
  len : ∀ vs H Q E, sp vs H Q E → vs.length = ps.length
  run : ∀ (A : Around) (outer : List Env) (s : Shared) (H : Hp) (args : Args) (us : List Value) (vs : List V) (Q : VK) (E : XK), RoomH k A → Env0 P w K mg base A outer s H → BindsTo s fd args (ps.zip us) → Vals vs us → sp vs H Q E →
    codeAny (model P w) A (.call (.ref f) args) (CR CX0 outer P w H s Q E) s
abbrev cxH (P : Program) (w : World) (K : PySem.W.Frag) (mg : Str → Option Value) (base : Heap) (N : List Str) (qual : Str) (scope : Scope) (f : Addr) (cd : Value) (A : Around) (outer : List Env) (s : Shared) (H : Hp) (E : XK) : Cx :=
  { cxOf CX0 P w K mg base N qual scope f cd A outer s H E with calm := false }
end DL

namespace DL
open PySem PySem.Spec PyProof.Rows L2
/-! ### try over data -/
def LEX (K : PySem.W.Frag) (t : TD) : TEX := fun σ H Q E => ∃ H0 ν ρ Qd Xd, StOk K Z0 H0 ν ρ σ H ∧ t ρ Qd Xd ∧ (∀ d k v H', Qd d k → Same H H' → Res K Z0 ν H H' k v d → Q v H') ∧ ∀ C H', Xd C → Same H H' → E (.ref C) none H'
structure DEX (X : Cx) (K : PySem.W.Frag) (e : Expr) (t : TD) : Prop where
  q : PEX X e (LEX K t)
abbrev TSDX := EndsD → Ren → (Ren → Addr → Prop) → Prop
def LSX (K : PySem.W.Frag) (t : TSDX) : TSX := fun En Es σ H => ∃ H0 ν ρ Dd Xr, StOk K Z0 H0 ν ρ σ H ∧ t Dd ρ Xr ∧ EndsOk K H0 En Dd ∧ ∀ ν' ρ' σ' H' C, Xr ρ' C → StOk K Z0 H0 ν' ρ' σ' H' → Es σ' (.ref C) none H'
structure DSX (X : Cx) (K : PySem.W.Frag) (s : Stmt) (t : TSDX) : Prop where
  q : PSX X s (LSX K t)
structure DSXs (X : Cx) (K : PySem.W.Frag) (s : List Stmt) (t : TSDX) : Prop where
  q : PSXs X s (LSX K t)
section
variable {X : Cx} {K : PySem.W.Frag} {pos pos' : Pos} {e : Expr}
def xOf (te : TD) : TD := fun ρ Q _ => te ρ Q Xf
def xCl (sp : SpD) (t : TDA) : TD := fun ρ Q Xd => t ρ (fun ds _ => sp ds (fun d o => Q d (kRet o)) Xd) Xf
def xTp2 (ta tb : TD) : TD := fun ρ Q Xd => ta ρ (fun d k => tb ρ (fun e l => Q (.tuple [d, e]) (kcons d k (kcons e l (.own [])))) Xd) Xf
def xRt (te : TD) : TSDX := fun Dd ρ Xr => te ρ (fun d k => Dd.rt d (rtK d k)) (Xr ρ)
def xSt (i : Nat) (te : TD) : TSDX := fun Dd ρ Xr => te ρ (fun d k => Dd.nx (setK ρ i d k)) (Xr ρ)
def xDp (te : TD) : TSDX := fun Dd ρ Xr => te ρ (fun _ _ => Dd.nx ρ) (Xr ρ)
def xStm (t : TSD) : TSDX := fun Dd ρ _ => t Dd ρ Xf
def xNx : TSDX := fun Dd ρ _ => Dd.nx ρ
def xSq (t u : TSDX) : TSDX := fun Dd ρ Xr => t { Dd with nx := fun ρ' => u Dd ρ' Xr } ρ Xr
def xIf (tc : TDT) (a b : TSDX) : TSDX := fun Dd ρ Xr => tc ρ (fun c => if c = true then a Dd ρ Xr else b Dd ρ Xr) Xf
/-- try: .. except R: .. -/
def dTry0 (K : PySem.W.Frag) (R : Addr) (tb : TSDX) (ts : TSD) : TSD := fun Dd ρ _ => tb Dd ρ fun ρ' C => Fits K C R ∧ ts Dd ρ' Xf
def opq (a : Addr) : D := .dict [(.bool true, .int (a : Nat))]
def onlyRt (Dd : EndsD) : EndsD := { nx := fun _ => False, rt := Dd.rt, bk := fun _ => False, ct := fun _ => False }
/-- try: .. except R as n: .. (a suite that returns) -/
def dTryN (K : PySem.W.Frag) (mg : Str → Option Value) (R : Addr) (i : Nat) (tb : TSDX) (ts : Addr → Addr → TSD) : TSD := fun Dd ρ _ => tb Dd ρ fun ρ' C => Fits K C R ∧ (∃ x, ExC K mg x C) ∧ ExK K C ∧ ∀ ea, ts ea C (onlyRt Dd) (ρ'.set i (some (false, opq ea))) Xf
/-- isinstance(e, C) of the caught one -/
def dIsX (K : PySem.W.Frag) (ea C D : Addr) (te : TD) : TD := fun ρ Q Xd => te ρ (fun d _ => d = opq ea ∧ ∃ b, PySem.W.kitOne K (.ref C) (.ref D) = some b ∧ Q (.bool b) .old) Xd
/-- isinstance(e, (C, D, ..)) of the caught one -/
def dIsXT (K : PySem.W.Frag) (ea C : Addr) (Ds : List Addr) (te : TD) : TD := fun ρ Q Xd => te ρ (fun d _ => d = opq ea ∧ ∃ b, PySem.W.kitAny K (.ref C) (Ds.map Value.ref) = some b ∧ Q (.bool b) .old) Xd
end
end DL

namespace DL
open PySem PySem.Spec PyProof.Rows L2
section
variable {Q : QD} {QT : Bool → Prop} {k l : Kd} {ρ : Ren} {Xd : XD} {X : Cx} {K : PySem.W.Frag}
theorem w_truI {x : List Int} (h : QT (!x.isEmpty)) : ∃ b, truD (iD x) = some b ∧ QT b := by
  refine ⟨_, rfl, ?_⟩
  have : (x.map PyData.int).isEmpty = x.isEmpty := by cases x <;> rfl
  rw [this]; exact h
theorem cut_from {x : List D} {j : Nat} {z : Int} (hz : z = j) : cutD x (some z) none = x.drop j := by
  subst hz
  unfold cutD
  rw [HT.sIx_nat, HT.sIx_none]
  by_cases h : j ≤ x.length
  · rw [Nat.min_eq_left h]
    exact List.take_of_length_le (by rw [List.length_drop]; exact Nat.le_refl _)
  · rw [Nat.min_eq_right (by omega), List.drop_eq_nil_of_le (Nat.le_refl _), List.drop_eq_nil_of_le (by omega)]; simp
theorem cut_to {x : List D} {j : Nat} {z : Int} (hz : z = j) : cutD x none (some z) = x.take j := by
  subst hz
  unfold cutD
  rw [HT.sIx_nat, HT.sIx_none, List.drop_zero, Nat.sub_zero]
  by_cases h : j ≤ x.length
  · rw [Nat.min_eq_left h]
  · rw [Nat.min_eq_right (by omega), List.take_of_length_le (Nat.le_refl _), List.take_of_length_le (by omega)]
theorem kels_ints {ns : List Int} : kels (ns.map PyData.int) k = .own [] := by unfold kels; rw [if_pos flats_ints]
theorem w_slI {x : List Int} {lo hi : Option Int} (h : Q (.list (cutD (x.map PyData.int) lo hi)) (kels (cutD (x.map PyData.int) lo hi) k)) : fSl (iD x) k lo hi Q := h
theorem list_iD {x : List Int} : PyData.list (x.map PyData.int) = iD x := rfl
theorem list_gD {x : List (List Int)} : PyData.list (x.map iD) = gD x := rfl
theorem zip_ints : ∀ (x y : List Int), zipD (x.map PyData.int) (y.map PyData.int) = (x.zip y).map fun p => PyData.tuple [.int p.1, .int p.2]
  | [], _ => rfl
  | _ :: _, [] => rfl
  | a :: x, b :: y => by
    show PyData.tuple [.int a, .int b] :: zipD _ _ = _
    rw [zip_ints x y]; rfl
/-- floor division by any number that is not great beyond measure -/
def CDivX (i j : Int) : Prop := j ≠ 0 ∧ j.natAbs.log2 < 9000
end
section
variable {t u : TSD} {te ta tb tc t1 t2 : TD} {tl : TDA} {Dd : EndsD} {ρ : Ren} {Xd : XD} {Q : QD} {i : Nat} {d e : D} {k l : Kd}
def AppK (ds : List D) (i : Nat) (ρ : Ren) (Dd : EndsD) (d : D) : Kd → Prop
  | .own s => i ∉ s ∧ Dd.nx ((dropS ρ s).set i (some (true, .list (ds ++ [d]))))
  | _ => False
theorem w_app {ds : List D} (e : ρ[i]? = some (some (true, .list ds))) (hl : ds.length < 1000000) (h : te ρ (fun d k => AppK ds i ρ Dd d (eff d k)) Xd) : dApp i te Dd ρ Xd := by
  refine ⟨ds, e, hl, ?_⟩
  have : (fun d k => AppK ds i ρ Dd d (eff d k)) = (fun d k => match eff d k with
    | .own s => i ∉ s ∧ Dd.nx ((dropS ρ s).set i (some (true, .list (ds ++ [d]))))
    | _ => False) := by
    funext d k
    cases eff d k <;> rfl
  rw [this] at h
  exact h
theorem w_appK {ds : List D} {s : List Nat} (h : i ∉ s ∧ Dd.nx ((dropS ρ s).set i (some (true, .list (ds ++ [d]))))) : AppK ds i ρ Dd d (.own s) := h
def PutK (i : Nat) (ρ : Ren) (Dd : EndsD) (x : D) : Kd → Prop
  | .own s => i ∉ s ∧ Dd.nx ((dropS ρ s).set i (some (true, x)))
  | _ => False
theorem w_putK {x : D} {s : List Nat} (h : i ∉ s ∧ Dd.nx ((dropS ρ s).set i (some (true, x)))) : PutK i ρ Dd x (.own s) := h
theorem w_put1 (h : te ρ (fun d k => ∃ ds, ρ[i]? = some (some (true, .list ds)) ∧ t1 ρ (fun y _ => onI y fun z => ∃ j, ixN ds.length z = some j ∧ PutK i ρ Dd (.list (ds.set j d)) (eff d k)) Xd) Xd) : dPut1 i t1 te Dd ρ Xd := by
  have e : (fun (d : D) (k : Kd) => ∃ ds, ρ[i]? = some (some (true, .list ds)) ∧ t1 ρ (fun y _ => onI y fun z => ∃ j, ixN ds.length z = some j ∧ PutK i ρ Dd (.list (ds.set j d)) (eff d k)) Xd) = fun d k => ∃ ds, ρ[i]? = some (some (true, .list ds)) ∧ t1 ρ (fun y _ => ∃ z j, y = .int z ∧ ixN ds.length z = some j ∧ match eff d k with
    | .own s => i ∉ s ∧ Dd.nx ((dropS ρ s).set i (some (true, .list (ds.set j d))))
    | _ => False) Xd := by
    funext d k
    congr 1
    funext ds
    congr 2
    funext y _
    refine propext ⟨fun h => ?_, fun h => ?_⟩
    · cases y with
      | int z =>
        obtain ⟨j, h1, h2⟩ := h
        refine ⟨z, j, rfl, h1, ?_⟩
        cases he : eff d k <;> rw [he] at h2 <;> exact h2
      | _ => exact h.elim
    · obtain ⟨z, j, rfl, h1, h2⟩ := h
      refine ⟨j, h1, ?_⟩
      cases he : eff d k <;> rw [he] at h2 <;> exact h2
  rw [e] at h
  exact h
theorem unpK_own {is : List Nat} {ds : List D} : unpK ρ is ds (.own []) = setAll true ρ is ds := by
  unfold unpK eff
  split <;> first | rfl | (split at * <;> simp_all)
theorem unpK_flat {is : List Nat} {ds : List D} (h : flats ds = true) : unpK ρ is ds k = setAll true ρ is ds := by
  unfold unpK
  have : eff (.tuple ds) k = .own [] := eff_tup h
  rw [this]
theorem setAll_cons {b : Bool} {is : List Nat} {ds : List D} : setAll b ρ (i :: is) (d :: ds) = setAll b (ρ.set i (some (b && !flat d, d))) is ds := rfl
theorem setAll_nil {b : Bool} {ds : List D} : setAll b ρ [] ds = ρ := rfl
theorem app_iD {r : List Int} {x : Int} : PyData.list (r.map .int ++ [.int x]) = iD (r ++ [x]) := by unfold iD; rw [List.map_append]; rfl
theorem app_gD {g : List (List Int)} {r : List Int} : PyData.list (g.map iD ++ [iD r]) = gD (g ++ [r]) := by unfold gD; rw [List.map_append]; rfl
end
end DL

namespace DL
open PySem PySem.Spec PyProof.Rows L2
variable {α : Type}
theorem go_fltA {f : D → Els → (Els → Prop) → Prop} {Q : Els → Prop} (F G : α → D) (p : α → Bool) : ∀ (L : List α) (es : Els), (∀ a ∈ L, ∀ es (Q' : Els → Prop), es.length < 1000000 → Q' (if p a = true then es ++ [(G a, true)] else es) → f (F a) es Q') → es.length + L.length ≤ 1000000 → Q (es ++ (L.filter p).map fun a => (G a, true)) → go f (L.map F) es Q
  | [], es, _, _, q => by
    show Q es
    simpa using q
  | a :: r, es, hs, hm, q => by
    rw [List.length_cons] at hm
    refine hs a List.mem_cons_self es _ (by omega) ?_
    refine go_fltA F G p r _ (fun b hb => hs b (List.mem_cons_of_mem _ hb)) ?_ ?_
    · split
      · rw [List.length_append, List.length_singleton]; omega
      · omega
    · rw [List.filter_cons] at q
      by_cases hp : p a = true
      · rw [if_pos hp] at q ⊢
        rw [List.append_assoc]; exact q
      · rw [if_neg hp] at q ⊢; exact q
/-- the list made of what a list holds, those that pass -/
theorem lc_fltA {f : D → Els → (Els → Prop) → Prop} {ok : Bool} {Q : QD} {L : List α} (F G : α → D) (p : α → Bool) (hs : ∀ a ∈ L, ∀ es (Q' : Els → Prop), es.length < 1000000 → Q' (if p a = true then es ++ [(G a, true)] else es) → f (F a) es Q') (hm : L.length ≤ 1000000) (q : Q (.list ((L.filter p).map G)) (.own [])) : LcD f (L.map F) ok Q := by
  refine go_fltA F G p L [] hs (by simpa using hm) ?_
  have e1 : ((((L.filter p).map fun a => (G a, true)) : Els).map (·.1)) = (L.filter p).map G := by rw [List.map_map]; rfl
  have e2 : ((((L.filter p).map fun a => (G a, true)) : Els).all (·.2)) = true := by rw [List.all_map]; exact List.all_eq_true.mpr fun _ _ => rfl
  rw [List.nil_append, e1, if_pos e2]; exact q
theorem lc_mapA {f : D → Els → (Els → Prop) → Prop} {ok : Bool} {Q : QD} {L : List α} (F G : α → D) (hs : ∀ a ∈ L, ∀ es (Q' : Els → Prop), es.length < 1000000 → Q' (es ++ [(G a, true)]) → f (F a) es Q') (hm : L.length ≤ 1000000) (q : Q (.list (L.map G)) (.own [])) : LcD f (L.map F) ok Q :=
  lc_fltA F G (fun _ => true) hs hm (by rw [List.filter_eq_self.mpr fun _ _ => rfl]; exact q)
/-- a place where ways meet again -/
def dJn (t : TSD) : TSD := t
theorem dps_jn {X : Cx} {K : PySem.W.Frag} {E : XK} {s : Stmt} {t : TSD} (h : DS X K E s t) : DS X K E s (dJn t) := h
theorem w_jn {t : TSD} {Dd : EndsD} {ρ : Ren} {Xd : XD} (I : Ren → Prop) (h1 : ∀ N : Ren → Prop, (∀ ρ', I ρ' → N ρ') → t { Dd with nx := N } ρ Xd) (h2 : ∀ ρ', I ρ' → Dd.nx ρ') : dJn t Dd ρ Xd := h1 Dd.nx h2
theorem kels2_ints {x y : List Int} {k l : Kd} : kels2 (x.map PyData.int) k (y.map PyData.int) l = .own [] := by unfold kels2; rw [flats_ints, flats_ints]; rfl
section
variable {K : PySem.W.Frag} {R : Addr} {tb a b : TSDX} {ts : TSD} {Dd : EndsD} {ρ : Ren} {Xd : XD} {Xr : Ren → Addr → Prop} {te : TD} {tl : TDA} {tc : TDT} {sp : SpD} {Q : QD}
end
theorem frz1_0 {b : Bool} {d : D} {r : Ren} : frz1 0 (some (b, d) :: r) = some (false, d) :: r := rfl
theorem frz1_s {i : Nat} {x : Option (Bool × D)} {r : Ren} : frz1 (i + 1) (x :: r) = x :: frz1 i r := by
  unfold frz1
  rw [List.getElem?_cons_succ]
  cases h : r[i]? with
  | none => rfl
  | some y => cases y with
    | none => rfl
    | some p => rfl
end DL

namespace DL
open PySem PySem.Spec PyProof.Rows L2
section
variable {X : Cx} {K : PySem.W.Frag} {E : XK} {pos pa p1 px py pt : Pos} {e e1 : Expr} {te t1 : TD} {x y : Str}
theorem onI_ex {y : D} {Q : Int → Prop} (h : onI y Q) : ∃ z, y = .int z ∧ Q z := by
  cases y with
  | int z => exact ⟨z, rfl, h⟩
  | _ => exact h.elim
/-! ### for y in x: y[e1] = e, x a list of lists of ours -/
def dForPut (i t : Nat) (t1 te : TD) : TSD := fun Dd ρ Xd => i ≠ t ∧ t < ρ.length ∧ ∃ (ds ds' : List D), ρ[i]? = some (some (true, .list ds)) ∧ ds'.length = ds.length ∧ (∀ (k : Nat) (row : D), ds[k]? = some row → te ((ρ.set i none).set t (some (false, row))) (fun d _ => flat d = true ∧ t1 ((ρ.set i none).set t (some (false, row))) (fun y _ => onI y fun z => ∃ (j : Nat) (es : List D), row = .list es ∧ ixN es.length z = some j ∧ ds'[k]? = some (.list (es.set j d))) Xd) Xd) ∧ Dd.nx ((ρ.set i (some (true, .list ds'))).set t none)
end
end DL

namespace DL
open PySem PySem.Spec PyProof.Rows L2
section
variable {X : Cx} {K : PySem.W.Frag} {E : XK} {pos p2 : Pos} {e k : Expr} {te tk : TD} {α : Type}
/-! ### xs[::-1] -/
def fRev (d : D) (k : Kd) (y : D) (Q : QD) : Prop := y = .int (-1) ∧ onL d fun ds => Q (.list ds.reverse) (kels ds.reverse k)
def dRev (te tk : TD) : TD := fun ρ Q Xd => te ρ (fun d k => tk ρ (fun y _ => fRev d k y Q) Xd) Xd
/-! ### lists of what is not ours -/
theorem set_iD {r : List Int} {m : Nat} {y : Int} : iD (r.set m y) = .list ((r.map .int).set m (.int y)) := by unfold iD; rw [List.map_set]
theorem lay_iD (r : List Int) : (iD r).canLay0 = true := lay_ints r
theorem depth_iD (r : List Int) : (iD r).depth ≤ 32 := by
  show PyData.depthAll _ + 1 ≤ 32
  have : PyData.depthAll (r.map PyData.int) = 0 := depth_ints r
  omega
theorem eqv_iD (r : List Int) : PyData.eqv (iD r) (iD r) = true := SeqAt.eqv_refl _ (lay_iD r)
theorem kcons_int {x : Int} {k : Kd} : kcons (.int x) k (.own []) = .own [] := kcons_flat rfl
theorem kcons_boo {x : Bool} {k : Kd} : kcons (.bool x) k (.own []) = .own [] := kcons_flat rfl
theorem kcons_st {x : Str} {k : Kd} : kcons (.str x) k (.own []) = .own [] := kcons_flat rfl
theorem kcons_nn {k : Kd} : kcons .none k (.own []) = .own [] := kcons_flat rfl
theorem one_iD {x : Int} : PyData.list [PyData.int x] = iD [x] := rfl
theorem two_iD {x y : Int} : PyData.list [PyData.int x, PyData.int y] = iD [x, y] := rfl
end
end DL

namespace DL
open PySem PySem.Spec PyProof.Rows L2
section
variable {X : Cx} {K : PySem.W.Frag} {E : XK} {pos p1 px apos cpos : Pos} {e e1 : Expr} {te t1 : TD} {x : Str}
/-- a list within a list of ours is changed in its place -/
theorem StOk.row {H0 H H2 : Hp} {ν : Nat → List Addr} {ρ : Ren} {σ : L2.St} {i j : Nat} {ds es : List D} {a : Addr} {us : List V} {ns : List Addr} {s : List Nat} (S : StOk K Z0 H0 ν ρ σ H) (h1 : ρ[i]? = some (some (true, .list ds))) (g1 : σ[i]? = some (some (.ref a))) (g2 : H a = some (.lst us)) (g3 : Ows K H us ds ns) (g4 : ν i = a :: ns) (g5 : a ∉ ns) (g6 : ns.Nodup)
    (hj : ds[j]? = some (.list es)) (e : Same H H2) (hs : i ∉ s) :
    ∃ b ws ms0, us[j]? = some (.ref b) ∧ H b = some (.lst ws) ∧ Ows K H ws es ms0 ∧ b ∉ ms0 ∧ ms0.Nodup ∧ (∀ y ∈ b :: ms0, y ∈ ns) ∧ ∀ (ws' : List V) (es' : List D) (ms : List Addr), Ows K (upd H2 b (.lst ws')) ws' es' ms → ms.Nodup → (∀ y ∈ ms, y ∈ ms0 ∨ H y = none ∨ ∃ l ∈ s, y ∈ ν l) →
      ∃ ν', StOk K Z0 H0 ν' ((dropS ρ s).set i (some (true, .list (ds.set j (.list es'))))) σ (upd H2 b (.lst ws')) := by
  obtain ⟨n1, n2, n3, u, q1, q2, q3, q4, _⟩ := ows_split g3 hj
  have nu := g6
  rw [q1, List.nodup_append, List.nodup_append] at nu
  cases q3 with
  | lst hb r =>
    rename_i b ws n2
    have nb := List.nodup_cons.mp nu.2.1.1
    have inr : ∀ y ∈ b :: n2, y ∈ ns := fun y hy => by rw [q1]; exact List.mem_append_right _ (List.mem_append_left _ hy)
    refine ⟨b, ws, n2, q2, hb, r, nb.1, nb.2, inr, fun ws' es' ms hm nd fr => ?_⟩
    have hbn : b ∈ ns := inr b List.mem_cons_self
    have hab : a ≠ b := fun z => g5 (z ▸ hbn)
    have in13 : ∀ y, y ∈ n1 ∨ y ∈ n3 → y ∈ ns := fun y hy => by rw [q1]; rcases hy with hy | hy <;> simp [hy]
    have ne13 : ∀ y, y ∈ n1 ∨ y ∈ n3 → ∀ z ∈ b :: n2, y ≠ z := fun y hy z hz e => by
      subst e
      rcases hy with hy | hy
      · exact nu.2.2 y hy y (List.mem_append_left _ hz) rfl
      · exact nu.2.1.2.2 y hz y hy rfl
    have ms13 : ∀ y, y ∈ n1 ∨ y ∈ n3 → y ∉ ms := fun y hy z => by
      rcases fr y z with z | z | ⟨l, hl, z⟩
      · exact ne13 y hy y (List.mem_cons_of_mem _ z) rfl
      · obtain ⟨us, w⟩ := g3.there y (in13 y hy); rw [z] at w; cases w
      · rw [S.dj i l y (by rw [g4]; exact List.mem_cons_of_mem _ (in13 y hy)) z] at hs; exact hs hl
    have msa : a ∉ ms := fun z => by
      rcases fr a z with z | z | ⟨l, hl, z⟩
      · exact g5 (inr a (List.mem_cons_of_mem _ z))
      · rw [g2] at z; cases z
      · rw [S.dj i l a (by rw [g4]; exact List.mem_cons_self) z] at hs; exact hs hl
    have msb : b ∉ ms := fun z => by
      rcases fr b z with z | z | ⟨l, hl, z⟩
      · exact nb.1 z
      · rw [hb] at z; cases z
      · rw [S.dj i l b (by rw [g4]; exact List.mem_cons_of_mem _ hbn) z] at hs; exact hs hl
    have k1 : ∀ (l : List Addr), (∀ y ∈ l, y ∈ n1 ∨ y ∈ n3) → Kept l H (upd H2 b (.lst ws')) := fun l hl => kept_upd e hb fun y hy => ⟨g3.there y (in13 y (hl y hy)), ne13 y (hl y hy) b List.mem_cons_self⟩
    have C : Ow K (upd H2 b (.lst ws')) (.ref b) (.list es') (b :: ms) := .lst upd_same hm
    have us' : us.set j (.ref b) = us := by
      apply List.ext_getElem?
      intro m
      by_cases z : m = j
      · subst z; rw [List.getElem?_set_self (len_of q2), q2]
      · rw [List.getElem?_set_ne (Ne.symm z)]
    have A := q4 _ (k1 n1 fun y hy => .inl hy) (k1 n3 fun y hy => .inr hy) (.ref b) _ _ C
    rw [us'] at A
    refine ⟨_, S.mut s i (ms := a :: (n1 ++ ((b :: ms) ++ n3))) (v := .ref a) g1 (len_of h1) (fun y o hy hn => ?_) (.lst (by rw [upd_ne hab]; exact e _ _ g2) A) ?_ ?_ hs (gone_ok S hs e (by rw [g4]; exact List.mem_cons_of_mem _ hbn))⟩
    · rw [upd_ne (fun z => hn (by rw [z, g4]; exact List.mem_cons_of_mem _ hbn))]; exact e _ _ hy
    · refine List.nodup_cons.mpr ⟨fun z => ?_, List.nodup_append.mpr ⟨nu.1, List.nodup_append.mpr ⟨List.nodup_cons.mpr ⟨msb, nd⟩, nu.2.1.2.1, fun x hx y hy z => ?_⟩, fun x hx y hy z => ?_⟩⟩
      · rcases List.mem_append.mp z with z | z
        · exact g5 (in13 a (.inl z))
        · rcases List.mem_append.mp z with z | z
          · rcases List.mem_cons.mp z with z | z
            · exact hab z
            · exact msa z
          · exact g5 (in13 a (.inr z))
      · subst z
        rcases List.mem_cons.mp hx with z | z
        · exact ne13 x (.inr hy) b List.mem_cons_self z
        · exact ms13 x (.inr hy) z
      · subst z
        rcases List.mem_append.mp hy with hy | hy
        · rcases List.mem_cons.mp hy with z | z
          · exact ne13 x (.inl hx) b List.mem_cons_self z
          · exact ms13 x (.inl hx) z
        · exact nu.2.2 x hx x (List.mem_append_right _ hy) rfl
    · intro y hy
      have tk : ∀ y ∈ ns, y ∈ ν i := fun y hy => by rw [g4]; exact List.mem_cons_of_mem _ hy
      rcases List.mem_cons.mp hy with rfl | hy
      · exact .inl (by rw [g4]; exact List.mem_cons_self)
      · rcases List.mem_append.mp hy with hy | hy
        · exact .inl (tk y (in13 y (.inl hy)))
        · rcases List.mem_append.mp hy with hy | hy
          · rcases List.mem_cons.mp hy with rfl | hy
            · exact .inl (tk _ hbn)
            · rcases fr y hy with z | z | z
              · exact .inl (tk y (inr y (List.mem_cons_of_mem _ z)))
              · exact .inr (.inl z)
              · exact .inr (.inr z)
          · exact .inl (tk y (in13 y (.inr hy)))
/-! ### x[e1].append(e) -/
def App2K (ds es : List D) (j i : Nat) (ρ : Ren) (Dd : EndsD) (d : D) : Kd → Prop
  | .own s => i ∉ s ∧ Dd.nx ((dropS ρ s).set i (some (true, .list (ds.set j (.list (es ++ [d]))))))
  | _ => False
def dApp2 (i : Nat) (t1 te : TD) : TSD := fun Dd ρ Xd => ∃ ds, ρ[i]? = some (some (true, .list ds)) ∧ t1 ρ (fun y1 _ => onI y1 fun z1 => ∃ (j1 : Nat) (es : List D), ixN ds.length z1 = some j1 ∧ ds[j1]? = some (.list es) ∧ es.length < 1000000 ∧ te ρ (fun d k => App2K ds es j1 i ρ Dd d (eff d k)) Xd) Xd
end
end DL

namespace DL
open PySem PySem.Spec PyProof.Rows L2
/-! ### defs that are handed the caught one, within a handler -/
abbrev SpX := Addr → (D → Prop) → Prop
structure FnOkX (P : Program) (w : World) (K : PySem.W.Frag) (mg : Str → Option Value) (base : Heap) (k : Nat) (f : Addr) (fd : FuncData) (p : Str) (spx : SpX) : Prop where
  run : ∀ (A : Around) (outer : List Env) (s : Shared) (H : Hp) (args : Args) (ea C : Addr) (oe : Obj) (y : Str) (Qd : D → Prop) (Q : VK), RoomH k A → Env0 P w K mg base A outer s H → BindsTo s fd args [(p, .ref ea)] → s.heap.get? ea = some oe → A.handled = some (.ref ea) → XOf oe C → ExC K mg y C → ExK K C → H ea = none → ea ∉ frs outer → (∀ v, oe.data ≠ .cell v) → spx C Qd → (∀ d v H', Qd d → flat d = true → Same H H' → Dn K H' v d → Q v H') →
    codeAny (model P w) A (.call (.ref f) args) (CR CX0 outer P w H s Q E0) s
abbrev cxX (P : Program) (w : World) (K : PySem.W.Frag) (mg : Str → Option Value) (base : Heap) (N : List Str) (qual : Str) (scope : Scope) (f : Addr) (cd : Value) (A : Around) (outer : List Env) (s : Shared) (H : Hp) (E : XK) (ea : Addr) (oe : Obj) : Cx :=
  { cxOf CX0 P w K mg base N qual scope f cd A outer s H E with calm := false, pn := [(ea, oe)] }
structure DfX (P : Program) (w : World) (K : PySem.W.Frag) (mg : Str → Option Value) (base : Heap) (x p : Str) (k : Nat) (spx : SpX) : Prop where
  ex : ∃ f fd, FnOkX P w K mg base k f fd p spx ∧ mg x = some (.ref f) ∧ PySem.W.keepIn K (.ref f) = true ∧ Binds K fd [p] []
section
variable {X : Cx} {K : PySem.W.Frag} {E : XK} {pos pp : Pos} {te : TD} {x : Str} {ex : Expr}
/-- f(e), e the caught one -/
def dCallX (spx : SpX) (ea C : Addr) (te : TD) : TD := fun ρ Q Xd => te ρ (fun d _ => d = opq ea ∧ spx C fun r => Q r .old) Xd
end
end DL
namespace DL
open PySem PySem.Spec PyProof.Rows L2
section
variable {X : Cx} {K : PySem.W.Frag} {E : XK}
/-- isinstance(e, T) of the caught one, T a type of Python's -/
def dIsXB (K : PySem.W.Frag) (ea C : Addr) (n : String) (te : TD) : TD := fun ρ Q Xd => te ρ (fun d _ => d = opq ea ∧ ∃ b, PySem.W.kitOne K (.ref C) (.type n) = some b ∧ Q (.bool b) .old) Xd
end
end DL
namespace L2
open PySem PySem.Spec PyProof.Rows
section
variable {X : Cx} {pins : List (Addr × Obj)} {σ : St} {H : Hp} {s : Shared}
end
/-- a suite that returns or comes to its end -/
abbrev endsF (i : Nat) (D : Ends) : Ends := { nx := fun σ H => D.nx (σ.set i none) H, rt := D.rt, bk := fun _ _ => False, ct := fun _ _ => False }
section
variable {X : Cx} {pins : List (Addr × Obj)} {σ : St} {H : Hp} {s : Shared} {ea C R : Addr} {B : Heap} {a0 : Value} {x n : Str} {i : Nat} {np pos : Pos} {b0 : Stmt} {suite : List Stmt} {rest : List ExceptHandler} {ts : TS} {D : Ends}
end
section
variable {X : Cx}
def tTryF (R : Addr) (i : Nat) (tb : TSX) (ts : Addr → Addr → TS) (K : PySem.W.Frag) (mg : Str → Option Value) : TS := fun D σ H =>
  tb D (fun σ' cls _ H' => ∃ C x, cls = .ref C ∧ Fits K C R ∧ ExC K mg x C ∧ ExK K C ∧ ∀ ea, H' ea = none → ts ea C (endsF i D) (σ'.set i (some (.ref ea))) H') σ H
end
end L2
namespace DL
open PySem PySem.Spec PyProof.Rows L2
section
variable {X : Cx} {K : PySem.W.Frag} {pos : Pos}
def endsD (i : Nat) (Dd : EndsD) : EndsD := { nx := fun ρ => Dd.nx (ρ.set i none), rt := Dd.rt, bk := fun _ => False, ct := fun _ => False }
/-- try: .. except R as n: .. (a suite that returns or comes to its end) -/
def dTryF (K : PySem.W.Frag) (mg : Str → Option Value) (R : Addr) (i : Nat) (tb : TSDX) (ts : Addr → Addr → TSD) : TSD := fun Dd ρ _ => tb Dd ρ fun ρ' C => Fits K C R ∧ (∃ x, ExC K mg x C) ∧ ExK K C ∧ ∀ ea, ts ea C (endsD i Dd) (ρ'.set i (some (false, opq ea))) Xf
end
end DL

namespace L2
open PySem PySem.Spec PyProof.Rows
end L2
namespace DL
open PySem PySem.Spec PyProof.Rows L2
section
variable {X : Cx} {K : PySem.W.Frag} {E : XK} {pos px apos cpos : Pos} {e : Expr} {te : TD} {x : Str}
/-! ### x.extend(e), e a list that is ours, or one of data without lists -/
def ExtK (ds : List D) (i : Nat) (ρ : Ren) (Dd : EndsD) (es : List D) : Kd → Prop
  | .own s => i ∉ s ∧ Dd.nx ((dropS ρ s).set i (some (true, .list (ds ++ es))))
  | _ => False
def dExt (i : Nat) (te : TD) : TSD := fun Dd ρ Xd => ∃ ds, ρ[i]? = some (some (true, .list ds)) ∧ te ρ (fun d k => onL d fun es => ds.length + es.length ≤ 1000000 ∧ ExtK ds i ρ Dd es (if flats es = true then .own [] else k)) Xd
end
end DL

namespace DL
open PySem PySem.Spec PyProof.Rows L2
/-! ### dicts: keys are ints and texts (dKD), or tuples of them (dTD); values None, truths, ints, texts -/
section
variable {κ : Type} [DecidableEq κ]
def look (es : List (κ × D)) (k : κ) : Option D := (es.find? fun p => decide (p.1 = k)).map (·.2)
def putD (es : List (κ × D)) (k : κ) (d : D) : List (κ × D) := if (es.any fun p => decide (p.1 = k)) = true then es.map (fun p => if p.1 = k then (p.1, d) else p) else es ++ [(k, d)]
inductive VPs : List (κ × V) → List (κ × D) → Prop
  | nil : VPs [] []
  | cons {k v d r t} : valD d = some v → VPs r t → VPs ((k, v) :: r) ((k, d) :: t)
theorem VPs.length {kvs : List (κ × V)} {es : List (κ × D)} (h : VPs kvs es) : kvs.length = es.length := by
  induction h with
  | nil => rfl
  | cons _ _ ih => rw [List.length_cons, List.length_cons, ih]
end
def tupK (k : List Key) : D := .tuple (k.map keyV)
def dKD (es : List (Key × D)) : D := dctD false (es.map fun p => (keyV p.1, p.2))
def dTD (es : List (List Key × D)) : D := dctD true (es.map fun p => (tupK p.1, p.2))
section
variable {K : PySem.W.Frag} {H : Hp} {v : V}
end
/-! ### keys -/
abbrev KeyR := Sum Key (List Key)
def KeyIs (H : Hp) : KeyR → V → Prop
  | .inl k, v => v = kV k
  | .inr ks, v => ∃ b, v = .ref b ∧ H b = some (.tup (ks.map kV))
abbrev TKy := Ren → (KeyR → Prop) → XD → Prop
def LKy (K : PySem.W.Frag) (E : XK) (t : TKy) : TE := fun σ H Q => ∃ H0 ν ρ Qd Xd, StOk K Z0 H0 ν ρ σ H ∧ t ρ Qd Xd ∧ (∀ k v H', Qd k → Same H H' → KeyIs H' k v → Q v H') ∧ ∀ C H', Xd C → Same H0 H' → E (.ref C) none H'
structure DKy (X : Cx) (K : PySem.W.Frag) (E : XK) (e : Expr) (t : TKy) : Prop where
  q : QE X e (LKy K E t)
section
variable {X : Cx} {K : PySem.W.Frag} {E : XK} {pos : Pos} {e : Expr} {es : List Expr} {te td : TD} {tk : TKy}
def kyS (t : TD) : TKy := fun ρ Q Xd => t ρ (fun d _ => ∃ k, d = keyV k ∧ Q (.inl k)) Xd
def kyT (t : TDA) : TKy := fun ρ Q Xd => t ρ (fun ds _ => ds.length ≤ 1000 ∧ ∃ ks, ds = ks.map keyV ∧ Q (.inr ks)) Xd
/-! ### in, not in -/
def DHas (d : D) (k : KeyR) (C : Bool → Prop) : Prop := (∃ es k', d = dKD es ∧ k = .inl k' ∧ C (look es k').isSome) ∨ ∃ es k', d = dTD es ∧ k = .inr k' ∧ C (look es k').isSome
def dDIn (f : Bool → Bool) (tk : TKy) (td : TD) : TD := fun ρ Q Xd => tk ρ (fun k => td ρ (fun d _ => DHas d k fun b => Q (.bool (f b)) .old) Xd) Xd
/-! ### d[k] -/
def DVal (d : D) (k : KeyR) (C : D → Prop) : Prop := (∃ es k' z, d = dKD es ∧ k = .inl k' ∧ look es k' = some z ∧ C z) ∨ ∃ es k' z, d = dTD es ∧ k = .inr k' ∧ look es k' = some z ∧ C z
def dDGet (td : TD) (tk : TKy) : TD := fun ρ Q Xd => td ρ (fun d _ => tk ρ (fun k => DVal d k fun z => Q z .old) Xd) Xd
/-! ### {} -/
def dDNew (b : Bool) : TD := fun _ Q _ => Q (if b = true then dTD [] else dKD []) (.own [])
/-! ### d[k] = v -/
def DPutD (x : D) (k : KeyR) (d : D) (C : D → Prop) : Prop := (∃ es k', x = dKD es ∧ k = .inl k' ∧ es.length < 1000000 ∧ C (dKD (putD es k' d))) ∨ ∃ es k', x = dTD es ∧ k = .inr k' ∧ es.length < 1000000 ∧ C (dTD (putD es k' d))
def dDPut (i : Nat) (tk : TKy) (te : TD) : TSD := fun Dd ρ Xd => te ρ (fun d _ => (valD d).isSome = true ∧ ∃ x, ρ[i]? = some (some (true, x)) ∧ tk ρ (fun k => DPutD x k d fun y => Dd.nx (ρ.set i (some (true, y)))) Xd) Xd
end
end DL

namespace DL
open PySem PySem.Spec PyProof.Rows L2
/-! ### defs whose arguments are their own: they may change them, and hand them back -/
noncomputable abbrev hidL (ms : List Addr) (H : Hp) : Hp := hid (fun a => a ∈ ms) H
def SpLO (K : PySem.W.Frag) (sp : SpD) : Sp := fun vs H Q E => ∃ ds ms Qd Xd, Ows K H vs ds ms ∧ ms.Nodup ∧ sp ds Qd Xd ∧ (∀ d o v H', Qd d o → Same (hidL ms H) H' → RR K (hidL ms H) H' o v d → Q v H') ∧ ∀ C H', Xd C → Same (hidL ms H) H' → E (.ref C) none H'
def startO (N : List Str) (ds : List D) : Ren := ds.map (fun d => some (!flat d, d)) ++ List.replicate (N.length - ds.length) none
section
variable {K : PySem.W.Frag} {H : Hp}
end
/-! ### the calls: return f(x, ..), and f(..) of what was just made -/
section
variable {X : Cx} {K : PySem.W.Frag} {E : XK} {pos p rp : Pos} {e : Expr} {es : List Expr} {x : Str} {ps : List Str} {k : Nat} {sp : SpD} {t : TDA}
def dRetO (sp : SpD) (t : TDA) : TSD := fun Dd ρ Xd => t ρ (fun ds k => (∃ s, k = .own s) ∧ sp ds (fun d o => Dd.rt d o) Xf) Xd
def dCallO (sp : SpD) (t : TDA) : TD := fun ρ Q Xd => t ρ (fun ds k => k = .own [] ∧ sp ds (fun d o => Q d (kRet o)) Xf) Xd
end
end DL

/-! ### texts: for c in x, x[i:j], len(x), x[i], x * n -/
namespace L2
open PySem PySem.Spec PyProof.Rows
def ItS (z : Str) : It := ⟨fun i _ => i < z.cps.size, fun i H x H' => H' = H ∧ ∃ c, z.cps[i]? = some c ∧ x = .str ⟨#[c]⟩, fun i _ => z.cps.size ≤ i⟩
section
variable {X : Cx} {tg : Expr}
def iStr (tl : TE) : TI := fun σ H R => tl σ H fun x H1 => ∃ z, x = .str z ∧ R (ItS z) H1
/-- x[lo:hi] of a text -/
def rSlS : V → Option Int → Option Int → Hp → VK → Prop := fun x lo hi H Q => ∃ z, x = .str z ∧ z.length ≤ sizeLine ∧ Q (.str (Txt.slice z lo hi)) H
end
end L2
namespace DL
open PySem PySem.Spec PyProof.Rows L2
section
variable {X : Cx} {K : PySem.W.Frag} {E : XK} {pos : Pos} {tg l : Expr} {te : TD} {ta : TDA}
/-- the signs of a text -/
def signs (z : Str) : List D := z.cps.toList.map fun c => PyData.str ⟨#[c]⟩
def iS (te : TD) : TDI := fun ρ Q Xd => te ρ (fun d _ => match d with
  | .str z => Q (signs z) true
  | _ => False) Xd
def fIxS : F2 := fun d _ e _ Q => match d, e with
  | .str z, .int i => z.length ≤ 1000000 ∧ ∃ c, atI z.cps.toList i = some c ∧ Q (.str ⟨#[c]⟩) .old
  | _, _ => False
def fMulS : F2 := fun d _ e _ Q => match d, e with
  | .str z, .int i => MulOk z i ∧ Q (.str (Txt.mul z i)) .old
  | _, _ => False
def fLenS : FA := fun ds _ Q => match ds with
  | [.str z] => z.length ≤ 1000000 ∧ Q (.int z.length) .old
  | _ => False
def fSlS : F3 := fun d _ lo hi Q => match d with
  | .str z => z.length ≤ 1000000 ∧ Q (.str (Txt.slice z lo hi)) .old
  | _ => False
/-! any() within a handler -/
end
end DL

namespace DL
open PySem PySem.Spec PyProof.Rows L2
/-! ### the walk's steps for texts and owned arguments -/
section
variable {ρ : Ren} {Q : QD} {Xd : XD} {z : Str} {i : Int} {k l : Kd} {te : TD} {t : TDA} {sp : SpD} {Dd : EndsD} {ds : List D} {s : List Nat} {lo hi : Option Int}
def onS (Q : List D → Bool → Prop) : QD := fun d _ => match d with
  | .str z => Q (signs z) true
  | _ => False
def onO (sp : SpD) (Dd : EndsD) : List D → Kd → Prop := fun ds k => (∃ s, k = .own s) ∧ sp ds (fun d o => Dd.rt d o) Xf
def onC (sp : SpD) (Q : QD) : List D → Kd → Prop := fun ds k => k = .own [] ∧ sp ds (fun d o => Q d (kRet o)) Xf
end
/-! Txt.slice of a text: the signs between -/
end DL

namespace L2
open PySem PySem.Spec PyProof.Rows PySem.W
/-! ### the questions of a sort, answered by a table -/
def runK {α : Type} (lt : Nat → Nat → Bool) : KasT α → α
  | .ret a => a
  | .ask i j k => runK lt (k (lt i j))
/-- asks below n alone, and ends in P -/
def BelK {α : Type} (n : Nat) (P : α → Prop) : KasT α → Prop
  | .ret a => P a
  | .ask i j k => i < n ∧ j < n ∧ ∀ b, BelK n P (k b)
/-- the places, in some order -/
def Pl (n : Nat) (p : Array Nat) : Prop := p.Perm (List.toArray (List.range n))
end L2

namespace L2
open PySem PySem.Spec PyProof.Rows PySem.W PySem.Calls
/-- what the sort of vs gives, its questions answered by lt -/
def outK (lt : Nat → Nat → Bool) (vs : List Value) : List Value := if vs.length < 2 then vs else (runK lt (kas_sort vs.length)).toList.map fun i => vs.getD i Value.none
section
variable {prog : Program} {w : World} {A : Around} {E : Value → Shared → Prop} {s : Shared} {vs : List Value} {lt : Nat → Nat → Bool} {κ : SortKind}
/-- questions that change nothing -/
structure Asks (prog : Program) (w : World) (A : Around) (κ : SortKind) (vs : List Value) (lt : Nat → Nat → Bool) (s : Shared) : Prop where
  kind : 2 ≤ vs.length → ∀ Q : SortKind → Shared → Prop, Q κ s → wpAny (model prog w) A (keyKind' vs.toArray) Q (fun _ _ => False) s
  ask : ∀ i j, i < vs.length → j < vs.length → ∀ C : Bool → Shared → Prop, C (lt i j) s → kas_ask prog w A κ vs i j C s
end
end L2

namespace L2
open PySem PySem.Spec PyProof.Rows PySem.W PySem.Calls
/-! ### ints and texts, and lists of them, in order -/
def ltV : V → V → Bool
  | .int x, .int y => decide (x < y)
  | .str x, .str y => decide (x.cps.toList < y.cps.toList)
  | _, _ => false
def sameK : V → V → Bool
  | .int _, .int _ => true
  | .str _, .str _ => true
  | _, _ => false
def lexV : List V → List V → Bool
  | a :: r, b :: t => if a = b then lexV r t else ltV a b
  | _, _ => false
def sameKs : List V → List V → Bool
  | [], [] => true
  | a :: r, b :: t => sameK a b && sameKs r t
  | _, _ => false
theorem sameK.symm {a b : V} (h : sameK a b = true) : sameK b a = true := by cases a <;> cases b <;> first | rfl | cases h
theorem sameK.trans {a b c : V} (h : sameK a b = true) (g : sameK b c = true) : sameK a c = true := by cases a <;> cases b <;> first | (cases h; done) | (cases c <;> first | rfl | (cases g; done))
theorem sameKs.symm : ∀ {a b : List V}, sameKs a b = true → sameKs b a = true
  | [], [], _ => rfl
  | _ :: _, _ :: _, h => by
    rw [sameKs, Bool.and_eq_true] at h ⊢
    exact ⟨sameK.symm h.1, sameKs.symm h.2⟩
  | [], _ :: _, h => by cases h
  | _ :: _, [], h => by cases h
theorem sameKs.trans : ∀ {a b c : List V}, sameKs a b = true → sameKs b c = true → sameKs a c = true
  | [], [], [], _, _ => rfl
  | _ :: _, _ :: _, _ :: _, h, g => by
    rw [sameKs, Bool.and_eq_true] at h g ⊢
    exact ⟨sameK.trans h.1 g.1, sameKs.trans h.2 g.2⟩
  | [], _ :: _, _, h, _ => by cases h
  | _ :: _, [], _, h, _ => by cases h
  | _, [], _ :: _, _, g => by cases g
  | _, _ :: _, [], _, g => by cases g
section
variable {prog : Program} {w : World} {A : Around} {E : Value → Shared → Prop} {s : Shared}
end
/-- tuples of one make -/
def okTs : List (List V) → Bool
  | [] => true
  | u :: r => !u.isEmpty && (sameKs u u && r.all (sameKs u))
def outV (lt : Nat → Nat → Bool) (vs : List V) : List V := if vs.length < 2 then vs else (runK lt (kas_sort vs.length)).toList.map fun i => vs.getD i .non
end L2

namespace L2
open PySem PySem.Spec PyProof.Rows PySem.W PySem.Calls
def headK : List V → Option Bool
  | .int _ :: _ => some true
  | .str _ :: _ => some false
  | _ => none
def KindV (k : Bool) (v : Value) : Prop := if k = true then ∃ i t, v = .int i t else ∃ x t, v = .str x t
section
variable {X : Cx} {pins : List (Addr × Obj)} {σ : List (Option V)} {H : Hp} {s : Shared}
def ltT (us : List (List V)) (i j : Nat) : Bool := lexV (us.getD i []) (us.getD j [])
def rSortT (K : PySem.W.Frag) : List V → Hp → VK → Prop := fun xs H Q => ∃ p as us, xs = [.ref p] ∧ SqL K H p (as.map V.ref) ∧ Paired (SqT K H) as us ∧ okTs us = true ∧ as.length < 64 ∧ ∀ l, H l = none → Q (.ref l) (upd H l (.lst (outV (ltT us) (as.map V.ref))))
end
end L2

namespace DL
open PySem PySem.Spec PyProof.Rows L2
/-! ### sorted(e), e a list of tuples of ints and texts -/
def scV : D → Option V
  | .int i => some (.int i)
  | .str x => some (.str x)
  | _ => Option.none
def scVs : List D → Option (List V)
  | [] => some []
  | d :: r => match scV d, scVs r with
    | some v, some vs => some (v :: vs)
    | _, _ => Option.none
def tupV : D → Option (List V)
  | .tuple ds => scVs ds
  | _ => Option.none
def tupVs : List D → Option (List (List V))
  | [] => some []
  | d :: r => match tupV d, tupVs r with
    | some v, some vs => some (v :: vs)
    | _, _ => Option.none
def outD (lt : Nat → Nat → Bool) (xs : List D) : List D := if xs.length < 2 then xs else (runK lt (PySem.W.kas_sort xs.length)).toList.map fun i => xs.getD i .none
def fSort : FA := fun ds _ Q => match ds with
  | [.list xs] => ∃ us, tupVs xs = some us ∧ okTs us = true ∧ xs.length < 64 ∧ Q (.list (outD (ltT us) xs)) (.own [])
  | _ => False
section
variable {X : Cx} {K : PySem.W.Frag} {E : XK} {H : Hp}
end
/-! ### two fors in a comprehension -/
variable {α : Type}
end DL

namespace L2
open PySem PySem.Spec PyProof.Rows
section
variable {X : Cx} {pos : Pos}
/-- (a, b, ..) = a list of that length -/
def gLst (K : PySem.W.Frag) (n : Nat) (t : TGs) : TG := fun v σ H Q => ∃ a xs, v = .ref a ∧ SqL K H a xs ∧ xs.length = n ∧ t xs σ H Q
end
end L2
namespace DL
open PySem PySem.Spec PyProof.Rows L2
section
variable {X : Cx} {K : PySem.W.Frag} {E : XK} {pos : Pos} {e : Expr} {te : TD}
/-- a, b = a list: all that is ours becomes what is not -/
def dUnpL (is : List Nat) (te : TD) : TSD := fun Dd ρ Xd => te ρ (fun d _ => onL d fun ds => ds.length = is.length ∧ Dd.nx (setAll false (frz ρ) is ds)) Xd
end
end DL

namespace L2
open PySem PySem.Spec PyProof.Rows PySem.W PySem.Calls
/-! ### a dict walked by its entries, whatever the keys are -/
def RawD (h : Heap) (d : Addr) (es : Array DictEntry) (ep : Nat) : Prop := ∃ o, h.get? d = some o ∧ o.ExactDict ∧ o.data = .dict es ep
theorem RawD.at {h h' : Heap} {d : Addr} {es : Array DictEntry} {ep : Nat} (x : RawD h d es ep) (k : ∀ o, h.get? d = some o → h'.get? d = some o) : RawD h' d es ep := let ⟨o, e, r⟩ := x; ⟨o, k o e, r⟩
section
variable {prog : Program} {w : World} {A : Around} {E : Value → Shared → Prop} {s : Shared} {d it : Addr} {es : Array DictEntry} {ep i : Nat}
/-! ### what is walked, gathered -/
end
end L2

namespace L2
open PySem PySem.Spec PyProof.Rows PySem.W PySem.Calls
/-! ### list(d), sorted(d), len(d) -/
section
variable {prog : Program} {w : World} {A : Around} {E : Value → Shared → Prop} {s : Shared} {vs : List Value} {lt : Nat → Nat → Bool} {κ : SortKind}
end
section
variable {X : Cx} {pins : List (Addr × Obj)} {σ : List (Option V)} {H : Hp} {s : Shared} {a : Addr}
def rListD : List V → Hp → VK → Prop := fun xs H Q => ∃ a, xs = [.ref a] ∧ ((∃ kvs, H a = some (.dK kvs) ∧ ∀ l, H l = none → Q (.ref l) (upd H l (.lst (kvs.map fun p => kV p.1)))) ∨
  ∃ kvs, H a = some (.dT kvs) ∧ ∀ bs, Paired (fun b (p : List Key × V) => H b = some (.tup (p.1.map kV))) bs kvs → ∀ l, H l = none → Q (.ref l) (upd H l (.lst (bs.map V.ref))))
def rSortD : List V → Hp → VK → Prop := fun xs H Q => ∃ a kvs, xs = [.ref a] ∧ H a = some (.dT kvs) ∧ okTs (kvs.map fun p => p.1.map kV) = true ∧ kvs.length < 64 ∧ ∀ bs, Paired (fun b (p : List Key × V) => H b = some (.tup (p.1.map kV))) bs kvs → ∀ l, H l = none → Q (.ref l) (upd H l (.lst (outV (ltT (kvs.map fun p => p.1.map kV)) (bs.map V.ref))))
end
end L2
namespace DL
open PySem PySem.Spec PyProof.Rows L2
section
variable {X : Cx} {K : PySem.W.Frag} {E : XK}
/-- the keys, as data -/
def keysT (es : List (List Key × D)) : List D := es.map fun p => tupK p.1
def keysK (es : List (Key × D)) : List D := es.map fun p => keyV p.1
def fListDT : FA := fun ds _ Q => ∃ es, ds = [dTD es] ∧ Q (.list (keysT es)) (.own [])
def fListDK : FA := fun ds _ Q => ∃ es, ds = [dKD es] ∧ Q (.list (keysK es)) (.own [])
def fSortDT : FA := fun ds _ Q => ∃ es, ds = [dTD es] ∧ okTs (es.map fun p => p.1.map kV) = true ∧ es.length < 64 ∧ Q (.list (outD (ltT (es.map fun p => p.1.map kV)) (keysT es))) (.own [])
end
end DL

namespace L2
open PySem PySem.Spec PyProof.Rows PySem.W PySem.Calls
section
variable {prog : Program} {w : World} {A : Around} {E : Value → Shared → Prop} {s : Shared} {d : Addr} {es : Array DictEntry} {ep : Nat}
end
def rLenD2 : List V → Hp → VK → Prop := fun xs H Q => ∃ a, xs = [.ref a] ∧ ((∃ kvs, H a = some (.dK kvs) ∧ Q (.int kvs.length) H) ∨ ∃ kvs, H a = some (.dT kvs) ∧ Q (.int kvs.length) H)
end L2
namespace DL
open PySem PySem.Spec PyProof.Rows L2
section
variable {X : Cx} {K : PySem.W.Frag} {E : XK}
def fLenD : FA := fun ds _ Q => (∃ es, ds = [dTD es] ∧ Q (.int es.length) .old) ∨ ∃ es, ds = [dKD es] ∧ Q (.int es.length) .old
/-! the walk's steps -/
variable {ρ : Ren} {Q : QD} {Xd : XD} {k : Kd} {te td : TD} {tk : TKy} {t : TDA} {es : List (List Key × D)} {eK : List (Key × D)} {i : Nat} {Dd : EndsD}
/-- keys -/
def onKS (Q : KeyR → Prop) : QD := fun d _ => ∃ k, d = keyV k ∧ Q (.inl k)
/-- the parts of a tuple, as keys -/
def keyO : D → Option Key
  | .int i => some (.inl i)
  | .str x => some (.inr x)
  | _ => Option.none
def keysO : List D → Option (List Key)
  | [] => some []
  | d :: r => match keyO d, keysO r with
    | some k, some ks => some (k :: ks)
    | _, _ => Option.none
def onKT (Q : KeyR → Prop) : List D → Kd → Prop := fun ds _ => ds.length ≤ 1000 ∧ ∃ ks, ds = ks.map keyV ∧ Q (.inr ks)
/-- in, not in, d[k], d[k] = v -/
def onIn (f : Bool → Bool) (td : TD) (ρ : Ren) (Q : QD) (Xd : XD) : KeyR → Prop := fun k => td ρ (fun d _ => DHas d k fun b => Q (.bool (f b)) .old) Xd
def onPut (i : Nat) (tk : TKy) (Dd : EndsD) (ρ : Ren) (Xd : XD) : QD := fun d _ => (valD d).isSome = true ∧ ∃ x, ρ[i]? = some (some (true, x)) ∧ tk ρ (fun k => DPutD x k d fun y => Dd.nx (ρ.set i (some (true, y)))) Xd
section
variable {pos : Pos} {i o : Expr}
end
end
end DL
namespace DL
open PySem PySem.Spec PyProof.Rows L2
section
variable {ρ : Ren} {i : Nat} {s : List Nat} {es : List (List Key × D)} {eK : List (Key × D)} {k : Kd}
theorem flat_dT : flat (dTD es) = false := rfl
theorem flat_dK : flat (dKD eK) = false := rfl
theorem setK_ownT : setK ρ i (dTD es) (.own s) = (dropS ρ s).set i (some (true, dTD es)) := rfl
theorem setK_oldT : setK ρ i (dTD es) .old = ρ.set i (some (false, dTD es)) := rfl
theorem setK_mixT : setK ρ i (dTD es) .mix = (frz ρ).set i (some (false, dTD es)) := rfl
theorem setK_ownK : setK ρ i (dKD eK) (.own s) = (dropS ρ s).set i (some (true, dKD eK)) := rfl
theorem setK_oldK : setK ρ i (dKD eK) .old = ρ.set i (some (false, dKD eK)) := rfl
theorem setK_mixK : setK ρ i (dKD eK) .mix = (frz ρ).set i (some (false, dKD eK)) := rfl
end
end DL

namespace DL
open PySem PySem.Spec PyProof.Rows L2
/-! ### names of the module that hold a number, or a tuple of numbers and texts -/
structure GInt (mg : Str → Option Value) (x : Str) (i : Int) : Prop where
  ex : ∃ t, mg x = some (.int i t)
structure GTup (K : PySem.W.Frag) (mg : Str → Option Value) (x : Str) (ds : List D) : Prop where
  ex : ∃ a, mg x = some (.ref a) ∧ ∀ H, Dn K H (.ref a) (.tuple ds)
/-- a written value, as data -/
def scD : Value → Option D
  | .none => some .none
  | .bool b => some (.bool b)
  | .int i _ => some (.int i)
  | .str x _ => some (.str x)
  | _ => Option.none
def scDs : List Value → Option (List D)
  | [] => some []
  | v :: r => match scD v, scDs r with
    | some d, some ds => some (d :: ds)
    | _, _ => Option.none
section
variable {X : Cx} {K : PySem.W.Frag} {E : XK} {pos : Pos} {x : Str}
end
end DL

namespace L2
open PySem PySem.Spec PyProof.Rows
section
variable {X : Cx}
end
end L2
namespace DL
open PySem PySem.Spec PyProof.Rows L2
section
variable {X : Cx} {K : PySem.W.Frag} {E : XK} {pos p px apos cpos : Pos} {x : Str}
theorem kels2_flat {ds es : List D} {k l : Kd} (h : (flats ds && flats es) = true) : kels2 ds k es l = .own [] := by unfold kels2; rw [if_pos h]
def xIs (te : TD) : TD := fun ρ Q Xd => te ρ (fun d _ => onB d fun b => Q (.bool b) .old) Xd
/-! ### x.clear() -/
def dClr (i : Nat) : TSD := fun Dd ρ _ => ∃ ds, ρ[i]? = some (some (true, .list ds)) ∧ Dd.nx (ρ.set i (some (true, .list [])))
end
/-! ### a list within our list, by a name of its own -/
section
variable {K : PySem.W.Frag} {H0 H H' : Hp} {ν : Nat → List Addr} {ρ : Ren} {σ : L2.St} {u : V} {d : D} {q : Nat}
/-- all is looked at: q is a name of something within ours -/
def lk (q : Nat) (d : D) (ρ : Ren) : Ren := (frz ρ).set q (some (false, d))
/-- the name q holds what is at place j of the list at the name i -/
def Al (i q j : Nat) (σ : L2.St) (H : Hp) : Prop := ∃ a us u, σ[i]? = some (some (.ref a)) ∧ H a = some (.lst us) ∧ us[j]? = some u ∧ σ[q]? = some (some u)
theorem Al.set {i q j p : Nat} (A : Al i q j σ H) (hi : i ≠ p) (hq : q ≠ p) (v : Option V) : Al i q j (σ.set p v) H := by
  obtain ⟨a, us, u, h1, h2, h3, h4⟩ := A
  exact ⟨a, us, u, by rw [List.getElem?_set_ne (Ne.symm hi)]; exact h1, h2, h3, by rw [List.getElem?_set_ne (Ne.symm hq)]; exact h4⟩
end
section
variable {X : Cx} {K : PySem.W.Frag} {E : XK} {t0 t1 te2 te3 : TD} {tc1 tc2 : TDT}
/-- y = x[e0]; if c1: return x; z = e1; if c2: y[z] = e2; else: y[z] = 0; y[z] = e3; then: return x -/
def dAl (i q p : Nat) (t0 : TD) (tc1 : TDT) (t1 : TD) (tc2 : TDT) (te2 te3 : TD) : TSD := fun Dd ρ Xd => ∃ ds, ρ[i]? = some (some (true, .list ds)) ∧ (∀ b d, ρ[q]? ≠ some (some (b, d))) ∧ (i ≠ q ∧ i ≠ p ∧ q ≠ p ∧ q < ρ.length ∧ p < ρ.length) ∧ t0 ρ (fun y _ => onI y fun z => ∃ (j : Nat) (es : List D), ixN ds.length z = some j ∧ ds[j]? = some (.list es) ∧
  tc1 (lk q (.list es) ρ) (fun b => if b = true then Dd.rt (.list ds) true else t1 (lk q (.list es) ρ) (fun y _ => onI y fun z => ∃ (k : Nat), ixN es.length z = some k ∧
    tc2 (lk q (.list es) (ρ.set p (some (false, .int z)))) (fun b => if b = true then te2 (lk q (.list es) (ρ.set p (some (false, .int z)))) (fun y _ => onI y fun w => Dd.rt (.list (ds.set j (.list (es.set k (.int w))))) true) Xd
      else te3 (lk q (.list (es.set k (.int 0))) ((ρ.set p (some (false, .int z))).set i (some (true, .list (ds.set j (.list (es.set k (.int 0)))))))) (fun y _ => onI y fun w => Dd.rt (.list (ds.set j (.list (es.set k (.int w))))) true) Xd) Xd) Xd) Xd) Xd
abbrev tPutA (q p : Nat) (te : TE) : TS := tAsg te (gSub (tVar q) (tVar p) rSetL)
end
end DL

/-! ### max(xs, default=d) -/
namespace L2
open PySem PySem.Spec PyProof.Rows
section
variable {P : Program} {w : World} {A : Around} {R : Result → Shared → Prop} {it bx : Addr} {fp wr : List Addr} {n : Nat} {V0 : Nat → Value → Prop} {St : Nat → Heap → Prop} {bt : Nat → Nat → Bool} {dv : Value}
abbrev mxArgs (it bx : Addr) (dv : Value) : Args := ⟨[.ref it, .none, .ref bx], [("default", dv)]⟩
abbrev mxBox (us : Array Value) (c : Nat) : Obj := { cls := .type "list", dict := none, data := .seq us c, slots := #[] }
end
section
variable {X : Cx}
def tMaxD (K : PySem.W.Frag) (d : Int) (t : TA) : TE := fun σ H Q => t σ H fun xs H1 => ∃ (a : Addr) (ns : List Int), xs = [.ref a] ∧ SqL K H1 a (ns.map V.int) ∧ ∀ M, (ns = [] → M = d) → (ns ≠ [] → M ∈ ns ∧ ∀ x ∈ ns, x ≤ M) → Q (.int M) H1
end
end L2

namespace L2
open PySem PySem.Spec PyProof.Rows HT
section
variable {prog : Program} {w : World} {A : Around} {E : Value → Shared → Prop} {s : Shared}
end
section
variable {X : Cx}
def rSlA (K : PySem.W.Frag) : V → Option Int → Option Int → Hp → VK → Prop := fun x lo hi H Q => ∃ a xs, x = .ref a ∧ SqT K H a xs ∧ (HT.sIx xs.length 0 lo = 0 ∧ HT.sIx xs.length xs.length hi = xs.length) ∧ Q (.ref a) H
end
end L2
namespace DL
open PySem PySem.Spec PyProof.Rows L2
section
variable {X : Cx} {K : PySem.W.Frag} {E : XK} {pos : Pos}
/-- t[lo:hi], t a tuple without lists -/
def fSlT : F3 := fun d _ lo hi Q => match d with
  | .tuple ds => flats ds = true ∧ Q (.tuple (cutD ds lo hi)) .old
  | _ => False
/-! max(xs, default=d) -/
def fMaxD (d : Int) : FA := fun ds _ Q => match ds with
  | [.list xs] => ∃ ns, intsD xs = some ns ∧ ∀ M, (ns = [] → M = d) → (ns ≠ [] → M ∈ ns ∧ ∀ x ∈ ns, x ≤ M) → Q (.int M) .old
  | _ => False
end
end DL

/-! ### texts: str(i), int(x), divmod, zfill, join, split, startswith, not in -/
namespace L2
open PySem PySem.Spec PyProof.Rows
section
variable {X : Cx}
def rDmB : List V → Hp → VK → Prop := fun xs H Q => ∃ i j, xs = [.int i, .int j] ∧ CDivB i j ∧ ∀ p, H p = none → Q (.ref p) (upd H p (.tup [.int (i / j), .int (i % j)]))
def rIntS : List V → Hp → VK → Prop := fun xs H Q => ∃ z n, xs = [.str z] ∧ z.length ≤ 640 ∧ PySem.intText? z = some n ∧ Q (.int n) H
/-! methods of a text -/
def rZf : V → List V → Hp → VK → Prop := fun x vs H Q => ∃ z i, x = .str z ∧ vs = [.int i] ∧ PadOk i = true ∧ Q (.str (Txt.zfill z i)) H
def rSw : V → List V → Hp → VK → Prop := fun x vs H Q => ∃ z y, x = .str z ∧ vs = [.str y] ∧ Q (.bl (Txt.startswith z y)) H
def rJn (K : PySem.W.Frag) : V → List V → Hp → VK → Prop := fun x vs H Q => ∃ z a zs, x = .str z ∧ vs = [.ref a] ∧ SqL K H a (zs.map V.str) ∧ JoinOk z zs = true ∧ Q (.str (Txt.join z zs)) H
/-- z.split(y): a new list -/
def rSp : V → List V → Hp → VK → Prop := fun x vs H Q => ∃ z y, x = .str z ∧ vs = [.str y] ∧ (y.length == 0) = false ∧ z.length ≤ 1000000 ∧ ∀ p, H p = none → Q (.ref p) (upd H p (.lst ((Txt.split z y).map V.str)))
end
end L2
namespace DL
open PySem PySem.Spec PyProof.Rows L2
structure GStr (mg : Str → Option Value) (x : Str) (z : Str) : Prop where
  ex : ∃ t, mg x = some (.str z t)
section
variable {X : Cx} {K : PySem.W.Frag} {E : XK} {pos apos cpos : Pos} {x : Str} {o e : Expr} {to te : TD}
/-- str(i) -/
def fStrI : FA := fun ds _ Q => match ds with
  | [.int i] => i.natAbs.log2 < 1920 ∧ Q (.str (toString i)) .old
  | _ => False
/-- int(z) -/
def fIntS : FA := fun ds _ Q => match ds with
  | [.str z] => z.length ≤ 640 ∧ ∃ n, PySem.intText? z = some n ∧ Q (.int n) .old
  | _ => False
/-- divmod(i, j) -/
def fDm : FA := fun ds _ Q => match ds with
  | [.int i, .int j] => CDivB i j ∧ Q (.tuple [.int (i / j), .int (i % j)]) .old
  | _ => False
/-! methods of a text with one argument -/
def onX (d : D) (Q : Str → Prop) : Prop := match d with
  | .str z => Q z
  | _ => False
structure DMm (X : Cx) (K : PySem.W.Frag) (id : String) (g : Str → D → QD → Prop) : Prop where
  ex : ∃ r, MtR X id r ∧ ∀ (ν : Nat → List Addr) (Hs H : Hp) (z : Str) (v : V) (d : D) (Qf : QD) (Q : VK), (∀ a, Hd Z0 ν a → Mu H a) → Same Hs H → Dn K H v d → g z d Qf → (∀ d k v H', Qf d k → Same H H' → Res K Z0 ν Hs H' k v d → Q v H') → r (.str z) [v] H Q
def dMm (g : Str → D → QD → Prop) (to te : TD) : TD := fun ρ Q Xd => to ρ (fun d _ => onX d fun z => te ρ (fun e _ => g z e Q) Xd) Xd
def gZf : Str → D → QD → Prop := fun z d Q => match d with
  | .int i => PadOk i = true ∧ Q (.str (Txt.zfill z i)) .old
  | _ => False
def gSw : Str → D → QD → Prop := fun z d Q => match d with
  | .str y => Q (.bool (Txt.startswith z y)) .old
  | _ => False
def strsD : List D → Option (List Str)
  | [] => some []
  | .str z :: r => (strsD r).map (z :: ·)
  | _ => none
def gJn : Str → D → QD → Prop := fun z d Q => match d with
  | .list ds => ∃ zs, strsD ds = some zs ∧ JoinOk z zs = true ∧ Q (.str (Txt.join z zs)) .old
  | _ => False
def gSp : Str → D → QD → Prop := fun z d Q => match d with
  | .str y => ((y.length == 0) = false ∧ z.length ≤ 1000000) ∧ Q (.list ((Txt.split z y).map PyData.str)) (.own [])
  | _ => False
/-- i not in z, both texts -/
def fNiS : F2 := fun d _ e _ Q => match d, e with
  | .str i, .str j => Q (.bool (!(!(Builtin.Str.occurrences j i 0 j.length 1).isEmpty))) .old
  | _, _ => False
/-! x.reverse() -/
def dRvs (i : Nat) : TSD := fun Dd ρ _ => ∃ ds, ρ[i]? = some (some (true, .list ds)) ∧ Dd.nx (ρ.set i (some (true, .list ds.reverse)))
/-! the walk's steps -/
variable {ρ : Ren} {Q : QD} {Xd : XD} {k l : Kd} {z y : Str} {i j : Int} {ds : List D} {Dd : EndsD} {n : Nat}
end
end DL

/-! ### < and >= of tuples of ints and texts -/
namespace L2
open PySem PySem.Spec PyProof.Rows HT
section
variable {P : Program} {w : World} {A : Around} {E : Value → Shared → Prop}
/-- what a comparison of two of a kind gives -/
def CmpV (P : Program) (w : World) (A : Around) (E : Value → Shared → Prop) (op : CmpOp) (f : Bool → Bool) : Prop := ∀ (a b : V) (x y : Value) (s : Shared) (Q : Value → Shared → Prop), RelV a x → RelV b y → sameK a b = true → a ≠ b → Q (.bool (f (ltV a b))) s → wpAny (model P w) A (richCompare op x y) Q E s
end
section
variable {X : Cx}
def rCmpT (K : PySem.W.Frag) (f : Bool → Bool) : R2 := fun x y H Q => ∃ a b us ws, x = .ref a ∧ y = .ref b ∧ SqT K H a us ∧ SqT K H b ws ∧ sameKs us ws = true ∧ Q (.bl (f (lexV us ws))) H
end
end L2
namespace DL
open PySem PySem.Spec PyProof.Rows L2
section
variable {X : Cx} {K : PySem.W.Frag} {E : XK}
def vOf : D → Option V
  | .int i => some (.int i)
  | .str z => some (.str z)
  | _ => none
def vsOf : List D → Option (List V)
  | [] => some []
  | d :: r => match vOf d, vsOf r with
    | some v, some vs => some (v :: vs)
    | _, _ => none
def fCmpT (f : Bool → Bool) : F2 := fun d _ e _ Q => match d, e with
  | .tuple ds, .tuple es => ∃ us ws, (vsOf ds = some us ∧ vsOf es = some ws ∧ sameKs us ws = true) ∧ Q (.bool (f (lexV us ws))) .old
  | _, _ => False
end
end DL

/-! ### x in, not in a list of deep data -/
namespace L2
open PySem PySem.Spec PyProof.Rows
section
variable {X : Cx} {pins : List (Addr × Obj)} {σ : St} {H : Hp} {s : Shared}
def rInD (K : PySem.W.Frag) (neg : Bool) : R2 := fun x y H Q => ∃ a dx vs ds, y = .ref a ∧ Den K H x dx ∧ SqL K H a vs ∧ Dens K H vs ds ∧ dx.canLay0 = true ∧ dx.depth ≤ 32 ∧ PyData.canLayAll0 ds = true ∧ Q (.bl (xor neg (ds.any fun d => PyData.eqv d dx))) H
open Classical in
noncomputable def eIn (K : PySem.W.Frag) (H : Hp) (dx : PyData) (y : Value) : Bool := decide (∃ v d, RelV v y ∧ Den K H v d ∧ PyData.eqv d dx = true)
end
end L2
namespace DL
open PySem PySem.Spec PyProof.Rows L2
section
variable {X : Cx} {K : PySem.W.Frag}
def fInDp (neg : Bool) : F2 := fun d _ e _ Q => match e with
  | .list es => (d.canLay0 = true ∧ d.depth ≤ 32 ∧ PyData.canLayAll0 es = true) ∧ Q (.bool (xor neg (inD d es))) .old
  | _ => False
end
end DL

namespace DL
open PySem PySem.Spec PyProof.Rows L2
section
variable {X : Cx} {K : PySem.W.Frag} {E : XK} {pos px apos cpos : Pos} {e1 e2 : Expr} {t1 t2 te : TD} {x : Str}
/-! ### x.insert(e1, e2), what is put in without lists -/
def dIns (i : Nat) (t1 t2 : TD) : TSD := fun Dd ρ Xd => ∃ ds, ρ[i]? = some (some (true, .list ds)) ∧ ds.length < 1000000 ∧ t1 ρ (fun y _ => onI y fun z => (0 ≤ z ∧ z ≤ ds.length) ∧ t2 ρ (fun d _ => flat d = true ∧ Dd.nx (ρ.set i (some (true, .list (ds.take z.toNat ++ [d] ++ ds.drop z.toNat))))) Xd) Xd
/-! ### x[e1], x[e2] = .., two things without lists -/
def dSwp (i : Nat) (t1 t2 te : TD) : TSD := fun Dd ρ Xd => te ρ (fun d _ => ∃ a b ds, d = .tuple [a, b] ∧ flats [a, b] = true ∧ ρ[i]? = some (some (true, .list ds)) ∧ t1 ρ (fun y _ => onI y fun z1 => ∃ j1, ixN ds.length z1 = some j1 ∧ t2 (ρ.set i (some (true, .list (ds.set j1 a)))) (fun y _ => onI y fun z2 => ∃ j2, ixN ds.length z2 = some j2 ∧ Dd.nx ((ρ.set i (some (true, .list (ds.set j1 a)))).set i (some (true, .list ((ds.set j1 a).set j2 b))))) Xd) Xd) Xd
end
end DL

namespace DL
open PySem PySem.Spec PyProof.Rows L2
section
variable {X : Cx} {K : PySem.W.Frag} {E : XK} {pos : Pos} {x y : Str}
/-! a, b = e1, e2: what is new or flat -/
def dPar (i j : Nat) (ta : TDA) : TSD := fun Dd ρ Xd => ta ρ (fun ds k => k = .own [] ∧ ds.length = 2 ∧ Dd.nx (setAll true ρ [i, j] ds)) Xd
theorem dps_par (i j : Nat) {a b : Expr} {ta : TDA} {px py pt : Pos} {kt k2 pt2} (hc : X.calm = true) (hN : X.N.Nodup) (hi : X.N[i]? = some x) (hj : X.N[j]? = some y) (hij : i ≠ j)
    (hx : X.env.scope.names.lookup x = some .local) (hy : X.env.scope.names.lookup y = some .local) (ha : DA X K E [a, b] ta)
    (hw : swappedStores [.Tuple [.Name x px, .Name y py] kt pt] (.Tuple [a, b] k2 pt2) X.env = pure (some [x, y]))
    (hs : swapsWithSole [.Tuple [.Name x px, .Name y py] kt pt] (.Tuple [a, b] k2 pt2) pos.line X.env = pure false := by rfl) :
    DS X K E (.Assign [.Tuple [.Name x px, .Name y py] kt pt] (.Tuple [a, b] k2 pt2) pos) (dPar i j ta) := ⟨qs_imp (qps_par hc hN hi hj hij hx hy ha.q hw hs) fun En σ H h => by
  obtain ⟨H0, ν, ρ, Dd, Xd, S, h1, ok, x⟩ := h
  refine ⟨H0, ν, ρ, _, Xd, S, h1, fun ds k us H1 g1 e1 r1 => ?_, x⟩
  obtain ⟨rfl, hl, q⟩ := g1
  obtain ⟨ms, m1, m2, m3⟩ := r1
  have sm : Same H (hid (· ∈ ms) H1) := fun b o hb => hid_of (e1 _ _ hb) fun z => by
    rcases m3 b z with y | ⟨_, y, _⟩
    · rw [hb] at y; cases y
    · cases y
  obtain ⟨ν', S'⟩ := all_own [i, j] (S.same sm) m1 m2
  have hl' : us.length = 2 := by rw [m1.den.length]; exact hl
  match us, hl' with
  | [v, w], _ => exact ⟨v, w, rfl, ok.nx _ _ _ _ q S'⟩⟩
theorem w_par {i j : Nat} {ta : TDA} {Dd : EndsD} {ρ : Ren} {Xd : XD} (h : ta ρ (fun ds k => k = .own [] ∧ ds.length = 2 ∧ Dd.nx (setAll true ρ [i, j] ds)) Xd) : dPar i j ta Dd ρ Xd := h
end
end DL

namespace L2
open PySem PySem.Spec PyProof.Rows PySem.W PySem.Calls
/-! ### {k: v for x in xs}: one clause, no test -/
section
variable {prog : Program} {w : World} {A : Around} {R : Result → Shared → Prop} {s : Shared}
end
section
variable {X : Cx} {pins : List (Addr × Obj)} {σ : St} {H : Hp} {s : Shared} {a : Addr} {y v : V} {u r : Value} {A : Around} {E : Value → Shared → Prop}
end
section
variable {Y : Cx} {acc : Addr} {scope : Scope} {pos : Pos} {ke ve : Expr}
def tEmitD (acc : Addr) (tk tv : TE) : TS := fun D σ H => tk σ H fun k H1 => tv σ H1 fun v H2 => ∃ kvs k', k = kV k' ∧ H2 acc = some (.dK kvs) ∧ kvs.length < sizeLine ∧ D.nx σ (upd H2 acc (.dK (putK kvs k' v)))
end
def tDC (wi : TI) (g : TG) (tk tv : TE) (own : List Str) (cap : List (Str × Nat)) : TE := fun σ H Q => wi σ H fun J H1 => ∀ acc, H1 acc = none →
  loopT J g (tEmitD acc tk tv) { nx := fun _ H' => Q (.ref acc) H', rt := fun _ _ => False } (capS own cap σ) (upd H1 acc (.dK []))
end L2
namespace DL
open PySem PySem.Spec PyProof.Rows L2
/-! ### {x: True for x in xs} -/
def trueD (es : List (Key × D)) : List Key → List (Key × D)
  | [] => es
  | k :: r => trueD (putD es k (.bool true)) r
def dDC (ti : TDI) : TD := fun ρ Q Xd => ti ρ (fun ds b => ∃ ks : List Key, ds = ks.map keyV ∧ ks.length < 1000000 ∧ Q (dKD (trueD [] ks)) (.own [])) Xd
section
variable {X : Cx} {K : PySem.W.Frag} {E : XK} {pos p0 p1 p2 : Pos} {iter : Expr} {scope : Scope} {ti : TDI} {y : Str}
end
end DL

namespace L2
open PySem PySem.Spec PyProof.Rows PySem.W
/-! ### the sort puts keys in order -/
section
variable {κ : Nat → Int} {p : Array Nat}
def kk (κ : Nat → Int) (p : Array Nat) (i : Nat) : Int := κ (p.getD i 0)
def ltI (κ : Nat → Int) (i j : Nat) : Bool := decide (κ i < κ j)
def Up (κ : Nat → Int) (p : Array Nat) (n : Nat) : Prop := ∀ i j, i ≤ j → j < n → kk κ p i ≤ kk κ p j
def Dn (κ : Nat → Int) (p : Array Nat) (n : Nat) : Prop := ∀ i j, i ≤ j → j < n → kk κ p j ≤ kk κ p i
theorem Up.succ {n : Nat} (h : Up κ p n) (h1 : 1 ≤ n) (l : kk κ p (n - 1) ≤ kk κ p n) : Up κ p (n + 1) := fun i j hij hj => by
  by_cases e : j < n
  · exact h i j hij e
  · have ej : j = n := by omega
    by_cases e2 : i = n
    · rw [e2, ej]; omega
    · have := h i (n - 1) (by omega) (by omega)
      rw [ej]; omega
theorem Dn.succ {n : Nat} (h : Dn κ p n) (h1 : 1 ≤ n) (l : kk κ p n ≤ kk κ p (n - 1)) : Dn κ p (n + 1) := fun i j hij hj => by
  by_cases e : j < n
  · exact h i j hij e
  · have ej : j = n := by omega
    by_cases e2 : i = n
    · rw [e2, ej]; omega
    · have := h i (n - 1) (by omega) (by omega)
      rw [ej]; omega
def TailEq (κ : Nat → Int) (p : Array Nat) (m q : Nat) : Prop := ∀ k, m - (q + 1) ≤ k → k < m → kk κ p k = kk κ p (m - 1)
theorem Dn.congr {q : Array Nat} {n : Nat} (h : Dn κ p n) (e : ∀ k, kk κ q k = kk κ p k) : Dn κ q n := fun i j a b => by rw [e, e]; exact h i j a b
end
end L2

namespace L2
open PySem
/-! ### the table of a set of whole numbers below 6 -/
def bitsOf (m : Nat) : List Nat := (List.range 6).filter fun i => m.testBit i
def addB (m v : Nat) : Nat := m ||| 2 ^ v
def smT (m : Nat) (led : Bool) : SetTable := { mask := if (bitsOf m).length < 5 then 7 else 31, place := (bitsOf m).toArray, dummies := #[], finger := 0, led := led, moves := if (bitsOf m).length < 5 then 0 else 1, plain := true }
def hashOf (l : List Nat) : Array Int := (l.map fun (i : Nat) => (i : Int)).toArray
def putOk (m v : Nat) (led : Bool) : Bool :=
  let t := smT m led
  let p := (t.put v).2
  let t1 := (t.put v).1
  let b := bitsOf (addB m v)
  decide (t.freeSlot (v : Int) = some (v, false)) && t1.fits b.length && decide (b = (bitsOf m).take p ++ v :: (bitsOf m).drop p) && t1.plain && decide (addB m v < 64) &&
    (if t1.tooFull = true then decide (t1.relaid (hashOf b) (SetTable.grown b.length) = some (smT (addB m v) led, (List.range b.length).toArray)) && coversAll (List.range b.length).toArray b.length && (smT (addB m v) led).fits b.length else decide (t1 = smT (addB m v) led))
def slotAt (m : Nat) : Nat → Nat
  | 0 => 0
  | i + 1 => (bitsOf m).getD i 0 + 1
end L2

namespace L2
open PySem PySem.Spec PyProof.Rows PySem.W PySem.Calls
/-! ### a set of whole numbers below 6, made of a list, walked -/
inductive EsR : List Nat → List (Int × Value) → Prop
  | nil : EsR [] []
  | cons (v : Nat) (t : Tok) {r l} : EsR r l → EsR (v :: r) (((v : Int), Value.int (v : Int) t) :: l)
theorem EsR.len {S : List Nat} {l : List (Int × Value)} (h : EsR S l) : l.length = S.length := by
  induction h with
  | nil => rfl
  | cons _ _ _ ih => simp [ih]
theorem EsR.at {S : List Nat} {l : List (Int × Value)} (h : EsR S l) : ∀ {i : Nat} {e : Int × Value}, l[i]? = some e → ∃ v t, S[i]? = some v ∧ e = ((v : Int), Value.int (v : Int) t) := by
  induction h with
  | nil => intro i e h; simp at h
  | cons v t _ ih =>
    intro i e h
    cases i with
    | zero => cases h; exact ⟨v, t, rfl, rfl⟩
    | succ i => exact ih (by simpa using h)
theorem EsR.ins {S : List Nat} {l : List (Int × Value)} (h : EsR S l) (v : Nat) (t : Tok) : ∀ p, EsR (S.take p ++ v :: S.drop p) (l.take p ++ ((v : Int), Value.int (v : Int) t) :: l.drop p) := by
  induction h with
  | nil => intro p; simpa using EsR.cons v t .nil
  | cons u tu r ih =>
    intro p
    cases p with
    | zero => exact .cons v t (.cons u tu r)
    | succ p => exact .cons u tu (ih p)
/-- the set at a: the numbers whose bits m has -/
def SmAt (led : Bool) (h : Heap) (a : Addr) (m ep : Nat) (es : Array (Int × Value)) : Prop := m < 64 ∧ ∃ o, h.get? a = some o ∧ o.ExactSet ∧ o.data = .set es ep (smT m led) ∧ EsR (bitsOf m) es.toList
theorem SmAt.keep {led : Bool} {h h' : Heap} {a : Addr} {m ep : Nat} {es : Array (Int × Value)} (x : SmAt led h a m ep es) (k : ∀ o, h.get? a = some o → h'.get? a = some o) : SmAt led h' a m ep es := let ⟨y, o, e, r⟩ := x; ⟨y, o, k o e, r⟩
section
variable {prog : Program} {w : World} {A : Around} {E : Value → Shared → Prop} {s : Shared} {a : Addr} {m v ep : Nat} {t : Tok} {led : Bool} {es : Array (Int × Value)}
end
end L2

namespace L2
open PySem PySem.Spec PyProof.Rows PySem.W PySem.Calls
def addAll (m : Nat) : List Nat → Nat
  | [] => m
  | v :: r => addAll (addB m v) r
def btx (w : World) : Bool := w.params.followText "set-order"
section
variable {prog : Program} {w : World} {A : Around} {E : Value → Shared → Prop} {s : Shared} {led : Bool}
end
end L2

namespace L2
open PySem PySem.Spec PyProof.Rows PySem.W PySem.Calls
section
variable {prog : Program} {w : World} {A : Around} {E : Value → Shared → Prop} {s : Shared}
abbrev newS (w : World) : Obj := { cls := .type "set", dict := none, data := .set #[] 0 (.fresh 0 0 (!btx w)) }
end
end L2

namespace L2
open PySem PySem.Spec PyProof.Rows PySem.W PySem.Calls
/-! ### a set walked -/
def SetIt (h : Heap) (it a : Addr) (i slot n ep : Nat) : Prop := ∃ o, h.get? it = some o ∧ o.cls = .type "set_iterator" ∧ o.data = .fields #[.int slot 0, .int i 0, .ref a, .int n 0, .int ep 0]
theorem SetIt.at {h h' : Heap} {it a : Addr} {i slot n ep : Nat} (x : SetIt h it a i slot n ep) (k : ∀ o, h.get? it = some o → h'.get? it = some o) : SetIt h' it a i slot n ep := let ⟨o, e, r⟩ := x; ⟨o, k o e, r⟩
/-- the order in which the set is walked -/
def ordE (w : World) (a : Addr) (ep : Nat) (es : Array (Int × Value)) : Array (Int × Value) := if btx w = true then pickOrder (w.params.setOrder a ep) es else es
def slotW (w : World) (m i : Nat) : Nat := if btx w = true then 0 else slotAt m i
section
variable {prog : Program} {w : World} {A : Around} {E : Value → Shared → Prop} {s : Shared} {a it : Addr} {m ep i : Nat} {es : Array (Int × Value)}
end
end L2

namespace L2
open PySem PySem.Spec PyProof.Rows PySem.W PySem.Calls
section
variable {prog : Program} {w : World} {A : Around} {E : Value → Shared → Prop} {s : Shared} {a it : Addr} {m ep i : Nat} {es : Array (Int × Value)}
end
end L2

namespace L2
open PySem PySem.Spec PyProof.Rows PySem.W PySem.Calls
section
variable {prog : Program} {w : World} {A : Around} {E : Value → Shared → Prop} {s : Shared} {a it : Addr} {m ep i : Nat} {es : Array (Int × Value)}
end
end L2

/-! ### whole numbers in order -/
namespace L2
open PySem PySem.Spec PyProof.Rows PySem.W PySem.Calls
def insI (a : Int) : List Int → List Int
  | [] => [a]
  | b :: r => if a ≤ b then a :: b :: r else b :: insI a r
def isort : List Int → List Int
  | [] => []
  | a :: r => insI a (isort r)
def ltN (ns : List Int) : Nat → Nat → Bool := fun i j => decide (ns.getD i 0 < ns.getD j 0)
end L2

namespace L2
open PySem PySem.Spec PyProof.Rows PySem.W PySem.Calls
/-! ### sorted(set(xs)), whole numbers from 0 to 5 -/
def setI (ns : List Int) : List Int := (bitsOf (addAll 0 (ns.map Int.toNat))).map fun (n : Nat) => (n : Int)
def Six (ns : List Int) : Prop := ∀ n ∈ ns, 0 ≤ n ∧ n < 6
section
variable {X : Cx} {e : Expr} {te : TE} {p1 p2 pos1 pos2 : Pos}
def tSS (K : PySem.W.Frag) (te : TE) : TE := fun σ H Q => te σ H fun v H1 => ∃ p ns, v = .ref p ∧ SqL K H1 p (ns.map V.int) ∧ Six ns ∧ ∀ l, H1 l = none → Q (.ref l) (upd H1 l (.lst ((setI ns).map V.int)))
end
section
/-- sorted(d) of a dict whose keys are whole numbers -/
def rSortDI : List V → Hp → VK → Prop := fun xs H Q => ∃ a kvs ns, xs = [.ref a] ∧ H a = some (.dK kvs) ∧ kvs.map (·.1) = ns.map Sum.inl ∧ kvs.length < 64 ∧ ∀ l, H l = none → Q (.ref l) (upd H l (.lst ((isort ns).map V.int)))
end
end L2
namespace DL
open PySem PySem.Spec PyProof.Rows L2
section
variable {X : Cx} {K : PySem.W.Frag} {E : XK} {e : Expr} {te : TD} {p1 p2 pos1 pos2 : Pos}
def dSS (te : TD) : TD := fun ρ Q Xd => te ρ (fun d _ => ∃ ns, d = iD ns ∧ Six ns ∧ Q (iD (setI ns)) (.own [])) Xd
def fSortDI : FA := fun ds _ Q => ∃ (es : List (Key × D)) (ns : List Int), ds = [dKD es] ∧ es.map (·.1) = ns.map Sum.inl ∧ es.length < 64 ∧ Q (iD (isort ns)) (.own [])
end
end DL

namespace L2
open PySem PySem.Spec PyProof.Rows PySem.W PySem.Calls
section
variable {X : Cx} {ke : Expr} {tk : TE} {pos p2 : Pos} {j : Int} {k2 : Nat}
/-- {k: j}, k a tuple -/
def tDOneT (tk : TE) (j : Int) : TE := fun σ H Q => ∀ p, H p = none → tk σ (upd H p (.dT [])) fun y H2 => ∃ b ks, y = .ref b ∧ H2 b = some (.tup (ks.map kV)) ∧ H2 p = some (.dT []) ∧ Q (.ref p) (upd H2 p (.dT [(ks, .int j)]))
/-- xs.index(x), deep data -/
def rIdxD (K : PySem.W.Frag) : V → List V → Hp → VK → Prop := fun l xs H Q => ∃ a x dx vs ds j, l = .ref a ∧ xs = [x] ∧ Den K H x dx ∧ SqL K H a vs ∧ Dens K H vs ds ∧ dx.canLay0 = true ∧ dx.depth ≤ 32 ∧ PyData.canLayAll0 ds = true ∧ (ds.findIdx? fun d => PyData.eqv d dx) = some j ∧ Q (.int (j : Nat)) H
end
end L2
namespace DL
open PySem PySem.Spec PyProof.Rows L2
section
variable {X : Cx} {K : PySem.W.Frag} {E : XK} {e o : Expr} {te to : TD} {tk : TKy} {p p2 pos apos cpos : Pos}
/-! ### tuple(xs) as a key; {k: j} -/
def kyL (te : TD) : TKy := fun ρ Q Xd => te ρ (fun d _ => ∃ ks : List Key, d = .list (ks.map keyV) ∧ Q (.inr ks)) Xd
def dDOneT (tk : TKy) (j : Int) : TD := fun ρ Q Xd => tk ρ (fun k => ∃ ks, k = .inr ks ∧ Q (dTD [(ks, .int j)]) (.own [])) Xd
/-! ### xs.index(x) -/
def dIdx (to te : TD) : TD := fun ρ Q Xd => to ρ (fun d _ => onL d fun ds => te ρ (fun x _ => (x.canLay0 = true ∧ x.depth ≤ 32 ∧ PyData.canLayAll0 ds = true) ∧ ∃ j : Nat, (ds.findIdx? fun y => PyData.eqv y x) = some j ∧ Q (.int j) .old) Xd) Xd
end
/-! ### what is ours is changed, and forgotten -/
section
variable {K : PySem.W.Frag} {H0 H H' : Hp} {ν : Nat → List Addr} {ρ : Ren} {σ : L2.St}
end
end DL

namespace DL
open PySem PySem.Spec PyProof.Rows L2
section
variable {X : Cx} {K : PySem.W.Frag} {E : XK}
/-- x[0][0].append(0); x[0].reverse(); x[1][1].append((0, 'a', 0)), x a tuple of ours, forgotten behind -/
def dMut3 (i : Nat) : TSD := fun Dd ρ Xd => ∃ r ss n ways, ρ[i]? = some (some (true, .tuple [.list (.list r :: ss), .tuple [n, .list ways]])) ∧ r.length < 1000000 ∧ ways.length < 1000000 ∧ Dd.nx (ρ.set i none)
abbrev tR0 (K : PySem.W.Frag) (i : Nat) : TE := tOp (rIxT K) (tVar i) (tC (.int 0))
abbrev tR00 (K : PySem.W.Frag) (i : Nat) : TE := tOp (rIxL K) (tR0 K i) (tC (.int 0))
abbrev tR11 (K : PySem.W.Frag) (i : Nat) : TE := tOp (rIxT K) (tOp (rIxT K) (tVar i) (tC (.int 1))) (tC (.int 1))
end
end DL

namespace L2
open PySem PySem.Spec PyProof.Rows
/-! ### for .. in reversed(a list) -/
/-- the items xs of the list at a, from the last one -/
def Itv (K : PySem.W.Frag) (a : Addr) (xs : List V) : It :=
  ⟨fun i H => SqL K H a xs ∧ i < xs.length, fun i H x H' => H' = H ∧ xs.reverse[i]? = some x, fun i H => SqL K H a xs ∧ xs.length ≤ i⟩
section
variable {X : Cx} {tg : Expr}
def iRev (K : PySem.W.Frag) (ta : TA) : TI := fun σ H R => ta σ H fun vs H1 => ∃ a xs, vs = [.ref a] ∧ SqL K H1 a xs ∧ R (Itv K a xs) H1
end
end L2
namespace DL
open PySem PySem.Spec PyProof.Rows L2
section
variable {X : Cx} {K : PySem.W.Frag} {E : XK} {pos p : Pos} {tg e : Expr} {te : TD} {ta : TDA}
def iRv (te : TD) : TDI := fun ρ Q Xd => te ρ (fun d k => onL d fun ds => Q ds.reverse (kcons d k (.own [])).isOld) Xd
end
end DL

namespace DL
open PySem PySem.Spec PyProof.Rows L2
section
variable {X : Cx} {K : PySem.W.Frag} {E : XK}
/-- for y in x[1]: y.append((0, 0, 0)); x[1].append([]), x a tuple of ours, forgotten behind -/
def dMutL (i t : Nat) : TSD := fun Dd ρ Xd => i ≠ t ∧ t < ρ.length ∧ ∃ d0 ls, ρ[i]? = some (some (true, .tuple [d0, .list ls])) ∧ (∀ d ∈ ls, ∃ es, d = .list es ∧ es.length < 1000000) ∧ ls.length < 1000000 ∧ Dd.nx ((ρ.set i none).set t none)
abbrev tR1 (K : PySem.W.Frag) (i : Nat) : TE := tOp (rIxT K) (tVar i) (tC (.int 1))
end
end DL

namespace L2
open PySem PySem.Spec PyProof.Rows
/-- the frame that runs is a plain def's of the module -/
structure Plain (X : Cx) : Prop where
  p : ∃ env l, X.stack = env :: l ∧ env.scope.isGenerator = false ∧ env.scope.isCoroutine = false ∧ env.builtins = builtinsNs ∧ env.globals = mainGlobals
/-- floor division of any size -/
theorem op_fdivP {X : Cx} (hX : Plain X) (hT : X.prog.given.tree = none) (hd : X.A.depth + Builtin.pylongFrames < recursionLimit) : OpR X (binaryOp .FloorDiv) (rI (fun _ j => j ≠ 0) fun i j => .int (i.fdiv j)) := by
  intro pins s σ H x y v u Q I rx ry h
  obtain ⟨i, j, rfl, rfl, hc, q⟩ := h
  obtain ⟨t, rfl⟩ := rx
  obtain ⟨t', rfl⟩ := ry
  obtain ⟨env, l, e1, e2, e3, e4, e5⟩ := hX.p
  refine floordiv_int hc ⟨.int (i.fdiv j), H, I.tok _, ⟨_, rfl⟩, q⟩ (.inr (PylongRoom.of I.nolimit hd (SeerAt.of (I.ok.mod.seer.keeps I.bk) hT (by rw [I.ok.frames, e1]) e2 e3 e4 e5)))
theorem Room.pyl {k : Nat} {A : Around} (r : Room (k + 40) A) : A.depth + Builtin.pylongFrames < recursionLimit := by
  have := r.dp
  show A.depth + 100 < recursionLimit
  omega
end L2
namespace DL
open PySem PySem.Spec PyProof.Rows L2
section
variable {X : Cx} {K : PySem.W.Frag}
theorem dop_fdivP (hX : Plain X) (hT : X.prog.given.tree = none) (hd : X.A.depth + Builtin.pylongFrames < recursionLimit) : DOp X K (binaryOp .FloorDiv) (fI (fun _ j => j ≠ 0) fun i j => .int (i.fdiv j)) := ⟨_, op_fdivP hX hT hd, prim_int⟩
end
end DL

namespace DL
open PySem PySem.Spec PyProof.Rows L2
section
variable {X : Cx} {K : PySem.W.Frag} {E : XK} {pos px apos cpos : Pos} {x y : Str}
/-! a, b = e1, e2: nothing is ours any more -/
def dParF (i j : Nat) (ta : TDA) : TSD := fun Dd ρ Xd => ta (frz ρ) (fun ds _ => ds.length = 2 ∧ Dd.nx (setAll false (frz ρ) [i, j] ds)) Xd
theorem dps_parF (i j : Nat) {a b : Expr} {ta : TDA} {px py pt : Pos} {kt k2 pt2} (hc : X.calm = true) (hN : X.N.Nodup) (hi : X.N[i]? = some x) (hj : X.N[j]? = some y) (hij : i ≠ j)
    (hx : X.env.scope.names.lookup x = some .local) (hy : X.env.scope.names.lookup y = some .local) (ha : DA X K E [a, b] ta)
    (hw : swappedStores [.Tuple [.Name x px, .Name y py] kt pt] (.Tuple [a, b] k2 pt2) X.env = pure (some [x, y]))
    (hs : swapsWithSole [.Tuple [.Name x px, .Name y py] kt pt] (.Tuple [a, b] k2 pt2) pos.line X.env = pure false := by rfl) :
    DS X K E (.Assign [.Tuple [.Name x px, .Name y py] kt pt] (.Tuple [a, b] k2 pt2) pos) (dParF i j ta) := ⟨qs_imp (qps_par hc hN hi hj hij hx hy ha.q hw hs) fun En σ H h => by
  obtain ⟨H0, ν, ρ, Dd, Xd, S, h1, ok, x⟩ := h
  refine ⟨H0, _, _, _, Xd, S.frz, h1, fun ds k us H1 g1 e1 r1 => ?_, x⟩
  obtain ⟨hl, q⟩ := g1
  have g2 := r1.dens
  have hl' : us.length = 2 := by rw [g2.length]; exact hl
  have S' := all_old (is := [i, j]) (S.same e1).frz (Dns.same hid_z0 g2)
  match us, hl' with
  | [v, w], _ => exact ⟨v, w, rfl, ok.nx _ _ _ _ q S'⟩⟩
theorem w_parF {i j : Nat} {ta : TDA} {Dd : EndsD} {ρ : Ren} {Xd : XD} (h : ta (frz ρ) (fun ds _ => ds.length = 2 ∧ Dd.nx (setAll false (frz ρ) [i, j] ds)) Xd) : dParF i j ta Dd ρ Xd := h
/-! behind a statement a name's tree is given up -/
def dAft (i : Nat) (t : TSD) : TSD := fun Dd ρ Xd => t { Dd with nx := fun ρ' => Dd.nx (frz1 i ρ') } ρ Xd
theorem dps_aft (i : Nat) {s : Stmt} {t : TSD} (h : DS X K E s t) : DS X K E s (dAft i t) := ⟨qs_imp h.q fun En σ H h => by
  obtain ⟨H0, ν, ρ, Dd, Xd, S, h1, ok, x⟩ := h
  exact ⟨H0, ν, ρ, _, Xd, S, h1, ⟨fun ν ρ σ H q S => ok.nx _ _ _ _ q (S.frz1 i), ok.bk, ok.ct, ok.rt⟩, x⟩⟩
theorem w_aft {i : Nat} {t : TSD} {Dd : EndsD} {ρ : Ren} {Xd : XD} (h : t { Dd with nx := fun ρ' => Dd.nx (frz1 i ρ') } ρ Xd) : dAft i t Dd ρ Xd := h
/-! xs * n, of items without lists -/
def fRep : F2 := fun d _ e _ Q => match d, e with
  | .list ds, .int z => flats ds = true ∧ (0 ≤ z ∧ ds.length * z.toNat ≤ 1000000 ∧ z < 1000000) ∧ Q (.list (List.replicate z.toNat ds).flatten) (.own [])
  | _, _ => False
theorem dns_rep {H : Hp} {us : List V} {ds : List D} (h : Dns K H us ds) : ∀ k : Nat, Dns K H (List.replicate k us).flatten (List.replicate k ds).flatten
  | 0 => .nil
  | k + 1 => by rw [List.replicate_succ, List.replicate_succ, List.flatten_cons, List.flatten_cons]; exact h.append (dns_rep h k)
theorem flats_rep {ds : List D} (h : flats ds = true) : ∀ k : Nat, flats (List.replicate k ds).flatten = true
  | 0 => rfl
  | k + 1 => by rw [List.replicate_succ, List.flatten_cons]; exact flats_app h (flats_rep h k)
theorem prim_rep : Prim2 K rRep fRep := fun Z ν Hs H x y d k e l Qf Q hl hn hs h3 h4 h5 h6 => by
  unfold fRep at h5
  split at h5
  · rename_i ds z
    obtain ⟨a, us, rfl, a1, a2, a3⟩ := res_list hl hn h3
    have := dn_int h4.den
    subst this
    obtain ⟨hf, ⟨b1, b2, b3⟩, q⟩ := h5
    refine ⟨a, z, us, rfl, rfl, a1, by omega, by omega, ?_, fun p hp => ?_⟩
    · rw [a2.length]; exact Nat.le_trans b2 million
    · exact h6 _ _ _ _ q (Same.new hp) (res_newL (k := .own []) hl hs hp ⟨[], ows_flat (dns_rep a2 _) (flats_rep hf _), List.nodup_nil, fun _ z => by cases z⟩)
  · exact h5.elim
theorem dop_rep : DOp X K (binaryOp .Mult) fRep := ⟨_, op_rep, prim_rep⟩
theorem w_rep {k l : Kd} {ds : List D} {z : Int} {Q : QD} (h : flats ds = true ∧ (0 ≤ z ∧ ds.length * z.toNat ≤ 1000000 ∧ z < 1000000) ∧ Q (.list (List.replicate z.toNat ds).flatten) (.own [])) : fRep (.list ds) k (.int z) l Q := h
/-! xs.pop() -/
theorem qpm_pop0K {X : Cx} (K : PySem.W.Frag) (hK : X.K = K) {o : Expr} {to : TE} {apos cpos : Pos} (ho : QE X o to) (hbase : attributeBase o "pop" X.env (eval o X.env) = eval o X.env) (hline : (apos.endLine == cpos.line) = true) :
    QE X (.Call (.Attribute o "pop" apos) [] [] cpos) (tBM0 K "list" rPop to) := by subst hK; exact ⟨pe_bm0 PySem.F.plainAttrs_list PySem.F.slot_list_pop PySem.F.type_list_pop mt_pop ho.h hbase hline⟩
def dPop0 (i : Nat) : TSD := fun Dd ρ _ => ∃ ds c, ρ[i]? = some (some (true, .list ds)) ∧ ds[ds.length - 1]? = some c ∧ Dd.nx (ρ.set i (some (true, .list (ds.eraseIdx (ds.length - 1)))))
theorem drop_erase {α : Type} : ∀ (l : List α), l.dropLast = l.eraseIdx (l.length - 1)
  | [] => rfl
  | [_] => rfl
  | a :: b :: l => by show a :: (b :: l).dropLast = a :: (b :: l).eraseIdx ((b :: l).length - 1); rw [drop_erase (b :: l)]
theorem dps_pop0 (i : Nat) (hK : X.K = K) (ho : QE X (.Name x px) (tVar i)) (hbase : attributeBase (.Name x px) "pop" X.env (eval (.Name x px) X.env) = eval (.Name x px) X.env) (hline : (apos.endLine == cpos.line) = true)
    (hsw : swapsWith (.Call (.Attribute (.Name x px) "pop" apos) [] [] cpos) none pos.line X.env = pure false := by rfl) : DS X K E (.Expr (.Call (.Attribute (.Name x px) "pop" apos) [] [] cpos) pos) (dPop0 i) := ⟨qs_imp (qps_expr (qpm_pop0K K hK ho hbase hline) hsw) fun En σ H h => by
  obtain ⟨H0, ν, ρ, Dd, Xd, S, ⟨ds, c, h1, hc, h2⟩, ok, x⟩ := h
  obtain ⟨a, us, ns, g1, g2, g3, g4, g5, g6⟩ := own_list S h1
  obtain ⟨ν', u, q1, q2, _⟩ := S.popped h1 g1 g2 g3 g4 g5 g6 hc (Same.refl H)
  have hl : us.length = ds.length := g3.den.length
  refine ⟨_, g1, tyl (SqL.of g2), a, us, u, rfl, rfl, g2, by rw [hl]; exact q1, ?_⟩
  rw [drop_erase, hl]
  exact ok.nx _ _ _ _ h2 q2⟩
theorem w_pop0 {i : Nat} {Dd : EndsD} {ρ : Ren} {Xd : XD} (h : ∃ ds c, ρ[i]? = some (some (true, .list ds)) ∧ ds[ds.length - 1]? = some c ∧ Dd.nx (ρ.set i (some (true, .list (ds.eraseIdx (ds.length - 1)))))) : dPop0 i Dd ρ Xd := h
end
end DL

/-! Polynomials as coefficients: multiples, remainders up to a factor, the common part. Plain Lean. -/
namespace M44
abbrev Po := Nat → Int
def xs (p : Po) : Po := fun i => match i with
  | 0 => 0
  | i + 1 => p i
/-- the multiples of g by polynomials with whole numbers -/
inductive Ml (g : Po) : Po → Prop
  | base : Ml g g
  | zero : Ml g fun _ => 0
  | add {x y : Po} : Ml g x → Ml g y → Ml g fun i => x i + y i
  | smul {x : Po} (c : Int) : Ml g x → Ml g fun i => c * x i
  | shift {x : Po} : Ml g x → Ml g (xs x)
/-- g divides p, with fractions -/
def Dv (g p : Po) : Prop := ∃ c : Int, c ≠ 0 ∧ Ml g fun i => c * p i
theorem Ml.congr {g x y : Po} (h : Ml g x) (e : ∀ i, x i = y i) : Ml g y := by
  have : x = y := funext e
  rw [← this]; exact h
theorem xs_smul (c : Int) (p : Po) : (fun i => c * xs p i) = xs fun i => c * p i := funext fun i => by
  cases i with
  | zero => exact Int.mul_zero c
  | succ i => rfl
theorem ml_trans {d g x : Po} {c : Int} (hd : Ml d fun i => c * g i) (h : Ml g x) : Ml d fun i => c * x i := by
  induction h with
  | base => exact hd
  | zero => exact Ml.zero.congr fun _ => (Int.mul_zero c).symm
  | add _ _ h1 h2 => exact (h1.add h2).congr fun i => (Int.mul_add ..).symm
  | smul a _ h1 => exact (h1.smul a).congr fun i => by simp only [Int.mul_left_comm]
  | shift _ h1 => rw [xs_smul]; exact h1.shift
theorem Dv.refl (g : Po) : Dv g g := ⟨1, by decide, Ml.base.smul 1⟩
theorem Dv.zero (g : Po) : Dv g fun _ => 0 := ⟨1, by decide, Ml.zero.congr fun _ => rfl⟩
theorem Dv.trans {d g p : Po} (h1 : Dv d g) (h2 : Dv g p) : Dv d p := by
  obtain ⟨a, ha, h1⟩ := h1
  obtain ⟨b, hb, h2⟩ := h2
  refine ⟨a * b, Int.mul_ne_zero ha hb, (ml_trans h1 h2).congr fun i => by rw [Int.mul_assoc]⟩
theorem Dv.add {g x y : Po} (h1 : Dv g x) (h2 : Dv g y) : Dv g fun i => x i + y i := by
  obtain ⟨a, ha, h1⟩ := h1
  obtain ⟨b, hb, h2⟩ := h2
  refine ⟨a * b, Int.mul_ne_zero ha hb, ((h1.smul b).add (h2.smul a)).congr fun i => ?_⟩
  rw [Int.mul_add, ← Int.mul_assoc, ← Int.mul_assoc, Int.mul_comm b a]
theorem Dv.smul {g x : Po} (c : Int) (h : Dv g x) : Dv g fun i => c * x i := by
  obtain ⟨a, ha, h⟩ := h
  exact ⟨a, ha, (h.smul c).congr fun i => by simp only [Int.mul_left_comm]⟩
theorem Dv.unscale {g x : Po} {c : Int} (hc : c ≠ 0) (h : Dv g fun i => c * x i) : Dv g x := by
  obtain ⟨a, ha, h⟩ := h
  exact ⟨a * c, Int.mul_ne_zero ha hc, h.congr fun i => by rw [Int.mul_assoc]⟩
theorem Dv.of_ml {g x y : Po} (h : Dv g x) (m : Ml x y) : Dv g y := by
  obtain ⟨a, ha, h⟩ := h
  exact ⟨a, ha, ml_trans h m⟩
/-! ### a remainder, up to a factor -/
/-- c p = a multiple of o, and r -/
def Rm (p o r : Po) : Prop := ∃ c : Int, c ≠ 0 ∧ ∃ m : Po, Ml o m ∧ ∀ i, c * p i = m i + r i
theorem Rm.dv {p o r : Po} (h : Rm p o r) (d : Po) : (Dv d p ∧ Dv d o) ↔ (Dv d o ∧ Dv d r) := by
  obtain ⟨c, hc, m, hm, e⟩ := h
  constructor
  · rintro ⟨h1, h2⟩
    refine ⟨h2, ?_⟩
    have A := (h1.smul c).add ((h2.of_ml hm).smul (-1))
    have : (fun i => c * p i + -1 * m i) = r := funext fun i => by rw [e i]; omega
    rwa [this] at A
  · rintro ⟨h1, h2⟩
    refine ⟨Dv.unscale hc ?_, h1⟩
    have A := (h1.of_ml hm).add h2
    have : (fun i => m i + r i) = fun i => c * p i := funext fun i => (e i).symm
    rwa [this] at A
theorem Rm.refl (p o : Po) : Rm p o p := ⟨1, by decide, _, .zero, fun i => by omega⟩
/-- a step of the division -/
theorem Rm.step {p o p' r m : Po} {a : Int} (ha : a ≠ 0) (hm : Ml o m) (e : ∀ i, p' i = a * p i - m i) (h : Rm p' o r) : Rm p o r := by
  obtain ⟨c, hc, m', hm', e'⟩ := h
  refine ⟨c * a, Int.mul_ne_zero hc ha, _, hm'.add (hm.smul c), fun i => ?_⟩
  have := e' i
  rw [e i, Int.mul_sub, ← Int.mul_assoc] at this
  omega
/-! ### multiples by their numbers -/
def sh (k : Nat) (g : Po) : Po := fun i => if k ≤ i then g (i - k) else 0
def cb (q g : Po) : Nat → Po
  | 0 => fun _ => 0
  | K + 1 => fun i => cb q g K i + q K * sh K g i
theorem cb_congr {q q' g : Po} : ∀ (K : Nat), (∀ k, k < K → q k = q' k) → ∀ i, cb q g K i = cb q' g K i
  | 0, _, _ => rfl
  | K + 1, h, i => by
    show cb q g K i + q K * sh K g i = cb q' g K i + q' K * sh K g i
    rw [cb_congr K (fun k hk => h k (by omega)) i, h K (by omega)]
theorem cb_pad {q g : Po} (K : Nat) : ∀ (J i : Nat), cb (fun k => if k < K then q k else 0) g (K + J) i = cb q g K i
  | 0, i => cb_congr K (fun k hk => if_pos hk) i
  | J + 1, i => by
    show cb _ g (K + J) i + (if K + J < K then q (K + J) else 0) * sh (K + J) g i = _
    rw [cb_pad K J i, if_neg (by omega), Int.zero_mul, Int.add_zero]
theorem cb_add {q q' g : Po} : ∀ (K i : Nat), cb (fun k => q k + q' k) g K i = cb q g K i + cb q' g K i
  | 0, _ => rfl
  | K + 1, i => by
    show cb (fun k => q k + q' k) g K i + (q K + q' K) * sh K g i = (cb q g K i + q K * sh K g i) + (cb q' g K i + q' K * sh K g i)
    rw [cb_add K i, Int.add_mul]; omega
theorem cb_smul {q g : Po} (c : Int) : ∀ (K i : Nat), cb (fun k => c * q k) g K i = c * cb q g K i
  | 0, _ => (Int.mul_zero c).symm
  | K + 1, i => by
    show cb (fun k => c * q k) g K i + c * q K * sh K g i = c * (cb q g K i + q K * sh K g i)
    rw [cb_smul c K i, Int.mul_add, Int.mul_assoc]
theorem cb_shift {q g : Po} : ∀ (K i : Nat), cb (xs q) g (K + 1) i = xs (cb q g K) i
  | 0, i => by
    show 0 + 0 * sh 0 g i = xs (fun _ => 0) i
    rw [Int.zero_mul]
    cases i <;> rfl
  | K + 1, i => by
    show cb (xs q) g (K + 1) i + q K * sh (K + 1) g i = _
    rw [cb_shift K i]
    cases i with
    | zero =>
      show (0 : Int) + q K * (if K + 1 ≤ 0 then _ else 0) = 0
      rw [if_neg (by omega), Int.mul_zero]; rfl
    | succ i =>
      show cb q g K i + q K * (if K + 1 ≤ i + 1 then g (i + 1 - (K + 1)) else 0) = cb q g K i + q K * (if K ≤ i then g (i - K) else 0)
      by_cases h : K ≤ i
      · rw [if_pos h, if_pos (by omega), show i + 1 - (K + 1) = i - K by omega]
      · rw [if_neg h, if_neg (by omega)]
theorem ml_cb {g x : Po} (h : Ml g x) : ∃ (q : Po) (K : Nat), ∀ i, x i = cb q g K i := by
  induction h with
  | base => exact ⟨fun _ => 1, 1, fun i => by show _ = 0 + 1 * (if 0 ≤ i then g (i - 0) else 0); rw [if_pos (Nat.zero_le _), Nat.sub_zero, Int.one_mul, Int.zero_add]⟩
  | zero => exact ⟨fun _ => 0, 0, fun _ => rfl⟩
  | add _ _ h1 h2 =>
    obtain ⟨q, K, e⟩ := h1
    obtain ⟨q', J, e'⟩ := h2
    refine ⟨fun k => (if k < K then q k else 0) + (if k < J then q' k else 0), K + J, fun i => ?_⟩
    rw [cb_add, cb_pad K J, Nat.add_comm K J, cb_pad J K, ← e i, ← e' i]
  | smul c _ h1 =>
    obtain ⟨q, K, e⟩ := h1
    exact ⟨fun k => c * q k, K, fun i => by rw [cb_smul, ← e i]⟩
  | shift _ h1 =>
    obtain ⟨q, K, e⟩ := h1
    refine ⟨xs q, K + 1, fun i => ?_⟩
    rw [cb_shift, show cb q g K = _ from (funext e).symm]
/-! ### degrees -/
def Lt (p : Po) (n : Nat) : Prop := ∀ i, n ≤ i → p i = 0
theorem cb_far {q g : Po} {n : Nat} (hg : Lt g (n + 1)) : ∀ (K i : Nat), K + n ≤ i → cb q g K i = 0
  | 0, _, _ => rfl
  | K + 1, i, h => by
    show cb q g K i + q K * (if K ≤ i then g (i - K) else 0) = 0
    rw [cb_far hg K i (by omega), if_pos (by omega), hg (i - K) (by omega), Int.mul_zero]; rfl
theorem cb_low {q g : Po} {n m : Nat} (hg : Lt g (n + 1)) (h0 : g n ≠ 0) : ∀ (K : Nat), Lt (cb q g K) (n + m) → ∀ i, cb q g K i = cb q g (min K m) i
  | 0, _, i => by rw [Nat.zero_min]
  | K + 1, h, i => by
    by_cases hK : K + 1 ≤ m
    · rw [Nat.min_eq_left hK]
    · have e : cb q g (K + 1) (K + n) = q K * g n := by
        show cb q g K (K + n) + q K * (if K ≤ K + n then g (K + n - K) else 0) = _
        rw [cb_far hg K (K + n) (by omega), if_pos (by omega), show K + n - K = n by omega]; omega
      rw [h (K + n) (by omega)] at e
      have hq : q K = 0 := by
        rcases Int.mul_eq_zero.mp e.symm with z | z
        · exact z
        · exact absurd z h0
      have e2 : ∀ i, cb q g (K + 1) i = cb q g K i := fun i => by
        show cb q g K i + q K * sh K g i = _
        rw [hq, Int.zero_mul, Int.add_zero]
      rw [e2 i, cb_low hg h0 K (fun j hj => by rw [← e2 j]; exact h j hj) i, Nat.min_eq_right (by omega), Nat.min_eq_right (by omega)]
/-- a multiple of lower degree is nought -/
theorem ml_low {g x : Po} {n : Nat} (h : Ml g x) (hg : Lt g (n + 1)) (h0 : g n ≠ 0) (hx : Lt x n) (i : Nat) : x i = 0 := by
  obtain ⟨q, K, e⟩ := ml_cb h
  rw [e i, cb_low (m := 0) hg h0 K (fun j hj => by rw [← e j]; exact hx j hj) i, Nat.min_zero]; rfl
/-- a multiple of the same degree is one by a number -/
theorem ml_one {g x : Po} {n : Nat} (h : Ml g x) (hg : Lt g (n + 1)) (h0 : g n ≠ 0) (hx : Lt x (n + 1)) : ∃ c : Int, ∀ i, x i = c * g i := by
  obtain ⟨q, K, e⟩ := ml_cb h
  have e2 := cb_low (m := 1) hg h0 K (fun j hj => by rw [← e j]; exact hx j hj)
  cases K with
  | zero => exact ⟨0, fun i => by rw [e i, Int.zero_mul]; rfl⟩
  | succ K =>
    refine ⟨q 0, fun i => ?_⟩
    rw [e i, e2 i, Nat.min_eq_right (by omega)]
    show 0 + q 0 * (if 0 ≤ i then g (i - 0) else 0) = _
    rw [if_pos (Nat.zero_le _), Nat.sub_zero, Int.zero_add]
/-- two remainders are proportional -/
theorem Rm.one {p o r r' : Po} {n : Nat} (h : Rm p o r) (h' : Rm p o r') (ho : Lt o (n + 1)) (h0 : o n ≠ 0) (hr : Lt r n) (hr' : Lt r' n) : ∃ a b : Int, a ≠ 0 ∧ b ≠ 0 ∧ ∀ i, a * r i = b * r' i := by
  obtain ⟨c, hc, m, hm, e⟩ := h
  obtain ⟨c', hc', m', hm', e'⟩ := h'
  refine ⟨c', c, hc', hc, fun i => ?_⟩
  have A : Ml o fun i => c' * m i + -c * m' i := (hm.smul c').add (hm'.smul (-c))
  have E : ∀ i, c' * m i + -c * m' i = c * r' i - c' * r i := fun i => by
    have h1 : c' * (c * p i) = c' * m i + c' * r i := by rw [e i, Int.mul_add]
    have h2 : c * (c' * p i) = c * m' i + c * r' i := by rw [e' i, Int.mul_add]
    rw [Int.mul_left_comm] at h1
    rw [Int.neg_mul]
    omega
  have z := ml_low (A.congr E) ho h0 (fun j hj => by show c * r' j - c' * r j = 0; rw [hr j hj, hr' j hj, Int.mul_zero, Int.mul_zero]; rfl) i
  omega
/-- what divides one another is proportional -/
theorem dv_both {g h : Po} {n m : Nat} (hg : Lt g (n + 1)) (g0 : g n ≠ 0) (hh : Lt h (m + 1)) (h0 : h m ≠ 0) (h1 : Dv g h) (h2 : Dv h g) : ∃ a b : Int, a ≠ 0 ∧ b ≠ 0 ∧ ∀ i, a * g i = b * h i := by
  have key : ∀ {g h : Po} {n m : Nat}, Lt g (n + 1) → g n ≠ 0 → Lt h (m + 1) → h m ≠ 0 → Dv g h → n ≤ m := fun {g h n m} hg g0 hh h0 hd => by
    obtain ⟨c, hc, k⟩ := hd
    by_cases e : n ≤ m
    · exact e
    · have := ml_low k hg g0 (fun j hj => by show c * h j = 0; rw [hh j (by omega), Int.mul_zero]) m
      exact absurd this (Int.mul_ne_zero hc h0)
  have e : n = m := Nat.le_antisymm (key hg g0 hh h0 h1) (key hh h0 hg g0 h2)
  subst e
  obtain ⟨c, hc, k⟩ := h1
  obtain ⟨a, ha⟩ := ml_one k hg g0 (fun j hj => by show c * h j = 0; rw [hh j hj, Int.mul_zero])
  refine ⟨a, c, fun z => ?_, hc, fun i => (ha i).symm⟩
  have := ha n
  rw [z, Int.zero_mul] at this
  exact Int.mul_ne_zero hc h0 this
/-! ### lists as polynomials; the greatest number that divides all -/
def co (p : List Int) : Po := fun i => p.getD i 0
theorem co_lt (p : List Int) : Lt (co p) p.length := fun i hi => by unfold co; rw [List.getD_eq_getElem?_getD, List.getElem?_eq_none hi]; rfl
def gl : List Int → Nat
  | [] => 0
  | x :: p => Nat.gcd x.natAbs (gl p)
theorem gl_dvd : ∀ {p : List Int} {x : Int}, x ∈ p → gl p ∣ x.natAbs
  | y :: p, x, h => by
    rcases List.mem_cons.mp h with rfl | h
    · exact Nat.gcd_dvd_left _ _
    · exact Nat.dvd_trans (Nat.gcd_dvd_right _ _) (gl_dvd h)
theorem gl_map (c : Int) : ∀ (p : List Int), gl (p.map fun x => c * x) = c.natAbs * gl p
  | [] => rfl
  | x :: p => by
    show Nat.gcd (c * x).natAbs (gl (p.map _)) = c.natAbs * Nat.gcd x.natAbs (gl p)
    rw [gl_map c p, Int.natAbs_mul, Nat.gcd_mul_left]
theorem gl_pos : ∀ {p : List Int}, (∃ x ∈ p, x ≠ 0) → 0 < gl p
  | y :: p, ⟨x, hx, h0⟩ => by
    rcases List.mem_cons.mp hx with rfl | hx
    · exact Nat.gcd_pos_of_pos_left _ (Int.natAbs_pos.mpr h0)
    · exact Nat.gcd_pos_of_pos_right _ (gl_pos ⟨x, hx, h0⟩)
/-- in least numbers, the signs as they are -/
def lst (p : List Int) : List Int := p.map fun x => x / (gl p : Int)
theorem lst_mul {p : List Int} (h : 0 < gl p) {i : Nat} {x : Int} (hx : p[i]? = some x) : ∃ y, (lst p)[i]? = some y ∧ x = gl p * y := by
  refine ⟨x / (gl p : Int), by unfold lst; rw [List.getElem?_map, hx]; rfl, ?_⟩
  have : (gl p : Int) ∣ x := Int.ofNat_dvd_left.mpr (gl_dvd (List.mem_iff_getElem?.mpr ⟨i, hx⟩))
  exact (Int.mul_ediv_cancel' this).symm
/-- proportional lists are, in least numbers, the same or each the other turned -/
theorem lst_prop {p q : List Int} {a b : Int} (ha : a ≠ 0) (hb : b ≠ 0) (hp : ∃ x ∈ p, x ≠ 0) (e : p.map (fun x => a * x) = q.map fun x => b * x) : lst q = lst p ∨ lst q = (lst p).map fun x => -x := by
  have hl : p.length = q.length := by have := congrArg List.length e; simpa using this
  have hg : a.natAbs * gl p = b.natAbs * gl q := by rw [← gl_map, ← gl_map, e]
  have hp0 := gl_pos hp
  have ha' := Int.natAbs_pos.mpr ha
  have hb' := Int.natAbs_pos.mpr hb
  have hq0 : 0 < gl q := by
    have := Nat.mul_pos ha' hp0
    rw [hg] at this
    exact Nat.pos_of_mul_pos_left this
  have key : ∀ i x y : _, (lst p)[i]? = some x → (lst q)[i]? = some y → (a * (gl p : Int)) * x = (b * (gl q : Int)) * y := fun i x y hx hy => by
    have hi : i < p.length := by have := (List.getElem?_eq_some_iff.mp hx).1; unfold lst at this; rwa [List.length_map] at this
    obtain ⟨x', e1, e2⟩ := lst_mul hp0 (List.getElem?_eq_getElem hi)
    obtain ⟨y', e3, e4⟩ := lst_mul hq0 (List.getElem?_eq_getElem (show i < q.length by omega))
    rw [hx] at e1; cases e1
    rw [hy] at e3; cases e3
    have := congrArg (fun l => l[i]?) e
    simp only [List.getElem?_map, List.getElem?_eq_getElem hi, List.getElem?_eq_getElem (show i < q.length by omega), Option.map_some, Option.some.injEq] at this
    rw [e2, e4] at this
    rw [Int.mul_assoc, Int.mul_assoc]; exact this
  have sg : b * (gl q : Int) = a * (gl p : Int) ∨ b * (gl q : Int) = -(a * (gl p : Int)) := by
    have : (b * (gl q : Int)).natAbs = (a * (gl p : Int)).natAbs := by rw [Int.natAbs_mul, Int.natAbs_mul, Int.natAbs_natCast, Int.natAbs_natCast, hg]
    exact Int.natAbs_eq_natAbs_iff.mp this
  have hc : a * (gl p : Int) ≠ 0 := Int.mul_ne_zero ha (by omega)
  have ll : (lst q).length = (lst p).length := by unfold lst; rw [List.length_map, List.length_map, hl]
  rcases sg with sg | sg
  · refine .inl (List.ext_getElem? fun i => ?_)
    by_cases hi : i < (lst p).length
    · have h1 := List.getElem?_eq_getElem hi
      have h2 := List.getElem?_eq_getElem (show i < (lst q).length by omega)
      have := key i _ _ h1 h2
      rw [sg] at this
      rw [h1, h2, Int.eq_of_mul_eq_mul_left hc this]
    · rw [List.getElem?_eq_none (by omega), List.getElem?_eq_none (by omega)]
  · refine .inr (List.ext_getElem? fun i => ?_)
    rw [List.getElem?_map]
    by_cases hi : i < (lst p).length
    · have h1 := List.getElem?_eq_getElem hi
      have h2 := List.getElem?_eq_getElem (show i < (lst q).length by omega)
      have := key i _ _ h1 h2
      rw [sg, Int.neg_mul, ← Int.mul_neg] at this
      have := Int.eq_of_mul_eq_mul_left hc this
      rw [h1, h2]
      show some _ = some (-_)
      rw [this, Int.neg_neg]
    · rw [List.getElem?_eq_none (by omega), List.getElem?_eq_none (by omega)]; rfl
end M44

/-! k44: remainders with sizes, the pair that goes on, what is told. Plain Lean. -/
namespace M44
theorem pos_ne {α : Type} {l : List α} (h : l ≠ []) : 0 < l.length := List.length_pos_iff.mpr h
def Tr (p : List Int) : Prop := p ≠ [] → co p (p.length - 1) ≠ 0
def Bb (b : Nat) (p : List Int) : Prop := ∀ i, (co p i).natAbs < 2 ^ b
theorem co_get {p : List Int} {i : Nat} (h : i < p.length) : p[i]? = some (co p i) := by
  unfold co; rw [List.getD_eq_getElem?_getD, List.getElem?_eq_getElem h]; rfl
theorem co_of {p : List Int} {i : Nat} {x : Int} (h : p[i]? = some x) : co p i = x := by
  unfold co; rw [List.getD_eq_getElem?_getD, h]; rfl
theorem bb_mem {b : Nat} {p : List Int} (h : Bb b p) {x : Int} (hx : x ∈ p) : x.natAbs < 2 ^ b := by
  obtain ⟨i, hi⟩ := List.mem_iff_getElem?.mp hx
  rw [← co_of hi]; exact h i
theorem bb_of {b : Nat} {p : List Int} (h : ∀ x ∈ p, x.natAbs < 2 ^ b) : Bb b p := fun i => by
  by_cases hi : i < p.length
  · exact h _ (List.mem_iff_getElem?.mpr ⟨i, co_get hi⟩)
  · rw [co_lt p i (by omega)]; exact Nat.two_pow_pos b
theorem Bb.mono {b c : Nat} {p : List Int} (h : Bb b p) (hb : b ≤ c) : Bb c p := fun i => Nat.lt_of_lt_of_le (h i) (Nat.pow_le_pow_right (by decide) hb)
/-! ### without noughts at the end -/
def trl (p : List Int) : Nat → Nat
  | 0 => 0
  | n + 1 => if co p n = 0 then trl p n else n + 1
/-- what a list is, up to noughts at its end -/
def Like (p r : List Int) : Prop := ∀ i, co r i = co p i
theorem take_like {p : List Int} {n : Nat} (h : ∀ i, n ≤ i → co p i = 0) : Like p (p.take n) := fun i => by
  by_cases hi : i < n
  · show (p.take n).getD i 0 = p.getD i 0
    rw [List.getD_eq_getElem?_getD, List.getD_eq_getElem?_getD, List.getElem?_take_of_lt hi]
  · rw [h i (by omega), co_lt (p.take n) i (by rw [List.length_take]; omega)]
theorem Like.bb {p r : List Int} (h : Like p r) {b : Nat} (hb : Bb b p) : Bb b r := fun i => by rw [h i]; exact hb i
/-! ### a step of the division -/
theorem co_sh {o : List Int} (k i : Nat) : co (List.replicate k 0 ++ o) i = sh k (co o) i := by
  unfold co sh
  show _ = if k ≤ i then o.getD (i - k) 0 else 0
  rw [List.getD_eq_getElem?_getD, List.getD_eq_getElem?_getD]
  by_cases h : k ≤ i
  · rw [if_pos h, List.getElem?_append_right (by simpa using h)]; simp
  · rw [if_neg h, List.getElem?_append_left (by simpa using h), List.getElem?_replicate, if_pos (by omega)]; rfl
def stp (a f : Int) (p q : List Int) : List Int := (p.zip q).map fun z => a * z.1 - f * z.2
theorem co_stp {a f : Int} {p q : List Int} (hl : p.length = q.length) (i : Nat) : co (stp a f p q) i = a * co p i - f * co q i := by
  by_cases h : i < p.length
  · refine co_of ?_
    unfold stp
    rw [List.getElem?_map, List.getElem?_zip_eq_some (z := (co p i, co q i)) |>.mpr ⟨co_get h, co_get (by omega)⟩]
    rfl
  · rw [co_lt p i (by omega), co_lt q i (by omega), co_lt _ i (by unfold stp; rw [List.length_map, List.length_zip]; omega)]
    rw [Int.mul_zero, Int.mul_zero]; rfl
theorem ml_sh {o : Po} : ∀ k, Ml o (sh k o)
  | 0 => Ml.base.congr fun i => by unfold sh; rw [if_pos (Nat.zero_le _), Nat.sub_zero]
  | k + 1 => (ml_sh k).shift.congr fun i => by
    cases i with
    | zero => show (0 : Int) = sh (k + 1) o 0; unfold sh; rw [if_neg (by omega)]
    | succ i =>
      show sh k o i = sh (k + 1) o (i + 1)
      unfold sh
      by_cases h : k ≤ i
      · rw [if_pos h, if_pos (by omega), show i + 1 - (k + 1) = i - k by omega]
      · rw [if_neg h, if_neg (by omega)]
theorem pow_two_step {b c : Nat} {a x f y : Int} (ha : a.natAbs < 2 ^ b) (hx : x.natAbs < 2 ^ c) (hf : f.natAbs < 2 ^ c) (hy : y.natAbs < 2 ^ b) : (a * x - f * y).natAbs < 2 ^ (c + (b + 1)) := by
  have h1 : (a * x).natAbs < 2 ^ b * 2 ^ c := by rw [Int.natAbs_mul]; exact Nat.mul_lt_mul_of_lt_of_lt ha hx
  have h2 : (f * y).natAbs < 2 ^ c * 2 ^ b := by rw [Int.natAbs_mul]; exact Nat.mul_lt_mul_of_lt_of_lt hf hy
  have e1 : 2 ^ (c + (b + 1)) = 2 ^ c * 2 ^ b * 2 := by rw [Nat.pow_add, Nat.pow_succ, Nat.mul_assoc]
  have e2 : 2 ^ b * 2 ^ c = 2 ^ c * 2 ^ b := Nat.mul_comm ..
  omega
/-- one step as the program makes it: what is left, and its size -/
theorem stp_ok {p o r : List Int} {b c : Nat} (ho : o ≠ []) (To : Tr o) (hl : o.length ≤ p.length) (hp : Bb c p) (hb : Bb b o) {a f : Int} (ha : a ≠ 0) (hab : a.natAbs < 2 ^ b) (hf : f = co p (p.length - 1) ∨ f = -co p (p.length - 1)) (he : a * co p (p.length - 1) = f * co o (o.length - 1))
    (e : ∀ i, co r i = a * co p i - f * sh (p.length - o.length) (co o) i) :
    (∀ i, p.length - 1 ≤ i → co r i = 0) ∧ Bb (c + (b + 1)) r ∧ ∀ q, Rm (co r) (co o) q → Rm (co p) (co o) q := by
  have ho0 : 0 < o.length := pos_ne ho
  refine ⟨fun i hi => ?_, fun i => ?_, fun q hq => Rm.step ha ((ml_sh (p.length - o.length)).smul f) (fun i => e i) hq⟩
  · rw [e i]
    unfold sh
    rw [if_pos (by omega)]
    by_cases h : i = p.length - 1
    · subst h
      rw [show p.length - 1 - (p.length - o.length) = o.length - 1 by omega, he]; omega
    · rw [co_lt p i (by omega), co_lt o _ (by omega), Int.mul_zero, Int.mul_zero]; rfl
  · rw [e i]
    refine pow_two_step hab (hp i) ?_ ?_
    · rcases hf with rfl | rfl
      · exact hp _
      · rw [Int.natAbs_neg]; exact hp _
    · unfold sh; split
      · exact hb _
      · exact Nat.two_pow_pos b
theorem lead_eq {l x : Int} : (l.natAbs : Int) * x = (if 0 < l then x else -x) * l := by
  by_cases h : 0 < l
  · rw [if_pos h, Int.mul_comm]; congr 1; omega
  · rw [if_neg h, Int.neg_mul, Int.mul_comm, ← Int.mul_neg]; congr 1; omega
theorem trim_ex (p : List Int) : ∃ r, Like p r ∧ Tr r ∧ ∀ n, (∀ i, n ≤ i → co p i = 0) → r.length ≤ n := by
  have key : ∀ n, (∀ i, n ≤ i → co p i = 0) → n ≤ p.length → ∃ m, m ≤ n ∧ (∀ i, m ≤ i → co p i = 0) ∧ (0 < m → co p (m - 1) ≠ 0) := by
    intro n
    induction n with
    | zero => exact fun h _ => ⟨0, Nat.le_refl _, h, fun z => absurd z (by omega)⟩
    | succ n ih =>
      intro h hn
      by_cases z : co p n = 0
      · obtain ⟨m, h1, h2⟩ := ih (fun i hi => by
          by_cases e : i = n
          · rw [e]; exact z
          · exact h i (by omega)) (by omega)
        exact ⟨m, by omega, h2⟩
      · exact ⟨n + 1, Nat.le_refl _, h, fun _ => z⟩
  obtain ⟨m, h1, h2, h3⟩ := key p.length (fun i hi => co_lt p i hi) (Nat.le_refl _)
  have hl : (p.take m).length = m := by rw [List.length_take]; omega
  refine ⟨p.take m, take_like h2, fun hne => ?_, fun n hn => ?_⟩
  · have : 0 < m := by rw [← hl]; exact pos_ne hne
    rw [hl, take_like h2]; exact h3 this
  · rw [hl]
    by_cases z : m ≤ n
    · exact z
    · exact absurd (hn (m - 1) (by omega)) (h3 (by omega))
/-- there is a remainder with small numbers -/
theorem rem_ex {o : List Int} {b : Nat} (ho : o ≠ []) (To : Tr o) (hb : Bb b o) : ∀ (n : Nat) (p : List Int) (c : Nat), p.length ≤ n → Tr p → Bb c p → ∃ r, Tr r ∧ r.length < o.length ∧ Rm (co p) (co o) (co r) ∧ Bb (c + (p.length + 1 - o.length) * (b + 1)) r := by
  have ho0 : 0 < o.length := pos_ne ho
  intro n
  induction n with
  | zero =>
    intro p c hn hT hc
    exact ⟨p, hT, by omega, Rm.refl _ _, hc.mono (Nat.le_add_right _ _)⟩
  | succ n ih =>
    intro p c hn hT hc
    by_cases h : p.length < o.length
    · exact ⟨p, hT, h, Rm.refl _ _, hc.mono (Nat.le_add_right _ _)⟩
    · have hl : p.length = (List.replicate (p.length - o.length) (0 : Int) ++ o).length := by rw [List.length_append, List.length_replicate]; omega
      obtain ⟨r, h1, h2, h3⟩ := trim_ex (stp ((co o (o.length - 1)).natAbs : Int) (if 0 < co o (o.length - 1) then co p (p.length - 1) else -co p (p.length - 1)) p (List.replicate (p.length - o.length) 0 ++ o))
      have e : ∀ i, co r i = ((co o (o.length - 1)).natAbs : Int) * co p i - (if 0 < co o (o.length - 1) then co p (p.length - 1) else -co p (p.length - 1)) * sh (p.length - o.length) (co o) i := fun i => by
        rw [h1 i, co_stp hl, co_sh]
      obtain ⟨a1, a2, a3⟩ := stp_ok ho To (by omega) hc hb (by have := To ho; omega) (by rw [Int.natAbs_natCast]; exact hb _) (by split; exact .inl rfl; exact .inr rfl) lead_eq e
      have hr : r.length ≤ p.length - 1 := h3 _ fun i hi => by rw [← h1 i]; exact a1 i hi
      obtain ⟨q, q1, q2, q3, q4⟩ := ih r (c + (b + 1)) (by omega) h2 a2
      refine ⟨q, q1, q2, a3 _ q3, q4.mono ?_⟩
      have : (r.length + 1 - o.length) + 1 ≤ p.length + 1 - o.length := by omega
      have := Nat.mul_le_mul_right (b + 1) this
      rw [Nat.add_mul] at this
      omega
/-! ### in least numbers -/
theorem ne_of_tr {p : List Int} (h : Tr p) (hp : p ≠ []) : ∃ x ∈ p, x ≠ 0 := by
  have := pos_ne hp
  exact ⟨_, List.mem_iff_getElem?.mpr ⟨_, co_get (show p.length - 1 < p.length by omega)⟩, h hp⟩
theorem lst_length (p : List Int) : (lst p).length = p.length := by unfold lst; rw [List.length_map]
theorem co_lst {p : List Int} (hp : 0 < gl p) (i : Nat) : co p i = gl p * co (lst p) i := by
  by_cases h : i < p.length
  · obtain ⟨y, e1, e2⟩ := lst_mul hp (co_get h)
    rw [co_of e1]; exact e2
  · rw [co_lt p i (by omega), co_lt (lst p) i (by rw [lst_length]; omega), Int.mul_zero]
theorem lst_map {p : List Int} (hp : 0 < gl p) : (lst p).map (fun x => (gl p : Int) * x) = p := by
  refine List.ext_getElem? fun i => ?_
  rw [List.getElem?_map]
  by_cases h : i < p.length
  · obtain ⟨y, e1, e2⟩ := lst_mul hp (co_get h)
    rw [e1, co_get h, e2]; rfl
  · rw [List.getElem?_eq_none (by rw [lst_length]; omega), List.getElem?_eq_none (by omega)]; rfl
theorem gl_lst {p : List Int} (hp : 0 < gl p) : gl (lst p) = 1 := by
  have h := gl_map (gl p : Int) (lst p)
  rw [lst_map hp, Int.natAbs_natCast] at h
  have : gl p * 1 = gl p * gl (lst p) := by omega
  exact (Nat.eq_of_mul_eq_mul_left hp this).symm
theorem lst_one {p : List Int} (h : gl p = 1) : lst p = p := by
  unfold lst; rw [h]
  conv => rhs; rw [← List.map_id p]
  exact List.map_congr_left fun x _ => by simp
def neg (p : List Int) : List Int := p.map fun x => -x
theorem neg_length (p : List Int) : (neg p).length = p.length := by unfold neg; rw [List.length_map]
theorem co_neg (p : List Int) (i : Nat) : co (neg p) i = -co p i := by
  by_cases h : i < p.length
  · refine co_of ?_
    unfold neg; rw [List.getElem?_map, co_get h]; rfl
  · rw [co_lt p i (by omega), co_lt (neg p) i (by rw [neg_length]; omega)]; rfl
theorem gl_neg (p : List Int) : gl (neg p) = gl p := by
  have h := gl_map (-1) p
  rw [show (p.map fun x => (-1) * x) = neg p from List.map_congr_left fun x _ => by omega] at h
  rw [h]; show 1 * gl p = _; omega
theorem tr_lst {p : List Int} (h : Tr p) : Tr (lst p) := fun hne => by
  have hp : p ≠ [] := fun z => hne (by rw [z]; rfl)
  have hg := gl_pos (ne_of_tr h hp)
  rw [lst_length]
  intro z
  have := co_lst hg (p.length - 1)
  rw [z, Int.mul_zero] at this
  exact h hp this
theorem tr_neg {p : List Int} (h : Tr p) : Tr (neg p) := fun hne => by
  have hp : p ≠ [] := fun z => hne (by rw [z]; rfl)
  rw [neg_length, co_neg]
  have := h hp; omega
theorem bb_neg {b : Nat} {p : List Int} (h : Bb b p) : Bb b (neg p) := fun i => by rw [co_neg, Int.natAbs_neg]; exact h i
theorem bb_lst {b : Nat} {p : List Int} (h : Bb b p) : Bb b (lst p) := by
  by_cases hg : 0 < gl p
  · intro i
    have e := co_lst hg i
    have : (co (lst p) i).natAbs ≤ (co p i).natAbs := by
      rw [e, Int.natAbs_mul, Int.natAbs_natCast]
      exact Nat.le_mul_of_pos_left _ hg
    exact Nat.lt_of_le_of_lt this (h i)
  · refine bb_of fun x hx => ?_
    unfold lst at hx
    obtain ⟨y, _, rfl⟩ := List.mem_map.mp hx
    rw [show gl p = 0 by omega]
    show (y / 0).natAbs < _
    rw [Int.ediv_zero]; exact Nat.two_pow_pos b
/-- two remainders of the same two are the same in least numbers, but for the sign -/
theorem like_lst {p o r r' : List Int} (ho : o ≠ []) (To : Tr o) (h : Rm (co p) (co o) (co r)) (h' : Rm (co p) (co o) (co r')) (T : Tr r) (T' : Tr r') (hl : r.length < o.length) (hl' : r'.length < o.length) : (r = [] ∧ r' = []) ∨ (r ≠ [] ∧ r' ≠ [] ∧ (lst r' = lst r ∨ lst r' = neg (lst r))) := by
  have ho0 : 0 < o.length := pos_ne ho
  obtain ⟨a, b, ha, hb, e⟩ := Rm.one (n := o.length - 1) h h' (fun i hi => co_lt o i (by omega)) (To ho) (fun i hi => co_lt r i (by omega)) (fun i hi => co_lt r' i (by omega))
  have one : ∀ {r r' : List Int} {a b : Int}, a ≠ 0 → b ≠ 0 → (∀ i, a * co r i = b * co r' i) → Tr r → r.length ≤ r'.length := by
    intro r r' a b ha hb e T
    by_cases z : r = []
    · rw [z]; exact Nat.zero_le _
    · by_cases q : r.length ≤ r'.length
      · exact q
      · have := e (r.length - 1)
        rw [co_lt r' _ (by omega), Int.mul_zero] at this
        exact absurd this (Int.mul_ne_zero ha (T z))
  have el : r.length = r'.length := Nat.le_antisymm (one ha hb e T) (one hb ha (fun i => (e i).symm) T')
  by_cases z : r = []
  · refine .inl ⟨z, ?_⟩
    rw [z] at el; exact List.eq_nil_of_length_eq_zero el.symm
  · refine .inr ⟨z, fun q => z (by rw [q] at el; exact List.eq_nil_of_length_eq_zero el), ?_⟩
    refine lst_prop ha hb (ne_of_tr T z) (List.ext_getElem? fun i => ?_)
    rw [List.getElem?_map, List.getElem?_map]
    by_cases h : i < r.length
    · rw [co_get h, co_get (by omega)]; exact congrArg some (e i)
    · rw [List.getElem?_eq_none (by omega), List.getElem?_eq_none (by omega)]; rfl
/-! ### what goes on: a pair, its sizes and its common divisors -/
def W : Nat → Nat
  | 0 => 100
  | 1 => 201
  | k + 2 => W k + 2 * (W (k + 1) + 1)
theorem W_up (k : Nat) : W k ≤ W (k + 1) := by
  cases k with
  | zero => decide
  | succ k => show _ ≤ W k + 2 * (W (k + 1) + 1); omega
theorem W_mono {k : Nat} : ∀ d, W k ≤ W (k + d)
  | 0 => Nat.le_refl _
  | d + 1 => Nat.le_trans (W_mono d) (W_up _)
theorem W_gap (k : Nat) : ∀ d, W k + (d + 2) * (W (k + 1) + 1) ≤ W (k + (d + 1) + 1)
  | 0 => by show W k + 2 * (W (k + 1) + 1) ≤ W k + 2 * (W (k + 1) + 1); exact Nat.le_refl _
  | d + 1 => by
    have h := W_gap k d
    show _ ≤ W (k + (d + 1)) + 2 * (W (k + (d + 1) + 1) + 1)
    have h2 : W (k + 1) ≤ W (k + (d + 1)) := by
      have := W_mono (k := k + 1) d
      rwa [show k + 1 + d = k + (d + 1) by omega] at this
    have h3 : (d + 1 + 2) * (W (k + 1) + 1) = (d + 2) * (W (k + 1) + 1) + (W (k + 1) + 1) := by rw [Nat.add_right_comm, Nat.succ_mul]
    omega
/-- the sizes of a pair -/
def Sz (p o : List Int) : Prop := (Bb 100 p ∧ Bb 100 o ∧ p.length ≤ 13 ∧ o.length ≤ 13) ∨ ∃ k, k + p.length ≤ 13 ∧ o.length < p.length ∧ Bb (W k) p ∧ Bb (W (k + 1)) o
theorem W13 : W 13 = 8158981 := by decide
theorem Sz.go {p o : List Int} (h : Sz p o) (ho : o ≠ []) : p.length ≤ 13 ∧ o.length ≤ 13 ∧ ∃ b c, Bb c p ∧ Bb b o ∧ c + (p.length + 1 - o.length) * (b + 1) ≤ 8158981 ∧ b ≤ 8158981 ∧ ∀ r : List Int, r.length < o.length → Bb (c + (p.length + 1 - o.length) * (b + 1)) r → Sz o r := by
  have ho0 : 0 < o.length := pos_ne ho
  rcases h with ⟨h1, h2, h3, h4⟩ | ⟨k, h1, h2, h3, h4⟩
  · refine ⟨h3, h4, 100, 100, h1, h2, ?_, by decide, fun r hr hb => ?_⟩
    · have := Nat.mul_le_mul_right 101 (show p.length + 1 - o.length ≤ 13 by omega)
      omega
    · by_cases q : p.length ≤ o.length
      · refine .inr ⟨0, by omega, hr, h2, hb.mono ?_⟩
        have := Nat.mul_le_mul_right 101 (show p.length + 1 - o.length ≤ 1 by omega)
        show _ ≤ 201
        omega
      · refine .inr ⟨p.length - o.length, by omega, hr, h2.mono (Nat.le_trans (show 100 ≤ W 0 by decide) (by have := W_mono (k := 0) (p.length - o.length); rwa [Nat.zero_add] at this)), hb.mono ?_⟩
        obtain ⟨d, hd⟩ : ∃ d, p.length - o.length = d + 1 := ⟨p.length - o.length - 1, by omega⟩
        have := W_gap 0 d
        rw [Nat.zero_add] at this
        rw [hd, show p.length + 1 - o.length = d + 2 by omega]
        rw [show 0 + (d + 1) + 1 = d + 1 + 1 by omega] at this
        refine Nat.le_trans ?_ this
        exact Nat.add_le_add_left (Nat.mul_le_mul_left _ (by decide)) 100
  · obtain ⟨d, hd⟩ : ∃ d, p.length - o.length = d + 1 := ⟨p.length - o.length - 1, by omega⟩
    have hW := W_gap k d
    have e2 : p.length + 1 - o.length = d + 2 := by omega
    have hm : W (k + (d + 1) + 1) ≤ W 13 := by
      have := W_mono (k := k + (d + 1) + 1) (13 - (k + (d + 1) + 1))
      rwa [show k + (d + 1) + 1 + (13 - (k + (d + 1) + 1)) = 13 by omega] at this
    refine ⟨by omega, by omega, W (k + 1), W k, h3, h4, ?_, ?_, fun r hr hb => .inr ⟨k + (d + 1), by omega, hr, h4.mono ?_, hb.mono ?_⟩⟩
    · rw [e2, ← W13]; omega
    · rw [← W13]
      have : W (k + 1) ≤ W (k + (d + 1) + 1) := by
        have := W_mono (k := k + 1) (d + 1)
        rwa [show k + 1 + (d + 1) = k + (d + 1) + 1 by omega] at this
      omega
    · have := W_mono (k := k + 1) d
      rwa [show k + 1 + d = k + (d + 1) by omega] at this
    · rw [e2]; exact hW
/-- the common divisors of two -/
def Sm (p o P O : List Int) : Prop := ∀ d, (Dv d (co p) ∧ Dv d (co o)) ↔ (Dv d (co P) ∧ Dv d (co O))
/-- what is left, by a number -/
def Rr (p o r : List Int) : Prop := ∃ s : List Int, Rm (co p) (co o) (co s) ∧ ∃ g : Int, g ≠ 0 ∧ ∀ i, co s i = g * co r i
theorem dv_prop {d : Po} {x y : List Int} {g : Int} (hg : g ≠ 0) (e : ∀ i, co x i = g * co y i) : Dv d (co x) ↔ Dv d (co y) := by
  have e' : co x = fun i => g * co y i := funext e
  constructor
  · intro h; rw [e'] at h; exact h.unscale hg
  · intro h; rw [e']; exact h.smul g
theorem Rr.sm {p o r P O : List Int} (h : Rr p o r) (s : Sm p o P O) : Sm o r P O := fun d => by
  obtain ⟨q, h1, g, hg, e⟩ := h
  rw [← s d, h1.dv d, dv_prop hg e]
theorem rr_lst {p o r : List Int} (h : Rm (co p) (co o) (co r)) (T : Tr r) : Rr p o (lst r) := by
  by_cases z : r = []
  · subst z; exact ⟨_, h, 1, by decide, fun i => by rw [Int.one_mul]; rfl⟩
  · have hg := gl_pos (ne_of_tr T z)
    exact ⟨_, h, gl r, by omega, co_lst hg⟩
theorem Rr.neg {p o r : List Int} (h : Rr p o r) : Rr p o (neg r) := by
  obtain ⟨q, h1, g, hg, e⟩ := h
  exact ⟨q, h1, -g, by omega, fun i => by rw [co_neg, e i, Int.neg_mul_neg]⟩
/-! ### what is told -/
structure Gcd (P O g : List Int) : Prop where
  ne : g ≠ []
  pos : 0 < co g (g.length - 1)
  one : gl g = 1
  dv : ∀ d, Dv d (co g) ↔ (Dv d (co P) ∧ Dv d (co O))
theorem Gcd.uniq {P O g h : List Int} (a : Gcd P O g) (b : Gcd P O h) : g = h := by
  have d1 : Dv (co g) (co h) := (b.dv _).mpr ((a.dv _).mp (Dv.refl _))
  have d2 : Dv (co h) (co g) := (a.dv _).mpr ((b.dv _).mp (Dv.refl _))
  have g0 := pos_ne a.ne
  have h0 := pos_ne b.ne
  have ga := a.pos
  have ha := b.pos
  obtain ⟨x, y, hx, hy, e⟩ := dv_both (n := g.length - 1) (m := h.length - 1) (fun i hi => co_lt g i (by omega)) (by omega) (fun i hi => co_lt h i (by omega)) (by omega) d1 d2
  have el : g.length = h.length := by
    rcases Nat.lt_trichotomy g.length h.length with q | q | q
    · have := e (h.length - 1)
      rw [co_lt g _ (by omega), Int.mul_zero] at this
      exact absurd this.symm (Int.mul_ne_zero hy (by omega))
    · exact q
    · have := e (g.length - 1)
      rw [co_lt h _ (by omega), Int.mul_zero] at this
      exact absurd this (Int.mul_ne_zero hx (by omega))
  have := lst_prop (p := g) (q := h) hx hy (ne_of_tr (fun _ => by omega) a.ne) (List.ext_getElem? fun i => by
    rw [List.getElem?_map, List.getElem?_map]
    by_cases q : i < g.length
    · rw [co_get q, co_get (by omega)]; exact congrArg some (e i)
    · rw [List.getElem?_eq_none (by omega), List.getElem?_eq_none (by omega)]; rfl)
  rw [lst_one a.one, lst_one b.one] at this
  rcases this with q | q
  · exact q.symm
  · exfalso
    have q : h = neg g := q
    have := co_neg g (g.length - 1)
    rw [← q] at this
    rw [el] at this ga
    omega
theorem Gcd.swap {P O g : List Int} (h : Gcd P O g) : Gcd O P g := ⟨h.ne, h.pos, h.one, fun d => by rw [h.dv d]; exact ⟨fun z => ⟨z.2, z.1⟩, fun z => ⟨z.2, z.1⟩⟩⟩
/-- at the end -/
theorem gcd_end {p P O : List Int} (hp : p ≠ []) (T : Tr p) (s : Sm p [] P O) : Gcd P O (if 0 < co (lst p) (p.length - 1) then lst p else neg (lst p)) := by
  have hg := gl_pos (ne_of_tr T hp)
  have hT := tr_lst T
  have hne : lst p ≠ [] := fun z => hp (List.eq_nil_of_length_eq_zero (by rw [← lst_length, z]; rfl))
  have hT := hT hne
  rw [lst_length] at hT
  have e0 : ∀ d : Po, Dv d (co ([] : List Int)) := fun d => Dv.zero d
  have hd : ∀ d, Dv d (co (lst p)) ↔ (Dv d (co P) ∧ Dv d (co O)) := fun d => by
    rw [← s d, ← dv_prop (show (gl p : Int) ≠ 0 by omega) (co_lst hg)]
    exact ⟨fun z => ⟨z, e0 d⟩, fun z => z.1⟩
  split
  · exact ⟨hne, by rw [lst_length]; assumption, gl_lst hg, hd⟩
  · refine ⟨fun z => hne (List.eq_nil_of_length_eq_zero (by rw [← neg_length, z]; rfl)), by rw [neg_length, lst_length, co_neg]; omega, by rw [gl_neg]; exact gl_lst hg, fun d => ?_⟩
    rw [← hd d]
    exact (dv_prop (g := -1) (by decide) fun i => by rw [co_neg]; omega).symm
end M44

local macro_rules | `(tactic| walk_at "d") => `(tactic| repeat (first | with_reducible refine DL.w_nx ?_ | with_reducible refine DL.w_aft ?_ | with_reducible refine DL.w_parF ?_ | with_reducible refine DL.w_rep ?_ | with_reducible refine DL.w_rt ?_ | with_reducible refine DL.w_seq ?_ | with_reducible refine DL.w_set ?_ | with_reducible refine DL.w_ret ?_ | with_reducible refine DL.w_next ?_ | with_reducible refine DL.w_ifS ?_ | with_reducible refine DL.w_frz ?_ | with_reducible refine DL.w_c ?_ | with_reducible refine DL.w_op ?_ | with_reducible refine DL.w_fI0 ?_ | with_reducible refine DL.w_fI ?_ | with_reducible refine DL.w_addI ?_ | with_reducible refine DL.w_ixL ?_ | with_reducible refine DL.w_ixLi ?_ | with_reducible refine DL.w_ixT ?_ | with_reducible refine DL.w_eqI ?_ | with_reducible refine DL.w_eq ?_ | with_reducible refine DL.w_neg ?_ | with_reducible refine DL.w_notV ?_ | with_reducible refine DL.w_andV ?_ | with_reducible refine DL.w_B ?_ | with_reducible refine DL.w_and ?_ | with_reducible refine DL.w_or ?_ | with_reducible refine DL.w_not ?_ | with_reducible refine DL.w_true ?_ | with_reducible refine DL.w_tru ?_ | with_reducible refine DL.w_appK ?_ | with_reducible refine DL.w_putK ?_ | with_reducible refine DL.w_put1 ?_ | with_reducible refine DL.w_truI ?_ | with_reducible refine DL.w_if ?_ | with_reducible refine DL.w_nil ?_ | with_reducible refine DL.w_cons ?_ | with_reducible refine DL.w_ints ?_ | with_reducible refine DL.w_tup ?_ | with_reducible refine DL.w_lst ?_ | with_reducible refine DL.w_call0 ?_ | with_reducible refine DL.w_cb ?_ | with_reducible refine DL.w_len ?_ | with_reducible refine DL.w_lenI ?_ | with_reducible refine DL.w_lenS ?_ | with_reducible refine DL.w_bls ?_ | with_reducible refine DL.w_abs ?_ | with_reducible refine DL.w_listI ?_ | with_reducible refine DL.w_isi ?_ | with_reducible refine DL.w_sl ?_ | with_reducible refine DL.w_noPart ?_ | with_reducible refine DL.w_part ?_ | with_reducible refine DL.w_slI ?_ | with_reducible refine DL.w_bName ?_ | with_reducible refine DL.w_bTup ?_ | with_reducible refine DL.w_bCons ?_ | with_reducible refine DL.w_bNil ?_ | with_reducible refine DL.w_for ?_ | with_reducible refine DL.w_iL ?_ | with_reducible refine DL.w_onPut rfl rfl ?_ | with_reducible refine DL.w_on1I ?_ | with_reducible refine DL.w_on2Li ?_ | with_reducible refine DL.w_iR1 ?_ | with_reducible refine DL.w_iZp ?_ | with_reducible refine DL.w_unp ?_ | with_reducible refine DL.w_lc ?_ | with_reducible refine DL.w_emit ?_ | with_reducible refine DL.w_ift ?_ | with_reducible refine DL.w_iff ?_ | with_reducible refine DL.w_onB ?_ | with_reducible refine DL.w_onI ?_ | with_reducible refine DL.w_onL ?_ | with_reducible refine DL.w_onLi ?_ | with_reducible refine DL.w_onT ?_ | with_reducible refine DL.w_v0 ?_ | with_reducible refine DL.w_v1 ?_ | with_reducible refine DL.w_v2 ?_ | with_reducible refine DL.w_v3 ?_ | with_reducible refine DL.w_v4 ?_ | with_reducible refine DL.w_v5 ?_ | with_reducible refine DL.w_v6 ?_ | with_reducible refine DL.w_o0 ?_ | with_reducible refine DL.w_o1 ?_ | with_reducible refine DL.w_o2 ?_ | with_reducible refine DL.w_o3 ?_ | with_reducible refine DL.w_o4 ?_ | with_reducible refine DL.w_o5 ?_ | with_reducible refine DL.w_o6 ?_ | ((with_reducible refine And.intro ?c ?_); (case c => first | exact trivial | exact Nat.le_of_ble_eq_true rfl | decide | (unfold L2.CPow; decide) | (unfold L2.CDiv; decide) | exact L2.CMul.ok (.inl ⟨by decide, by decide⟩) | exact L2.CMul.ok (.inr ⟨by decide, by decide⟩) | exact rfl | omega)) | simp only [DL.kels2_flat, DL.setK_int, DL.setK_bool, DL.setK_str, DL.setK_non, DL.setK_own, DL.setK_old, DL.setK_mix, DL.setK_ownI, DL.setK_oldI, DL.setK_mixI, DL.setK_ownG, DL.setK_ownT, DL.setK_oldT, DL.setK_mixT, DL.setK_ownK, DL.setK_oldK, DL.setK_mixK, DL.flat_dT, DL.flat_dK, DL.setK_oldG, DL.setK_mixG, DL.setK_tup, DL.rtK_int, DL.rtK_bool, DL.rtK_str, DL.rtK_non, DL.rtK_own, DL.rtK_tup, DL.kcons_flat, DL.kcons_int, DL.kcons_boo, DL.kcons_st, DL.kcons_nn, DL.one_iD, DL.two_iD, DL.kcons_own, DL.kcons_old, DL.frz_nil, DL.frz1_0, DL.frz1_s, DL.frz_some, DL.frz_none, DL.dropS_nil, DL.dropS_cons, DL.kRet_t, DL.kRet_f, DL.sub_own, DL.sub_old, DL.sub_ownc, DL.sub_mix, DL.isOld_own, DL.isOld_old, DL.isOld_mix, DL.isOld_ownc, DL.eff_int, DL.eff_bool, DL.eff_str, DL.eff_tup, DL.eff_ltc, DL.eff_iD, DL.eff_gD, DL.isOwnK_own, DL.isOwnK_old, DL.unpK_own, DL.unpK_flat, DL.setAll_cons, DL.setAll_nil, DL.app_iD, DL.app_gD, DL.list_iD, DL.list_gD, DL.flat_int, DL.flat_bool, DL.flat_str, DL.flat_non, DL.flat_list, DL.flat_tuple, DL.flats_nil, DL.flats_cons, DL.flat_iD, DL.flat_gD, List.set_cons_zero, List.set_cons_succ, List.append_nil, List.nil_append, Bool.and_true, Bool.true_and, Bool.and_self, Bool.not_true, Bool.not_false, DL.capR, DL.capOk, List.map_cons, List.map_nil, List.cons_append, List.getElem?_cons_zero, List.getElem?_cons_succ, Option.join_some, Option.map_some, List.all_cons, List.all_nil]))
namespace K44
open PySem PySem.Spec PyProof.Rows L2 DL M44
def top (i : Nat) : Stmt := PySem.Challenge.pw_foreverrows_k44_common_parts.main.body.getD i (.Pass ⟨0, 0, 0, 0⟩)
structure Blt (mg : Str → Option Value) : Prop where
  len : mg "len" = none
  range : mg "range" = none
  list : mg "list" = none
  int : mg "int" = none
  isinstance : mg "isinstance" = none
  all : mg "all" = none
  zip : mg "zip" = none
  bool : mg "bool" = none
  abs : mg "abs" = none
section
variable {P : Program} {w : World} {K : PySem.W.Frag} {mg : Str → Option Value} {base : Heap}
theorem gl_snoc (p : List Int) (x : Int) : gl (p ++ [x]) = Nat.gcd (gl p) x.natAbs := by
  induction p with
  | nil => show Nat.gcd x.natAbs 0 = Nat.gcd 0 x.natAbs; rw [Nat.gcd_zero_right, Nat.gcd_zero_left]
  | cons y p ih => show Nat.gcd y.natAbs (gl (p ++ [x])) = Nat.gcd (Nat.gcd y.natAbs (gl p)) x.natAbs; rw [ih, Nat.gcd_assoc]
theorem mulN {a b : Int} {m n : Nat} (h1 : a.natAbs < 2 ^ m) (h2 : b.natAbs < 2 ^ n) (h : m + n ≤ 134217728) : IntMulOk a b := by
  have e1 : ((2 ^ m : Nat) : Int) = (2 : Int) ^ m := by norm_cast
  have e2 : ((2 ^ n : Nat) : Int) = (2 : Int) ^ n := by norm_cast
  exact mulB (m := m) (n := n) (by rw [← e1]; omega) (by rw [← e1]; omega) (by rw [← e2]; omega) (by rw [← e2]; omega) h
theorem fmod_gcd (a b : Int) : Nat.gcd b.natAbs (a.fmod b).natAbs = Nat.gcd a.natAbs b.natAbs := by
  have e : a = b * a.fdiv b + a.fmod b := (Int.mul_fdiv_add_fmod a b).symm
  refine Nat.dvd_antisymm (Nat.dvd_gcd ?_ (Nat.gcd_dvd_left _ _)) (Nat.dvd_gcd (Nat.gcd_dvd_right _ _) ?_)
  · refine Int.ofNat_dvd_left.mp ?_
    rw [e]
    exact Int.dvd_add (Int.dvd_trans (Int.ofNat_dvd_left.mpr (Nat.gcd_dvd_left _ _)) (Int.dvd_mul_right _ _)) (by rw [← e]; exact Int.ofNat_dvd_left.mpr (Nat.gcd_dvd_right _ _))
  · refine Int.ofNat_dvd_left.mp ?_
    have e2 : a.fmod b = a - b * a.fdiv b := by omega
    rw [e2]
    exact Int.dvd_sub (Int.ofNat_dvd_left.mpr (Nat.gcd_dvd_left _ _)) (Int.dvd_trans (Int.ofNat_dvd_left.mpr (Nat.gcd_dvd_right _ _)) (Int.dvd_mul_right _ _))
theorem fmod_lt (a : Int) {b : Int} (h : b ≠ 0) : (a.fmod b).natAbs < b.natAbs := by
  by_cases hb : 0 < b
  · have h1 := Int.fmod_nonneg_of_pos a hb
    have h2 := Int.fmod_lt_of_pos a hb
    omega
  · have e : a.fmod b = -((-a).fmod (-b)) := by rw [Int.neg_fmod_neg, Int.neg_neg]
    have h1 := Int.fmod_nonneg_of_pos (-a) (show 0 < -b by omega)
    have h2 := Int.fmod_lt_of_pos (-a) (show 0 < -b by omega)
    omega
-- common_number  N = [(0, 'one'), (1, 'other')]  cells = []
abbrev s_common_number : Stmt := top 1
theorem sc_common_number : FnScope ["one", "other"] ["one", "other"] (defScope s_common_number) := ⟨rfl, rfl, rfl, by decide +kernel, rfl, by decide +kernel, by decide +kernel⟩
def sp_cn : SpD := fun ds Q _ => ∃ (a b : Int), ds = [.int a, .int b] ∧ Q (.int (Nat.gcd a.natAbs b.natAbs : Nat)) true
theorem ok_common_number {f : Addr} {fd : FuncData} (F : Fun K "common_number" "common_number" s_common_number f fd) (T : Blt mg) : FnOk P w K mg base CX0 41 f fd ["one", "other"] (SpL K sp_cn) := by
  refine ok0 F sc_common_number (fun ds Q X h => ?_) (fun cdv A outer s H E hr => ?_) fun ds Qd Xd h => h
  · obtain ⟨a, b, rfl, _⟩ := h; rfl
  refine ⟨_, (dpss_cons (dps_while PassesOwn.never (dpt_cmp (dop_ne (by rfl) (by exact hr.units)) (dpv 1) dpe_int (nomark _)) (dpss_one (dps_par 0 1 (by rfl) sc_common_number.nd (by rfl) (by rfl) (by decide) (by rfl) (by rfl) (dpa_cons (dpv 1) (dpa_cons (dpe_op dop_modN (dpv 0) (dpv 1)) dpa_nil)) (by rfl))))
      (dpss_one (dps_ret (dpe_callB dcl_abs (by rfl) (by exact T.abs) (by decide +kernel) (dpa_cons (dpv 0) dpa_nil))))), fun ds Qd h => ?_⟩
  obtain ⟨a, b, rfl, q⟩ := h
  show (_ : TSD) _ [some (false, .int a), some (false, .int b)] _
  walk_at "d"
  refine ⟨fun m ρ => ∃ x y : Int, ρ = [some (false, .int x), some (false, .int y)] ∧ m = y.natAbs ∧ Nat.gcd x.natAbs y.natAbs = Nat.gcd a.natAbs b.natAbs, ⟨_, a, b, rfl, rfl, rfl⟩, ?_⟩
  rintro m ρ ⟨x, y, rfl, rfl, hg⟩
  walk_at "d"
  refine ite2 (fun h1 => ?_) fun h1 => ?_
  · have hy : y ≠ 0 := by simpa using h1
    refine w_par ?_
    walk_at "d"
    refine ⟨_, fmod_lt x hy, y, _, rfl, rfl, ?_⟩
    rw [fmod_gcd]; exact hg
  · have hy : y = 0 := by simpa using h1
    subst hy
    walk_at "d"
    rw [← hg, show (0 : Int).natAbs = 0 from rfl, Nat.gcd_zero_right] at q
    rw [show (if x < 0 then -x else x) = (x.natAbs : Int) by split <;> omega]
    exact q
-- in_least_numbers  N = [(0, 'numbers'), (1, 'common'), (2, 'number')]  cells = ['common']
abbrev s_in_least_numbers : Stmt := top 2
theorem sc_in_least_numbers : FnScope ["numbers", "common", "number"] ["numbers"] (defScope s_in_least_numbers) := ⟨rfl, rfl, rfl, by decide +kernel, rfl, by decide +kernel, by decide +kernel⟩
def sp_iln : SpD := fun ds Q _ => ∃ (r : List Int), ds = [iD r] ∧ r.length ≤ 1000 ∧ Tr r ∧ Q (iD (M44.lst r)) true
theorem ok_in_least_numbers {f : Addr} {fd : FuncData} (F : Fun K "in_least_numbers" "in_least_numbers" s_in_least_numbers f fd) (T : Blt mg) (hT : P.given.tree = none) (D_common_number : Df P w K mg base "common_number" ["one", "other"] 41 (SpL K sp_cn)) : FnOk P w K mg base CX0 42 f fd ["numbers"] (SpL K sp_iln) := by
  refine ok0 F sc_in_least_numbers (fun ds Q X h => ?_) (fun cdv A outer s H E hr => ?_) fun ds Qd Xd h => h
  · obtain ⟨b, rfl, _⟩ := h; rfl
  refine ⟨_, (dpss_cons (dpset 1 sc_in_least_numbers.nd dpe_int)
      (dpss_cons (dps_frz 0 (dps_for PassesOwn.never rfl (dpi_list (by rfl) (dpv 0)) (dpgn 2 sc_in_least_numbers.nd) (dpss_one (dpset 1 sc_in_least_numbers.nd (dpe_df (by exact D_common_number) (by exact hr.mono (by omega)) (dpa_cons (dpv 1) (dpa_cons (dpv 2) dpa_nil)))))))
      (dpss_one (dps_ret (dpe_lc ["number"] [("common", 1)] rfl (LcScope.of (by kernel_rfl)) (dpi_list (by rfl) (dpv 0)) (fun _ _ _ _ => ⟨(dpgn 0 (nd_of (by kernel_rfl))), dpts_nil, (dpb_emit (by rfl) (by rfl) (dpe_op (dop_fdivP ⟨⟨_, _, rfl, rfl, rfl, rfl, rfl⟩⟩ (by exact hT) (by exact hr.pyl)) (dpv 0) (dpv 1)))⟩)))))), fun ds Qd h => ?_⟩
  obtain ⟨r, rfl, hl, hx, q⟩ := h
  show (_ : TSD) _ [some (false, .list (r.map .int)), none, none] _
  walk_at "d"
  refine lp_list (fun j ρ => ∃ x2 : Option (Bool × D), ρ = [some (false, .list (r.map .int)), some (false, .int (gl (r.take j) : Nat)), x2]) ⟨_, rfl⟩ ?_ ?_
  · rintro j d ρ hd ⟨x2, rfl⟩
    rw [List.getElem?_map] at hd
    cases e : r[j]? with
    | none => rw [e] at hd; cases hd
    | some x =>
      rw [e] at hd; cases hd
      walk_at "d"
      refine ⟨_, x, rfl, ?_⟩
      rw [Int.natAbs_natCast, ← gl_snoc]
      walk_at "d"
      exact ⟨_, by rw [List.take_succ, e]; rfl⟩
  · rintro ρ ⟨x2, rfl⟩
    rw [List.length_map, List.take_length]
    walk_at "d"
    refine lc_mapA (L := r) (fun x : Int => .int x) (fun x => .int (x / (gl r : Int))) (fun x hx' es Q' hl' q' => ?_) (by omega) ?_
    · have hg := gl_pos (ne_of_tr hx (List.ne_nil_of_mem hx'))
      walk_at "d"
      rw [Int.fdiv_eq_ediv_of_nonneg _ (by omega)]
      exact q'
    · rw [show PyData.list (r.map fun x => .int (x / (gl r : Int))) = iD (lst r) from by unfold iD lst; rw [List.map_map]; rfl]
      walk_at "d"
      exact q
-- turned  N = [(0, 'polynomial')]  cells = []
abbrev s_turned : Stmt := top 5
theorem sc_turned : FnScope ["polynomial"] ["polynomial"] (defScope s_turned) := ⟨rfl, rfl, rfl, by decide +kernel, rfl, by decide +kernel, by decide +kernel⟩
def sp_turn : SpD := fun ds Q _ => ∃ (r : List Int), ds = [iD r] ∧ r.length ≤ 1000 ∧ Q (iD (M44.neg r)) true
theorem ok_turned {f : Addr} {fd : FuncData} (F : Fun K "turned" "turned" s_turned f fd) (T : Blt mg) : FnOk P w K mg base CX0 41 f fd ["polynomial"] (SpL K sp_turn) := by
  refine ok0 F sc_turned (fun ds Q X h => ?_) (fun cdv A outer s H E hr => ?_) fun ds Qd Xd h => h
  · obtain ⟨b, rfl, _⟩ := h; rfl
  refine ⟨_, (dpss_one (dps_ret (dpe_lc ["number"] [] rfl (LcScope.of (by kernel_rfl)) (dpi_list (by rfl) (dpv 0)) (fun _ _ _ _ => ⟨(dpgn 0 (nd_of (by kernel_rfl))), dpts_nil, (dpb_emit (by rfl) (by rfl) (dpe_neg (dpv 0)))⟩)))), fun ds Qd h => ?_⟩
  obtain ⟨r, rfl, hl, q⟩ := h
  show (_ : TSD) _ [some (false, .list (r.map .int))] _
  walk_at "d"
  refine lc_mapA (L := r) (fun x : Int => .int x) (fun x => .int (-x)) (fun x hx' es Q' hl' q' => ?_) (by omega) ?_
  · walk_at "d"
    exact q'
  · rw [show PyData.list (r.map fun x => .int (-x)) = iD (M44.neg r) from by unfold iD M44.neg; rw [List.map_map]; rfl]
    walk_at "d"
    exact q
-- without_noughts  N = [(0, 'polynomial'), (1, 'length')]  cells = []
abbrev s_without_noughts : Stmt := top 6
theorem sc_without_noughts : FnScope ["polynomial", "length"] ["polynomial"] (defScope s_without_noughts) := ⟨rfl, rfl, rfl, by decide +kernel, rfl, by decide +kernel, by decide +kernel⟩
def sp_wn : SpD := fun ds Q _ => ∃ (p : List Int), ds = [iD p] ∧ p.length ≤ 1000 ∧ ∀ r : List Int, Like p r → Tr r → (∀ n, (∀ i, n ≤ i → co p i = 0) → r.length ≤ n) → Q (iD r) true
theorem ok_without_noughts {f : Addr} {fd : FuncData} (F : Fun K "without_noughts" "without_noughts" s_without_noughts f fd) (T : Blt mg) : FnOk P w K mg base CX0 41 f fd ["polynomial"] (SpL K sp_wn) := by
  refine ok0 F sc_without_noughts (fun ds Q X h => ?_) (fun cdv A outer s H E hr => ?_) fun ds Qd Xd h => h
  · obtain ⟨b, rfl, _⟩ := h; rfl
  refine ⟨_, (dpss_cons (dpset 1 sc_without_noughts.nd (dpe_callB (dcl_len (by rfl)) (by rfl) (by exact T.len) (by decide +kernel) (dpa_cons (dpv 0) dpa_nil)))
      (dpss_cons (dps_while PassesOwn.never (dPWpt (dpw_and (dpt_cmp dop_gt (dpv 1) dpe_int (nomark _)) (dpw_and1 (dpt_cmp (dop_eq (by rfl) (by exact hr.units)) (dpe_ix (dix (by rfl)) (dpv 0) (dpe_op dop_sub (dpv 1) dpe_int) (fun _ _ => rfl)) dpe_int (nomark _))))) (dpss_one (dps_augN 1 sc_without_noughts.nd dpe_int ip_sub)))
      (dpss_one (dps_ret (dpe_slice (by rfl) (dpv 0) dpo_none (dpo_some (dpv 1))))))), fun ds Qd h => ?_⟩
  obtain ⟨p, rfl, hl, q⟩ := h
  show (_ : TSD) _ [some (false, .list (p.map .int)), none] _
  walk_at "d"
  refine ⟨fun m ρ => ∃ n : Nat, ρ = [some (false, iD p), some (false, .int n)] ∧ m = n ∧ n ≤ p.length ∧ ∀ i, n ≤ i → co p i = 0, ⟨_, p.length, by rw [List.length_map], rfl, Nat.le_refl _, fun i hi => co_lt p i hi⟩, ?_⟩
  rintro m ρ ⟨n, rfl, rfl, hn, hz⟩
  have fin : (m = 0 ∨ co p (m - 1) ≠ 0) → Qd (iD (p.take m)) true := fun h => by
    have hl' : (p.take m).length = m := by rw [List.length_take]; omega
    refine q _ (take_like hz) (fun hne => ?_) fun n hn' => ?_
    · have := pos_ne hne
      rw [hl'] at this ⊢
      rw [take_like hz]
      rcases h with h | h
      · omega
      · exact h
    · rw [hl']
      by_cases z : m ≤ n
      · exact z
      · rcases h with h | h
        · omega
        · exact absurd (hn' (m - 1) (by omega)) h
  walk_at "d"
  refine ite2 (fun h1 => ?_) fun h1 => ?_
  · have hm : 0 < m := by simpa using h1
    walk_at "d"
    refine ⟨.int (co p (m - 1)), by rw [show ((m : Int) - 1) = ((m - 1 : Nat) : Int) by omega]; exact atI_nat (by rw [List.getElem?_map, co_get (by omega)]; rfl), ?_⟩
    walk_at "d"
    refine ite2 (fun h2 => ?_) fun h2 => ?_
    · have h2 : co p (m - 1) = 0 := by simpa using h2
      refine ⟨false, m, rfl, ?_⟩
      walk_at "d"
      refine ⟨1, rfl, m - 1, by omega, m - 1, by rw [show ((m : Int) - 1) = ((m - 1 : Nat) : Int) by omega], rfl, by omega, fun i hi => ?_⟩
      by_cases z : i = m - 1
      · rw [z]; exact h2
      · exact hz i (by omega)
    · have h2 : co p (m - 1) ≠ 0 := by simpa using h2
      walk_at "d"
      rw [cut_to rfl, ← List.map_take, kels_ints]
      exact fin (.inr h2)
  · have hm : m = 0 := by simpa using h1
    walk_at "d"
    rw [cut_to rfl, ← List.map_take, kels_ints]
    exact fin (.inl hm)
end
end K44

namespace K44
open PySem PySem.Spec PyProof.Rows L2 DL M44
section
variable {P : Program} {w : World} {K : PySem.W.Frag} {mg : Str → Option Value} {base : Heap}
theorem at_last {p : List Int} (h : p ≠ []) : atI (p.map PyData.int) (-1) = some (.int (co p (p.length - 1))) := by
  have := pos_ne h
  unfold atI ixN
  rw [if_neg (by decide), if_pos (by rw [List.length_map]; omega), List.length_map]
  show (p.map PyData.int)[(-1 + (p.length : Int)).toNat]? = _
  rw [show (-1 + (p.length : Int)).toNat = p.length - 1 by omega, List.getElem?_map, co_get (by omega)]; rfl
-- left_over  N = [(0, 'one'), (1, 'other'), (2, 'lead'), (3, 'factor'), (4, 'shifted')]  cells = ['factor', 'lead']
abbrev s_left_over : Stmt := top 7
theorem sc_left_over : FnScope ["one", "other", "lead", "factor", "shifted"] ["one", "other"] (defScope s_left_over) := ⟨rfl, rfl, rfl, by decide +kernel, rfl, by decide +kernel, by decide +kernel⟩
def sp_lo : SpD := fun ds Q _ => ∃ (p o : List Int) (b c : Nat), ds = [iD p, iD o] ∧ p.length ≤ 100 ∧ o.length ≤ 100 ∧ o ≠ [] ∧ Tr p ∧ Tr o ∧ Bb c p ∧ Bb b o ∧ c + (p.length + 1 - o.length) * (b + 1) + b ≤ 134217728 ∧ ∀ r : List Int, Tr r → r.length < o.length → Rr p o r → Bb (c + (p.length + 1 - o.length) * (b + 1)) r → Q (iD r) true
theorem ok_left_over {f : Addr} {fd : FuncData} (F : Fun K "left_over" "left_over" s_left_over f fd) (T : Blt mg) (D_without_noughts : Df P w K mg base "without_noughts" ["polynomial"] 41 (SpL K sp_wn)) (D_in_least_numbers : Df P w K mg base "in_least_numbers" ["numbers"] 42 (SpL K sp_iln)) : FnOk P w K mg base CX0 43 f fd ["one", "other"] (SpL K sp_lo) := by
  refine ok0 F sc_left_over (fun ds Q X h => ?_) (fun cdv A outer s H E hr => ?_) fun ds Qd Xd h => h
  · obtain ⟨p, o, b, c, rfl, _⟩ := h; rfl
  refine ⟨_, (dpss_cons (dpset 2 sc_left_over.nd (dpe_ix (dix (by rfl)) (dpv 1) (dpe_neg dpe_int) (fun _ _ => rfl)))
      (dpss_cons (dps_while PassesOwn.never (dpt_cmp dop_ge (dpe_callB (dcl_len (by rfl)) (by rfl) (by exact T.len) (by decide +kernel) (dpa_cons (dpv 0) dpa_nil)) (dpe_callB (dcl_len (by rfl)) (by rfl) (by exact T.len) (by decide +kernel) (dpa_cons (dpv 1) dpa_nil)) (nomark _)) (dpss_cons (dps_jn (dpset 3 sc_left_over.nd (dpe_ifExp (dpt_cmp dop_gt (dpv 2) dpe_int (nomark _)) (dpe_ix (dix (by rfl)) (dpv 0) (dpe_neg dpe_int) (fun _ _ => rfl)) (dpe_neg (dpe_ix (dix (by rfl)) (dpv 0) (dpe_neg dpe_int) (fun _ _ => rfl))))))
      (dpss_cons (dpset 4 sc_left_over.nd (dpe_op dop_add (dpe_op dop_rep (dpe_lst (dpa_cons dpe_int dpa_nil)) (dpe_op dop_sub (dpe_callB (dcl_len (by rfl)) (by rfl) (by exact T.len) (by decide +kernel) (dpa_cons (dpv 0) dpa_nil)) (dpe_callB (dcl_len (by rfl)) (by rfl) (by exact T.len) (by decide +kernel) (dpa_cons (dpv 1) dpa_nil)))) (dpv 1)))
      (dpss_one (dps_aft 0 (dpset 0 sc_left_over.nd (dpe_df (by exact D_without_noughts) (by exact hr.mono (by omega)) (dpa_cons (dpe_lc ["x", "y"] [("lead", 2), ("factor", 3)] rfl (LcScope.of (by kernel_rfl)) (dpi_zip (by rfl) (by rfl) (by exact T.zip) (dpa_cons (dpv 0) (dpa_cons (dpv 4) dpa_nil))) (fun _ _ _ _ => ⟨(dpg_tup 2 (by rfl) (by rfl) (dpgs_cons (dpgn 0 (nd_of (by kernel_rfl))) (dpgs_cons (dpgn 1 (nd_of (by kernel_rfl))) dpgs_nil)) (by rfl) (by rfl)), dpts_nil, (dpb_emit (by rfl) (by rfl) (dpe_op dop_sub (dpe_op dop_mul (dpe_callB dcl_abs (by rfl) (by exact T.abs) (by decide +kernel) (dpa_cons (dpv 2) dpa_nil)) (dpv 0)) (dpe_op dop_mul (dpv 3) (dpv 1))))⟩)) dpa_nil))))))))
      (dpss_one (dps_ret (dpe_df (by exact D_in_least_numbers) (by exact hr.mono (by omega)) (dpa_cons (dpv 0) dpa_nil)))))), fun ds Qd h => ?_⟩
  obtain ⟨p, o, b, c, rfl, hp, ho, one, hT, hTo, hc, hb, hs, q⟩ := h
  show (_ : TSD) _ [some (false, .list (p.map .int)), some (false, .list (o.map .int)), none, none, none] _
  walk_at "d"
  refine ⟨_, at_last one, ?_⟩
  walk_at "d"
  refine ⟨fun m ρ => ∃ (p1 : List Int) (x3 x4 : Option (Bool × D)), ρ = [some (false, .list (p1.map .int)), some (false, .list (o.map .int)), some (false, .int (co o (o.length - 1))), x3, x4] ∧ m = p1.length ∧ p1.length ≤ p.length ∧ Tr p1 ∧ Bb (c + (p.length - max p1.length (o.length - 1)) * (b + 1)) p1 ∧ ∀ q, Rm (co p1) (co o) q → Rm (co p) (co o) q, ⟨_, p, _, _, rfl, rfl, Nat.le_refl _, hT, hc.mono (Nat.le_add_right _ _), fun _ z => z⟩, ?_⟩
  rintro m ρ ⟨p1, x3, x4, rfl, rfl, hl1, hT1, hb1, hR⟩
  have hl0 := pos_ne one
  have hlead := hTo one
  walk_at "d"
  rw [List.length_map, List.length_map]
  refine ite2 (fun h1 => ?_) fun h1 => ?_
  · have h1 : o.length ≤ p1.length := by have : (o.length : Int) ≤ p1.length := by simpa using h1
                                         omega
    have one1 : p1 ≠ [] := fun z => by rw [z] at h1; have h1 : o.length ≤ 0 := h1; omega
    refine w_jn (fun ρ => ρ = [some (false, iD p1), some (false, iD o), some (false, .int (co o (o.length - 1))), some (false, .int (if 0 < co o (o.length - 1) then co p1 (p1.length - 1) else -co p1 (p1.length - 1))), x4]) (fun N hN => ?_) ?_
    · walk_at "d"
      refine ite2 (fun h2 => ?_) fun h2 => ?_
      · have h2 : 0 < co o (o.length - 1) := by simpa using h2
        walk_at "d"
        refine ⟨_, at_last one1, ?_⟩
        walk_at "d"
        exact hN _ (by rw [if_pos h2])
      · have h2 : ¬ 0 < co o (o.length - 1) := by simpa using h2
        walk_at "d"
        refine ⟨_, at_last one1, ?_⟩
        walk_at "d"
        exact hN _ (by rw [if_neg h2])
    · rintro ρ rfl
      have hc1 : c + (p.length - max p1.length (o.length - 1)) * (b + 1) + b ≤ 134217728 := by
        have := Nat.mul_le_mul_right (b + 1) (show p.length - max p1.length (o.length - 1) ≤ p.length + 1 - o.length by omega)
        omega
      have hfd : (if 0 < co o (o.length - 1) then co p1 (p1.length - 1) else -co p1 (p1.length - 1)) = co p1 (p1.length - 1) ∨ (if 0 < co o (o.length - 1) then co p1 (p1.length - 1) else -co p1 (p1.length - 1)) = -co p1 (p1.length - 1) := by
        split
        · exact .inl rfl
        · exact .inr rfl
      have hfe := lead_eq (l := co o (o.length - 1)) (x := co p1 (p1.length - 1))
      generalize ef : (if 0 < co o (o.length - 1) then co p1 (p1.length - 1) else -co p1 (p1.length - 1)) = f at hfd hfe
      have hfb : f.natAbs < 2 ^ (c + (p.length - max p1.length (o.length - 1)) * (b + 1)) := by
        rcases hfd with z | z
        · rw [z]; exact hb1 _
        · rw [z, Int.natAbs_neg]; exact hb1 _
      walk_at "d"
      refine ⟨⟨by omega, by show 1 * _ ≤ _; omega, by omega⟩, ?_⟩
      have ez : (List.replicate ((p1.length : Int) - o.length).toNat [PyData.int 0]).flatten = (List.replicate (p1.length - o.length) (0 : Int)).map PyData.int := by
        rw [lm_rep_flat_one, List.map_replicate, show ((p1.length : Int) - o.length).toNat = p1.length - o.length by omega]
      rw [ez]
      walk_at "d"
      refine ⟨by rw [List.length_map, List.length_map, List.length_replicate]; omega, ?_⟩
      rw [kels2_ints, ← List.map_append]
      walk_at "d"
      rw [zip_ints]
      refine lc_mapA (L := p1.zip (List.replicate (p1.length - o.length) 0 ++ o)) (fun z : Int × Int => .tuple [.int z.1, .int z.2]) (fun z => .int ((co o (o.length - 1)).natAbs * z.1 - f * z.2)) (fun z hz es Q' hl' q' => ?_) (by rw [List.length_zip]; omega) ?_
      · walk_at "d"
        have ea : (if co o (o.length - 1) < 0 then -co o (o.length - 1) else co o (o.length - 1)) = ((co o (o.length - 1)).natAbs : Int) := by split <;> omega
        have hz' := List.of_mem_zip (a := z.1) (b := z.2) hz
        rw [ea]
        refine ⟨mulN (by rw [Int.natAbs_natCast]; exact hb _) (bb_mem hb1 hz'.1) (by omega), ?_⟩
        walk_at "d"
        refine ⟨mulN (n := b) hfb ?_ hc1, ?_⟩
        · rcases List.mem_append.mp hz'.2 with y | y
          · rw [List.eq_of_mem_replicate y]; exact Nat.two_pow_pos b
          · exact bb_mem hb y
        walk_at "d"
        exact q'
      · have e0 : PyData.list (List.map (fun z : Int × Int => PyData.int (((co o (o.length - 1)).natAbs : Int) * z.fst - f * z.snd)) (p1.zip (List.replicate (p1.length - o.length) 0 ++ o))) = iD (stp ((co o (o.length - 1)).natAbs : Int) f p1 (List.replicate (p1.length - o.length) 0 ++ o)) := by unfold iD stp; rw [List.map_map]; rfl
        rw [e0]
        walk_at "d"
        have hlz : p1.length = (List.replicate (p1.length - o.length) (0 : Int) ++ o).length := by rw [List.length_append, List.length_replicate]; omega
        refine ⟨_, rfl, by unfold stp; rw [List.length_map, List.length_zip]; omega, fun r r1 r2 r3 => ?_⟩
        have e : ∀ i, co r i = ((co o (o.length - 1)).natAbs : Int) * co p1 i - f * sh (p1.length - o.length) (co o) i := fun i => by
          rw [r1 i, co_stp hlz, co_sh]
        obtain ⟨a1, a2, a3⟩ := stp_ok one hTo h1 hb1 hb (by omega) (by rw [Int.natAbs_natCast]; exact hb _) hfd hfe e
        have hrl : r.length ≤ p1.length - 1 := r3 _ fun i hi => by rw [← r1 i]; exact a1 i hi
        walk_at "d"
        refine ⟨_, by omega, r, _, _, rfl, rfl, by omega, r2, a2.mono ?_, fun q hq => hR _ (a3 _ hq)⟩
        have : (p.length - max p1.length (o.length - 1)) + 1 ≤ p.length - max r.length (o.length - 1) := by omega
        have := Nat.mul_le_mul_right (b + 1) this
        rw [Nat.add_mul] at this
        omega
  · have h1 : p1.length < o.length := by have : (p1.length : Int) < o.length := by simpa using h1
                                         omega
    walk_at "d"
    refine ⟨p1, rfl, by omega, hT1, ?_⟩
    walk_at "d"
    refine q _ (tr_lst hT1) (by rw [lst_length]; exact h1) (rr_lst (hR _ (Rm.refl _ _)) hT1) (bb_lst (hb1.mono ?_))
    exact Nat.add_le_add_left (Nat.mul_le_mul_right _ (by omega)) _
/-- in least numbers, the last above nought -/
def nrm (p : List Int) : List Int := if 0 < co (M44.lst p) (p.length - 1) then M44.lst p else M44.neg (M44.lst p)
-- common_part  N = [(0, 'one'), (1, 'other')]  cells = []
abbrev s_common_part : Stmt := top 4
theorem sc_common_part : FnScope ["one", "other"] ["one", "other"] (defScope s_common_part) := ⟨rfl, rfl, rfl, by decide +kernel, rfl, by decide +kernel, by decide +kernel⟩
def sp_cp : SpD := fun ds Q _ => ∃ (p o : List Int), ds = [iD p, iD o] ∧ p ≠ [] ∧ Tr p ∧ Tr o ∧ p.length ≤ 13 ∧ Sz p o ∧ ∀ g : List Int, Gcd p o g → Q (iD g) true
theorem ok_common_part {f : Addr} {fd : FuncData} (F : Fun K "common_part" "common_part" s_common_part f fd) (T : Blt mg) (D_left_over : Df P w K mg base "left_over" ["one", "other"] 43 (SpL K sp_lo)) (D_in_least_numbers : Df P w K mg base "in_least_numbers" ["numbers"] 42 (SpL K sp_iln)) (D_turned : Df P w K mg base "turned" ["polynomial"] 41 (SpL K sp_turn)) : FnOk P w K mg base CX0 44 f fd ["one", "other"] (SpL K sp_cp) := by
  refine ok0 F sc_common_part (fun ds Q X h => ?_) (fun cdv A outer s H E hr => ?_) fun ds Qd Xd h => h
  · obtain ⟨p, o, rfl, _⟩ := h; rfl
  refine ⟨_, (dpss_cons (dps_while PassesOwn.never (dpt_truth (by rfl) (dpv 1)) (dpss_one (dps_parF 0 1 (by rfl) sc_common_part.nd (by rfl) (by rfl) (by decide) (by rfl) (by rfl) (dpa_cons (dpv 1) (dpa_cons (dpe_df (by exact D_left_over) (by exact hr.mono (by omega)) (dpa_cons (dpv 0) (dpa_cons (dpv 1) dpa_nil))) dpa_nil)) (by rfl))))
      (dpss_cons (dpset 0 sc_common_part.nd (dpe_df (by exact D_in_least_numbers) (by exact hr.mono (by omega)) (dpa_cons (dpv 0) dpa_nil)))
      (dpss_one (dps_ret (dpe_ifExp (dpt_cmp dop_gt (dpe_ix (dix (by rfl)) (dpv 0) (dpe_neg dpe_int) (fun _ _ => rfl)) dpe_int (nomark _)) (dpv 0) (dpe_df (by exact D_turned) (by exact hr.mono (by omega)) (dpa_cons (dpv 0) dpa_nil))))))), fun ds Qd h => ?_⟩
  obtain ⟨P0, O0, rfl, pne, hT, hTo, hl, hs, q⟩ := h
  show (_ : TSD) _ [some (false, iD P0), some (false, iD O0)] _
  walk_at "d"
  refine ⟨fun m ρ => ∃ p o : List Int, ρ = [some (false, iD p), some (false, iD o)] ∧ m = o.length ∧ p ≠ [] ∧ Tr p ∧ Tr o ∧ p.length ≤ 13 ∧ Sz p o ∧ Sm p o P0 O0, ⟨_, P0, O0, rfl, rfl, pne, hT, hTo, hl, hs, fun _ => Iff.rfl⟩, ?_⟩
  rintro m ρ ⟨p, o, rfl, rfl, p1, p2, p3, p4, p5, p6⟩
  walk_at "d"
  refine ite2 (fun h1 => ?_) fun h1 => ?_
  · have one : o ≠ [] := by simpa using h1
    obtain ⟨s1, s2, b, c, s3, s4, s5, s6, s7⟩ := p5.go one
    walk_at "d"
    refine ⟨p, o, b, c, rfl, by omega, by omega, one, p2, p3, s3, s4, by omega, fun r r1 r2 r3 r4 => ?_⟩
    walk_at "d"
    refine ⟨_, r2, o, r, rfl, rfl, one, p3, r1, s2, s7 r r2 r4, r3.sm p6⟩
  · have one : o = [] := by simpa using h1
    subst one
    have hn := gcd_end p1 p2 p6
    have ln : M44.lst p ≠ [] := fun z => p1 (List.eq_nil_of_length_eq_zero (by rw [← lst_length, z]; rfl))
    walk_at "d"
    refine ⟨p, rfl, by omega, p2, ?_⟩
    walk_at "d"
    refine ⟨_, at_last ln, ?_⟩
    rw [lst_length]
    walk_at "d"
    refine ite2 (fun h2 => ?_) fun h2 => ?_
    · rw [if_pos (by simpa using h2)] at hn
      walk_at "d"
      exact q _ hn
    · rw [if_neg (by simpa using h2)] at hn
      walk_at "d"
      refine ⟨_, rfl, by rw [lst_length]; omega, ?_⟩
      walk_at "d"
      exact q _ hn
end
end K44

namespace K44
open PySem PySem.Spec PyProof.Rows L2 DL M44
section
variable {P : Program} {w : World} {K : PySem.W.Frag} {mg : Str → Option Value} {base : Heap}
theorem map_erase {α β : Type} (f : α → β) : ∀ (l : List α) (j : Nat), (l.map f).eraseIdx j = (l.eraseIdx j).map f
  | [], _ => rfl
  | _ :: _, 0 => rfl
  | a :: l, j + 1 => by
    show f a :: (l.map f).eraseIdx j = f a :: (l.eraseIdx j).map f
    rw [map_erase f l j]
-- _law_trim  N = [(0, '_law_numbers')]  cells = []
abbrev s_l_trim : Stmt := top 12
theorem sc_l_trim : FnScope ["_law_numbers"] ["_law_numbers"] (defScope s_l_trim) := ⟨rfl, rfl, rfl, by decide +kernel, rfl, by decide +kernel, by decide +kernel⟩
theorem ok_l_trim {f : Addr} {fd : FuncData} (F : Fun K "_law_trim" "_law_trim" s_l_trim f fd) (T : Blt mg) : FnOk P w K mg base CX0 41 f fd ["_law_numbers"] (SpL K sp_wn) := by
  refine ok0 F sc_l_trim (fun ds Q X h => ?_) (fun cdv A outer s H E hr => ?_) fun ds Qd Xd h => h
  · obtain ⟨b, rfl, _⟩ := h; rfl
  refine ⟨_, (dpss_cons (dpset 0 sc_l_trim.nd (dpe_callTy (dcl_list (by rfl)) (by rfl) (by exact T.list) (by decide +kernel) (dpa_cons (dpv 0) dpa_nil)))
      (dpss_cons (dps_while PassesOwn.never (dPWpt (dpw_and (dpt_cmp (dop_ne (by rfl) (by exact hr.units)) (dpv 0) (dpe_lst dpa_nil) (nomark _)) (dpw_and1 (dpt_cmp (dop_eq (by rfl) (by exact hr.units)) (dpe_ix (dix (by rfl)) (dpv 0) (dpe_neg dpe_int) (fun _ _ => rfl)) dpe_int (nomark _))))) (dpss_one (dps_pop0 0 (by rfl) (qpv 0) (by rfl) (by rfl))))
      (dpss_one (dps_ret (dpv 0))))), fun ds Qd h => ?_⟩
  obtain ⟨p, rfl, hl, q⟩ := h
  show (_ : TSD) _ [some (false, iD p)] _
  walk_at "d"
  refine ⟨fun m ρ => ρ = [some (true, iD (p.take m))] ∧ m ≤ p.length ∧ ∀ i, m ≤ i → co p i = 0, ⟨p.length, by rw [List.take_length], Nat.le_refl _, fun i hi => co_lt p i hi⟩, ?_⟩
  rintro m ρ ⟨rfl, hn, hz⟩
  have hl' : (p.take m).length = m := by rw [List.length_take]; omega
  have fin : (m = 0 ∨ co p (m - 1) ≠ 0) → Qd (iD (p.take m)) true := fun h => by
    refine q _ (take_like hz) (fun hne => ?_) fun n hn' => ?_
    · have := pos_ne hne
      rw [hl'] at this ⊢
      rw [take_like hz]
      rcases h with h | h
      · omega
      · exact h
    · rw [hl']
      by_cases z : m ≤ n
      · exact z
      · rcases h with h | h
        · omega
        · exact absurd (hn' (m - 1) (by omega)) h
  walk_at "d"
  refine ⟨⟨lay_iD _, rfl, depth_iD _⟩, ?_⟩
  cases m with
  | zero =>
    show onB (PyData.bool false) _
    walk_at "d"
    exact fin (.inl rfl)
  | succ m =>
    have he : PyData.eqv (iD (p.take (m + 1))) (.list []) = false := by
      cases hp : p.take (m + 1) with
      | nil => rw [hp] at hl'; exact absurd hl' (by simp)
      | cons x r => rfl
    rw [he]
    show onB (PyData.bool true) _
    have ne : p.take (m + 1) ≠ [] := fun z => by rw [z] at hl'; exact absurd hl' (by simp)
    walk_at "d"
    refine ⟨_, at_last ne, ?_⟩
    rw [take_like hz, hl', Nat.add_sub_cancel]
    walk_at "d"
    refine ite2 (fun h2 => ?_) fun h2 => ?_
    · have h2 : co p m = 0 := by simpa using h2
      refine w_pop0 ⟨(p.take (m + 1)).map .int, .int (co p m), rfl, ?_, m, by omega, ?_, by omega, fun i hi => ?_⟩
      · rw [List.length_map, hl', List.getElem?_map, Nat.add_sub_cancel, List.getElem?_take_of_lt (by omega), co_get (by omega)]; rfl
      · rw [List.length_map, hl', Nat.add_sub_cancel, map_erase]
        show [some (true, PyData.list _)] = [some (true, PyData.list _)]
        rw [show (p.take (m + 1)).eraseIdx m = p.take m from ?_]
        have hde := drop_erase (p.take (m + 1))
        rw [hl', Nat.add_sub_cancel] at hde
        rw [← hde, List.dropLast_eq_take, hl', Nat.add_sub_cancel, List.take_take, Nat.min_eq_left (by omega)]
      · by_cases z : i = m
        · rw [z]; exact h2
        · exact hz i (by omega)
    · have h2 : co p m ≠ 0 := by simpa using h2
      walk_at "d"
      exact fin (.inr h2)
theorem fdiv_neg {x : Int} {g : Nat} (h : (g : Int) ∣ x) (hg : 0 < g) : x.fdiv (-(g : Int)) = -(x / (g : Int)) := by
  obtain ⟨y, rfl⟩ := h
  rw [Int.mul_ediv_cancel_left _ (by omega), show (g : Int) * y = -(g : Int) * -y by rw [Int.neg_mul_neg], Int.mul_fdiv_cancel_left _ (by omega)]
-- _law_freed  N = [(0, '_law_numbers'), (1, '_law_part'), (2, '_law_number_here'), (3, '_law_other')]  cells = ['_law_part']
abbrev s_l_freed : Stmt := top 13
theorem sc_l_freed : FnScope ["_law_numbers", "_law_part", "_law_number_here", "_law_other"] ["_law_numbers"] (defScope s_l_freed) := ⟨rfl, rfl, rfl, by decide +kernel, rfl, by decide +kernel, by decide +kernel⟩
def sp_freed : SpD := fun ds Q _ => ∃ (p : List Int), ds = [iD p] ∧ p.length ≤ 1000 ∧ Tr p ∧ p ≠ [] ∧ Q (iD (nrm p)) true
theorem ok_l_freed {f : Addr} {fd : FuncData} (F : Fun K "_law_freed" "_law_freed" s_l_freed f fd) (T : Blt mg) (hT : P.given.tree = none) : FnOk P w K mg base CX0 41 f fd ["_law_numbers"] (SpL K sp_freed) := by
  refine ok0 F sc_l_freed (fun ds Q X h => ?_) (fun cdv A outer s H E hr => ?_) fun ds Qd Xd h => h
  · obtain ⟨b, rfl, _⟩ := h; rfl
  refine ⟨_, (dpss_cons (dpset 1 sc_l_freed.nd dpe_int)
      (dpss_cons (dps_frz 0 (dps_for PassesOwn.never rfl (dpi_list (by rfl) (dpv 0)) (dpgn 2 sc_l_freed.nd) (dpss_cons (dpset 3 sc_l_freed.nd (dpe_callB dcl_abs (by rfl) (by exact T.abs) (by decide +kernel) (dpa_cons (dpv 2) dpa_nil)))
      (dpss_one (dps_while PassesOwn.never (dpt_cmp dop_gt (dpv 3) dpe_int (nomark _)) (dpss_one (dps_unp [1, 3] 2 rfl (by rfl) (by rfl) (qpgs_cons (qpgn 1 sc_l_freed.nd) (qpgs_cons (qpgn 3 sc_l_freed.nd) qpgs_nil)) (by rfl) (by rfl) (dpe_tup (dpa_cons (dpv 3) (dpa_cons (dpe_op dop_mod (dpv 1) (dpv 3)) dpa_nil))))))))))
      (dpss_cons (dps_if (dpt_cmp dop_lt (dpe_ix (dix (by rfl)) (dpv 0) (dpe_neg dpe_int) (fun _ _ => rfl)) dpe_int (nomark _)) (dpss_one (dpset 1 sc_l_freed.nd (dpe_neg (dpv 1)))) dpss_nil)
      (dpss_one (dps_ret (dpe_lc ["_law_number_here"] [("_law_part", 1)] rfl (LcScope.of (by kernel_rfl)) (dpi_list (by rfl) (dpv 0)) (fun _ _ _ _ => ⟨(dpgn 0 (nd_of (by kernel_rfl))), dpts_nil, (dpb_emit (by rfl) (by rfl) (dpe_op (dop_fdivP ⟨⟨_, _, rfl, rfl, rfl, rfl, rfl⟩⟩ (by exact hT) (by exact hr.pyl)) (dpv 0) (dpv 1)))⟩))))))), fun ds Qd h => ?_⟩
  obtain ⟨p, rfl, hl, hTr, one, q⟩ := h
  show (_ : TSD) _ [some (false, .list (p.map .int)), none, none, none] _
  walk_at "d"
  refine lp_list (fun j ρ => ∃ x2 x3 : Option (Bool × D), ρ = [some (false, iD p), some (false, .int (gl (p.take j) : Nat)), x2, x3]) ⟨_, _, rfl⟩ ?_ ?_
  · rintro j d ρ hd ⟨x2, x3, rfl⟩
    rw [List.getElem?_map] at hd
    cases e : p[j]? with
    | none => rw [e] at hd; cases hd
    | some x =>
      rw [e] at hd; cases hd
      walk_at "d"
      refine ⟨fun m ρ => ∃ a b : Nat, ρ = [some (false, iD p), some (false, .int a), some (false, .int x), some (false, .int b)] ∧ m = b ∧ Nat.gcd a b = gl (p.take (j + 1)), ⟨_, gl (p.take j), x.natAbs, ?_, rfl, ?_⟩, ?_⟩
      · rw [show (if x < 0 then -x else x) = (x.natAbs : Int) by split <;> omega]
      · rw [← gl_snoc, List.take_succ, e]; rfl
      rintro m ρ ⟨a, b, rfl, rfl, hg⟩
      walk_at "d"
      refine ite2 (fun h1 => ?_) fun h1 => ?_
      · have h1 : 0 < m := by simpa using h1
        walk_at "d"
        refine ⟨a % m, Nat.mod_lt _ h1, m, a % m, by rw [Int.natCast_emod], rfl, ?_⟩
        rw [← hg, Nat.gcd_comm a m, Nat.gcd_rec m a, Nat.gcd_comm]
      · have h1 : m = 0 := by simpa using h1
        subst h1
        walk_at "d"
        rw [Nat.gcd_zero_right] at hg
        exact ⟨_, _, by rw [← hg]⟩
  · rintro ρ ⟨x2, x3, rfl⟩
    rw [List.length_map, List.take_length]
    have hg := gl_pos (ne_of_tr hTr one)
    walk_at "d"
    refine ⟨_, at_last one, ?_⟩
    have hco := co_lst hg (p.length - 1)
    walk_at "d"
    refine ite2 (fun h1 => ?_) fun h1 => ?_
    · have h1 : co p (p.length - 1) < 0 := by simpa using h1
      have hneg : ¬ 0 < co (M44.lst p) (p.length - 1) := fun z => by
        have := Int.mul_pos (show (0 : Int) < (gl p : Int) by omega) z
        omega
      unfold nrm at q
      rw [if_neg hneg] at q
      walk_at "d"
      refine lc_mapA (L := p) (fun x : Int => .int x) (fun x => .int (-(x / (gl p : Int)))) (fun x hx' es Q' hl' q' => ?_) (by omega) ?_
      · walk_at "d"
        rw [fdiv_neg (Int.ofNat_dvd_left.mpr (gl_dvd hx')) hg]
        exact q'
      · rw [show PyData.list (p.map fun x => .int (-(x / (gl p : Int)))) = iD (M44.neg (M44.lst p)) from by unfold iD M44.neg M44.lst; rw [List.map_map, List.map_map]; rfl]
        walk_at "d"
        exact q
    · have h1 : 0 ≤ co p (p.length - 1) := by simpa using h1
      have hpos : 0 < co (M44.lst p) (p.length - 1) := by
        have h2 := hTr one
        rcases Int.lt_trichotomy (co (M44.lst p) (p.length - 1)) 0 with z | z | z
        · have := Int.mul_neg_of_pos_of_neg (show (0 : Int) < (gl p : Int) by omega) z
          omega
        · rw [z, Int.mul_zero] at hco; exact absurd hco h2
        · exact z
      unfold nrm at q
      rw [if_pos hpos] at q
      walk_at "d"
      refine lc_mapA (L := p) (fun x : Int => .int x) (fun x => .int (x / (gl p : Int))) (fun x hx' es Q' hl' q' => ?_) (by omega) ?_
      · walk_at "d"
        rw [Int.fdiv_eq_ediv_of_nonneg _ (by omega)]
        exact q'
      · rw [show PyData.list (p.map fun x => .int (x / (gl p : Int))) = iD (M44.lst p) from by unfold iD M44.lst; rw [List.map_map]; rfl]
        walk_at "d"
        exact q
end
end K44

namespace K44
open PySem PySem.Spec PyProof.Rows L2 DL M44
section
variable {P : Program} {w : World} {K : PySem.W.Frag} {mg : Str → Option Value} {base : Heap}
/-- x[m] op= e -/
theorem aug_f {fo : Int → Int → Int} {i : Nat} {t1 te : TD} {Dd : EndsD} {ρ : Ren} {Xd : XD} {r : List Int} {m : Nat} (h : ρ[i]? = some (some (true, iD r))) (hm : m < r.length) (h1 : ∀ Q : QD, Q (.int (m : Int)) .old → t1 ρ Q Xd) (h2 : te ρ (fun d _ => onI d fun b => Dd.nx (ρ.set i (some (true, iD (r.set m (fo (co r m) b)))))) Xd) : dAug1 i t1 te fo Dd ρ Xd := by
  have hg : r[m]? = some (co r m) := co_get hm
  refine ⟨r.map .int, h, h1 _ ⟨m, co r m, rfl, by rw [List.getElem?_map, hg]; rfl, ?_⟩⟩
  have e : (fun (d : D) (_ : Kd) => onI d fun b => Dd.nx (ρ.set i (some (true, iD (r.set m (fo (co r m) b)))))) = fun d _ => ∃ b, d = .int b ∧ Dd.nx (ρ.set i (some (true, .list ((r.map .int).set m (.int (fo (co r m) b)))))) := by
    funext d _
    refine propext ⟨fun h => ?_, fun h => ?_⟩
    · obtain ⟨z, rfl, h⟩ := onI_ex h
      refine ⟨z, rfl, ?_⟩
      rw [← set_iD]; exact h
    · obtain ⟨z, rfl, h⟩ := h
      show Dd.nx _
      rw [set_iD]; exact h
  rw [e] at h2
  exact h2
theorem co_set {r : List Int} {m : Nat} (hm : m < r.length) (y : Int) (i : Nat) : co (r.set m y) i = if i = m then y else co r i := by
  unfold co
  rw [List.getD_eq_getElem?_getD, List.getD_eq_getElem?_getD]
  by_cases h : i = m
  · subst h; rw [if_pos rfl, List.getElem?_set_self hm]; rfl
  · rw [if_neg h, List.getElem?_set_ne (Ne.symm h)]
/-- one step as the law makes it -/
theorem lstep {p o r : List Int} {b c : Nat} (ho : o ≠ []) (To : Tr o) (hl : o.length ≤ p.length) (hp : Bb c p) (hb : Bb b o)
    (e : ∀ i, co r i = co o (o.length - 1) * co o (o.length - 1) * co p i - co p (p.length - 1) * co o (o.length - 1) * sh (p.length - o.length) (co o) i) :
    (∀ i, p.length - 1 ≤ i → co r i = 0) ∧ Bb (c + (2 * b + 1)) r ∧ ∀ q, Rm (co r) (co o) q → Rm (co p) (co o) q := by
  have ho0 : 0 < o.length := pos_ne ho
  refine ⟨fun i hi => ?_, fun i => ?_, fun q hq => Rm.step (Int.mul_ne_zero (To ho) (To ho)) ((ml_sh (p.length - o.length)).smul _) (fun i => e i) hq⟩
  · rw [e i]
    unfold sh
    rw [if_pos (by omega)]
    by_cases h : i = p.length - 1
    · subst h
      rw [show p.length - 1 - (p.length - o.length) = o.length - 1 by omega]
      have : ∀ x y : Int, x * x * y - y * x * x = 0 := fun x y => by rw [Int.mul_comm y x, Int.mul_assoc x y x, Int.mul_comm y x, Int.mul_assoc, Int.sub_self]
      exact this _ _
    · rw [co_lt p i (by omega), co_lt o (i - (p.length - o.length)) (by omega), Int.mul_zero, Int.mul_zero]; rfl
  · rw [e i]
    have h1 : (co o (o.length - 1) * co o (o.length - 1) * co p i).natAbs < 2 ^ b * 2 ^ b * 2 ^ c := by
      rw [Int.natAbs_mul, Int.natAbs_mul]; exact Nat.mul_lt_mul_of_lt_of_lt (Nat.mul_lt_mul_of_lt_of_lt (hb _) (hb _)) (hp _)
    have hy : (sh (p.length - o.length) (co o) i).natAbs < 2 ^ b := by
      unfold sh; split
      · exact hb _
      · exact Nat.two_pow_pos b
    have h2 : (co p (p.length - 1) * co o (o.length - 1) * sh (p.length - o.length) (co o) i).natAbs < 2 ^ c * 2 ^ b * 2 ^ b := by
      rw [Int.natAbs_mul, Int.natAbs_mul]; exact Nat.mul_lt_mul_of_lt_of_lt (Nat.mul_lt_mul_of_lt_of_lt (hp _) (hb _)) hy
    have e1 : 2 ^ (c + (2 * b + 1)) = 2 ^ c * 2 ^ b * 2 ^ b * 2 := by rw [Nat.pow_add, Nat.pow_succ, Nat.two_mul, Nat.pow_add, ← Nat.mul_assoc, ← Nat.mul_assoc]
    have e2 : 2 ^ b * 2 ^ b * 2 ^ c = 2 ^ c * 2 ^ b * 2 ^ b := by rw [Nat.mul_comm (2 ^ b * 2 ^ b), Nat.mul_assoc]
    omega
-- _law_rest  N = [(0, '_law_one'), (1, '_law_other'), (2, '_law_rest_here'), (3, '_law_lead'), (4, '_law_shift'), (5, '_law_k')]  cells = ['_law_other']
abbrev s_l_rest : Stmt := top 14
theorem sc_l_rest : FnScope ["_law_one", "_law_other", "_law_rest_here", "_law_lead", "_law_shift", "_law_k"] ["_law_one", "_law_other"] (defScope s_l_rest) := ⟨rfl, rfl, rfl, by decide +kernel, rfl, by decide +kernel, by decide +kernel⟩
def sp_rest : SpD := fun ds Q _ => ∃ (p o : List Int) (b c : Nat), ds = [iD p, iD o] ∧ p.length ≤ 100 ∧ o.length ≤ 100 ∧ o ≠ [] ∧ Tr o ∧ Bb c p ∧ Bb b o ∧ c + (p.length + 1 - o.length) * (2 * b + 1) + 2 * b ≤ 134217728 ∧ ∀ r : List Int, Tr r → r.length < o.length → Rm (co p) (co o) (co r) → Q (iD r) true
theorem ok_l_rest {f : Addr} {fd : FuncData} (F : Fun K "_law_rest" "_law_rest" s_l_rest f fd) (T : Blt mg) (D_l_trim : Df P w K mg base "_law_trim" ["_law_numbers"] 41 (SpL K sp_wn)) : FnOk P w K mg base CX0 42 f fd ["_law_one", "_law_other"] (SpL K sp_rest) := by
  refine ok0 F sc_l_rest (fun ds Q X h => ?_) (fun cdv A outer s H E hr => ?_) fun ds Qd Xd h => h
  · obtain ⟨p, o, b, c, rfl, _⟩ := h; rfl
  refine ⟨_, (dpss_cons (dpset 2 sc_l_rest.nd (dpe_callTy (dcl_list (by rfl)) (by rfl) (by exact T.list) (by decide +kernel) (dpa_cons (dpv 0) dpa_nil)))
      (dpss_cons (dps_while PassesOwn.never (dpt_cmp dop_ge (dpe_callB (dcl_len (by rfl)) (by rfl) (by exact T.len) (by decide +kernel) (dpa_cons (dpv 2) dpa_nil)) (dpe_callB (dcl_len (by rfl)) (by rfl) (by exact T.len) (by decide +kernel) (dpa_cons (dpv 1) dpa_nil)) (nomark _)) (dpss_cons (dpset 3 sc_l_rest.nd (dpe_ix (dix (by rfl)) (dpv 2) (dpe_neg dpe_int) (fun _ _ => rfl)))
      (dpss_cons (dpset 4 sc_l_rest.nd (dpe_op dop_sub (dpe_callB (dcl_len (by rfl)) (by rfl) (by exact T.len) (by decide +kernel) (dpa_cons (dpv 2) dpa_nil)) (dpe_callB (dcl_len (by rfl)) (by rfl) (by exact T.len) (by decide +kernel) (dpa_cons (dpv 1) dpa_nil))))
      (dpss_cons (dps_setlc (i := 2) (hN := sc_l_rest.nd) (hyi := rfl) (hy := rfl) (hc := rfl) (own := ["_law_number_here"]) (cap := [("_law_other", 1)]) (L := LcScope.of (by kernel_rfl)) (hi := (dpi_list (by rfl) (dpv 2))) (hin := (fun _ _ _ _ => ⟨(dpgn 0 (nd_of (by kernel_rfl))), dpts_nil, (dpb_emit (by rfl) (by rfl) (dpe_op dop_mul (dpe_op dop_mul (dpv 0) (dpe_ix (dix (by rfl)) (dpv 1) (dpe_neg dpe_int) (fun _ _ => rfl))) (dpe_ix (dix (by rfl)) (dpv 1) (dpe_neg dpe_int) (fun _ _ => rfl))))⟩)))
      (dpss_cons (dps_for PassesOwn.never rfl (dpi_range1 (by rfl) (by exact T.range) (dpa_cons (dpe_callB (dcl_len (by rfl)) (by rfl) (by exact T.len) (by decide +kernel) (dpa_cons (dpv 1) dpa_nil)) dpa_nil)) (dpgn 5 sc_l_rest.nd) (dpss_one (dps_aug1 2 (by rfl) (qpv 2) (dpe_op dop_add (dpv 4) (dpv 5)) (dpe_op dop_mul (dpe_op dop_mul (dpv 3) (dpe_ix (dix (by rfl)) (dpv 1) (dpe_neg dpe_int) (fun _ _ => rfl))) (dpe_ix (dix (by rfl)) (dpv 1) (dpv 5) (fun _ _ => rfl))) ip_sub)))
      (dpss_one (dps_pop0 2 (by rfl) (qpv 2) (by rfl) (by rfl))))))))
      (dpss_one (dps_ret (dpe_df (by exact D_l_trim) (by exact hr.mono (by omega)) (dpa_cons (dpv 2) dpa_nil)))))), fun ds Qd h => ?_⟩
  obtain ⟨p, o, b, c, rfl, hp, ho, one, hTo, hc, hb, hs, q⟩ := h
  show (_ : TSD) _ [some (false, iD p), some (false, iD o), none, none, none, none] _
  have hl0 := pos_ne one
  have hlead := hTo one
  walk_at "d"
  refine ⟨fun m ρ => ∃ (q : List Int) (x3 x4 x5 : Option (Bool × D)), ρ = [some (false, iD p), some (false, iD o), some (true, iD q), x3, x4, x5] ∧ m = q.length ∧ q.length ≤ p.length ∧ Bb (c + (p.length - max q.length (o.length - 1)) * (2 * b + 1)) q ∧ ∀ z, Rm (co q) (co o) z → Rm (co p) (co o) z, ⟨_, p, _, _, _, rfl, rfl, Nat.le_refl _, hc.mono (Nat.le_add_right _ _), fun _ z => z⟩, ?_⟩
  rintro m ρ ⟨p1, x3, x4, x5, rfl, rfl, hl1, hb1, hR⟩
  walk_at "d"
  refine ite2 (fun h1 => ?_) fun h1 => ?_
  · have h1 : o.length ≤ p1.length := by have : (o.length : Int) ≤ p1.length := by simpa using h1
                                         omega
    have one1 : p1 ≠ [] := fun z => by rw [z] at h1; have h1 : o.length ≤ 0 := h1; omega
    have hc1 : c + (p.length - max p1.length (o.length - 1)) * (2 * b + 1) + 2 * b ≤ 134217728 := by
      have := Nat.mul_le_mul_right (2 * b + 1) (show p.length - max p1.length (o.length - 1) ≤ p.length + 1 - o.length by omega)
      omega
    generalize hc2 : c + (p.length - max p1.length (o.length - 1)) * (2 * b + 1) = c1 at hb1 hc1
    walk_at "d"
    refine ⟨_, at_last one1, ?_⟩
    walk_at "d"
    refine lc_mapA (L := p1) (fun x : Int => .int x) (fun x => .int (x * co o (o.length - 1) * co o (o.length - 1))) (fun x hx es Q' hl' q' => ?_) (by omega) ?_
    · have hx2 := bb_mem hb1 hx
      walk_at "d"
      refine ⟨_, at_last one, ?_⟩
      walk_at "d"
      refine ⟨mulN hx2 (hb _) (by omega), ?_⟩
      walk_at "d"
      refine ⟨_, at_last one, ?_⟩
      walk_at "d"
      refine ⟨mulN (m := c1 + b) ?_ (hb _) (by omega), ?_⟩
      · rw [Int.natAbs_mul, Nat.pow_add]; exact Nat.mul_lt_mul_of_lt_of_lt hx2 (hb _)
      walk_at "d"
      exact q'
    rw [show PyData.list (p1.map fun x => .int (x * co o (o.length - 1) * co o (o.length - 1))) = iD (p1.map fun x => x * co o (o.length - 1) * co o (o.length - 1)) from by unfold iD; rw [List.map_map]; rfl]
    have em : ∀ i, co (p1.map fun x => x * co o (o.length - 1) * co o (o.length - 1)) i = co o (o.length - 1) * co o (o.length - 1) * co p1 i := fun i => by
      by_cases h : i < p1.length
      · rw [co_of (show (p1.map fun x => x * co o (o.length - 1) * co o (o.length - 1))[i]? = some (co p1 i * co o (o.length - 1) * co o (o.length - 1)) by rw [List.getElem?_map, co_get h]; rfl), Int.mul_assoc, Int.mul_comm]
      · rw [co_lt p1 i (by omega), co_lt _ i (by rw [List.length_map]; omega), Int.mul_zero]
    have el : (p1.map fun x => x * co o (o.length - 1) * co o (o.length - 1)).length = p1.length := List.length_map _
    generalize (p1.map fun x => x * co o (o.length - 1) * co o (o.length - 1)) = u0 at em el
    walk_at "d"
    refine lp_rng (fun k ρ => ∃ (u : List Int) (x5 : Option (Bool × D)), ρ = [some (false, iD p), some (false, iD o), some (true, iD u), some (false, .int (co p1 (p1.length - 1))), some (false, .int ((p1.length : Int) - o.length)), x5] ∧ u.length = p1.length ∧ ∀ i, co u i = co o (o.length - 1) * co o (o.length - 1) * co p1 i - if p1.length - o.length ≤ i ∧ i < p1.length - o.length + k then co p1 (p1.length - 1) * co o (o.length - 1) * co o (i - (p1.length - o.length)) else 0) ⟨u0, _, rfl, el, fun i => by rw [em i, if_neg (by omega)]; omega⟩ ?_ ?_
    · rintro k ρ hk ⟨u, x5', rfl, hu, eu⟩
      walk_at "d"
      refine aug_f (r := u) (m := p1.length - o.length + k) rfl (by omega) (fun Q hQ => ?_) ?_
      · walk_at "d"
        rw [show ((p1.length : Int) - o.length + (0 + (k : Int))) = ((p1.length - o.length + k : Nat) : Int) by omega]
        exact hQ
      · walk_at "d"
        refine ⟨_, at_last one, ?_⟩
        walk_at "d"
        refine ⟨mulN (hb1 _) (hb _) (by omega), ?_⟩
        walk_at "d"
        refine ⟨.int (co o k), by rw [Int.zero_add]; exact atI_nat (by rw [List.getElem?_map, co_get (by omega)]; rfl), ?_⟩
        walk_at "d"
        refine ⟨mulN (m := c1 + b) ?_ (hb _) (by omega), ?_⟩
        · rw [Int.natAbs_mul, Nat.pow_add]; exact Nat.mul_lt_mul_of_lt_of_lt (hb1 _) (hb _)
        walk_at "d"
        refine ⟨_, _, rfl, by rw [List.length_set]; exact hu, fun i => ?_⟩
        rw [co_set (by omega), eu]
        by_cases h : i = p1.length - o.length + k
        · subst h
          rw [if_pos rfl, if_neg (by omega), if_pos (by omega), show p1.length - o.length + k - (p1.length - o.length) = k by omega]
          omega
        · rw [if_neg h, eu]
          by_cases h' : p1.length - o.length ≤ i ∧ i < p1.length - o.length + k
          · rw [if_pos h', if_pos (by omega)]
          · rw [if_neg h', if_neg (by omega)]
    · rintro ρ ⟨u, x5', rfl, hu, eu⟩
      have e : ∀ i, co u i = co o (o.length - 1) * co o (o.length - 1) * co p1 i - co p1 (p1.length - 1) * co o (o.length - 1) * sh (p1.length - o.length) (co o) i := fun i => by
        rw [eu i]
        unfold sh
        by_cases h' : p1.length - o.length ≤ i
        · by_cases h2 : i < p1.length - o.length + o.length
          · rw [if_pos ⟨h', h2⟩, if_pos h']
          · rw [if_neg (by omega), if_pos h', co_lt o (i - (p1.length - o.length)) (by omega), Int.mul_zero]
        · rw [if_neg (by omega), if_neg h', Int.mul_zero]
      obtain ⟨a1, a2, a3⟩ := lstep one hTo h1 hb1 hb e
      have hlk : Like u (u.take (p1.length - 1)) := take_like a1
      have htl : (u.take (p1.length - 1)).length = p1.length - 1 := by rw [List.length_take]; omega
      have hde := drop_erase u
      rw [List.dropLast_eq_take] at hde
      walk_at "d"
      refine w_pop0 ?_
      refine ⟨u.map .int, .int (co u (p1.length - 1)), rfl, by rw [List.length_map, List.getElem?_map, hu, co_get (by omega)]; rfl, p1.length - 1, by have := pos_ne one1; omega, u.take (p1.length - 1), some (false, .int (co p1 (p1.length - 1))), some (false, .int ((p1.length : Int) - o.length)), x5', ?_, htl.symm, by omega, hlk.bb (a2.mono ?_), fun z hz => hR z (a3 z ?_)⟩
      · rw [List.length_map, map_erase, ← hde, hu]; rfl
      · rw [← hc2, htl]
        have : (p.length - max p1.length (o.length - 1)) + 1 ≤ p.length - max (p1.length - 1) (o.length - 1) := by omega
        have := Nat.mul_le_mul_right (2 * b + 1) this
        rw [Nat.add_mul] at this
        omega
      · rw [show co (u.take (p1.length - 1)) = co u from funext hlk] at hz
        exact hz
  · have h1 : p1.length < o.length := by have : (p1.length : Int) < o.length := by simpa using h1
                                         omega
    walk_at "d"
    refine ⟨p1, rfl, by omega, fun r r1 r2 r3 => ?_⟩
    walk_at "d"
    have := r3 p1.length fun i hi => co_lt p1 i hi
    refine q r r2 (by omega) (hR _ ?_)
    rw [show co r = co p1 from funext r1]
    exact Rm.refl _ _
/-- what the law's rest is in least numbers: small -/
theorem rest_small {p o r : List Int} {b c : Nat} (ho : o ≠ []) (To : Tr o) (Tp : Tr p) (hp : Bb c p) (hb : Bb b o) (hR : Rm (co p) (co o) (co r)) (T : Tr r) (hl : r.length < o.length) (hr : r ≠ []) : Bb (c + (p.length + 1 - o.length) * (b + 1)) (nrm r) := by
  obtain ⟨s, s1, s2, s3, s4⟩ := rem_ex ho To hb p.length p c (Nat.le_refl _) Tp hp
  rcases like_lst ho To s3 hR s1 T s2 hl with ⟨_, z⟩ | ⟨_, _, z⟩
  · exact absurd z hr
  · have : Bb (c + (p.length + 1 - o.length) * (b + 1)) (M44.lst r) := by
      rcases z with z | z
      · rw [z]; exact bb_lst s4
      · rw [z]; exact bb_neg (bb_lst s4)
    unfold nrm; split
    · exact this
    · exact bb_neg this
theorem nrm_length (p : List Int) : (nrm p).length = p.length := by
  unfold nrm; split
  · exact lst_length p
  · rw [neg_length, lst_length]
theorem tr_nrm {p : List Int} (h : Tr p) : Tr (nrm p) := by
  unfold nrm; split
  · exact tr_lst h
  · exact tr_neg (tr_lst h)
theorem rr_nrm {p o r : List Int} (h : Rm (co p) (co o) (co r)) (T : Tr r) : Rr p o (nrm r) := by
  unfold nrm; split
  · exact rr_lst h T
  · exact (rr_lst h T).neg
-- _law_common  N = [(0, '_law_one'), (1, '_law_other'), (2, '_law_rest_here')]  cells = []
abbrev s_l_common : Stmt := top 15
theorem sc_l_common : FnScope ["_law_one", "_law_other", "_law_rest_here"] ["_law_one", "_law_other"] (defScope s_l_common) := ⟨rfl, rfl, rfl, by decide +kernel, rfl, by decide +kernel, by decide +kernel⟩
theorem ok_l_common {f : Addr} {fd : FuncData} (F : Fun K "_law_common" "_law_common" s_l_common f fd) (T : Blt mg) (D_l_rest : Df P w K mg base "_law_rest" ["_law_one", "_law_other"] 42 (SpL K sp_rest)) (D_l_freed : Df P w K mg base "_law_freed" ["_law_numbers"] 41 (SpL K sp_freed)) : FnOk P w K mg base CX0 43 f fd ["_law_one", "_law_other"] (SpL K sp_cp) := by
  refine ok0 F sc_l_common (fun ds Q X h => ?_) (fun cdv A outer s H E hr => ?_) fun ds Qd Xd h => h
  · obtain ⟨p, o, rfl, _⟩ := h; rfl
  refine ⟨_, (dpss_cons (dps_while PassesOwn.never (dpt_cmp (dop_ne (by rfl) (by exact hr.units)) (dpv 1) (dpe_lst dpa_nil) (nomark _)) (dpss_cons (dpset 2 sc_l_common.nd (dpe_df (by exact D_l_rest) (by exact hr.mono (by omega)) (dpa_cons (dpv 0) (dpa_cons (dpv 1) dpa_nil))))
      (dpss_cons (dps_if (dpt_cmp (dop_ne (by rfl) (by exact hr.units)) (dpv 2) (dpe_lst dpa_nil) (nomark _)) (dpss_one (dpset 2 sc_l_common.nd (dpe_df (by exact D_l_freed) (by exact hr.mono (by omega)) (dpa_cons (dpv 2) dpa_nil)))) dpss_nil)
      (dpss_one (dps_parF 0 1 (by rfl) sc_l_common.nd (by rfl) (by rfl) (by decide) (by rfl) (by rfl) (dpa_cons (dpv 1) (dpa_cons (dpv 2) dpa_nil)) (by rfl))))))
      (dpss_one (dps_ret (dpe_df (by exact D_l_freed) (by exact hr.mono (by omega)) (dpa_cons (dpv 0) dpa_nil))))), fun ds Qd h => ?_⟩
  obtain ⟨P0, O0, rfl, pne, hT, hTo, hl, hs, q⟩ := h
  show (_ : TSD) _ [some (false, iD P0), some (false, iD O0), none] _
  walk_at "d"
  refine ⟨fun m ρ => ∃ (p o : List Int) (x2 : Option (Bool × D)), ρ = [some (false, iD p), some (false, iD o), x2] ∧ m = o.length ∧ p ≠ [] ∧ Tr p ∧ Tr o ∧ p.length ≤ 13 ∧ Sz p o ∧ Sm p o P0 O0, ⟨_, P0, O0, _, rfl, rfl, pne, hT, hTo, hl, hs, fun _ => Iff.rfl⟩, ?_⟩
  rintro m ρ ⟨p, o, x2, rfl, rfl, p1, p2, p3, p4, p5, p6⟩
  walk_at "d"
  refine ⟨⟨lay_iD _, rfl, depth_iD _⟩, ?_⟩
  by_cases one : o = []
  · subst one
    show onB (PyData.bool false) _
    walk_at "d"
    refine ⟨p, rfl, by omega, p2, p1, ?_⟩
    walk_at "d"
    exact q _ (gcd_end p1 p2 p6)
  · have he : PyData.eqv (iD o) (.list []) = false := by
      cases o with
      | nil => exact absurd rfl one
      | cons x r => rfl
    rw [he]
    show onB (PyData.bool true) _
    obtain ⟨s1, s2, b, c, s3, s4, s5, s6, s7⟩ := p5.go one
    walk_at "d"
    have hsz : c + (p.length + 1 - o.length) * (2 * b + 1) + 2 * b ≤ 134217728 := by
      have h1 : (p.length + 1 - o.length) * (2 * b + 1) ≤ (p.length + 1 - o.length) * (2 * (b + 1)) := Nat.mul_le_mul_left _ (by omega)
      have h2 : (p.length + 1 - o.length) * (2 * (b + 1)) = 2 * ((p.length + 1 - o.length) * (b + 1)) := Nat.mul_left_comm ..
      omega
    refine ⟨p, o, b, c, rfl, by omega, by omega, one, p3, s3, s4, hsz, fun r r1 r2 r3 => ?_⟩
    walk_at "d"
    refine ⟨⟨lay_iD _, rfl, depth_iD _⟩, ?_⟩
    by_cases hr0 : r = []
    · subst hr0
      show onB (PyData.bool false) _
      walk_at "d"
      exact ⟨_, r2, o, [], _, rfl, rfl, one, p3, r1, s2, s7 [] r2 (fun i => Nat.two_pow_pos _), Rr.sm ⟨_, r3, 1, by decide, fun i => by rw [Int.one_mul]⟩ p6⟩
    · have he2 : PyData.eqv (iD r) (.list []) = false := by
        cases r with
        | nil => exact absurd rfl hr0
        | cons x r => rfl
      rw [he2]
      show onB (PyData.bool true) _
      walk_at "d"
      refine ⟨r, rfl, by omega, r1, hr0, ?_⟩
      walk_at "d"
      have hn := nrm_length r
      exact ⟨_, by omega, o, nrm r, _, rfl, hn.symm, one, p3, tr_nrm r1, s2, s7 _ (by omega) (rest_small one p3 p2 s3 s4 r3 r1 r2 hr0), (rr_nrm r3 r1).sm p6⟩
end
end K44

namespace K44
open PySem PySem.Spec PyProof.Rows L2 DL M44
section
variable {P : Program} {w : World} {K : PySem.W.Frag} {mg : Str → Option Value} {base : Heap}
def scr (ns : List Int) : D := .dict [(.none, .list (ns.map .int))]
-- _law_cell_at  N = [(0, '_law_script'), (1, '_law_k')]  cells = []
abbrev s_l_cell_at : Stmt := top 9
theorem sc_l_cell_at : FnScope ["_law_script", "_law_k"] ["_law_script", "_law_k"] (defScope s_l_cell_at) := ⟨rfl, rfl, rfl, by decide +kernel, rfl, by decide +kernel, by decide +kernel⟩
def sp_cell : SpD := fun ds Q _ => ∃ (ns : List Int) (k : Int), ds = [scr ns, .int k] ∧ 0 ≤ k ∧ ∀ z : Int, Q (.int z) true
theorem ok_l_cell_at {f : Addr} {fd : FuncData} (F : Fun K "_law_cell_at" "_law_cell_at" s_l_cell_at f fd) (T : Blt mg) : FnOk P w K mg base CX0 41 f fd ["_law_script", "_law_k"] (SpL K sp_cell) := by
  refine ok0 F sc_l_cell_at (fun ds Q X h => ?_) (fun cdv A outer s H E hr => ?_) fun ds Qd Xd h => h
  · obtain ⟨ns, k, rfl, _⟩ := h; rfl
  refine ⟨_, (dpss_cons (dps_if (dpt_cmp dop_lt (dpv 1) (dpe_callB (dcl_len (by rfl)) (by rfl) (by exact T.len) (by decide +kernel) (dpa_cons (dpv 0) dpa_nil)) (nomark _)) (dpss_one (dps_ret (dpe_ix (dix (by rfl)) (dpv 0) (dpv 1) (fun _ _ => rfl)))) dpss_nil)
      (dpss_one (dps_ret dpe_int))), fun ds Qd h => ?_⟩
  obtain ⟨ns, k, rfl, hk, q⟩ := h
  show (_ : TSD) _ [some (false, .dict [(.none, .list (ns.map .int))]), some (false, .int k)] _
  walk_at "d"
  refine ite2 (fun h1 => ?_) fun _ => ?_
  · walk_at "d"
    have hlt : k.toNat < ns.length := by simp at h1; omega
    refine ⟨.int ns[k.toNat], ?_, ?_⟩
    · have := atI_nat (xs := ns.map PyData.int) (j := k.toNat) (v := PyData.int ns[k.toNat]) (by simp [hlt])
      rw [show ((k.toNat : Nat) : Int) = k from Int.toNat_of_nonneg hk] at this
      exact this
    · exact q _
  · walk_at "d"
    exact q _
-- _law_big  N = [(0, '_law_script'), (1, '_law_at'), (2, '_law_cell'), (3, '_law_primes'), (4, '_law_big_here'), (5, '_law_k'), (6, '_law_one')]  cells = []
abbrev s_l_big : Stmt := top 10
theorem sc_l_big : FnScope ["_law_script", "_law_at", "_law_cell", "_law_primes", "_law_big_here", "_law_k", "_law_one"] ["_law_script", "_law_at"] (defScope s_l_big) := ⟨rfl, rfl, rfl, by decide +kernel, rfl, by decide +kernel, by decide +kernel⟩
def sp_big : SpD := fun ds Q _ => ∃ (ns : List Int) (k : Int), ds = [scr ns, .int k] ∧ 0 ≤ k ∧ ∀ z : Int, 0 ≤ z → Q (.int z) true
theorem ok_l_big {f : Addr} {fd : FuncData} (F : Fun K "_law_big" "_law_big" s_l_big f fd) (T : Blt mg) (D_l_cell_at : Df P w K mg base "_law_cell_at" ["_law_script", "_law_k"] 41 (SpL K sp_cell)) : FnOk P w K mg base CX0 42 f fd ["_law_script", "_law_at"] (SpL K sp_big) := by
  refine ok0 F sc_l_big (fun ds Q X h => ?_) (fun cdv A outer s H E hr => ?_) fun ds Qd Xd h => h
  · obtain ⟨ns, k, rfl, _⟩ := h; rfl
  refine ⟨_, (dpss_cons (dpset 2 sc_l_big.nd (dpe_df (by exact D_l_cell_at) (by exact hr.mono (by omega)) (dpa_cons (dpv 0) (dpa_cons (dpv 1) dpa_nil))))
      (dpss_cons (dps_if (dpt_cmp dop_ge (dpv 2) (dpe_op dop_pow dpe_int dpe_int) (nomark _)) (dpss_one (dps_ret (dpv 2))) dpss_nil)
      (dpss_cons (dpset 3 sc_l_big.nd (dpe_tup (dpa_ints (by rfl))))
      (dpss_cons (dpset 4 sc_l_big.nd dpe_int)
      (dpss_cons (dps_for PassesOwn.never rfl (dpi_range1 (by rfl) (by exact T.range) (dpa_cons dpe_int dpa_nil)) (dpgn 5 sc_l_big.nd) (dpss_cons (dpset 6 sc_l_big.nd (dpe_op dop_add (dpe_op dop_add (dpe_op dop_mod (dpe_df (by exact D_l_cell_at) (by exact hr.mono (by omega)) (dpa_cons (dpv 0) (dpa_cons (dpe_op dop_add (dpv 1) (dpe_op dop_mod (dpv 5) dpe_int)) dpa_nil))) (dpe_op dop_pow dpe_int dpe_int)) (dpe_op dop_mul dpe_int (dpv 5))) dpe_int))
      (dpss_one (dpset 4 sc_l_big.nd (dpe_op dop_add (dpe_op dop_mul (dpv 4) dpe_int) (dpe_op dop_mod (dpe_op dop_mul (dpe_op dop_mod (dpe_op dop_add (dpe_op dop_mul (dpv 6) (dpv 6)) (dpe_op dop_mul dpe_int (dpv 5))) (dpe_ix (dix (by rfl)) (dpv 3) (dpe_op dop_mod (dpv 5) dpe_int) (fun _ _ => rfl))) (dpe_op dop_add (dpv 5) dpe_int)) dpe_int))))))
      (dpss_one (dps_ret (dpv 4)))))))), fun ds Qd h => ?_⟩
  obtain ⟨ns, k, rfl, hk, q⟩ := h
  show (_ : TSD) _ [some (false, scr ns), some (false, .int k), none, none, none, none, none] _
  walk_at "d"
  refine ⟨ns, k, rfl, hk, fun z => ?_⟩
  walk_at "d"
  refine ite2 (fun h1 => ?_) fun h1 => ?_
  · walk_at "d"
    refine q z ?_
    have : (0 : Int) ≤ 10 ^ Int.toNat 18 := by decide
    simp at h1; omega
  walk_at "d"
  refine lp_rng (fun i ρ => ∃ (b : Int) (x y : Option (Bool × D)), ρ = [some (false, scr ns), some (false, .int k), some (false, .int z), some (false, .tuple [.int 99989, .int 99971, .int 99961, .int 99929, .int 99923, .int 99907, .int 99901, .int 99881, .int 99877]), some (false, .int b), x, y] ∧ 0 ≤ b) ⟨0, _, _, rfl, by decide⟩ ?_ ?_
  · rintro i ρ hi ⟨b, x, y, rfl, hb⟩
    walk_at "d"
    have h9 := Int.emod_nonneg (0 + (i : Int)) (show (9 : Int) ≠ 0 by decide)
    have h9' := Int.emod_lt_of_pos (0 + (i : Int)) (show (0 : Int) < 9 by decide)
    refine ⟨ns, _, rfl, by omega, fun c => ?_⟩
    walk_at "d"
    have c1 : (10 : Int) ^ Int.toNat 18 = 1000000000000000000 := by decide
    rw [c1]
    have hi' : i < 64 := hi
    have h0 := Int.emod_nonneg c (show (1000000000000000000 : Int) ≠ 0 by decide)
    have h1 := Int.emod_lt_of_pos c (show (0 : Int) < 1000000000000000000 by decide)
    refine ⟨CMul.ok (.inl ⟨by omega, by omega⟩), ?_⟩
    walk_at "d"
    obtain ⟨m, hm, em⟩ : ∃ m : Nat, m < 9 ∧ (0 + (i : Int)) % 9 = (m : Int) := ⟨((0 + (i : Int)) % 9).toNat, by omega, by omega⟩
    obtain ⟨pr, hpr, hpp⟩ : ∃ pr : Int, [PyData.int 99989, .int 99971, .int 99961, .int 99929, .int 99923, .int 99907, .int 99901, .int 99881, .int 99877][m]? = some (PyData.int pr) ∧ 0 < pr ∧ pr < 100000 := by
      match m, hm with
      | 0, _ => exact ⟨_, rfl, by decide, by decide⟩
      | 1, _ => exact ⟨_, rfl, by decide, by decide⟩
      | 2, _ => exact ⟨_, rfl, by decide, by decide⟩
      | 3, _ => exact ⟨_, rfl, by decide, by decide⟩
      | 4, _ => exact ⟨_, rfl, by decide, by decide⟩
      | 5, _ => exact ⟨_, rfl, by decide, by decide⟩
      | 6, _ => exact ⟨_, rfl, by decide, by decide⟩
      | 7, _ => exact ⟨_, rfl, by decide, by decide⟩
      | 8, _ => exact ⟨_, rfl, by decide, by decide⟩
    refine ⟨.int pr, by rw [em]; exact atI_nat hpr, ?_⟩
    walk_at "d"
    refine ⟨CMul.ok (.inr ⟨by omega, by omega⟩), ?_⟩
    walk_at "d"
    refine ⟨_, _, _, rfl, ?_⟩
    have := Int.emod_nonneg (((c % 1000000000000000000 + 7 * (0 + (i : Int)) + 1) * (c % 1000000000000000000 + 7 * (0 + (i : Int)) + 1) + 31 * (0 + (i : Int))) % pr * (0 + (i : Int) + 3)) (show (8191 : Int) ≠ 0 by decide)
    omega
  · rintro ρ ⟨b, x, y, rfl, hb⟩
    walk_at "d"
    exact q b hb
-- _law_whole  N = [(0, '_law_found')]  cells = []
abbrev s_l_whole : Stmt := top 11
theorem sc_l_whole : FnScope ["_law_found"] ["_law_found"] (defScope s_l_whole) := ⟨rfl, rfl, rfl, by decide +kernel, rfl, by decide +kernel, by decide +kernel⟩
def sp_whole : SpD := fun ds Q _ => ∃ (n : Int), ds = [.int n] ∧ Q (.bool true) true
theorem ok_l_whole {f : Addr} {fd : FuncData} (F : Fun K "_law_whole" "_law_whole" s_l_whole f fd) (T : Blt mg) : FnOk P w K mg base CX0 41 f fd ["_law_found"] (SpL K sp_whole) := by
  refine ok0 F sc_l_whole (fun ds Q X h => ?_) (fun cdv A outer s H E hr => ?_) fun ds Qd Xd h => h
  · obtain ⟨b, rfl, _⟩ := h; rfl
  refine ⟨_, (dpss_one (dps_ret (dpe_and (dpe_isi (by rfl) kit_int (by rfl) (by exact T.isinstance) (dpv 0) (by rfl) (by exact T.int) (by decide +kernel)) (dpe_one (dpe_not (dpe_isi (by rfl) kit_bool (by rfl) (by exact T.isinstance) (dpv 0) (by rfl) (by exact T.bool) (by decide +kernel))))))), fun ds Qd h => ?_⟩
  obtain ⟨n, rfl, q⟩ := h
  show (_ : TSD) _ [some (false, .int n)] _
  walk_at "d"
  rw [if_pos (by rfl)]
  walk_at "d"
  exact q
/-- how great the numbers are that are drawn -/
def Fg (fg : Int) (M : Nat) : Prop := (fg = 30 ∧ M = 10 ^ 30) ∨ (fg = 14 ∧ M = 10 ^ 14)
-- _law_number  N = [(0, '_law_big_here'), (1, '_law_figures'), (2, '_law_way'), (3, '_law_most')]  cells = []
abbrev s_l_number : Stmt := top 16
theorem sc_l_number : FnScope ["_law_big_here", "_law_figures", "_law_way", "_law_most"] ["_law_big_here", "_law_figures"] (defScope s_l_number) := ⟨rfl, rfl, rfl, by decide +kernel, rfl, by decide +kernel, by decide +kernel⟩
def sp_num : SpD := fun ds Q _ => ∃ (b fg : Int) (M : Nat), ds = [.int b, .int fg] ∧ 0 ≤ b ∧ Fg fg M ∧ ∀ x b' : Int, 0 ≤ b' → x.natAbs < M → Q (.tuple [.int x, .int b']) true
theorem ok_l_number {f : Addr} {fd : FuncData} (F : Fun K "_law_number" "_law_number" s_l_number f fd) (T : Blt mg) (hT : P.given.tree = none) : FnOk P w K mg base CX0 41 f fd ["_law_big_here", "_law_figures"] (SpL K sp_num) := by
  refine ok0 F sc_l_number (fun ds Q X h => ?_) (fun cdv A outer s H E hr => ?_) fun ds Qd Xd h => h
  · obtain ⟨b, fg, M, rfl, _⟩ := h; rfl
  refine ⟨_, (dpss_cons (dpset 2 sc_l_number.nd (dpe_op dop_mod (dpv 0) dpe_int))
      (dpss_cons (dpset 0 sc_l_number.nd (dpe_op (dop_fdivP ⟨⟨_, _, rfl, rfl, rfl, rfl, rfl⟩⟩ (by exact hT) (by exact hr.pyl)) (dpv 0) dpe_int))
      (dpss_cons (dps_if (dpt_cmp (dop_eq (by rfl) (by exact hr.units)) (dpv 2) dpe_int (nomark _)) (dpss_cons (dpset 3 sc_l_number.nd (dpe_ifExp (dpt_cmp dop_gt (dpv 1) dpe_int (nomark _)) (dpe_op dop_pow dpe_int dpe_int) (dpe_op dop_pow dpe_int dpe_int)))
      (dpss_one (dps_ret (dpe_tup (dpa_cons (dpe_op dop_add (dpe_op dop_sub (dpe_op dop_mod (dpv 0) (dpe_op dop_sub (dpe_op dop_mul dpe_int (dpv 3)) dpe_int)) (dpv 3)) dpe_int) (dpa_cons (dpe_op (dop_fdivP ⟨⟨_, _, rfl, rfl, rfl, rfl, rfl⟩⟩ (by exact hT) (by exact hr.pyl)) (dpv 0) (dpe_op dop_sub (dpe_op dop_mul dpe_int (dpv 3)) dpe_int)) dpa_nil)))))) dpss_nil)
      (dpss_one (dps_ret (dpe_tup (dpa_cons (dpe_op dop_sub (dpe_op dop_mod (dpv 0) dpe_int) dpe_int) (dpa_cons (dpe_op (dop_fdivP ⟨⟨_, _, rfl, rfl, rfl, rfl, rfl⟩⟩ (by exact hT) (by exact hr.pyl)) (dpv 0) dpe_int) dpa_nil)))))))), fun ds Qd h => ?_⟩
  obtain ⟨b, fg, M, rfl, hb, hM, q⟩ := h
  show (_ : TSD) _ [some (false, .int b), some (false, .int fg), none, none] _
  walk_at "d"
  have hb4 : 0 ≤ b.fdiv 4 := by rw [Int.fdiv_eq_ediv_of_nonneg _ (by decide)]; omega
  generalize b.fdiv 4 = b4 at hb4
  refine ite2 (fun h1 => ?_) fun h1 => ?_
  · walk_at "d"
    rcases hM with ⟨rfl, rfl⟩ | ⟨rfl, rfl⟩
    · rw [if_pos (by decide)]
      walk_at "d"
      have e : (10 : Int) ^ Int.toNat 30 = 1000000000000000000000000000000 := by decide
      rw [e]
      refine q _ _ (by rw [Int.fdiv_eq_ediv_of_nonneg _ (by decide)]; omega) ?_
      show _ < 1000000000000000000000000000000
      omega
    · rw [if_neg (by decide)]
      walk_at "d"
      have e : (10 : Int) ^ Int.toNat 14 = 100000000000000 := by decide
      rw [e]
      refine q _ _ (by rw [Int.fdiv_eq_ediv_of_nonneg _ (by decide)]; omega) ?_
      show _ < 100000000000000
      omega
  · walk_at "d"
    have h9 : 0 ≤ b4.fdiv 9 := by rw [Int.fdiv_eq_ediv_of_nonneg _ (by decide)]; omega
    refine q _ _ h9 ?_
    have : 10 ≤ M := by rcases hM with ⟨_, rfl⟩ | ⟨_, rfl⟩ <;> decide
    omega
-- _law_poly  N = [(0, '_law_big_here'), (1, '_law_most'), (2, '_law_figures'), (3, '_law_size'), (4, '_law_numbers'), (5, '_law_k'), (6, '_law_number_here')]  cells = []
abbrev s_l_poly : Stmt := top 17
theorem sc_l_poly : FnScope ["_law_big_here", "_law_most", "_law_figures", "_law_size", "_law_numbers", "_law_k", "_law_number_here"] ["_law_big_here", "_law_most", "_law_figures"] (defScope s_l_poly) := ⟨rfl, rfl, rfl, by decide +kernel, rfl, by decide +kernel, by decide +kernel⟩
def sp_poly : SpD := fun ds Q _ => ∃ (b fg : Int) (most M : Nat), ds = [.int b, .int most, .int fg] ∧ 0 ≤ b ∧ 1 ≤ most ∧ most ≤ 13 ∧ Fg fg M ∧ ∀ p : List Int, p ≠ [] → p.length ≤ most → Tr p → (∀ x ∈ p, x.natAbs < M) → Q (iD p) true
theorem ok_l_poly {f : Addr} {fd : FuncData} (F : Fun K "_law_poly" "_law_poly" s_l_poly f fd) (T : Blt mg) (hT : P.given.tree = none) (D_l_number : Df P w K mg base "_law_number" ["_law_big_here", "_law_figures"] 41 (SpL K sp_num)) : FnOk P w K mg base CX0 42 f fd ["_law_big_here", "_law_most", "_law_figures"] (SpL K sp_poly) := by
  refine ok0 F sc_l_poly (fun ds Q X h => ?_) (fun cdv A outer s H E hr => ?_) fun ds Qd Xd h => h
  · obtain ⟨b, fg, most, M, rfl, _⟩ := h; rfl
  refine ⟨_, (dpss_cons (dpset 3 sc_l_poly.nd (dpe_op dop_add dpe_int (dpe_op dop_mod (dpv 0) (dpv 1))))
      (dpss_cons (dpset 0 sc_l_poly.nd (dpe_op (dop_fdivP ⟨⟨_, _, rfl, rfl, rfl, rfl, rfl⟩⟩ (by exact hT) (by exact hr.pyl)) (dpv 0) (dpv 1)))
      (dpss_cons (dpset 4 sc_l_poly.nd (dpe_lst dpa_nil))
      (dpss_cons (dps_for PassesOwn.never rfl (dpi_range1 (by rfl) (by exact T.range) (dpa_cons (dpv 3) dpa_nil)) (dpgn 5 sc_l_poly.nd) (dpss_cons (dps_unp [6, 0] 2 rfl (by rfl) (by rfl) (qpgs_cons (qpgn 6 sc_l_poly.nd) (qpgs_cons (qpgn 0 sc_l_poly.nd) qpgs_nil)) (by rfl) (by rfl) (dpe_df (by exact D_l_number) (by exact hr.mono (by omega)) (dpa_cons (dpv 0) (dpa_cons (dpv 2) dpa_nil))))
      (dpss_one (dps_append 4 (by rfl) (qpv 4) (dpv 6) (by rfl) (by rfl) (by rfl)))))
      (dpss_cons (dps_if (dpt_cmp (dop_eq (by rfl) (by exact hr.units)) (dpe_ix (dix (by rfl)) (dpv 4) (dpe_neg dpe_int) (fun _ _ => rfl)) dpe_int (nomark _)) (dpss_one (dps_put1 4 (qpv 4) (dpe_neg dpe_int) (dpe_op dop_sub dpe_int (dpe_op dop_mul dpe_int (dpe_op dop_mod (dpv 0) dpe_int))))) dpss_nil)
      (dpss_one (dps_ret (dpv 4)))))))), fun ds Qd h => ?_⟩
  obtain ⟨b, fg, most, M, rfl, hb, hm1, hm2, hM, q⟩ := h
  show (_ : TSD) _ [some (false, .int b), some (false, .int most), some (false, .int fg), none, none, none, none] _
  walk_at "d"
  have hm0 : (0 : Int) < most := by omega
  have hb1 := Int.emod_nonneg b (show (most : Int) ≠ 0 by omega)
  have hb2 := Int.emod_lt_of_pos b hm0
  have hb3 : 0 ≤ b.fdiv most := by rw [Int.fdiv_eq_ediv_of_nonneg _ (by omega)]; exact Int.ediv_nonneg hb (by omega)
  refine ⟨⟨by omega, by omega⟩, trivial, ?_⟩
  generalize b % (most : Int) = n0 at hb1 hb2
  generalize b.fdiv (most : Int) = b0 at hb3
  obtain ⟨n, rfl⟩ : ∃ n : Nat, n0 = n := ⟨n0.toNat, by omega⟩
  rw [show (1 + (n : Int)).toNat = n + 1 by omega]
  refine lp_rng (fun j ρ => ∃ (b' : Int) (ns : List Int) (x5 x6 : Option (Bool × D)), ρ = [some (false, .int b'), some (false, .int most), some (false, .int fg), some (false, .int (1 + (n : Int))), some (true, iD ns), x5, x6] ∧ 0 ≤ b' ∧ ns.length = j ∧ ∀ x ∈ ns, x.natAbs < M) ⟨b0, [], _, _, rfl, hb3, rfl, fun x hx => by cases hx⟩ ?_ ?_
  · rintro j ρ hj ⟨b', ns, x5, x6, rfl, h1, h2, h3⟩
    walk_at "d"
    refine ⟨b', fg, M, rfl, h1, hM, fun x b2 g1 g2 => ?_⟩
    walk_at "d"
    refine w_app rfl (by rw [List.length_map]; omega) ?_
    walk_at "d"
    refine ⟨b2, ns ++ [x], _, _, rfl, g1, by rw [List.length_append, h2]; rfl, fun y hy => ?_⟩
    rcases List.mem_append.mp hy with hy | hy
    · exact h3 y hy
    · rw [List.mem_singleton.mp hy]; exact g2
  · rintro ρ ⟨b', ns, x5, x6, rfl, h1, h2, h3⟩
    have ne : ns ≠ [] := fun z => by rw [z] at h2; exact absurd h2 (by simp)
    walk_at "d"
    have n0 := pos_ne ne
    refine ⟨_, at_last ne, ?_⟩
    walk_at "d"
    refine ite2 (fun g1 => ?_) fun g1 => ?_
    · walk_at "d"
      have hb' : b' % 2 = 0 ∨ b' % 2 = 1 := by omega
      refine ⟨ns.map .int, rfl, ?_⟩
      walk_at "d"
      refine ⟨ns.length - 1, ?_, ?_⟩
      · unfold ixN; rw [List.length_map, if_neg (by decide), if_pos (by omega)]; exact congrArg some (by omega)
      rw [← set_iD]
      walk_at "d"
      refine q _ (fun z => ne (List.eq_nil_of_length_eq_zero (by rw [← List.length_set (i := ns.length - 1) (a := (1 - 2 * (b' % 2))), z]; rfl))) (by rw [List.length_set]; omega) (fun _ => ?_) fun x hx => ?_
      · rw [List.length_set, co_set (by omega), if_pos rfl]; omega
      · have : 10 ≤ M := by rcases hM with ⟨_, rfl⟩ | ⟨_, rfl⟩ <;> decide
        rcases List.mem_or_eq_of_mem_set hx with hx | hx
        · exact h3 x hx
        · rw [hx]; omega
    · have g1 : co ns (ns.length - 1) ≠ 0 := by simpa using g1
      walk_at "d"
      exact q ns ne (by omega) (fun _ => g1) h3
-- _law_times  N = [(0, '_law_one'), (1, '_law_other'), (2, '_law_found'), (3, '_law_i'), (4, '_law_j')]  cells = []
abbrev s_l_times : Stmt := top 18
theorem sc_l_times : FnScope ["_law_one", "_law_other", "_law_found", "_law_i", "_law_j"] ["_law_one", "_law_other"] (defScope s_l_times) := ⟨rfl, rfl, rfl, by decide +kernel, rfl, by decide +kernel, by decide +kernel⟩
def sp_times : SpD := fun ds Q _ => ∃ (p o : List Int), ds = [iD p, iD o] ∧ p ≠ [] ∧ o ≠ [] ∧ Tr p ∧ Tr o ∧ p.length ≤ 5 ∧ o.length ≤ 9 ∧ (∀ x ∈ p, x.natAbs < 10 ^ 14) ∧ (∀ x ∈ o, x.natAbs < 10 ^ 14) ∧ ∀ r : List Int, r ≠ [] → r.length ≤ 13 → Tr r → (∀ x ∈ r, x.natAbs ≤ 5 * 10 ^ 28) → Q (iD r) true
theorem ok_l_times {f : Addr} {fd : FuncData} (F : Fun K "_law_times" "_law_times" s_l_times f fd) (T : Blt mg) : FnOk P w K mg base CX0 41 f fd ["_law_one", "_law_other"] (SpL K sp_times) := by
  refine ok0 F sc_l_times (fun ds Q X h => ?_) (fun cdv A outer s H E hr => ?_) fun ds Qd Xd h => h
  · obtain ⟨p, o, rfl, _⟩ := h; rfl
  refine ⟨_, (dpss_cons (dps_setlc (i := 2) (hN := sc_l_times.nd) (hyi := rfl) (hy := rfl) (hc := rfl) (own := ["_law_k"]) (cap := []) (L := LcScope.of (by kernel_rfl)) (hi := (dpi_range1 (by rfl) (by exact T.range) (dpa_cons (dpe_op dop_sub (dpe_op dop_add (dpe_callB (dcl_len (by rfl)) (by rfl) (by exact T.len) (by decide +kernel) (dpa_cons (dpv 0) dpa_nil)) (dpe_callB (dcl_len (by rfl)) (by rfl) (by exact T.len) (by decide +kernel) (dpa_cons (dpv 1) dpa_nil))) dpe_int) dpa_nil))) (hin := (fun _ _ _ _ => ⟨(dpgn 0 (nd_of (by kernel_rfl))), dpts_nil, (dpb_emit (by rfl) (by rfl) dpe_int)⟩)))
      (dpss_cons (dps_for PassesOwn.never rfl (dpi_range1 (by rfl) (by exact T.range) (dpa_cons (dpe_callB (dcl_len (by rfl)) (by rfl) (by exact T.len) (by decide +kernel) (dpa_cons (dpv 0) dpa_nil)) dpa_nil)) (dpgn 3 sc_l_times.nd) (dpss_one (dps_for PassesOwn.never rfl (dpi_range1 (by rfl) (by exact T.range) (dpa_cons (dpe_callB (dcl_len (by rfl)) (by rfl) (by exact T.len) (by decide +kernel) (dpa_cons (dpv 1) dpa_nil)) dpa_nil)) (dpgn 4 sc_l_times.nd) (dpss_one (dps_aug1 2 (by rfl) (qpv 2) (dpe_op dop_add (dpv 3) (dpv 4)) (dpe_op dop_mul (dpe_ix (dix (by rfl)) (dpv 0) (dpv 3) (fun _ _ => rfl)) (dpe_ix (dix (by rfl)) (dpv 1) (dpv 4) (fun _ _ => rfl))) ip_add)))))
      (dpss_one (dps_ret (dpv 2))))), fun ds Qd h => ?_⟩
  obtain ⟨p, o, rfl, p1, o1, p2, o2, p3, o3, p4, o4, q⟩ := h
  show (_ : TSD) _ [some (false, iD p), some (false, iD o), none, none, none] _
  have p0 := pos_ne p1
  have o0 := pos_ne o1
  walk_at "d"
  unfold rngD
  refine lc_mapA (L := List.range ((p.length : Int) + o.length - 1).toNat) (fun i : Nat => .int (0 + (i : Int))) (fun _ => .int 0) (fun x hx es Q' hl' q' => ?_) (by rw [List.length_range]; omega) ?_
  · walk_at "d"
    exact q'
  rw [show PyData.list ((List.range ((p.length : Int) + o.length - 1).toNat).map fun _ => .int 0) = iD (List.replicate (p.length + o.length - 1) 0) from by unfold iD; rw [List.map_const', List.length_range, List.map_replicate, show ((p.length : Int) + o.length - 1).toNat = p.length + o.length - 1 by omega]]
  have z0 : ∀ i, co (List.replicate (p.length + o.length - 1) (0 : Int)) i = 0 := fun i => by
    unfold co; rw [List.getD_eq_getElem?_getD, List.getElem?_replicate]; split <;> rfl
  walk_at "d"
  refine lp_rng (fun i ρ => ∃ (r : List Int) (x3 x4 : Option (Bool × D)), ρ = [some (false, iD p), some (false, iD o), some (true, iD r), x3, x4] ∧ r.length = p.length + o.length - 1 ∧ (∀ t, (co r t).natAbs ≤ i * 10000000000000000000000000000) ∧ co r (p.length + o.length - 2) = if i = p.length then co p (p.length - 1) * co o (o.length - 1) else 0) ⟨_, _, _, rfl, List.length_replicate, fun t => by rw [z0, Nat.zero_mul]; exact Nat.le_refl _, by rw [z0, if_neg (by omega)]⟩ ?_ ?_
  · rintro i ρ hi ⟨r, x3, x4, rfl, r1, r2, r3⟩
    rw [if_neg (by omega)] at r3
    walk_at "d"
    refine lp_rng (fun j ρ => ∃ (r : List Int) (x4 : Option (Bool × D)), ρ = [some (false, iD p), some (false, iD o), some (true, iD r), some (false, .int (0 + (i : Int))), x4] ∧ r.length = p.length + o.length - 1 ∧ (∀ t, (co r t).natAbs ≤ i * 10000000000000000000000000000 + if i ≤ t ∧ t < i + j then 10000000000000000000000000000 else 0) ∧ co r (p.length + o.length - 2) = if i + 1 = p.length ∧ j = o.length then co p (p.length - 1) * co o (o.length - 1) else 0) ⟨_, _, rfl, r1, fun t => Nat.le_trans (r2 t) (Nat.le_add_right _ _), by rw [if_neg (by omega)]; exact r3⟩ ?_ ?_
    · rintro j ρ hj ⟨u, x4', rfl, u1, u2, u3⟩
      rw [if_neg (by omega)] at u3
      have hpr : (co p i * co o j).natAbs < 10000000000000000000000000000 := by
        rw [Int.natAbs_mul]
        exact Nat.lt_of_lt_of_le (Nat.mul_lt_mul_of_lt_of_lt (p4 _ (List.mem_iff_getElem?.mpr ⟨i, co_get hi⟩)) (o4 _ (List.mem_iff_getElem?.mpr ⟨j, co_get hj⟩))) (by decide)
      walk_at "d"
      refine aug_f (r := u) (m := i + j) rfl (by omega) (fun Q hQ => ?_) ?_
      · walk_at "d"
        rw [show (0 + (i : Int) + (0 + (j : Int))) = ((i + j : Nat) : Int) by omega]
        exact hQ
      · walk_at "d"
        refine ⟨.int (co p i), by rw [Int.zero_add]; exact atI_nat (by rw [List.getElem?_map, co_get (by omega)]; rfl), ?_⟩
        walk_at "d"
        refine ⟨.int (co o j), by rw [Int.zero_add]; exact atI_nat (by rw [List.getElem?_map, co_get (by omega)]; rfl), ?_⟩
        walk_at "d"
        refine ⟨mulN (m := 50) (n := 50) (Nat.lt_of_lt_of_le (p4 _ (List.mem_iff_getElem?.mpr ⟨i, co_get hi⟩)) (by decide)) (Nat.lt_of_lt_of_le (o4 _ (List.mem_iff_getElem?.mpr ⟨j, co_get hj⟩)) (by decide)) (by decide), ?_⟩
        walk_at "d"
        refine ⟨_, _, rfl, by rw [List.length_set]; exact u1, fun t => ?_, ?_⟩
        · rw [co_set (by omega)]
          have := u2 t
          by_cases h : t = i + j
          · subst h
            rw [if_pos rfl, if_pos (by omega)]
            rw [if_neg (by omega)] at this
            omega
          · rw [if_neg h]
            by_cases h' : i ≤ t ∧ t < i + j
            · rw [if_pos h'] at this; rw [if_pos (by omega)]; exact this
            · rw [if_neg h'] at this; rw [if_neg (by omega)]; exact this
        · rw [co_set (by omega)]
          by_cases h : i + 1 = p.length ∧ j + 1 = o.length
          · rw [if_pos h, if_pos (by omega), show i + j = p.length + o.length - 2 by omega, u3, show i = p.length - 1 by omega, show j = o.length - 1 by omega, Int.zero_add]
          · rw [if_neg h, if_neg (by omega)]; exact u3
    · rintro ρ ⟨u, x4', rfl, u1, u2, u3⟩
      refine ⟨u, _, _, rfl, u1, fun t => ?_, ?_⟩
      · have := u2 t
        split at this <;> omega
      · rw [u3]
        by_cases h : i + 1 = p.length
        · rw [if_pos ⟨h, rfl⟩, if_pos h]
        · rw [if_neg (fun z => h z.1), if_neg h]
  · rintro ρ ⟨r, x3, x4, rfl, r1, r2, r3⟩
    rw [if_pos (by omega)] at r3
    walk_at "d"
    refine q r (fun z => by rw [z] at r1; have r1 : 0 = _ := r1; omega) (by omega) (fun ne => ?_) fun x hx => ?_
    · rw [r1, show p.length + o.length - 1 - 1 = p.length + o.length - 2 by omega, r3]
      exact Int.mul_ne_zero (p2 p1) (o2 o1)
    · obtain ⟨i, hi⟩ := List.mem_iff_getElem?.mp hx
      have := r2 i
      rw [co_of hi] at this
      have h5 : p.length * 10000000000000000000000000000 ≤ 5 * 10000000000000000000000000000 := Nat.mul_le_mul_right _ p3
      exact Nat.le_trans this (Nat.le_trans h5 (by decide))
end
end K44

namespace K44
open PySem PySem.Spec PyProof.Rows L2 DL M44
section
variable {P : Program} {w : World} {K : PySem.W.Frag} {mg : Str → Option Value} {base : Heap}
structure PO (p : List Int) : Prop where
  ne : p ≠ []
  len : p.length ≤ 13
  tr : Tr p
  sm : ∀ x ∈ p, x.natAbs < 10 ^ 30
theorem PO.bb {p : List Int} (h : PO p) : Bb 100 p := bb_of fun x hx => Nat.lt_of_lt_of_le (h.sm x hx) (by decide)
theorem PO.sz {p o : List Int} (h : PO p) (h' : PO o) : Sz p o := .inl ⟨h.bb, h'.bb, h.len, h'.len⟩
theorem _root_.M44.Gcd.len {P O g : List Int} (h : Gcd P O g) (hP : P ≠ []) (T : Tr P) : g.length ≤ P.length := by
  obtain ⟨c, hc, k⟩ := ((h.dv _).mp (Dv.refl _)).1
  have h0 := pos_ne h.ne
  by_cases e : g.length ≤ P.length
  · exact e
  · have := ml_low (n := g.length - 1) k (fun i hi => co_lt g i (by omega)) (by have := h.pos; omega) (fun j hj => by show c * co P j = 0; rw [co_lt P j (by omega), Int.mul_zero]) (P.length - 1)
    exact absurd this (Int.mul_ne_zero hc (T hP))
theorem bls_true {α : Type} : ∀ (l : List α), boolsD (l.map fun _ => PyData.bool true) = some (l.map fun _ => true)
  | [] => rfl
  | _ :: l => by simp [boolsD, bls_true l]
theorem all_true {α : Type} : ∀ (l : List α), (l.map fun _ => true).all id = true
  | [] => rfl
  | _ :: l => by simp [all_true l]
-- _law_pair  N = [(0, '_law_script'), (1, '_law_way'), (2, '_law_part'), (3, '_law_one'), (4, '_law_other')]  cells = ['_law_way']
abbrev s_l_pair : Stmt := top 19
theorem sc_l_pair : FnScope ["_law_script", "_law_way", "_law_part", "_law_one", "_law_other"] ["_law_script"] (defScope s_l_pair) := ⟨rfl, rfl, rfl, by decide +kernel, rfl, by decide +kernel, by decide +kernel⟩
def sp_pair : SpD := fun ds Q _ => ∃ ns : List Int, ds = [scr ns] ∧ ∀ p o : List Int, PO p → PO o → Q (.tuple [iD p, iD o]) true
theorem ok_l_pair {f : Addr} {fd : FuncData} (F : Fun K "_law_pair" "_law_pair" s_l_pair f fd) (T : Blt mg) (hT : P.given.tree = none) (D_l_big : Df P w K mg base "_law_big" ["_law_script", "_law_at"] 42 (SpL K sp_big)) (D_l_poly : Df P w K mg base "_law_poly" ["_law_big_here", "_law_most", "_law_figures"] 42 (SpL K sp_poly)) (D_l_times : Df P w K mg base "_law_times" ["_law_one", "_law_other"] 41 (SpL K sp_times)) : FnOk P w K mg base CX0 43 f fd ["_law_script"] (SpL K sp_pair) := by
  refine ok0 F sc_l_pair (fun ds Q X h => ?_) (fun cdv A outer s H E hr => ?_) fun ds Qd Xd h => h
  · obtain ⟨b, rfl, _⟩ := h; rfl
  refine ⟨_, (dpss_cons (dpset 1 sc_l_pair.nd (dpe_df (by exact D_l_big) (by exact hr.mono (by omega)) (dpa_cons (dpv 0) (dpa_cons dpe_int dpa_nil))))
      (dpss_cons (dps_if (dpt_cmp (dop_eq (by rfl) (by exact hr.units)) (dpe_op dop_mod (dpv 1) dpe_int) dpe_int (nomark _)) (dpss_one (dps_ret (dpe_tup (dpa_cons (dpe_df (by exact D_l_poly) (by exact hr.mono (by omega)) (dpa_cons (dpe_df (by exact D_l_big) (by exact hr.mono (by omega)) (dpa_cons (dpv 0) (dpa_cons dpe_int dpa_nil))) (dpa_cons dpe_int (dpa_cons dpe_int dpa_nil)))) (dpa_cons (dpe_df (by exact D_l_poly) (by exact hr.mono (by omega)) (dpa_cons (dpe_df (by exact D_l_big) (by exact hr.mono (by omega)) (dpa_cons (dpv 0) (dpa_cons dpe_int dpa_nil))) (dpa_cons dpe_int (dpa_cons dpe_int dpa_nil)))) dpa_nil))))) dpss_nil)
      (dpss_cons (dpset 2 sc_l_pair.nd (dpe_df (by exact D_l_poly) (by exact hr.mono (by omega)) (dpa_cons (dpe_df (by exact D_l_big) (by exact hr.mono (by omega)) (dpa_cons (dpv 0) (dpa_cons dpe_int dpa_nil))) (dpa_cons dpe_int (dpa_cons dpe_int dpa_nil)))))
      (dpss_cons (dpset 3 sc_l_pair.nd (dpe_df (by exact D_l_times) (by exact hr.mono (by omega)) (dpa_cons (dpv 2) (dpa_cons (dpe_df (by exact D_l_poly) (by exact hr.mono (by omega)) (dpa_cons (dpe_df (by exact D_l_big) (by exact hr.mono (by omega)) (dpa_cons (dpv 0) (dpa_cons dpe_int dpa_nil))) (dpa_cons dpe_int (dpa_cons dpe_int dpa_nil)))) dpa_nil))))
      (dpss_cons (dpset 4 sc_l_pair.nd (dpe_df (by exact D_l_times) (by exact hr.mono (by omega)) (dpa_cons (dpv 2) (dpa_cons (dpe_df (by exact D_l_poly) (by exact hr.mono (by omega)) (dpa_cons (dpe_df (by exact D_l_big) (by exact hr.mono (by omega)) (dpa_cons (dpv 0) (dpa_cons dpe_int dpa_nil))) (dpa_cons dpe_int (dpa_cons dpe_int dpa_nil)))) dpa_nil))))
      (dpss_cons (dps_if (dpt_cmp (dop_eq (by rfl) (by exact hr.units)) (dpe_op dop_mod (dpe_op (dop_fdivP ⟨⟨_, _, rfl, rfl, rfl, rfl, rfl⟩⟩ (by exact hT) (by exact hr.pyl)) (dpv 1) dpe_int) dpe_int) dpe_int (nomark _)) (dpss_one (dps_setlc (i := 4) (hN := sc_l_pair.nd) (hyi := rfl) (hy := rfl) (hc := rfl) (own := ["_law_number_here"]) (cap := [("_law_way", 1)]) (L := LcScope.of (by kernel_rfl)) (hi := (dpi_list (by rfl) (dpv 3))) (hin := (fun _ _ _ _ => ⟨(dpgn 0 (nd_of (by kernel_rfl))), dpts_nil, (dpb_emit (by rfl) (by rfl) (dpe_op dop_mul (dpv 0) (dpe_op dop_add (dpe_neg dpe_int) (dpe_op dop_mul dpe_int (dpe_op dop_mod (dpe_op (dop_fdivP ⟨⟨_, _, rfl, rfl, rfl, rfl, rfl⟩⟩ (by exact hT) (by exact hr.pyl)) (dpv 1) dpe_int) dpe_int)))))⟩)))) dpss_nil)
      (dpss_one (dps_ret (dpe_tup (dpa_cons (dpv 3) (dpa_cons (dpv 4) dpa_nil))))))))))), fun ds Qd h => ?_⟩
  obtain ⟨ns, rfl, q⟩ := h
  show (_ : TSD) _ [some (false, scr ns), none, none, none, none] _
  walk_at "d"
  refine ⟨ns, 3, rfl, by omega, fun way hw => ?_⟩
  walk_at "d"
  refine ite2 (fun h1 => ?_) fun h1 => ?_
  · walk_at "d"
    refine ⟨ns, 0, rfl, by omega, fun z hz => ?_⟩
    walk_at "d"
    refine ⟨z, 30, 13, 10 ^ 30, rfl, hz, by omega, by omega, .inl ⟨rfl, rfl⟩, fun p p1 p2 p3 p4 => ?_⟩
    walk_at "d"
    refine ⟨ns, 1, rfl, by omega, fun z' hz' => ?_⟩
    walk_at "d"
    refine ⟨z', 30, 13, 10 ^ 30, rfl, hz', by omega, by omega, .inl ⟨rfl, rfl⟩, fun o o1 o2 o3 o4 => ?_⟩
    walk_at "d"
    exact q p o ⟨p1, p2, p3, p4⟩ ⟨o1, o2, o3, o4⟩
  · walk_at "d"
    refine ⟨ns, 2, rfl, by omega, fun z hz => ?_⟩
    walk_at "d"
    refine ⟨z, 14, 5, 10 ^ 14, rfl, hz, by omega, by omega, .inr ⟨rfl, rfl⟩, fun a a1 a2 a3 a4 => ?_⟩
    walk_at "d"
    refine ⟨ns, 0, rfl, by omega, fun z' hz' => ?_⟩
    walk_at "d"
    refine ⟨z', 14, 9, 10 ^ 14, rfl, hz', by omega, by omega, .inr ⟨rfl, rfl⟩, fun b b1 b2 b3 b4 => ?_⟩
    walk_at "d"
    refine ⟨a, b, rfl, a1, b1, a3, b3, a2, b2, a4, b4, fun p p1 p2 p3 p4 => ?_⟩
    walk_at "d"
    refine ⟨ns, 1, rfl, by omega, fun z' hz' => ?_⟩
    walk_at "d"
    refine ⟨z', 14, 9, 10 ^ 14, rfl, hz', by omega, by omega, .inr ⟨rfl, rfl⟩, fun c c1 c2 c3 c4 => ?_⟩
    walk_at "d"
    refine ⟨a, c, rfl, a1, c1, a3, c3, a2, c2, a4, c4, fun o o1 o2 o3 o4 => ?_⟩
    walk_at "d"
    have lt : ∀ x : Int, x.natAbs ≤ 5 * 10 ^ 28 → x.natAbs < 10 ^ 30 := fun x h => Nat.lt_of_le_of_lt h (by decide)
    have hp : PO p := ⟨p1, p2, p3, fun x hx => lt x (p4 x hx)⟩
    refine ite2 (fun h2 => ?_) fun h2 => ?_
    · walk_at "d"
      have k0 : (-3 : Int) + 2 * (way.fdiv 32 % 4) ≠ 0 ∧ (-3 + 2 * (way.fdiv 32 % 4)).natAbs ≤ 3 := by omega
      have hx30 : ∀ x ∈ p, (x * (-3 + 2 * (way.fdiv 32 % 4))).natAbs < 10 ^ 30 := fun x hx => by
        rw [Int.natAbs_mul]
        exact Nat.lt_of_le_of_lt (Nat.mul_le_mul (p4 x hx) k0.2) (by decide)
      refine lc_mapA (L := p) (fun x : Int => .int x) (fun x => .int (x * (-3 + 2 * (way.fdiv 32 % 4)))) (fun x hx es Q' hl' q' => ?_) (by omega) ?_
      · walk_at "d"
        refine ⟨CMul.ok (.inr ⟨by omega, by omega⟩), ?_⟩
        walk_at "d"
        exact q'
      generalize (-3 : Int) + 2 * (way.fdiv 32 % 4) = k at k0 hx30
      rw [show PyData.list (p.map fun x => .int (x * k)) = iD (p.map fun x => x * k) from by unfold iD; rw [List.map_map]; rfl]
      walk_at "d"
      refine q p _ hp ⟨fun z => p1 (List.map_eq_nil_iff.mp z), by rw [List.length_map]; exact p2, fun _ => ?_, fun x hx => ?_⟩
      · have := pos_ne p1
        rw [List.length_map, co_of (show (p.map fun x => x * k)[p.length - 1]? = some (co p (p.length - 1) * k) by rw [List.getElem?_map, co_get (by omega)]; rfl)]
        exact Int.mul_ne_zero (p3 p1) k0.1
      · obtain ⟨y, hy, rfl⟩ := List.mem_map.mp hx
        exact hx30 y hy
    · walk_at "d"
      exact q p o hp ⟨o1, o2, o3, fun x hx => lt x (o4 x hx)⟩
-- _law_good  N = [(0, '_law_one'), (1, '_law_other'), (2, '_law_due'), (3, '_law_turn'), (4, '_law_first'), (5, '_law_second'), (6, '_law_told')]  cells = []
abbrev s_l_good : Stmt := top 20
theorem sc_l_good : FnScope ["_law_one", "_law_other", "_law_due", "_law_turn", "_law_first", "_law_second", "_law_told"] ["_law_one", "_law_other", "_law_due"] (defScope s_l_good) := ⟨rfl, rfl, rfl, by decide +kernel, rfl, by decide +kernel, by decide +kernel⟩
def sp_good : SpD := fun ds Q _ => ∃ p o g : List Int, ds = [iD p, iD o, iD g] ∧ PO p ∧ PO o ∧ Gcd p o g ∧ Q (.bool true) true
theorem ok_l_good {f : Addr} {fd : FuncData} (F : Fun K "_law_good" "_law_good" s_l_good f fd) (T : Blt mg) (D_common_part : Df P w K mg base "common_part" ["one", "other"] 44 (SpL K sp_cp)) (D_l_whole : Df P w K mg base "_law_whole" ["_law_found"] 41 (SpL K sp_whole)) : FnOk P w K mg base CX0 45 f fd ["_law_one", "_law_other", "_law_due"] (SpL K sp_good) := by
  refine ok0 F sc_l_good (fun ds Q X h => ?_) (fun cdv A outer s H E hr => ?_) fun ds Qd Xd h => h
  · obtain ⟨p, o, g, rfl, _⟩ := h; rfl
  refine ⟨_, (dpss_cons (dps_for PassesOwn.never rfl (dpi_range1 (by rfl) (by exact T.range) (dpa_cons dpe_int dpa_nil)) (dpgn 3 sc_l_good.nd) (dpss_cons (dps_par 4 5 (by rfl) sc_l_good.nd (by rfl) (by rfl) (by decide) (by rfl) (by rfl) (dpa_cons (dpe_callTy (dcl_list (by rfl)) (by rfl) (by exact T.list) (by decide +kernel) (dpa_cons (dpv 0) dpa_nil)) (dpa_cons (dpe_callTy (dcl_list (by rfl)) (by rfl) (by exact T.list) (by decide +kernel) (dpa_cons (dpv 1) dpa_nil)) dpa_nil)) (by rfl))
      (dpss_cons (dpset 6 sc_l_good.nd (dpe_df (by exact D_common_part) (by exact hr.mono (by omega)) (dpa_cons (dpv 4) (dpa_cons (dpv 5) dpa_nil))))
      (dpss_cons (dps_if (dPWpt (dpw_or (dpt_cmp (dop_ne (by rfl) (by exact hr.units)) (dpv 4) (dpv 0) (nomark _)) (dpw_or (dpt_cmp (dop_ne (by rfl) (by exact hr.units)) (dpv 5) (dpv 1) (nomark _)) (dpw_or1 (dpt_not (dpt_val (dpe_isi (by rfl) kit_list (by rfl) (by exact T.isinstance) (dpv 6) (by rfl) (by exact T.list) (by decide +kernel)))))))) (dpss_one (dps_ret dpe_bl)) dpss_nil)
      (dpss_cons (dps_if (dPWpt (dpw_or (dpt_not (dpt_val (dpe_callB (dcl_all (by rfl) (by rfl)) (by rfl) (by exact T.all) (by decide +kernel) (dpa_cons (dpe_lc ["_law_number_here"] [] rfl (LcScope.of (by kernel_rfl)) (dpi_list (by rfl) (dpv 6)) (fun _ _ _ _ => ⟨(dpgn 0 (nd_of (by kernel_rfl))), dpts_nil, (dpb_emit (by rfl) (by rfl) (dpe_df (by exact D_l_whole) (by exact hr.mono (by omega)) (dpa_cons (dpv 0) dpa_nil)))⟩)) dpa_nil)))) (dpw_or1 (dpt_cmp (dop_ne (by rfl) (by exact hr.units)) (dpv 6) (dpv 2) (nomark _))))) (dpss_one (dps_ret dpe_bl)) dpss_nil)
      (dpss_cons (dps_append 6 (by rfl) (qpv 6) dpe_int (by rfl) (by rfl) (by rfl))
      (dpss_cons (dps_if (dPWpt (dpw_or (dpt_cmp (dop_ne (by rfl) (by exact hr.units)) (dpv 4) (dpv 0) (nomark _)) (dpw_or1 (dpt_cmp (dop_ne (by rfl) (by exact hr.units)) (dpv 5) (dpv 1) (nomark _))))) (dpss_one (dps_ret dpe_bl)) dpss_nil)
      (dpss_one (dps_append 4 (by rfl) (qpv 4) dpe_int (by rfl) (by rfl) (by rfl))))))))))
      (dpss_one (dps_ret dpe_bl))), fun ds Qd h => ?_⟩
  obtain ⟨p, o, g, rfl, hp, ho, hg, q⟩ := h
  have hgl := hg.len hp.ne hp.tr
  have hpl := hp.len
  show (_ : TSD) _ [some (false, iD p), some (false, iD o), some (false, iD g), none, none, none, none] _
  walk_at "d"
  refine lp_rng (fun i ρ => ∃ x3 x4 x5 x6 : Option (Bool × D), ρ = [some (false, iD p), some (false, iD o), some (false, iD g), x3, x4, x5, x6]) ⟨_, _, _, _, rfl⟩ ?_ ?_
  · rintro i ρ hi ⟨x3, x4, x5, x6, rfl⟩
    walk_at "d"
    refine w_par ?_
    walk_at "d"
    refine ⟨p, o, rfl, hp.ne, hp.tr, ho.tr, hp.len, hp.sz ho, fun g' hg' => ?_⟩
    have := hg'.uniq hg
    subst this
    walk_at "d"
    refine ⟨⟨lay_iD _, lay_iD _, depth_iD _⟩, ?_⟩
    rw [eqv_iD]
    show onB (PyData.bool false) _
    walk_at "d"
    refine ⟨⟨lay_iD _, lay_iD _, depth_iD _⟩, ?_⟩
    rw [eqv_iD]
    show onB (PyData.bool false) _
    walk_at "d"
    rw [if_neg (fun h => by cases h)]
    walk_at "d"
    refine lc_mapA (L := g') (fun x : Int => .int x) (fun _ => .bool true) (fun x hx es Q' hl q' => ?_) ?_ ?_
    · walk_at "d"
      refine ⟨_, rfl, ?_⟩
      walk_at "d"
      exact q'
    · omega
    walk_at "d"
    refine ⟨_, bls_true g', ?_⟩
    rw [all_true]
    walk_at "d"
    refine ⟨⟨lay_iD _, lay_iD _, depth_iD _⟩, ?_⟩
    rw [eqv_iD]
    show onB (PyData.bool false) _
    walk_at "d"
    refine w_app rfl (by rw [List.length_map]; omega) ?_
    walk_at "d"
    refine ⟨⟨lay_iD _, lay_iD _, depth_iD _⟩, ?_⟩
    rw [eqv_iD]
    show onB (PyData.bool false) _
    walk_at "d"
    refine ⟨⟨lay_iD _, lay_iD _, depth_iD _⟩, ?_⟩
    rw [eqv_iD]
    show onB (PyData.bool false) _
    walk_at "d"
    refine w_app rfl (by rw [List.length_map]; omega) ?_
    walk_at "d"
    exact ⟨_, _, _, _, rfl⟩
  · rintro ρ ⟨x3, x4, x5, x6, rfl⟩
    walk_at "d"
    exact q
-- law  N = [(0, '_law_script'), (1, '_law_one'), (2, '_law_other'), (3, '_law_due')]  cells = []
abbrev s_law : Stmt := top 21
theorem sc_law : FnScope ["_law_script", "_law_one", "_law_other", "_law_due"] ["_law_script"] (defScope s_law) := ⟨rfl, rfl, rfl, by decide +kernel, rfl, by decide +kernel, by decide +kernel⟩
def sp_lawD : SpD := fun ds Q _ => ∃ ns : List Int, ds = [scr ns] ∧ ∀ o, Q (.bool true) o
theorem ok_lawD {f : Addr} {fd : FuncData} (F : Fun K "law" "law" s_law f fd) (T : Blt mg) (D_l_pair : Df P w K mg base "_law_pair" ["_law_script"] 43 (SpL K sp_pair)) (D_l_common : Df P w K mg base "_law_common" ["_law_one", "_law_other"] 43 (SpL K sp_cp)) (D_l_good : Df P w K mg base "_law_good" ["_law_one", "_law_other", "_law_due"] 45 (SpL K sp_good)) (D_l_freed : Df P w K mg base "_law_freed" ["_law_numbers"] 41 (SpL K sp_freed)) : FnOk P w K mg base CX0 46 f fd ["_law_script"] (SpL K sp_lawD) := by
  refine ok0 F sc_law (fun ds Q X h => ?_) (fun cdv A outer s H E hr => ?_) fun ds Qd Xd h => h
  · obtain ⟨ns, rfl, _⟩ := h; rfl
  refine ⟨_, (dpss_cons (dps_unp [1, 2] 2 rfl (by rfl) (by rfl) (qpgs_cons (qpgn 1 sc_law.nd) (qpgs_cons (qpgn 2 sc_law.nd) qpgs_nil)) (by rfl) (by rfl) (dpe_df (by exact D_l_pair) (by exact hr.mono (by omega)) (dpa_cons (dpv 0) dpa_nil)))
      (dpss_cons (dpset 3 sc_law.nd (dpe_df (by exact D_l_common) (by exact hr.mono (by omega)) (dpa_cons (dpv 1) (dpa_cons (dpv 2) dpa_nil))))
      (dpss_one (dps_ret (dpe_and (dpe_df (by exact D_l_good) (by exact hr.mono (by omega)) (dpa_cons (dpv 1) (dpa_cons (dpv 2) (dpa_cons (dpv 3) dpa_nil)))) (dpe_and (dpe_df (by exact D_l_good) (by exact hr.mono (by omega)) (dpa_cons (dpv 2) (dpa_cons (dpv 1) (dpa_cons (dpv 3) dpa_nil)))) (dpe_one (dpe_df (by exact D_l_good) (by exact hr.mono (by omega)) (dpa_cons (dpv 1) (dpa_cons (dpv 1) (dpa_cons (dpe_df (by exact D_l_freed) (by exact hr.mono (by omega)) (dpa_cons (dpv 1) dpa_nil)) dpa_nil))))))))))), fun ds Qd h => ?_⟩
  obtain ⟨ns, rfl, q⟩ := h
  show (_ : TSD) _ [some (false, scr ns), none, none, none] _
  walk_at "d"
  refine ⟨ns, rfl, fun p o hp ho => ?_⟩
  have hpl := hp.len
  walk_at "d"
  refine ⟨p, o, rfl, hp.ne, hp.tr, ho.tr, hp.len, hp.sz ho, fun g hg => ?_⟩
  walk_at "d"
  refine ⟨p, o, g, rfl, hp, ho, hg, ?_⟩
  walk_at "d"
  refine ⟨o, p, g, rfl, ho, hp, hg.swap, ?_⟩
  walk_at "d"
  refine ⟨p, rfl, by omega, hp.tr, hp.ne, ?_⟩
  walk_at "d"
  refine ⟨p, p, nrm p, rfl, hp, hp, ?_, ?_⟩
  · refine gcd_end hp.ne hp.tr fun d => ⟨fun z => ⟨z.1, z.1⟩, fun z => ⟨z.1, Dv.zero d⟩⟩
  walk_at "d"
  exact q _
def sp_lawH (K : PySem.W.Frag) : Sp := fun vs H Q _ => ∃ (a : Addr) (ns : List Int), vs = [.ref a] ∧ SqL K H a (ns.map V.int) ∧ ∀ H', Q (.bl true) H'
theorem law_of {vs : List V} {H : Hp} {Q : VK} {E : XK} (h : sp_lawH K vs H Q E) : SpL K sp_lawD vs H Q E := by
  obtain ⟨a, ns, rfl, hS, q⟩ := h
  refine ⟨[scr ns], fun d _ => d = .bool true, Xf, .cons (.scr ns hS) .nil, ⟨ns, rfl, fun _ => rfl⟩, fun d o v H' e _ r => ?_, fun _ _ z _ => z.elim⟩
  subst e
  have hv : Dn K H' v (.bool true) := by
    cases o with
    | true => obtain ⟨ms, h1, _⟩ := r; exact h1.den
    | false => exact r
  cases hv
  exact q H'
theorem ok_law {f : Addr} {fd : FuncData} (F : Fun K "law" "law" s_law f fd) (T : Blt mg) (D_l_pair : Df P w K mg base "_law_pair" ["_law_script"] 43 (SpL K sp_pair)) (D_l_common : Df P w K mg base "_law_common" ["_law_one", "_law_other"] 43 (SpL K sp_cp)) (D_l_good : Df P w K mg base "_law_good" ["_law_one", "_law_other", "_law_due"] 45 (SpL K sp_good)) (D_l_freed : Df P w K mg base "_law_freed" ["_law_numbers"] 41 (SpL K sp_freed)) : FnOk P w K mg base CX0 46 f fd ["_law_script"] (sp_lawH K) := (ok_lawD F T D_l_pair D_l_common D_l_good D_l_freed).imp fun _ _ _ _ h => law_of h
end
end K44

namespace K44
open PySem PySem.Spec PyProof.Rows L2
theorem len0 (us : List Value) (h : us.length = 0) : us = [] := List.eq_nil_of_length_eq_zero h
theorem len1 (us : List Value) (h : us.length = 1) : ∃ a0, us = [a0] := by
  cases us with
  | nil => exact absurd h.symm (Nat.succ_ne_zero _)
  | cons a r =>
    have e := len0 r (Nat.succ.inj h)
    subst e
    exact ⟨a, rfl⟩
theorem len2 (us : List Value) (h : us.length = 2) : ∃ a0 a1, us = [a0, a1] := by
  cases us with
  | nil => exact absurd h.symm (Nat.succ_ne_zero _)
  | cons a r =>
    obtain ⟨a1, e⟩ := len1 r (Nat.succ.inj h)
    subst e
    exact ⟨a, a1, rfl⟩
theorem len3 (us : List Value) (h : us.length = 3) : ∃ a0 a1 a2, us = [a0, a1, a2] := by
  cases us with
  | nil => exact absurd h.symm (Nat.succ_ne_zero _)
  | cons a r =>
    obtain ⟨a1, a2, e⟩ := len2 r (Nat.succ.inj h)
    subst e
    exact ⟨a, a1, a2, rfl⟩
theorem all_mk {l : PySem.W.OpenLaw} {w : World} {K : PySem.W.Frag} {h : Heap} {mg : Str → Option Value} {fa : Addr} (X : K.In h) (G : h.Ns mainGlobals mg) (hfa : mg "law" = some (.ref fa))
    {od1 an1 : Option Addr} {sl1 : Array (Option Value)} {oc1 kV1 dc1 pm1 cd1 ct1 : Value} {f1 : Addr}
    {od2 an2 : Option Addr} {sl2 : Array (Option Value)} {oc2 kV2 dc2 pm2 cd2 ct2 : Value} {f2 : Addr}
    {od3 an3 : Option Addr} {sl3 : Array (Option Value)} {oc3 kV3 dc3 pm3 cd3 ct3 : Value} {f3 : Addr}
    {od4 an4 : Option Addr} {sl4 : Array (Option Value)} {oc4 kV4 dc4 pm4 cd4 ct4 : Value} {f4 : Addr}
    {od5 an5 : Option Addr} {sl5 : Array (Option Value)} {oc5 kV5 dc5 pm5 cd5 ct5 : Value} {f5 : Addr}
    {od6 an6 : Option Addr} {sl6 : Array (Option Value)} {oc6 kV6 dc6 pm6 cd6 ct6 : Value} {f6 : Addr}
    {od7 an7 : Option Addr} {sl7 : Array (Option Value)} {oc7 kV7 dc7 pm7 cd7 ct7 : Value} {f7 : Addr}
    {od8 an8 : Option Addr} {sl8 : Array (Option Value)} {oc8 kV8 dc8 pm8 cd8 ct8 : Value} {f8 : Addr}
    {od9 an9 : Option Addr} {sl9 : Array (Option Value)} {oc9 kV9 dc9 pm9 cd9 ct9 : Value} {f9 : Addr}
    {od10 an10 : Option Addr} {sl10 : Array (Option Value)} {oc10 kV10 dc10 pm10 cd10 ct10 : Value} {f10 : Addr}
    {od11 an11 : Option Addr} {sl11 : Array (Option Value)} {oc11 kV11 dc11 pm11 cd11 ct11 : Value} {f11 : Addr}
    {od12 an12 : Option Addr} {sl12 : Array (Option Value)} {oc12 kV12 dc12 pm12 cd12 ct12 : Value} {f12 : Addr}
    {od13 an13 : Option Addr} {sl13 : Array (Option Value)} {oc13 kV13 dc13 pm13 cd13 ct13 : Value} {f13 : Addr}
    {od14 an14 : Option Addr} {sl14 : Array (Option Value)} {oc14 kV14 dc14 pm14 cd14 ct14 : Value} {f14 : Addr}
    {od15 an15 : Option Addr} {sl15 : Array (Option Value)} {oc15 kV15 dc15 pm15 cd15 ct15 : Value} {f15 : Addr}
    {od16 an16 : Option Addr} {sl16 : Array (Option Value)} {oc16 kV16 dc16 pm16 cd16 ct16 : Value} {f16 : Addr}
    {od17 an17 : Option Addr} {sl17 : Array (Option Value)} {oc17 kV17 dc17 pm17 cd17 ct17 : Value} {f17 : Addr}
    {od18 an18 : Option Addr} {sl18 : Array (Option Value)} {oc18 kV18 dc18 pm18 cd18 ct18 : Value} {f18 : Addr}
    {od19 an19 : Option Addr} {sl19 : Array (Option Value)} {oc19 kV19 dc19 pm19 cd19 ct19 : Value} {f19 : Addr}
    (a1 : PySem.W.nsIn K mainGlobals "common_number" = some (some (.ref f1))) (l1 : K.lookup f1 = some ⟨oc1, od1, .func (PySem.W.fnOf "common_number" "common_number" (defArgs s_common_number) (defBody s_common_number) (defScope s_common_number) .none kV1 dc1 pm1 an1 cd1 ct1), sl1⟩) (c1 : PySem.W.codeIn K cd1 "common_number" = true) (k1 : PySem.W.keepIn K (.ref f1) = true)
    (a2 : PySem.W.nsIn K mainGlobals "in_least_numbers" = some (some (.ref f2))) (l2 : K.lookup f2 = some ⟨oc2, od2, .func (PySem.W.fnOf "in_least_numbers" "in_least_numbers" (defArgs s_in_least_numbers) (defBody s_in_least_numbers) (defScope s_in_least_numbers) .none kV2 dc2 pm2 an2 cd2 ct2), sl2⟩) (c2 : PySem.W.codeIn K cd2 "in_least_numbers" = true) (k2 : PySem.W.keepIn K (.ref f2) = true)
    (a3 : PySem.W.nsIn K mainGlobals "turned" = some (some (.ref f3))) (l3 : K.lookup f3 = some ⟨oc3, od3, .func (PySem.W.fnOf "turned" "turned" (defArgs s_turned) (defBody s_turned) (defScope s_turned) .none kV3 dc3 pm3 an3 cd3 ct3), sl3⟩) (c3 : PySem.W.codeIn K cd3 "turned" = true) (k3 : PySem.W.keepIn K (.ref f3) = true)
    (a4 : PySem.W.nsIn K mainGlobals "without_noughts" = some (some (.ref f4))) (l4 : K.lookup f4 = some ⟨oc4, od4, .func (PySem.W.fnOf "without_noughts" "without_noughts" (defArgs s_without_noughts) (defBody s_without_noughts) (defScope s_without_noughts) .none kV4 dc4 pm4 an4 cd4 ct4), sl4⟩) (c4 : PySem.W.codeIn K cd4 "without_noughts" = true) (k4 : PySem.W.keepIn K (.ref f4) = true)
    (a5 : PySem.W.nsIn K mainGlobals "left_over" = some (some (.ref f5))) (l5 : K.lookup f5 = some ⟨oc5, od5, .func (PySem.W.fnOf "left_over" "left_over" (defArgs s_left_over) (defBody s_left_over) (defScope s_left_over) .none kV5 dc5 pm5 an5 cd5 ct5), sl5⟩) (c5 : PySem.W.codeIn K cd5 "left_over" = true) (k5 : PySem.W.keepIn K (.ref f5) = true)
    (a6 : PySem.W.nsIn K mainGlobals "common_part" = some (some (.ref f6))) (l6 : K.lookup f6 = some ⟨oc6, od6, .func (PySem.W.fnOf "common_part" "common_part" (defArgs s_common_part) (defBody s_common_part) (defScope s_common_part) .none kV6 dc6 pm6 an6 cd6 ct6), sl6⟩) (c6 : PySem.W.codeIn K cd6 "common_part" = true) (k6 : PySem.W.keepIn K (.ref f6) = true)
    (a7 : PySem.W.nsIn K mainGlobals "_law_trim" = some (some (.ref f7))) (l7 : K.lookup f7 = some ⟨oc7, od7, .func (PySem.W.fnOf "_law_trim" "_law_trim" (defArgs s_l_trim) (defBody s_l_trim) (defScope s_l_trim) .none kV7 dc7 pm7 an7 cd7 ct7), sl7⟩) (c7 : PySem.W.codeIn K cd7 "_law_trim" = true) (k7 : PySem.W.keepIn K (.ref f7) = true)
    (a8 : PySem.W.nsIn K mainGlobals "_law_freed" = some (some (.ref f8))) (l8 : K.lookup f8 = some ⟨oc8, od8, .func (PySem.W.fnOf "_law_freed" "_law_freed" (defArgs s_l_freed) (defBody s_l_freed) (defScope s_l_freed) .none kV8 dc8 pm8 an8 cd8 ct8), sl8⟩) (c8 : PySem.W.codeIn K cd8 "_law_freed" = true) (k8 : PySem.W.keepIn K (.ref f8) = true)
    (a9 : PySem.W.nsIn K mainGlobals "_law_rest" = some (some (.ref f9))) (l9 : K.lookup f9 = some ⟨oc9, od9, .func (PySem.W.fnOf "_law_rest" "_law_rest" (defArgs s_l_rest) (defBody s_l_rest) (defScope s_l_rest) .none kV9 dc9 pm9 an9 cd9 ct9), sl9⟩) (c9 : PySem.W.codeIn K cd9 "_law_rest" = true) (k9 : PySem.W.keepIn K (.ref f9) = true)
    (a10 : PySem.W.nsIn K mainGlobals "_law_common" = some (some (.ref f10))) (l10 : K.lookup f10 = some ⟨oc10, od10, .func (PySem.W.fnOf "_law_common" "_law_common" (defArgs s_l_common) (defBody s_l_common) (defScope s_l_common) .none kV10 dc10 pm10 an10 cd10 ct10), sl10⟩) (c10 : PySem.W.codeIn K cd10 "_law_common" = true) (k10 : PySem.W.keepIn K (.ref f10) = true)
    (a11 : PySem.W.nsIn K mainGlobals "_law_cell_at" = some (some (.ref f11))) (l11 : K.lookup f11 = some ⟨oc11, od11, .func (PySem.W.fnOf "_law_cell_at" "_law_cell_at" (defArgs s_l_cell_at) (defBody s_l_cell_at) (defScope s_l_cell_at) .none kV11 dc11 pm11 an11 cd11 ct11), sl11⟩) (c11 : PySem.W.codeIn K cd11 "_law_cell_at" = true) (k11 : PySem.W.keepIn K (.ref f11) = true)
    (a12 : PySem.W.nsIn K mainGlobals "_law_big" = some (some (.ref f12))) (l12 : K.lookup f12 = some ⟨oc12, od12, .func (PySem.W.fnOf "_law_big" "_law_big" (defArgs s_l_big) (defBody s_l_big) (defScope s_l_big) .none kV12 dc12 pm12 an12 cd12 ct12), sl12⟩) (c12 : PySem.W.codeIn K cd12 "_law_big" = true) (k12 : PySem.W.keepIn K (.ref f12) = true)
    (a13 : PySem.W.nsIn K mainGlobals "_law_whole" = some (some (.ref f13))) (l13 : K.lookup f13 = some ⟨oc13, od13, .func (PySem.W.fnOf "_law_whole" "_law_whole" (defArgs s_l_whole) (defBody s_l_whole) (defScope s_l_whole) .none kV13 dc13 pm13 an13 cd13 ct13), sl13⟩) (c13 : PySem.W.codeIn K cd13 "_law_whole" = true) (k13 : PySem.W.keepIn K (.ref f13) = true)
    (a14 : PySem.W.nsIn K mainGlobals "_law_number" = some (some (.ref f14))) (l14 : K.lookup f14 = some ⟨oc14, od14, .func (PySem.W.fnOf "_law_number" "_law_number" (defArgs s_l_number) (defBody s_l_number) (defScope s_l_number) .none kV14 dc14 pm14 an14 cd14 ct14), sl14⟩) (c14 : PySem.W.codeIn K cd14 "_law_number" = true) (k14 : PySem.W.keepIn K (.ref f14) = true)
    (a15 : PySem.W.nsIn K mainGlobals "_law_poly" = some (some (.ref f15))) (l15 : K.lookup f15 = some ⟨oc15, od15, .func (PySem.W.fnOf "_law_poly" "_law_poly" (defArgs s_l_poly) (defBody s_l_poly) (defScope s_l_poly) .none kV15 dc15 pm15 an15 cd15 ct15), sl15⟩) (c15 : PySem.W.codeIn K cd15 "_law_poly" = true) (k15 : PySem.W.keepIn K (.ref f15) = true)
    (a16 : PySem.W.nsIn K mainGlobals "_law_times" = some (some (.ref f16))) (l16 : K.lookup f16 = some ⟨oc16, od16, .func (PySem.W.fnOf "_law_times" "_law_times" (defArgs s_l_times) (defBody s_l_times) (defScope s_l_times) .none kV16 dc16 pm16 an16 cd16 ct16), sl16⟩) (c16 : PySem.W.codeIn K cd16 "_law_times" = true) (k16 : PySem.W.keepIn K (.ref f16) = true)
    (a17 : PySem.W.nsIn K mainGlobals "_law_pair" = some (some (.ref f17))) (l17 : K.lookup f17 = some ⟨oc17, od17, .func (PySem.W.fnOf "_law_pair" "_law_pair" (defArgs s_l_pair) (defBody s_l_pair) (defScope s_l_pair) .none kV17 dc17 pm17 an17 cd17 ct17), sl17⟩) (c17 : PySem.W.codeIn K cd17 "_law_pair" = true) (k17 : PySem.W.keepIn K (.ref f17) = true)
    (a18 : PySem.W.nsIn K mainGlobals "_law_good" = some (some (.ref f18))) (l18 : K.lookup f18 = some ⟨oc18, od18, .func (PySem.W.fnOf "_law_good" "_law_good" (defArgs s_l_good) (defBody s_l_good) (defScope s_l_good) .none kV18 dc18 pm18 an18 cd18 ct18), sl18⟩) (c18 : PySem.W.codeIn K cd18 "_law_good" = true) (k18 : PySem.W.keepIn K (.ref f18) = true)
    (a19 : PySem.W.nsIn K mainGlobals "law" = some (some (.ref f19))) (l19 : K.lookup f19 = some ⟨oc19, od19, .func (PySem.W.fnOf "law" "law" (defArgs s_law) (defBody s_law) (defScope s_law) .none kV19 dc19 pm19 an19 cd19 ct19), sl19⟩) (c19 : PySem.W.codeIn K cd19 "law" = true) (k19 : PySem.W.keepIn K (.ref f19) = true)
    
    (ht : l.prog.given.tree = none)
    (z_len : PySem.W.nsIn K mainGlobals "len" = some none) (z_range : PySem.W.nsIn K mainGlobals "range" = some none) (z_list : PySem.W.nsIn K mainGlobals "list" = some none) (z_int : PySem.W.nsIn K mainGlobals "int" = some none) (z_isinstance : PySem.W.nsIn K mainGlobals "isinstance" = some none) (z_all : PySem.W.nsIn K mainGlobals "all" = some none) (z_zip : PySem.W.nsIn K mainGlobals "zip" = some none) (z_bool : PySem.W.nsIn K mainGlobals "bool" = some none) (z_abs : PySem.W.nsIn K mainGlobals "abs" = some none) :
    ∃ fd : FuncData, (∀ (s : Shared) (v : Value), BindsTo s fd ⟨[v], []⟩ [("_law_script", v)]) ∧ ∀ base : Heap, K.In base → base.Ns mainGlobals mg → FnOk l.prog w K mg base CX0 46 fa fd ["_law_script"] (sp_lawH K) := by
  have e := hfa.symm.trans (PySem.W.mg_of X G a19)
  cases e
  have T : Blt mg := ⟨PySem.W.mg_none_of X G z_len, PySem.W.mg_none_of X G z_range, PySem.W.mg_none_of X G z_list, PySem.W.mg_none_of X G z_int, PySem.W.mg_none_of X G z_isinstance, PySem.W.mg_none_of X G z_all, PySem.W.mg_none_of X G z_zip, PySem.W.mg_none_of X G z_bool, PySem.W.mg_none_of X G z_abs⟩
  have F1 := fun_mk (st := s_common_number) l1 c1 k1
  have b1 := F1.binds (ps := ["one", "other"]) fun _ _ _ _ _ _ us hl => by obtain ⟨_, _, e⟩ := len2 us hl; subst e; rfl
  have F2 := fun_mk (st := s_in_least_numbers) l2 c2 k2
  have b2 := F2.binds (ps := ["numbers"]) fun _ _ _ _ _ _ us hl => by obtain ⟨_, e⟩ := len1 us hl; subst e; rfl
  have F3 := fun_mk (st := s_turned) l3 c3 k3
  have b3 := F3.binds (ps := ["polynomial"]) fun _ _ _ _ _ _ us hl => by obtain ⟨_, e⟩ := len1 us hl; subst e; rfl
  have F4 := fun_mk (st := s_without_noughts) l4 c4 k4
  have b4 := F4.binds (ps := ["polynomial"]) fun _ _ _ _ _ _ us hl => by obtain ⟨_, e⟩ := len1 us hl; subst e; rfl
  have F5 := fun_mk (st := s_left_over) l5 c5 k5
  have b5 := F5.binds (ps := ["one", "other"]) fun _ _ _ _ _ _ us hl => by obtain ⟨_, _, e⟩ := len2 us hl; subst e; rfl
  have F6 := fun_mk (st := s_common_part) l6 c6 k6
  have b6 := F6.binds (ps := ["one", "other"]) fun _ _ _ _ _ _ us hl => by obtain ⟨_, _, e⟩ := len2 us hl; subst e; rfl
  have F7 := fun_mk (st := s_l_trim) l7 c7 k7
  have b7 := F7.binds (ps := ["_law_numbers"]) fun _ _ _ _ _ _ us hl => by obtain ⟨_, e⟩ := len1 us hl; subst e; rfl
  have F8 := fun_mk (st := s_l_freed) l8 c8 k8
  have b8 := F8.binds (ps := ["_law_numbers"]) fun _ _ _ _ _ _ us hl => by obtain ⟨_, e⟩ := len1 us hl; subst e; rfl
  have F9 := fun_mk (st := s_l_rest) l9 c9 k9
  have b9 := F9.binds (ps := ["_law_one", "_law_other"]) fun _ _ _ _ _ _ us hl => by obtain ⟨_, _, e⟩ := len2 us hl; subst e; rfl
  have F10 := fun_mk (st := s_l_common) l10 c10 k10
  have b10 := F10.binds (ps := ["_law_one", "_law_other"]) fun _ _ _ _ _ _ us hl => by obtain ⟨_, _, e⟩ := len2 us hl; subst e; rfl
  have F11 := fun_mk (st := s_l_cell_at) l11 c11 k11
  have b11 := F11.binds (ps := ["_law_script", "_law_k"]) fun _ _ _ _ _ _ us hl => by obtain ⟨_, _, e⟩ := len2 us hl; subst e; rfl
  have F12 := fun_mk (st := s_l_big) l12 c12 k12
  have b12 := F12.binds (ps := ["_law_script", "_law_at"]) fun _ _ _ _ _ _ us hl => by obtain ⟨_, _, e⟩ := len2 us hl; subst e; rfl
  have F13 := fun_mk (st := s_l_whole) l13 c13 k13
  have b13 := F13.binds (ps := ["_law_found"]) fun _ _ _ _ _ _ us hl => by obtain ⟨_, e⟩ := len1 us hl; subst e; rfl
  have F14 := fun_mk (st := s_l_number) l14 c14 k14
  have b14 := F14.binds (ps := ["_law_big_here", "_law_figures"]) fun _ _ _ _ _ _ us hl => by obtain ⟨_, _, e⟩ := len2 us hl; subst e; rfl
  have F15 := fun_mk (st := s_l_poly) l15 c15 k15
  have b15 := F15.binds (ps := ["_law_big_here", "_law_most", "_law_figures"]) fun _ _ _ _ _ _ us hl => by obtain ⟨_, _, _, e⟩ := len3 us hl; subst e; rfl
  have F16 := fun_mk (st := s_l_times) l16 c16 k16
  have b16 := F16.binds (ps := ["_law_one", "_law_other"]) fun _ _ _ _ _ _ us hl => by obtain ⟨_, _, e⟩ := len2 us hl; subst e; rfl
  have F17 := fun_mk (st := s_l_pair) l17 c17 k17
  have b17 := F17.binds (ps := ["_law_script"]) fun _ _ _ _ _ _ us hl => by obtain ⟨_, e⟩ := len1 us hl; subst e; rfl
  have F18 := fun_mk (st := s_l_good) l18 c18 k18
  have b18 := F18.binds (ps := ["_law_one", "_law_other", "_law_due"]) fun _ _ _ _ _ _ us hl => by obtain ⟨_, _, _, e⟩ := len3 us hl; subst e; rfl
  have F19 := fun_mk (st := s_law) l19 c19 k19
  refine ⟨PySem.W.fnOf "law" "law" (defArgs s_law) (defBody s_law) (defScope s_law) .none kV19 dc19 pm19 an19 cd19 ct19, fun s v => .of_eq rfl, fun base _ _ => ?_⟩
  have D_common_number : Df l.prog w K mg base "common_number" ["one", "other"] 41 (DL.SpL K sp_cn) := ⟨_, _, ok_common_number F1 T , PySem.W.mg_of X G a1, k1, b1⟩
  have D_in_least_numbers : Df l.prog w K mg base "in_least_numbers" ["numbers"] 42 (DL.SpL K sp_iln) := ⟨_, _, ok_in_least_numbers F2 T ht D_common_number, PySem.W.mg_of X G a2, k2, b2⟩
  have D_turned : Df l.prog w K mg base "turned" ["polynomial"] 41 (DL.SpL K sp_turn) := ⟨_, _, ok_turned F3 T , PySem.W.mg_of X G a3, k3, b3⟩
  have D_without_noughts : Df l.prog w K mg base "without_noughts" ["polynomial"] 41 (DL.SpL K sp_wn) := ⟨_, _, ok_without_noughts F4 T , PySem.W.mg_of X G a4, k4, b4⟩
  have D_left_over : Df l.prog w K mg base "left_over" ["one", "other"] 43 (DL.SpL K sp_lo) := ⟨_, _, ok_left_over F5 T D_without_noughts D_in_least_numbers, PySem.W.mg_of X G a5, k5, b5⟩
  have D_common_part : Df l.prog w K mg base "common_part" ["one", "other"] 44 (DL.SpL K sp_cp) := ⟨_, _, ok_common_part F6 T D_left_over D_in_least_numbers D_turned, PySem.W.mg_of X G a6, k6, b6⟩
  have D_l_trim : Df l.prog w K mg base "_law_trim" ["_law_numbers"] 41 (DL.SpL K sp_wn) := ⟨_, _, ok_l_trim F7 T , PySem.W.mg_of X G a7, k7, b7⟩
  have D_l_freed : Df l.prog w K mg base "_law_freed" ["_law_numbers"] 41 (DL.SpL K sp_freed) := ⟨_, _, ok_l_freed F8 T ht, PySem.W.mg_of X G a8, k8, b8⟩
  have D_l_rest : Df l.prog w K mg base "_law_rest" ["_law_one", "_law_other"] 42 (DL.SpL K sp_rest) := ⟨_, _, ok_l_rest F9 T D_l_trim, PySem.W.mg_of X G a9, k9, b9⟩
  have D_l_common : Df l.prog w K mg base "_law_common" ["_law_one", "_law_other"] 43 (DL.SpL K sp_cp) := ⟨_, _, ok_l_common F10 T D_l_rest D_l_freed, PySem.W.mg_of X G a10, k10, b10⟩
  have D_l_cell_at : Df l.prog w K mg base "_law_cell_at" ["_law_script", "_law_k"] 41 (DL.SpL K sp_cell) := ⟨_, _, ok_l_cell_at F11 T , PySem.W.mg_of X G a11, k11, b11⟩
  have D_l_big : Df l.prog w K mg base "_law_big" ["_law_script", "_law_at"] 42 (DL.SpL K sp_big) := ⟨_, _, ok_l_big F12 T D_l_cell_at, PySem.W.mg_of X G a12, k12, b12⟩
  have D_l_whole : Df l.prog w K mg base "_law_whole" ["_law_found"] 41 (DL.SpL K sp_whole) := ⟨_, _, ok_l_whole F13 T , PySem.W.mg_of X G a13, k13, b13⟩
  have D_l_number : Df l.prog w K mg base "_law_number" ["_law_big_here", "_law_figures"] 41 (DL.SpL K sp_num) := ⟨_, _, ok_l_number F14 T ht, PySem.W.mg_of X G a14, k14, b14⟩
  have D_l_poly : Df l.prog w K mg base "_law_poly" ["_law_big_here", "_law_most", "_law_figures"] 42 (DL.SpL K sp_poly) := ⟨_, _, ok_l_poly F15 T ht D_l_number, PySem.W.mg_of X G a15, k15, b15⟩
  have D_l_times : Df l.prog w K mg base "_law_times" ["_law_one", "_law_other"] 41 (DL.SpL K sp_times) := ⟨_, _, ok_l_times F16 T , PySem.W.mg_of X G a16, k16, b16⟩
  have D_l_pair : Df l.prog w K mg base "_law_pair" ["_law_script"] 43 (DL.SpL K sp_pair) := ⟨_, _, ok_l_pair F17 T ht D_l_big D_l_poly D_l_times, PySem.W.mg_of X G a17, k17, b17⟩
  have D_l_good : Df l.prog w K mg base "_law_good" ["_law_one", "_law_other", "_law_due"] 45 (DL.SpL K sp_good) := ⟨_, _, ok_l_good F18 T D_common_part D_l_whole, PySem.W.mg_of X G a18, k18, b18⟩
  exact ok_law F19 T D_l_pair D_l_common D_l_good D_l_freed
theorem walk {l : PySem.W.OpenLaw} {q : Program} {loose : List Str} {XP : (Str → Option Value) → Heap → Prop} {YP : World → Heap → Prop} {d : DefRec} {K : Params → PySem.W.Frag} (hn : l.most = some 63) (hdf : d.params.defaults = []) (hi : importsNone q = true)
    (hY : ∀ (w : World) (h : Heap), YP w h → (K w.params).In h)
    (F : ∀ (w : World) (mg : Str → Option Value) (fa : Addr) (h : Heap), (K w.params).In h → h.Ns mainGlobals mg → mg d.name = some (.ref fa) →
      ∃ fd : FuncData, (∀ (s : Shared) (u : Value), BindsTo s fd ⟨[u], []⟩ [("_law_script", u)]) ∧ ∀ base : Heap, (K w.params).In base → base.Ns mainGlobals mg → FnOk l.prog w (K w.params) mg base CX0 46 fa fd ["_law_script"] (sp_lawH (K w.params))) :
    PySem.W.WalkO q loose XP YP l.row.toRowW d [] (fun f vs => PySem.call f vs) :=
  L2.walk_of (n := 63) (k := 46) (x := "_law_script") (CX := fun _ => CX0) (sp := fun w => sp_lawH (K w.params)) hn (by decide) hdf ⟨rfl, by decide, by decide⟩ hi hY F (fun _ _ a ns hl _ hS => ⟨a, ns, rfl, hS, fun _ => rfl⟩) fun _ _ _ _ _ z => z
end K44
open PySem PySem.W PyProof.Rows
set_option maxRecDepth 100000 in
set_option maxHeartbeats 0 in
theorem PySem.Challenge.cw_foreverrows_k44_common_parts_holds : PySem.Challenge.rw_foreverrows_k44_common_parts.Holds := by
  w_on; o_law; k_head; (case hw => w_witness2)
  k_fill
  refine K44.walk (l := PySem.Challenge.rw_foreverrows_k44_common_parts) rfl rfl (by decide +kernel) (fun w h Y => PySem.W.kIn_of Y) ?F
  case F =>
    intro w mg fa h KX G hmg
    refine' K44.all_mk KX G hmg ?a1 ?l1 ?c1 ?k1 ?a2 ?l2 ?c2 ?k2 ?a3 ?l3 ?c3 ?k3 ?a4 ?l4 ?c4 ?k4 ?a5 ?l5 ?c5 ?k5 ?a6 ?l6 ?c6 ?k6 ?a7 ?l7 ?c7 ?k7 ?a8 ?l8 ?c8 ?k8 ?a9 ?l9 ?c9 ?k9 ?a10 ?l10 ?c10 ?k10 ?a11 ?l11 ?c11 ?k11 ?a12 ?l12 ?c12 ?k12 ?a13 ?l13 ?c13 ?k13 ?a14 ?l14 ?c14 ?k14 ?a15 ?l15 ?c15 ?k15 ?a16 ?l16 ?c16 ?k16 ?a17 ?l17 ?c17 ?k17 ?a18 ?l18 ?c18 ?k18 ?a19 ?l19 ?c19 ?k19 ?ht ?z_len ?z_range ?z_list ?z_int ?z_isinstance ?z_all ?z_zip ?z_bool ?z_abs
    (case a1 => k_is)
    (case l1 => k_is)
    (case c1 => k_is)
    (case k1 => k_is)
    (case a2 => k_is)
    (case l2 => k_is)
    (case c2 => k_is)
    (case k2 => k_is)
    (case a3 => k_is)
    (case l3 => k_is)
    (case c3 => k_is)
    (case k3 => k_is)
    (case a4 => k_is)
    (case l4 => k_is)
    (case c4 => k_is)
    (case k4 => k_is)
    (case a5 => k_is)
    (case l5 => k_is)
    (case c5 => k_is)
    (case k5 => k_is)
    (case a6 => k_is)
    (case l6 => k_is)
    (case c6 => k_is)
    (case k6 => k_is)
    (case a7 => k_is)
    (case l7 => k_is)
    (case c7 => k_is)
    (case k7 => k_is)
    (case a8 => k_is)
    (case l8 => k_is)
    (case c8 => k_is)
    (case k8 => k_is)
    (case a9 => k_is)
    (case l9 => k_is)
    (case c9 => k_is)
    (case k9 => k_is)
    (case a10 => k_is)
    (case l10 => k_is)
    (case c10 => k_is)
    (case k10 => k_is)
    (case a11 => k_is)
    (case l11 => k_is)
    (case c11 => k_is)
    (case k11 => k_is)
    (case a12 => k_is)
    (case l12 => k_is)
    (case c12 => k_is)
    (case k12 => k_is)
    (case a13 => k_is)
    (case l13 => k_is)
    (case c13 => k_is)
    (case k13 => k_is)
    (case a14 => k_is)
    (case l14 => k_is)
    (case c14 => k_is)
    (case k14 => k_is)
    (case a15 => k_is)
    (case l15 => k_is)
    (case c15 => k_is)
    (case k15 => k_is)
    (case a16 => k_is)
    (case l16 => k_is)
    (case c16 => k_is)
    (case k16 => k_is)
    (case a17 => k_is)
    (case l17 => k_is)
    (case c17 => k_is)
    (case k17 => k_is)
    (case a18 => k_is)
    (case l18 => k_is)
    (case c18 => k_is)
    (case k18 => k_is)
    (case a19 => k_is)
    (case l19 => k_is)
    (case c19 => k_is)
    (case k19 => k_is)
    (case z_len => k_is)
    (case z_range => k_is)
    (case z_list => k_is)
    (case z_int => k_is)
    (case z_isinstance => k_is)
    (case z_all => k_is)
    (case z_zip => k_is)
    (case z_bool => k_is)
    (case z_abs => k_is)
    (case ht => exact rfl)
