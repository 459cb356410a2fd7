import PyProof.Rows.All
import Wide.All
import OpenK.AllK
import Wide.FinOn
import Lean
import PyProof.EqAt
import PyProof.EqKinds
import PyProof.TupleCall
import PyProof.NeData
import PyProof.P3Eq
import PyProof.EnumMake
import PyProof.EnumFor
import PyProof.ConsumeWalk
import PyProof.ListRange
import PyProof.ZipIter
import KE.IntBitsLaws
import KE.RegMulBits
import PyProof.ExcArgs
import PyProof.DictWalks
import KE.KRevSl
import PyProof.DictItems
import PyProof.DictDisplay
import PyProof.SeqI3
import PySem.Challenge.RW_foreverrows_k57_laid

set_option Elab.async false
set_option linter.all false
set_option maxRecDepth 100000
/-! THE HAND LAYER, for ints, bools, texts, own classes, LISTS and tuples (index, slices, in, append, pop ..), calls, loops. Paste it whole ahead of your own text; what your proof does not reach may be deleted. -/
namespace L2
open PySem PySem.Spec PyProof.Rows

/-- a key: an int or a str -/
abbrev Key := Sum Int Str
def keyIs : Key → Value → Bool
  | .inl k, v => Value.isInt k v
  | .inr x, v => Value.isStrOf x v
def keyH (w : World) : Key → Int
  | .inl k => hashInt k
  | .inr x => hashStr w x
theorem keyIs_shape : ∀ {k : Key} {v : Value}, keyIs k v = true → (∃ i t, k = Sum.inl i ∧ v = Value.int i t) ∨ (∃ x t, k = Sum.inr x ∧ v = Value.str x t)
  | .inl i, v, h => by
    obtain ⟨t, e⟩ := Value.isInt_shape (k := i) (v := v) h
    exact .inl ⟨i, t, rfl, e⟩
  | .inr x, v, h => by
    obtain ⟨t, e⟩ := Value.isStrOf_shape (x := x) (v := v) h
    exact .inr ⟨x, t, rfl, e⟩
theorem key_ll (a b : Int) : decide ((Sum.inl a : Key) = Sum.inl b) = (a == b) := by
  by_cases e : a = b
  · subst e; simp
  · have h : ¬ (Sum.inl a : Key) = Sum.inl b := fun q => e (Sum.inl.inj q)
    rw [decide_eq_false h]
    exact (beq_eq_false_iff_ne.mpr e).symm
theorem key_rr (a b : Str) : decide ((Sum.inr a : Key) = Sum.inr b) = decide (a = b) := by
  by_cases e : a = b
  · subst e; simp
  · have h : ¬ (Sum.inr a : Key) = Sum.inr b := fun q => e (Sum.inr.inj q)
    rw [decide_eq_false h, decide_eq_false e]
theorem key_lr (a : Int) (b : Str) : decide ((Sum.inl a : Key) = Sum.inr b) = false := decide_eq_false (fun q => nomatch q)
theorem key_rl (a : Str) (b : Int) : decide ((Sum.inr a : Key) = Sum.inl b) = false := decide_eq_false (fun q => nomatch q)

def mixKind (prog : Program) (w : World) : PySem.KeyKind prog w Key where
  is := keyIs
  hash := keyH w
  inj := fun v a b ha hb => by
    rcases keyIs_shape ha with ⟨i, t, rfl, rfl⟩ | ⟨x, t, rfl, rfl⟩
    · rcases keyIs_shape hb with ⟨j, u, rfl, e⟩ | ⟨y, u, rfl, e⟩
      · injection e with e1 _; rw [e1]
      · exact nomatch e
    · rcases keyIs_shape hb with ⟨j, u, rfl, e⟩ | ⟨y, u, rfl, e⟩
      · exact nomatch e
      · injection e with e1 _; rw [e1]
  byValue := fun k v h => by
    rcases keyIs_shape h with ⟨i, t, rfl, rfl⟩ | ⟨x, t, rfl, rfl⟩ <;> rfl
  pyHash := fun hv h => by
    rcases keyIs_shape hv with ⟨i, t, rfl, rfl⟩ | ⟨x, t, rfl, rfl⟩
    · exact wpAny_pyHash_int h
    · exact wpAny_pyHash_str h
  eqBool := fun hu hv h => by
    rcases keyIs_shape hu with ⟨i, t, rfl, rfl⟩ | ⟨x, t, rfl, rfl⟩
    · rcases keyIs_shape hv with ⟨j, u, rfl, rfl⟩ | ⟨y, u, rfl, rfl⟩
      · rw [key_ll] at h; exact wpAny_eqBool_int h
      · rw [key_lr] at h; exact SeqAt.EqAt.int_str i t y u _ _ _ _ h
    · rcases keyIs_shape hv with ⟨j, u, rfl, rfl⟩ | ⟨y, u, rfl, rfl⟩
      · rw [key_rl] at h; exact SeqAt.EqAt.str_int x t j u _ _ _ _ h
      · rw [key_rr] at h; exact wpAny_eqBool_str h
  «strs» := fun k x t v h => by
    rcases keyIs_shape h with ⟨i, u, rfl, e⟩ | ⟨y, u, rfl, e⟩
    · exact nomatch e
    · injection e with e1 _
      subst e1
      cases v <;> rfl

end L2

namespace L2
open PySem PySem.Spec PyProof.Rows

/-- a value, without the heap -/
inductive V where
  | non | bl (b : Bool) | int (i : Int) | str (x : Str) | byt (b : Array UInt8) | flt (b : UInt64) | ref (a : Addr) | ty (n : String)
  deriving DecidableEq

def RelV : V → Value → Prop
  | .non, u => u = Value.none
  | .bl b, u => u = Value.bool b
  | .int i, u => ∃ t, u = Value.int i t
  | .str x, u => ∃ t, u = Value.str x t
  | .byt b, u => ∃ t, u = Value.bytes b t
  | .flt b, u => ∃ t, u = Value.float b t
  | .ref a, u => u = Value.ref a
  | .ty n, u => u = Value.type n

abbrev Vals : List V → List Value → Prop := Paired RelV
theorem Vals.length {xs : List V} {us : List Value} (r : Vals xs us) : xs.length = us.length := Paired.length r
theorem Vals.get : ∀ {xs : List V} {us : List Value} {i : Nat} {x : V}, Vals xs us → xs[i]? = some x → ∃ u, us[i]? = some u ∧ RelV x u
  | _, _, _, _, .nil, e => by simp at e
  | _, _, 0, _, .cons r _, e => by simp at e; subst e; exact ⟨_, rfl, r⟩
  | _, _, i + 1, x, .cons _ t, e => by
    obtain ⟨u, h1, h2⟩ := Vals.get (i := i) (x := x) t (by simpa using e)
    exact ⟨u, by simpa using h1, h2⟩
theorem Vals.set {x : V} {u : Value} (r : RelV x u) : ∀ {xs : List V} {us : List Value} (i : Nat), Vals xs us → Vals (xs.set i x) (us.set i u)
  | _, _, _, .nil => .nil
  | _, _, 0, .cons _ t => .cons r t
  | _, _, i + 1, .cons q t => .cons q (Vals.set r i t)
theorem Vals.append : ∀ {xs ys : List V} {us ws : List Value}, Vals xs us → Vals ys ws → Vals (xs ++ ys) (us ++ ws)
  | _, _, _, _, .nil, s => s
  | _, _, _, _, .cons r t, s => .cons r (Vals.append t s)
theorem Vals.take : ∀ {xs : List V} {us : List Value} (n : Nat), Vals xs us → Vals (xs.take n) (us.take n)
  | _, _, 0, _ => .nil
  | _, _, _ + 1, .nil => .nil
  | _, _, n + 1, .cons r t => .cons r (Vals.take n t)
theorem Vals.drop : ∀ {xs : List V} {us : List Value} (n : Nat), Vals xs us → Vals (xs.drop n) (us.drop n)
  | _, _, 0, r => r
  | _, _, _ + 1, .nil => .nil
  | _, _, n + 1, .cons _ t => Vals.drop n t
def RelO : Option V → Option Value → Prop
  | some v, some u => RelV v u
  | none, none => True
  | _, _ => False
def KV {κ : Type} : List (κ × V) → List (κ × Value) → Prop := Paired fun (p : κ × V) (q : κ × Value) => p.1 = q.1 ∧ RelV p.2 q.2

/-- a key of a dict (00_mix): an int or a text -/
def kV : Key → V
  | .inl i => .int i
  | .inr x => .str x

/-- what stands at a tracked address -/
inductive HO where
  /-- a list -/
  | lst (xs : List V)
  /-- a tuple (never changes) -/
  | tup (xs : List V)
  /-- a dict whose keys are ints and texts; one whose keys are tuples of ints and texts (the empty one is both) -/
  | dK (kvs : List (Key × V)) | dT (kvs : List (List Key × V))
  /-- a set of ints: its members, its size -/
  | set (S : Int → Bool) (n : Nat)
  /-- an instance of the class at C, its dict at dx, its attributes -/
  | ins (C dx : Addr) (fs : List (Str × V))
  /-- the dict of the instance at x -/
  | own (x : Addr)
  /-- the dict of an exception -/
  | xd (fs : List (Str × V))
  /-- a bound method, f of x -/
  | met (f x : Addr)
  /-- a range object lo, lo + 1, .. below hi -/
  | rng (lo hi : Int)
  /-- a thing that is known to the object (the script; a dict while a loop walks it): read, never written while it is so -/
  | frz (o : Obj) (u : HO)
  /-- a code object's table -/
  | tbl (ps : Array Value)
  /-- any other thing, by what is true of its one object (a def of one's own: SetO a S n := HO.ext fun h => ..) -/
  | ext (φ : Heap → Prop)

abbrev Hp := Addr → Option HO
def upd (H : Hp) (a : Addr) (o : HO) : Hp := fun b => if b = a then some o else H b
theorem upd_same {H : Hp} {a : Addr} {o : HO} : upd H a o a = some o := by unfold upd; rw [if_pos rfl]
theorem upd_ne {H : Hp} {a b : Addr} {o : HO} (h : b ≠ a) : upd H a o b = H b := by unfold upd; rw [if_neg h]
theorem upd_upd {H : Hp} {a : Addr} {o u : HO} : upd (upd H a o) a u = upd H a u := by
  funext b; unfold upd; split <;> rfl
theorem ne_of_none {H : Hp} {a b : Addr} {o : HO} (h : H a = some o) (h' : H b = none) : a ≠ b := by
  intro e; subst e; rw [h] at h'; cases h'

section
variable (P : Program) (w : World)
def ObjOk (H : Hp) (h : Heap) (a : Addr) : HO → Prop
  | .lst xs => xs.length ≤ sizeLine ∧ ∃ (its : List Value) (n : Nat), Vals xs its ∧ h.get? a = some { cls := .type "list", data := .seq its.toArray n }
  | .tup xs => xs.length ≤ sizeLine ∧ ∃ its : List Value, Vals xs its ∧ IsTup h a its.toArray
  | .dK kvs => kvs.length ≤ sizeLine ∧ (a == sysModules) = false ∧ ∃ vs, KV kvs vs ∧ h.DictOf (mixKind P w) a vs
  | .dT kvs => kvs.length ≤ sizeLine ∧ (a == sysModules) = false ∧ ∃ xs : List (List Key × Addr × Value),
      Paired (fun (p : List Key × V) (q : List Key × Addr × Value) => p.1 = q.1 ∧ H q.2.1 = some (.tup (p.1.map kV)) ∧ RelV p.2 q.2.2) kvs xs ∧
      ∃ o es ep, h.get? a = some o ∧ o.ExactDict ∧ o.data = .dict es ep ∧ es.toList = xs.map (entryOfKey (tupleKind (mixKind P w))) ∧ (xs.map (·.1)).Nodup
  | .set S n => h.SetOf (intKind P w) a S n
  | .ins C dx fs => H dx = some (.own a) ∧ fs.length ≤ 1000 ∧ dx ≠ a ∧ h.get? a = some (PySem.W.instObj C dx) ∧
      ∃ mA, h.Ns1 dx mA ∧ (∀ f, RelO (fs.lookup f) (mA f)) ∧ PySem.Within mA (fs.map (·.1))
  | .own _ => ∃ o, h.get? a = some o
  | .xd fs => ∃ mA, h.Ns1 a mA ∧ ∀ f, RelO (fs.lookup f) (mA f)
  | .rng lo hi => ∃ t u v, h.get? a = some { cls := .type "range", data := .fields #[.int lo t, .int hi u, .int 1 v] }
  | .frz o u => h.get? a = some o ∧ ObjOk H h a u
  | .tbl ps => h.get? a = some { cls := .none, data := .fields ps }
  | .met f x => h.get? a = some (PySem.W.methodObj (.ref f) (.ref x))
  | .ext φ => φ h ∧ (∃ o, h.get? a = some o) ∧ ∀ h1 h2 : Heap, φ h1 → (∀ o, h1.get? a = some o → h2.get? a = some o) → φ h2
/-- the abstract heap is held -/
def HOk (H : Hp) (h : Heap) : Prop := ∀ a o, H a = some o → ObjOk P w H h a o
end

section
variable {P : Program} {w : World} {H H' : Hp} {h h' : Heap} {a : Addr} {o : HO}
theorem ObjOk.lt (x : ObjOk P w H h a o) : a < h.objs.size := by
  cases o with
  | lst xs => obtain ⟨_, _, _, _, e⟩ := x; exact Heap.lt_size e
  | tup xs => obtain ⟨_, _, _, p⟩ := x; exact p.lt
  | dK kvs => obtain ⟨_, _, _, _, o, _, _, e, _⟩ := x; exact Heap.lt_size e
  | dT kvs => obtain ⟨_, _, _, _, o, _, _, e, _⟩ := x; exact Heap.lt_size e
  | set S n => obtain ⟨o, _, _, _, e, _⟩ := x; exact Heap.lt_size e
  | ins C dx fs => obtain ⟨_, _, _, e, _⟩ := x; exact Heap.lt_size e
  | own y => obtain ⟨_, e⟩ := x; exact Heap.lt_size e
  | xd fs => obtain ⟨_, ⟨_, _, _, e, _⟩, _⟩ := x; exact Heap.lt_size e
  | rng lo hi => obtain ⟨_, _, _, e⟩ := x; exact Heap.lt_size e
  | frz ob u => obtain ⟨e, _⟩ := x; exact Heap.lt_size e
  | tbl ps => exact Heap.lt_size (show h.get? a = some _ from x)
  | met f y => exact Heap.lt_size (show h.get? a = some _ from x)
  | ext φ => obtain ⟨_, ⟨_, e⟩, _⟩ := x; exact Heap.lt_size e
theorem Paired.mapP {α β : Type} {F G : α → β → Prop} : ∀ {l₁ : List α} {l₂ : List β}, Paired F l₁ l₂ → (∀ a b, F a b → G a b) → Paired G l₁ l₂
  | _, _, .nil, _ => .nil
  | _, _, .cons r t, f => .cons (f _ _ r) (Paired.mapP t f)
/-- what an object's description leans on: its own object, its own dict, the tuples -/
theorem ObjOk.stay (x : ObjOk P w H h a o) (k : ∀ b u, (b = a ∨ H b = some (.own a)) → h.get? b = some u → h'.get? b = some u)
    (ho : ∀ b, H b = some (.own a) → H' b = some (.own a)) (ht : ∀ b xs, H b = some (.tup xs) → H' b = some (.tup xs)) : ObjOk P w H' h' a o := by
  induction o with
  | lst xs => obtain ⟨z, its, n, r, e⟩ := x; exact ⟨z, its, n, r, k _ _ (.inl rfl) e⟩
  | tup xs => obtain ⟨z, its, r, ob, e, c⟩ := x; exact ⟨z, its, r, ob, k _ _ (.inl rfl) e, c⟩
  | dK kvs => obtain ⟨z, y, vs, r, ob, es, ep, e, c⟩ := x; exact ⟨z, y, vs, r, ob, es, ep, k _ _ (.inl rfl) e, c⟩
  | dT kvs =>
    obtain ⟨z, y, xs, r, ob, es, ep, e, c⟩ := x
    exact ⟨z, y, xs, Paired.mapP r fun p q z => ⟨z.1, ht _ _ z.2.1, z.2.2⟩, ob, es, ep, k _ _ (.inl rfl) e, c⟩
  | set S n => obtain ⟨ob, es, ep, t, e, c⟩ := x; exact ⟨ob, es, ep, t, k _ _ (.inl rfl) e, c⟩
  | ins C dx fs =>
    obtain ⟨d, z, ne, e, mA, ⟨od, es, ep, e2, c⟩, r⟩ := x
    exact ⟨ho _ d, z, ne, k _ _ (.inl rfl) e, mA, ⟨od, es, ep, k _ _ (.inr d) e2, c⟩, r⟩
  | own y => obtain ⟨ob, e⟩ := x; exact ⟨ob, k _ _ (.inl rfl) e⟩
  | xd fs => obtain ⟨mA, ⟨od, es, ep, e, c⟩, r⟩ := x; exact ⟨mA, ⟨od, es, ep, k _ _ (.inl rfl) e, c⟩, r⟩
  | rng lo hi => obtain ⟨t, u, v, e⟩ := x; exact ⟨t, u, v, k _ _ (.inl rfl) e⟩
  | frz ob u ih => obtain ⟨e, q⟩ := x; exact ⟨k _ _ (.inl rfl) e, ih q⟩
  | tbl ps =>
    have e : h.get? a = some { cls := .none, data := .fields ps } := x
    show h'.get? a = some { cls := .none, data := .fields ps }
    exact k a _ (.inl rfl) e
  | met f y =>
    have e : h.get? a = some (PySem.W.methodObj (.ref f) (.ref y)) := x
    show h'.get? a = some (PySem.W.methodObj (.ref f) (.ref y))
    exact k a _ (.inl rfl) e
  | ext φ => obtain ⟨p, ⟨o, e⟩, st⟩ := x; exact ⟨st _ _ p fun o q => k _ _ (.inl rfl) q, ⟨o, k _ _ (.inl rfl) e⟩, st⟩
theorem HOk.lt (x : HOk P w H h) (e : H a = some o) : a < h.objs.size := (x a o e).lt
theorem HOk.fresh (x : HOk P w H h) (e : h.objs.size ≤ a) : H a = none := by
  cases q : H a with
  | none => rfl
  | some u => exact absurd (Nat.lt_of_lt_of_le (x.lt q) e) (Nat.lt_irrefl _)
/-- every object of the heap is kept -/
theorem HOk.kept (x : HOk P w H h) (k : ∀ b u, h.get? b = some u → h'.get? b = some u) : HOk P w H h' := fun a o e =>
  (x a o e).stay (fun b u _ q => k b u q) (fun _ q => q) fun _ _ q => q
/-- a new object is laid and tracked -/
theorem HOk.laid (x : HOk P w H h) (k : ∀ b u, h.get? b = some u → h'.get? b = some u) (hp : h.objs.size ≤ a) (new : ObjOk P w (upd H a o) h' a o) : HOk P w (upd H a o) h' := fun b u e => by
  have hn := x.fresh hp
  by_cases hb : b = a
  · subst hb; rw [upd_same] at e; cases e; exact new
  · rw [upd_ne hb] at e
    exact (x b u e).stay (fun c v _ q => k c v q) (fun c q => by rw [upd_ne (ne_of_none q hn)]; exact q) fun c xs q => by rw [upd_ne (ne_of_none q hn)]; exact q
end

/-- what may be read as u: it is u, or a known u -/
def Rd (H : Hp) (a : Addr) (u : HO) : Prop := H a = some u ∨ ∃ o, H a = some (.frz o u)
theorem Rd.of {H : Hp} {a : Addr} {u : HO} (h : H a = some u) : Rd H a u := .inl h
theorem Rd.ok {P : Program} {w : World} {H : Hp} {h : Heap} {a : Addr} {u : HO} (r : Rd H a u) (x : HOk P w H h) : ObjOk P w H h a u := by
  rcases r with r | ⟨o, r⟩
  · exact x a u r
  · obtain ⟨_, q⟩ := x a _ r
    exact q
/-- what may be written -/
def Mut : Option HO → Prop
  | some (.lst _) => True
  | some (.dK _) => True
  | some (.dT _) => True
  | some (.set _ _) => True
  | some (.ins _ _ _) => True
  | some (.ext _) => True
  | _ => False
section
variable {P : Program} {w : World} {H : Hp} {h h' : Heap} {x e : Addr} {o' : HO}
/-- the object at e is changed: x itself, or the dict of the instance x -/
theorem HOk.write (ok : HOk P w H h) (mu : Mut (H x)) (he : e = x ∨ H e = some (.own x)) (k : ∀ b u, b ≠ e → h.get? b = some u → h'.get? b = some u) (heo : ∃ u, h'.get? e = some u)
    (new : ObjOk P w (upd H x o') h' x o') : HOk P w (upd H x o') h' := fun b u q => by
  have nown : ∀ c y, H c = some (.own y) → c ≠ x := fun c y r z => by subst z; rw [r] at mu; exact mu
  have ntup : ∀ c xs, H c = some (.tup xs) → c ≠ x := fun c xs r z => by subst z; rw [r] at mu; exact mu
  by_cases hb : b = x
  · subst hb; rw [upd_same] at q; cases q; exact new
  · rw [upd_ne hb] at q
    by_cases hbe : b = e
    · have q' : H b = some (.own x) := by
        rcases he with z | z
        · exact absurd (hbe.trans z) hb
        · rw [hbe]; exact z
      rw [q] at q'; cases q'
      obtain ⟨v, hv⟩ := heo
      exact ⟨v, by rw [hbe]; exact hv⟩
    · refine (ok b u q).stay (fun c v hc r => k c v ?_ r) (fun c r => by rw [upd_ne (nown c b r)]; exact r) fun c xs r => by rw [upd_ne (ntup c xs r)]; exact r
      rcases hc with rfl | hc
      · exact hbe
      · rintro rfl
        rcases he with z | z
        · exact nown c b hc z
        · rw [hc] at z; cases z; exact hb rfl
end

/-! ### kept unless tracked; of the frames at fs (the callers') the slots may change (an exception that passes writes there); of the records at ex (iterators) nothing is said -/
structure Un (fs ex : List Addr) (H H' : Hp) (h h' : Heap) : Prop where
  keep : ∀ b o, h.get? b = some o → H b = none → b ∉ fs → b ∉ ex → h'.get? b = some o
  slot : ∀ b o, h.get? b = some o → H b = none → b ∈ fs → b ∉ ex → ∃ sl, h'.get? b = some { o with slots := sl }
  free : ∀ b o, h.get? b = some o → H b = none → b ∉ ex → H' b = none
  there : ∀ b o, h.get? b = some o → b ∉ ex → ∃ o', h'.get? b = some o'
  tups : ∀ b xs, H b = some (.tup xs) → H' b = some (.tup xs)
  frzs : ∀ b o u, H b = some (.frz o u) → H' b = some (.frz o u)
  tbls : ∀ b ps, H b = some (.tbl ps) → ∃ more, H' b = some (.tbl (ps ++ more))
section
variable {fs fs' ex ex' : List Addr} {H H1 H2 : Hp} {h h1 h2 h' : Heap} {a x e : Addr} {o : HO}
theorem Un.any (u : Un fs ex H H1 h h1) {b : Addr} {ob : Obj} (q : h.get? b = some ob) (n : H b = none) (hx : b ∉ ex) : ∃ sl, h1.get? b = some { ob with slots := sl } := by
  by_cases hb : b ∈ fs
  · exact u.slot b ob q n hb hx
  · exact ⟨ob.slots, u.keep b ob q n hb hx⟩
theorem Un.trans (a : Un fs ex H H1 h h1) (b : Un fs ex H1 H2 h1 h2) : Un fs ex H H2 h h2 where
  keep := fun c ob q n hc hx => b.keep c ob (a.keep c ob q n hc hx) (a.free c ob q n hx) hc hx
  slot := fun c ob q n hc hx => by
    obtain ⟨sl, e1⟩ := a.slot c ob q n hc hx
    obtain ⟨sl', e2⟩ := b.slot c _ e1 (a.free c ob q n hx) hc hx
    exact ⟨sl', e2⟩
  free := fun c ob q n hx => by
    obtain ⟨o', e1⟩ := a.there c ob q hx
    exact b.free c o' e1 (a.free c ob q n hx) hx
  there := fun c ob q hx => by
    obtain ⟨o', e1⟩ := a.there c ob q hx
    exact b.there c o' e1 hx
  tups := fun c xs q => b.tups c xs (a.tups c xs q)
  frzs := fun c ob xs q => b.frzs c ob xs (a.frzs c ob xs q)
  tbls := fun c ps q => by
    obtain ⟨m1, e1⟩ := a.tbls c ps q
    obtain ⟨m2, e2⟩ := b.tbls c _ e1
    exact ⟨m1 ++ m2, by rw [e2, Array.append_assoc]⟩
theorem Un.kept (k : ∀ b u, h.get? b = some u → h'.get? b = some u) : Un fs ex H H h h' :=
  ⟨fun b ob q _ _ _ => k b ob q, fun b ob q _ _ _ => ⟨ob.slots, k b ob q⟩, fun _ _ _ n _ => n, fun b ob q _ => ⟨ob, k b ob q⟩, fun _ _ q => q, fun _ _ _ q => q, fun _ ps q => ⟨#[], by rw [q]; simp⟩⟩
theorem Un.refl : Un fs ex H H h h := Un.kept fun _ _ q => q
theorem Un.laid (k : ∀ b u, h.get? b = some u → h'.get? b = some u) (hp : h.objs.size ≤ a) (hn : H a = none) : Un fs ex H (upd H a o) h h' where
  keep := fun b u q _ _ _ => k b u q
  slot := fun b u q _ _ _ => ⟨u.slots, k b u q⟩
  free := fun b u q n _ => by rw [upd_ne (Nat.ne_of_lt (Nat.lt_of_lt_of_le (Heap.lt_size q) hp))]; exact n
  there := fun b u q _ => ⟨u, k b u q⟩
  tups := fun b xs q => by rw [upd_ne (ne_of_none q hn)]; exact q
  frzs := fun b u xs q => by rw [upd_ne (ne_of_none q hn)]; exact q
  tbls := fun b ps q => ⟨#[], by rw [upd_ne (ne_of_none q hn), q]; simp⟩
theorem Un.write (mu : Mut (H x)) (he : e = x ∨ H e = some (.own x)) (k : ∀ b u, b ≠ e → h.get? b = some u → h'.get? b = some u) (heo : ∃ u, h'.get? e = some u) : Un fs ex H (upd H x o) h h' := by
  have hx : ∀ b, H b = none → b ≠ x := fun b n z => by subst z; rw [n] at mu; exact mu
  have hb : ∀ b, H b = none → b ≠ e := fun b n z => by
    subst z
    rcases he with r | r
    · exact hx b n r
    · rw [n] at r; cases r
  have hm : ∀ b u, H b = some u → ¬ Mut (some u) → b ≠ x := fun b u q nm z => by subst z; rw [q] at mu; exact nm mu
  refine ⟨fun b u q n _ _ => k b u (hb b n) q, fun b u q n _ _ => ⟨u.slots, k b u (hb b n) q⟩, fun b u q n _ => by rw [upd_ne (hx b n)]; exact n, fun b u q _ => ?_,
    fun b xs q => by rw [upd_ne (hm b _ q fun z => z)]; exact q, fun b u xs q => by rw [upd_ne (hm b _ q fun z => z)]; exact q, fun b ps q => ⟨#[], by rw [upd_ne (hm b _ q fun z => z), q]; simp⟩⟩
  by_cases hbe : b = e
  · subst hbe; exact heo
  · exact ⟨u, k b u hbe q⟩
theorem Un.mono (u : Un fs ex H H1 h h1) (hs : ∀ b ∈ fs, b ∈ fs') (hx : ∀ b ∈ ex, b ∈ ex') : Un fs' ex' H H1 h h1 :=
  ⟨fun b ob q n hb he => u.keep b ob q n (fun z => hb (hs b z)) fun z => he (hx b z), fun _ _ q n _ he => u.any q n fun z => he (hx _ z), fun b ob q n he => u.free b ob q n fun z => he (hx b z), fun b ob q he => u.there b ob q fun z => he (hx b z), u.tups, u.frzs, u.tbls⟩
end

/-! ### the heap without what is tracked -/
def trk (h : Heap) (H : Hp) : List Addr := (List.range h.objs.size).filter fun a => (H a).isSome
def hidT (h : Heap) (H : Hp) : Heap := PySem.W.hideAll h (trk h H)
theorem hidT_size (h : Heap) (H : Hp) : (hidT h H).objs.size = h.objs.size := PySem.W.hideAll_size _ _
theorem hidT_get {h : Heap} {H : Hp} {b : Addr} {o : Obj} (e : h.get? b = some o) (n : H b = none) : (hidT h H).get? b = some o :=
  PySem.W.hideAll_get _ e fun hm => by
    have q : (H b).isSome = true := (List.mem_filter.mp hm).2
    rw [n] at q; simp at q
theorem of_hidT {h : Heap} {H : Hp} {b : Addr} {o : Obj} (e : (hidT h H).get? b = some o) : h.get? b = some o ∧ H b = none := by
  have e' : h.get? b = some o := PySem.W.of_hideAll (trk h H) e
  refine ⟨e', ?_⟩
  cases q : H b with
  | none => rfl
  | some x =>
    have hm : b ∈ trk h H := List.mem_filter.mpr ⟨List.mem_range.mpr (Heap.lt_size e'), by simp [q]⟩
    have z : (hidT h H).get? b = none := PySem.W.hideAll_none (trk h H) hm
    rw [z] at e; cases e

/-! ### OpenK's ledger, filled with every new object but one -/
def allNews (g h : Heap) (L : Addr) : List (Addr × Obj) := (List.range h.objs.size).filterMap fun a => if a = L ∨ (g.get? a).isSome = true then none else (h.get? a).map fun o => (a, o)
def rest (g h : Heap) (L d : Addr) : List (Addr × Obj) := (allNews g h L).filter fun p => decide (p.1 ≠ d)
end L2

namespace L2
open PySem PySem.Spec PyProof.Rows

/-- the module's facts, over the base: the heap at the law's entry without what is tracked there -/
structure Mod (K : PySem.W.Frag) (mg : Str → Option Value) (base : Heap) : Prop where
  kin : K.In base
  glob : base.Ns mainGlobals mg
  blt : ∃ mb, base.Ns builtinsNs mb ∧ ∀ x : Str, x ≠ "__name__" → mb x = bootBuiltins x
  nolimit : base.NoLimit

/-- the context: a def's body (or a comprehension's block) running. base: fixed through the whole law; s₀, H₀: the entry; outer: the frames whose slots others may change (a def's callers); stack: all frames that run;
   ex: iterators that were made ahead of the entry and are walked here (a comprehension's); fn: the names whose cells were made at the entry (a def: all; a comprehension's block: its own); calm: not within an except suite; pn: pins that every state bears; xe: what is wanted of an exception that leaves the code -/
structure Cx where
  prog : Program
  w : World
  K : PySem.W.Frag
  mg : Str → Option Value
  base : Heap
  A : Around
  N : List Str
  s₀ : Shared
  H₀ : Hp
  env : Env
  outer : List Env
  stack : List Env
  ex : List Addr
  fn : Str → Bool
  calm : Bool
  pn : List (Addr × Obj)
  xe : Value → Shared → Prop
/-- the callers' frames -/
def frs (l : List Env) : List Addr := l.filterMap (·.frame)
abbrev Cx.fs (X : Cx) : List Addr := frs X.outer

def Vis (sc : Scope) (x : Str) : Prop := sc.names.lookup x = some .local ∨ sc.names.lookup x = some .cell ∨ sc.names.lookup x = some .free
def Loc (sc : Scope) (x : Str) : Prop := sc.names.lookup x = some .local ∨ sc.names.lookup x = some .cell
def Look (env : Env) (h : Heap) (m : Str → Option Value) (x : Str) (u : Value) : Prop :=
  (env.kindOf x = some .local ∧ m x = some u) ∨ ((env.kindOf x = some .cell ∨ env.kindOf x = some .free) ∧ ∃ c, env.cells.lookup x = some c ∧ h.IsCell c (some u))

structure Cx.Ok (X : Cx) : Prop where
  mod : Mod X.K X.mg X.base
  kind : X.env.scope.kind = .function
  glob : X.env.globals = mainGlobals
  blt : X.env.builtins = builtinsNs
  above : X.s₀.heap.objs.size ≤ X.env.locals
  inj : ∀ x y c, X.env.cells.lookup x = some c → X.env.cells.lookup y = some c → x = y
  has : ∀ x, (X.env.kindOf x = some .cell ∨ X.env.kindOf x = some .free) → ∃ c, X.env.cells.lookup x = some c
  cab : ∀ x c, X.fn x = true → X.env.cells.lookup x = some c → X.s₀.heap.objs.size ≤ c
  hd : X.calm = true → X.A.handled = none
  frames : X.A.frames = some X.stack
  stk : X.stack = X.outer ∨ (X.stack = X.env :: X.outer ∧ X.env.frame = some X.env.locals)
  exf : ∀ b ∈ X.ex, b ≠ X.env.locals ∧ ∀ x c, X.env.cells.lookup x = some c → c ≠ b
  bs : ∀ b o, X.base.get? b = some o → X.s₀.heap.get? b = some o ∧ X.H₀ b = none
  bsz : X.base.objs.size ≤ X.s₀.heap.objs.size
  noex : ∀ b o, X.base.get? b = some o → b ∉ X.ex
  exfs : ∀ b ∈ X.ex, b ∉ X.fs
  funs : X.s₀.heap.FunFrames X.base X.outer
  frf : ∀ b ∈ X.fs, X.H₀ b = none

structure Inv (X : Cx) (pins : List (Addr × Obj)) (σ : List (Option V)) (H : Hp) (s : Shared) : Prop where
  ok : X.Ok
  os : s.os = X.s₀.os
  bare : AllBare s.gens
  base : Un X.fs X.ex X.H₀ H X.s₀.heap s.heap
  loc : ∃ m, s.heap.Ns X.env.locals m ∧ ∀ (i : Nat) (x : Str) (v : V), X.N[i]? = some x → σ[i]? = some (some v) → Vis X.env.scope x → ∃ u, RelV v u ∧ Look X.env s.heap m x u
  cell : ∀ x c, X.env.cells.lookup x = some c → ∃ v, s.heap.IsCell c v
  free : H X.env.locals = none
  freeC : ∀ x c, X.env.cells.lookup x = some c → H c = none
  pin : ∀ p ∈ X.pn ++ pins, s.heap.get? p.1 = some p.2 ∧ H p.1 = none ∧ p.1 ≠ X.env.locals ∧ p.1 ∉ X.fs ∧ ∀ v, p.2.data ≠ .cell v
  hok : HOk X.prog X.w H s.heap
  len : σ.length = X.N.length

section
variable {X : Cx} {pins : List (Addr × Obj)} {σ : List (Option V)} {H H' : Hp} {s : Shared} {h' : Heap}

theorem Cx.Ok.nofr (ok : X.Ok) {b : Addr} {o : Obj} (e : X.base.get? b = some o) : b ∉ X.fs := fun hb => by
  have := (ok.funs.mem hb).1
  rw [e] at this; cases this
theorem Inv.bs (I : Inv X pins σ H s) : ∀ b o, X.base.get? b = some o → s.heap.get? b = some o ∧ H b = none := fun b o e =>
  ⟨I.base.keep b o (I.ok.bs b o e).1 (I.ok.bs b o e).2 (I.ok.nofr e) (I.ok.noex b o e), I.base.free b o (I.ok.bs b o e).1 (I.ok.bs b o e).2 (I.ok.noex b o e)⟩
theorem Inv.bk (I : Inv X pins σ H s) : ∀ b o, X.base.get? b = some o → s.heap.get? b = some o := fun b o e => (I.bs b o e).1
theorem Inv.mod (I : Inv X pins σ H s) : Mod X.K X.mg X.base := I.ok.mod
theorem Inv.kIn (I : Inv X pins σ H s) : X.K.In s.heap := I.ok.mod.kin.keeps I.bk
theorem Inv.nolimit (I : Inv X pins σ H s) : s.heap.NoLimit := I.ok.mod.nolimit.keeps I.bk
/-- the frame over the base: for OpenK's rules (K.In X.base is I.mod.kin) -/
theorem Inv.fr (I : Inv X pins σ H s) : ∃ m, Fr X.base X.env.locals s.heap m :=
  let ⟨m, hn, _⟩ := I.loc
  ⟨m, hn, I.bk, Nat.le_trans I.ok.bsz I.ok.above⟩
theorem Inv.lt (I : Inv X pins σ H s) : X.env.locals < s.heap.objs.size := let ⟨_, hn, _⟩ := I.loc; hn.lt
theorem Inv.sz (I : Inv X pins σ H s) : X.s₀.heap.objs.size ≤ s.heap.objs.size := Nat.le_trans I.ok.above (Nat.le_of_lt I.lt)
theorem Inv.nofs (I : Inv X pins σ H s) {a : Addr} (h : s.heap.objs.size ≤ a) : a ∉ X.fs := fun hb => by
  obtain ⟨_, o, ho, _⟩ := I.ok.funs.mem hb
  exact absurd (Nat.lt_of_lt_of_le (Heap.lt_size ho) (Nat.le_trans I.sz h)) (Nat.lt_irrefl _)
theorem Inv.cne (I : Inv X pins σ H s) : ∀ x c, X.env.cells.lookup x = some c → c ≠ X.env.locals := fun x c e z => by
  obtain ⟨v, o, ho, hd⟩ := I.cell x c e
  obtain ⟨m, ⟨o', es, ep, ho', hd', _⟩, _⟩ := I.loc
  rw [z, ho'] at ho; cases ho; rw [hd'] at hd; cases hd
theorem Inv.funs (I : Inv X pins σ H s) : s.heap.FunFrames X.base X.outer := by
  have all : ∀ (l : List Env), (∀ b ∈ frs l, b ∈ X.fs) → X.s₀.heap.FunFrames X.base l → s.heap.FunFrames X.base l := by
    intro l
    induction l with
    | nil => intro _ _; trivial
    | cons env r ih =>
      intro hs hl
      obtain ⟨hk, ⟨L, o, hf, hn, ho, hd⟩, hr⟩ := hl
      have hL : L ∈ X.fs := hs L (by unfold frs; rw [List.filterMap_cons, hf]; exact List.mem_cons_self)
      obtain ⟨sl, e⟩ := I.base.slot L o ho (I.ok.frf L hL) hL fun z => I.ok.exfs L z hL
      exact ⟨hk, ⟨L, _, hf, hn, e, hd⟩, ih (fun b hb => hs b (by unfold frs; rw [List.filterMap_cons, hf]; exact List.mem_cons_of_mem _ hb)) hr⟩
  exact all X.outer (fun _ hb => hb) I.ok.funs

/-- the frames that run, for a call -/
theorem Inv.stack (I : Inv X pins σ H s) : s.heap.FunFrames X.base X.stack := by
  rcases I.ok.stk with e | ⟨e, hf⟩
  · rw [e]; exact I.funs
  · rw [e]
    obtain ⟨m, hn, _⟩ := I.loc
    refine .cons (by rw [I.ok.kind]; decide) hf hn ?_ I.funs
    exact Heap.get?_none_of_le (Nat.le_trans I.ok.bsz I.ok.above)
theorem Inv.stkSub (I : Inv X pins σ H s) : ∀ b ∈ frs X.stack, b ∈ X.env.locals :: X.fs := fun b hb => by
  rcases I.ok.stk with e | ⟨e, hf⟩
  · rw [e] at hb; exact List.mem_cons_of_mem _ hb
  · rw [e] at hb
    unfold frs at hb
    rw [List.filterMap_cons, hf] at hb
    exact hb
theorem Inv.stkFree (I : Inv X pins σ H s) : ∀ b ∈ frs X.stack, H b = none := fun b hb => by
  rcases List.mem_cons.mp (I.stkSub b hb) with e | hb
  · rw [e]; exact I.free
  · obtain ⟨_, o, ho, _⟩ := I.ok.funs.mem hb
    exact I.base.free b o ho (I.ok.frf b hb) fun z => I.ok.exfs b z hb

/-- THE STEP: the untracked objects but the frame and the records at ch are kept (the callers' frames up to slots), the frame's map is kept, the new abstract heap is held -/
theorem Inv.step {g' : Array GenState} {t' : Nat} {d' : Drawn} {ch : List Addr} (I : Inv X pins σ H s)
    (hch : ∀ b ∈ ch, (b ∈ X.ex ∨ X.s₀.heap.objs.size ≤ b) ∧ b ≠ X.env.locals ∧ (∀ x c, X.env.cells.lookup x = some c → c ≠ b) ∧ ∀ p ∈ X.pn ++ pins, p.1 ≠ b)
    (keep : ∀ b o, b ≠ X.env.locals → b ∉ X.fs → b ∉ ch → s.heap.get? b = some o → H b = none → h'.get? b = some o)
    (slot : ∀ b o, b ≠ X.env.locals → b ∈ X.fs → b ∉ ch → s.heap.get? b = some o → H b = none → ∃ sl, h'.get? b = some { o with slots := sl }) (free : ∀ b o, b ∉ ch → s.heap.get? b = some o → H b = none → H' b = none)
    (there : ∀ b o, b ∉ ch → s.heap.get? b = some o → ∃ o', h'.get? b = some o')
    (tups : ∀ b xs, H b = some (.tup xs) → H' b = some (.tup xs)) (frzs : ∀ b o u, H b = some (.frz o u) → H' b = some (.frz o u)) (tbls : ∀ b ps, H b = some (.tbl ps) → ∃ more, H' b = some (.tbl (ps ++ more)))
    (ns : ∀ m, s.heap.Ns X.env.locals m → h'.Ns X.env.locals m) (hok : HOk X.prog X.w H' h') (hg : AllBare g') :
    Inv X pins σ H' { s with heap := h', gens := g', drawn := d', toks := t' } := by
  have neL : ∀ b o, X.s₀.heap.get? b = some o → b ≠ X.env.locals := fun b o e => Nat.ne_of_lt (Nat.lt_of_lt_of_le (Heap.lt_size e) I.ok.above)
  have neC : ∀ b o, X.s₀.heap.get? b = some o → b ∉ X.ex → b ∉ ch := fun b o e hx hb => by
    rcases (hch b hb).1 with z | z
    · exact hx z
    · exact absurd (Nat.lt_of_lt_of_le (Heap.lt_size e) z) (Nat.lt_irrefl _)
  have cellK : ∀ x c, X.env.cells.lookup x = some c → ∀ v, s.heap.IsCell c v → h'.IsCell c v := fun x c e v ⟨o, ho, hd⟩ => by
    have nch : c ∉ ch := fun z => (hch c z).2.2.1 x c e rfl
    by_cases hc : c ∈ X.fs
    · obtain ⟨sl, q⟩ := slot c o (I.cne x c e) hc nch ho (I.freeC x c e)
      exact ⟨_, q, hd⟩
    · exact ⟨o, keep c o (I.cne x c e) hc nch ho (I.freeC x c e), hd⟩
  refine ⟨I.ok, I.os, hg, ⟨fun b o e n hb hx => ?_, fun b o e n hb hx => ?_, fun b o e n hx => ?_, fun b o e hx => ?_, fun b xs e => tups b xs (I.base.tups b xs e), fun b o xs e => frzs b o xs (I.base.frzs b o xs e), fun b ps e => ?_⟩, ?_, fun x c e => ?_, ?_, fun x c e => ?_, fun p hp => ?_, hok, I.len⟩
  · exact keep b o (neL b o e) hb (neC b o e hx) (I.base.keep b o e n hb hx) (I.base.free b o e n hx)
  · obtain ⟨sl, e1⟩ := I.base.slot b o e n hb hx
    obtain ⟨sl', e2⟩ := slot b _ (neL b o e) hb (neC b o e hx) e1 (I.base.free b o e n hx)
    exact ⟨sl', e2⟩
  · obtain ⟨o', e1⟩ := I.base.there b o e hx
    exact free b o' (neC b o e hx) e1 (I.base.free b o e n hx)
  · obtain ⟨o', e1⟩ := I.base.there b o e hx
    exact there b o' (neC b o e hx) e1
  · obtain ⟨m1, e1⟩ := I.base.tbls b ps e
    obtain ⟨m2, e2⟩ := tbls b _ e1
    exact ⟨m1 ++ m2, by rw [e2, Array.append_assoc]⟩
  · obtain ⟨m, hn, hl⟩ := I.loc
    refine ⟨m, ns m hn, fun i x v e1 e2 e3 => ?_⟩
    obtain ⟨u, r, l⟩ := hl i x v e1 e2 e3
    refine ⟨u, r, ?_⟩
    rcases l with l | ⟨k, c, e, z⟩
    · exact .inl l
    · exact .inr ⟨k, c, e, cellK x c e _ z⟩
  · obtain ⟨v, z⟩ := I.cell x c e
    exact ⟨v, cellK x c e v z⟩
  · obtain ⟨m, ⟨o, _, _, ho, _⟩, _⟩ := I.loc
    exact free _ o (fun z => (hch _ z).2.1 rfl) ho I.free
  · obtain ⟨v, o, ho, hd⟩ := I.cell x c e
    exact free c o (fun z => (hch c z).2.2.1 x c e rfl) ho (I.freeC x c e)
  · obtain ⟨e, n, ne, nf, d⟩ := I.pin p hp
    have nch : p.1 ∉ ch := fun z => (hch p.1 z).2.2.2 p hp rfl
    exact ⟨keep p.1 p.2 ne nf nch e n, free p.1 p.2 nch e n, ne, nf, d⟩
/-- .. where the frame's own object is kept too -/
theorem Inv.un {t' : Nat} (I : Inv X pins σ H s) (u : Un X.fs [] H H' s.heap h') (hok : HOk X.prog X.w H' h') : Inv X pins σ H' { s with heap := h', toks := t' } := by
  obtain ⟨m, ⟨o, es, ep, ho, r⟩, _⟩ := id I.loc
  obtain ⟨sl, hL⟩ := u.any ho I.free (by simp)
  exact I.step (g' := s.gens) (d' := s.drawn) (ch := []) (fun _ z => nomatch z) (fun b o _ hb _ e n => u.keep b o e n hb (by simp)) (fun b o _ hb _ e n => u.slot b o e n hb (by simp)) (fun b o _ e n => u.free b o e n (by simp)) (fun b o _ e => u.there b o e (by simp)) u.tups u.frzs u.tbls (fun m' hm => by
    obtain ⟨o', es', ep', ho', r'⟩ := hm
    rw [ho] at ho'; cases ho'
    exact ⟨_, es', ep', hL, r'⟩) hok I.bare
/-- behind a call (or a comprehension's block): the slots of this frame may have changed too, the records at ch may have turned -/
theorem Inv.call {g' : Array GenState} {t' : Nat} {d' : Drawn} {ch : List Addr} (I : Inv X pins σ H s) (u : Un (frs X.stack) ch H H' s.heap h') (hok : HOk X.prog X.w H' h') (hg : AllBare g')
    (hch : ∀ b ∈ ch, (b ∈ X.ex ∨ X.s₀.heap.objs.size ≤ b) ∧ b ≠ X.env.locals ∧ (∀ x c, X.env.cells.lookup x = some c → c ≠ b) ∧ ∀ p ∈ X.pn ++ pins, p.1 ≠ b) :
    Inv X pins σ H' { s with heap := h', gens := g', drawn := d', toks := t' } := by
  obtain ⟨m, ⟨o, es, ep, ho, r⟩, _⟩ := id I.loc
  obtain ⟨sl, hL⟩ := u.any ho I.free fun z => (hch _ z).2.1 rfl
  exact I.step (ch := ch) hch (fun b o hL hb hc e n => u.keep b o e n (fun z => (List.mem_cons.mp (I.stkSub b z)).elim hL hb) hc) (fun b o _ _ hc e n => u.any e n hc) (fun b o hc e n => u.free b o e n hc) (fun b o hc e => u.there b o e hc) u.tups u.frzs u.tbls (fun m' hm => by
    obtain ⟨o', es', ep', ho', r'⟩ := hm
    rw [ho] at ho'; cases ho'
    exact ⟨_, es', ep', hL, r'⟩) hok hg
/-- an untracked record of ours (an iterator) has turned -/
theorem Inv.turned {t' : Nat} {it : Addr} (I : Inv X pins σ H s) (k : ∀ b o, b ≠ it → s.heap.get? b = some o → h'.get? b = some o) (hn : H it = none) (hL : it ≠ X.env.locals)
    (h1 : it ∈ X.ex ∨ X.s₀.heap.objs.size ≤ it) (h2 : ∀ x c, X.env.cells.lookup x = some c → c ≠ it) (h3 : ∀ p ∈ X.pn ++ pins, p.1 ≠ it) : Inv X pins σ H { s with heap := h', toks := t' } := by
  have nit : ∀ b u, H b = some u → b ≠ it := fun b u e z => by rw [z, hn] at e; cases e
  refine I.step (g' := s.gens) (d' := s.drawn) (ch := [it]) (fun b hb => ?_) (fun b o _ _ hc e _ => k b o (fun z => hc (by simp [z])) e) (fun b o _ _ hc e _ => ⟨o.slots, k b o (fun z => hc (by simp [z])) e⟩) (fun _ _ _ _ n => n)
    (fun b o hc e => ⟨o, k b o (fun z => hc (by simp [z])) e⟩) (fun _ _ e => e) (fun _ _ _ e => e) (fun b ps e => ⟨#[], by rw [e]; simp⟩) (fun m hm => ?_) (fun b u e => ?_) I.bare
  · have e : b = it := by simpa using hb
    subst e
    exact ⟨h1, hL, h2, h3⟩
  · obtain ⟨o, es, ep, ho, r⟩ := hm
    exact ⟨o, es, ep, k _ o (Ne.symm hL) ho, r⟩
  · refine (I.hok b u e).stay (fun c v hc q => k c v ?_ q) (fun _ q => q) fun _ _ q => q
    rcases hc with z | z
    · rw [z]; exact nit b u e
    · exact nit c _ z
theorem Inv.tok (I : Inv X pins σ H s) (t : Nat) : Inv X pins σ H { s with toks := t } := I.un (h' := s.heap) (t' := t) Un.refl I.hok
/-- all objects kept -/
theorem Inv.kept {t' : Nat} (I : Inv X pins σ H s) (k : ∀ b u, s.heap.get? b = some u → h'.get? b = some u) : Inv X pins σ H { s with heap := h', toks := t' } := I.un (Un.kept k) (I.hok.kept k)
/-- a new object laid and tracked -/
theorem Inv.laid {a : Addr} {o : HO} {t' : Nat} (I : Inv X pins σ H s) (k : ∀ b u, s.heap.get? b = some u → h'.get? b = some u) (hp : s.heap.objs.size ≤ a) (new : ObjOk X.prog X.w (upd H a o) h' a o) :
    Inv X pins σ (upd H a o) { s with heap := h', toks := t' } := I.un (Un.laid k hp (I.hok.fresh hp)) (I.hok.laid k hp new)
/-- an object written -/
theorem Inv.write {x e : Addr} {o : HO} {t' : Nat} (I : Inv X pins σ H s) (mu : Mut (H x)) (he : e = x ∨ H e = some (.own x)) (k : ∀ b u, b ≠ e → s.heap.get? b = some u → h'.get? b = some u) (heo : ∃ u, h'.get? e = some u)
    (new : ObjOk X.prog X.w (upd H x o) h' x o) : Inv X pins σ (upd H x o) { s with heap := h', toks := t' } := I.un (Un.write mu he k heo) (I.hok.write mu he k heo new)
theorem Inv.pins_of {pins' : List (Addr × Obj)} (I : Inv X pins σ H s) (h : ∀ p ∈ pins', s.heap.get? p.1 = some p.2 ∧ H p.1 = none ∧ p.1 ≠ X.env.locals ∧ p.1 ∉ X.fs ∧ ∀ v, p.2.data ≠ .cell v) : Inv X pins' σ H s :=
  ⟨I.ok, I.os, I.bare, I.base, I.loc, I.cell, I.free, I.freeC, fun p hp => (List.mem_append.mp hp).elim (fun z => I.pin p (List.mem_append_left _ z)) (h p), I.hok, I.len⟩

theorem nodup_ix {N : List Str} (hN : N.Nodup) {i j : Nat} {x : Str} (a : N[i]? = some x) (b : N[j]? = some x) : i = j := by
  obtain ⟨h1, e1⟩ := List.getElem?_eq_some_iff.mp a
  obtain ⟨h2, e2⟩ := List.getElem?_eq_some_iff.mp b
  exact (List.getElem_inj hN).mp (e1.trans e2.symm)

/-- a name is stored; what changed -/
theorem store_ok2 {M : Model} {A : Around} {E : Value → Shared → Prop} {i : Nat} {x : Str} {v : V} {u : Value} {Q : Unit → Shared → Prop} (I : Inv X pins σ H s) (hN : X.N.Nodup) (hi : X.N[i]? = some x) (hx : Loc X.env.scope x) (r : RelV v u)
    (h : ∀ s', Inv X pins (σ.set i (some v)) H s' → (∃ a, Heap.SameBut a s.heap s'.heap ∧ (a = X.env.locals ∨ X.env.cells.lookup x = some a)) → Q () s') (hf : X.fn x = true ∨ X.env.scope.names.lookup x = some .local := by first | exact .inl rfl | exact .inr rfl | assumption) : wpAny M A (storeName X.env x u) Q E s := by
  obtain ⟨m, hn, hl⟩ := id I.loc
  have hcls : (X.env.scope.kind == .class || (X.env.scope.kind == .module && X.env.locals != X.env.globals)) = false := by rw [I.ok.kind]; rfl
  have hiσ : i < σ.length := by rw [I.len]; exact (List.getElem?_eq_some_iff.mp hi).1
  have cne := I.cne
  have tracked : ∀ {a : Addr} {h' : Heap}, (∃ o, s.heap.get? a = some o ∧ H a = none) → Heap.SameBut a s.heap h' → HOk X.prog X.w H h' := fun {a h'} ha hs b ob e => by
    obtain ⟨_, _, hfree⟩ := ha
    refine (I.hok b ob e).stay (fun c w' hc q => (hs.2 c ?_).trans q) (fun _ q => q) fun _ _ q => q
    rintro rfl
    rcases hc with rfl | hc
    · rw [hfree] at e; cases e
    · rw [hfree] at hc; cases hc
  rcases hx with hk | hk
  · refine wpAny_storeName_local hk hn (fun h' hn' hs => ?_) hcls
    obtain ⟨oL, _, _, hoL, _⟩ := id hn
    refine h _ ⟨I.ok, I.os, I.bare, ⟨fun b o e n hb hx => ?_, fun b o e n hb hx => ?_, I.base.free, fun b o e hx => ?_, I.base.tups, I.base.frzs, I.base.tbls⟩, ⟨_, hn', fun j y v' e1 e2 e3 => ?_⟩, fun y c e => ?_, I.free, I.freeC, fun p hp => ?_, tracked ⟨oL, hoL, I.free⟩ hs, by simpa using I.len⟩ ⟨_, hs, .inl rfl⟩
    · exact (hs.2 b (Nat.ne_of_lt (Nat.lt_of_lt_of_le (Heap.lt_size e) I.ok.above))).trans (I.base.keep b o e n hb hx)
    · obtain ⟨sl, e1⟩ := I.base.slot b o e n hb hx
      exact ⟨sl, (hs.2 b (Nat.ne_of_lt (Nat.lt_of_lt_of_le (Heap.lt_size e) I.ok.above))).trans e1⟩
    · obtain ⟨o', e1⟩ := I.base.there b o e hx
      exact ⟨o', (hs.2 b (Nat.ne_of_lt (Nat.lt_of_lt_of_le (Heap.lt_size e) I.ok.above))).trans e1⟩
    · by_cases hj : j = i
      · subst hj
        rw [hi] at e1; cases e1
        rw [List.getElem?_set_self hiσ] at e2
        cases e2
        exact ⟨u, r, .inl ⟨hk, by simp⟩⟩
      · rw [List.getElem?_set_ne (Ne.symm hj)] at e2
        obtain ⟨u', r', q⟩ := hl j y v' e1 e2 e3
        refine ⟨u', r', ?_⟩
        rcases q with ⟨k, e⟩ | ⟨k, c, e, z⟩
        · refine .inl ⟨k, ?_⟩
          have : y ≠ x := fun e => hj (nodup_ix hN e1 (e ▸ hi))
          simp [this, e]
        · exact .inr ⟨k, c, e, z.sameBut hs (cne y c e)⟩
    · obtain ⟨w', z⟩ := I.cell y c e
      exact ⟨w', z.sameBut hs (cne y c e)⟩
    · obtain ⟨e, n, ne, nf, d⟩ := I.pin p hp
      exact ⟨(hs.2 p.1 ne).trans e, n, ne, nf, d⟩
  · have hfn : X.fn x = true := by
      rcases hf with z | z
      · exact z
      · rw [z] at hk; cases hk
    obtain ⟨c, hc⟩ := I.ok.has x (.inl hk)
    obtain ⟨w', z⟩ := I.cell x c hc
    refine wpAny_storeName_cell I.ok.kind hk hc z (fun h' hc' hs => ?_)
    obtain ⟨oc, hoc, hocd⟩ := id z
    refine h { s with heap := h' } ⟨I.ok, I.os, I.bare, ⟨fun b o e n hb hx => ?_, fun b o e n hb hx => ?_, I.base.free, fun b o e hx => ?_, I.base.tups, I.base.frzs, I.base.tbls⟩, ⟨m, hn.sameBut hs (Ne.symm (cne x c hc)), fun j y v' e1 e2 e3 => ?_⟩, fun y c' e => ?_, I.free, I.freeC, fun p hp => ?_, tracked ⟨oc, hoc, I.freeC x c hc⟩ hs, by simpa using I.len⟩ ⟨c, hs, .inr hc⟩
    · exact (hs.2 b (Nat.ne_of_lt (Nat.lt_of_lt_of_le (Heap.lt_size e) (I.ok.cab x c hfn hc)))).trans (I.base.keep b o e n hb hx)
    · obtain ⟨sl, e1⟩ := I.base.slot b o e n hb hx
      exact ⟨sl, (hs.2 b (Nat.ne_of_lt (Nat.lt_of_lt_of_le (Heap.lt_size e) (I.ok.cab x c hfn hc)))).trans e1⟩
    · obtain ⟨o', e1⟩ := I.base.there b o e hx
      exact ⟨o', (hs.2 b (Nat.ne_of_lt (Nat.lt_of_lt_of_le (Heap.lt_size e) (I.ok.cab x c hfn hc)))).trans e1⟩
    · by_cases hj : j = i
      · subst hj
        rw [hi] at e1; cases e1
        rw [List.getElem?_set_self hiσ] at e2
        cases e2
        exact ⟨u, r, .inr ⟨.inl hk, c, hc, hc'⟩⟩
      · rw [List.getElem?_set_ne (Ne.symm hj)] at e2
        obtain ⟨u', r', q⟩ := hl j y v' e1 e2 e3
        refine ⟨u', r', ?_⟩
        rcases q with q | ⟨k, c', e, z'⟩
        · exact .inl q
        · refine .inr ⟨k, c', e, z'.sameBut hs ?_⟩
          rintro rfl
          exact hj (nodup_ix hN e1 (I.ok.inj _ _ _ e hc ▸ hi))
    · by_cases hcc : c' = c
      · subst hcc; exact ⟨_, hc'⟩
      · obtain ⟨w2, z2⟩ := I.cell y c' e
        exact ⟨w2, z2.sameBut hs hcc⟩
    · obtain ⟨e, n, ne, nf, d⟩ := I.pin p hp
      refine ⟨(hs.2 p.1 ?_).trans e, n, ne, nf, d⟩
      intro q
      rw [q, hoc] at e
      have q' : oc = p.2 := Option.some.inj e
      exact d w' (by rw [← q']; exact hocd)
theorem store_ok {M : Model} {A : Around} {E : Value → Shared → Prop} {i : Nat} {x : Str} {v : V} {u : Value} {Q : Unit → Shared → Prop} (I : Inv X pins σ H s) (hN : X.N.Nodup) (hi : X.N[i]? = some x) (hx : Loc X.env.scope x) (r : RelV v u)
    (h : ∀ s', Inv X pins (σ.set i (some v)) H s' → Q () s') (hf : X.fn x = true ∨ X.env.scope.names.lookup x = some .local := by first | exact .inl rfl | exact .inr rfl | assumption) : wpAny M A (storeName X.env x u) Q E s :=
  store_ok2 I hN hi hx r (fun s' I' _ => h s' I') hf
/-- behind a call or a block, the state as it is -/
theorem Inv.call' {s' : Shared} {ch : List Addr} (I : Inv X pins σ H s) (ho : s'.os = s.os) (u : Un (frs X.stack) ch H H' s.heap s'.heap) (hok : HOk X.prog X.w H' s'.heap) (hg : AllBare s'.gens)
    (hch : ∀ b ∈ ch, (b ∈ X.ex ∨ X.s₀.heap.objs.size ≤ b) ∧ b ≠ X.env.locals ∧ (∀ x c, X.env.cells.lookup x = some c → c ≠ b) ∧ ∀ p ∈ X.pn ++ pins, p.1 ≠ b) : Inv X pins σ H' s' := by
  obtain ⟨h', g', d', t', o'⟩ := s'
  have e : o' = s.os := ho
  subst e
  exact I.call (g' := g') (t' := t') (d' := d') u hok hg hch
end

/-! ### the judgements -/
/-- an exception: its class, its own dict's address (where it has one), the abstract heap behind it -/
abbrev XK := Value → Option Addr → Hp → Prop
abbrev St := List (Option V)
abbrev VK := V → Hp → Prop
/-- an expression's reading; a test's; an argument list's -/
abbrev TE := St → Hp → VK → Prop
abbrev TT := St → Hp → (Bool → Hp → Prop) → Prop
abbrev TA := St → Hp → (List V → Hp → Prop) → Prop
/-- what is wanted behind a statement -/
structure Ends where
  nx : St → Hp → Prop
  rt : VK
  bk : St → Hp → Prop := fun _ _ => False
  ct : St → Hp → Prop := fun _ _ => False
abbrev TS := Ends → St → Hp → Prop

def EP (X : Cx) (pins : List (Addr × Obj)) (σ : St) (Q : VK) (u : Value) (s' : Shared) : Prop := ∃ v H', Inv X pins σ H' s' ∧ RelV v u ∧ Q v H'
def TP (X : Cx) (pins : List (Addr × Obj)) (σ : St) (Q : Bool → Hp → Prop) (b : Bool) (s' : Shared) : Prop := ∃ H', Inv X pins σ H' s' ∧ Q b H'
def AP (X : Cx) (pins : List (Addr × Obj)) (σ : St) (Q : List V → Hp → Prop) (us : List Value) (s' : Shared) : Prop := ∃ vs H', Inv X pins σ H' s' ∧ Vals vs us ∧ Q vs H'
def SP (X : Cx) (pins : List (Addr × Obj)) (D : Ends) (f : Flow) (s' : Shared) : Prop :=
  match f with
  | .next => ∃ σ' H', Inv X pins σ' H' s' ∧ D.nx σ' H'
  | .brk => ∃ σ' H', Inv X pins σ' H' s' ∧ D.bk σ' H'
  | .cont => ∃ σ' H', Inv X pins σ' H' s' ∧ D.ct σ' H'
  | .ret u => ∃ v σ' H', Inv X pins σ' H' s' ∧ RelV v u ∧ D.rt v H'

def PE (X : Cx) (e : Expr) (t : TE) : Prop :=
  ∀ (pins : List (Addr × Obj)) (s : Shared) (σ : St) (H : Hp) (Q : VK), Inv X pins σ H s → t σ H Q → wpAny (model X.prog X.w) X.A (eval e X.env) (EP X pins σ Q) X.xe s
def PT (X : Cx) (e : Expr) (t : TT) : Prop :=
  ∀ (pins : List (Addr × Obj)) (s : Shared) (σ : St) (H : Hp) (Q : Bool → Hp → Prop), Inv X pins σ H s → t σ H Q → wpAny (model X.prog X.w) X.A (isTrue e X.env (eval e X.env)) (TP X pins σ Q) X.xe s
/-- a test whatever its 'whole' is (and, or) -/
def PW (X : Cx) (e : Expr) (t : TT) : Prop :=
  ∀ (whole : Sem Value) (pins : List (Addr × Obj)) (s : Shared) (σ : St) (H : Hp) (Q : Bool → Hp → Prop), Inv X pins σ H s → t σ H Q → wpAny (model X.prog X.w) X.A (isTrue e X.env whole) (TP X pins σ Q) X.xe s
theorem PW.pt {X : Cx} {e : Expr} {t : TT} (h : PW X e t) : PT X e t := h _
/-- an argument list (no star), from the left -/
def PA (X : Cx) (es : List Expr) (t : TA) : Prop :=
  ∀ (pos : Pos) (pins : List (Addr × Obj)) (s : Shared) (σ : St) (H : Hp) (Q : List V → Hp → Prop), Inv X pins σ H s → t σ H Q → wpAny (model X.prog X.w) X.A (spliced (backTo pos (starEach es X.env))) (AP X pins σ Q) X.xe s
def PS (X : Cx) (st : Stmt) (t : TS) : Prop :=
  ∀ (pins : List (Addr × Obj)) (s : Shared) (σ : St) (H : Hp) (D : Ends), Inv X pins σ H s → t D σ H → wpAny (model X.prog X.w) X.A (exec st X.env) (SP X pins D) X.xe s
def PSs (X : Cx) (st : List Stmt) (t : TS) : Prop :=
  ∀ (pins : List (Addr × Obj)) (s : Shared) (σ : St) (H : Hp) (D : Ends), Inv X pins σ H s → t D σ H → wpAny (model X.prog X.w) X.A (execs st X.env) (SP X pins D) X.xe s
/-- weaken the end -/
theorem thn {α : Type} {t : Sem α} {Q Q' : α → Shared → Prop} {M : Model} {A : Around} {E : Value → Shared → Prop} {s : Shared} (h : wpAny M A t Q E s) (hQ : ∀ a s, Q a s → Q' a s) : wpAny M A t Q' E s := wpAny_mono h hQ fun _ _ x => x
end L2

namespace L2
open PySem PySem.Spec PyProof.Rows
section
variable {X : Cx}

/-! ### names and constants -/
def tVar (i : Nat) : TE := fun σ H Q => ∃ v, σ[i]? = some (some v) ∧ Q v H
def tC (v : V) : TE := fun _ H Q => Q v H
theorem pe_var {i : Nat} {x : Str} {pos : Pos} (hN : X.N[i]? = some x) (hv : Vis X.env.scope x) (hd : (x == ("__debug__" : Str)) = false := by decide) (hcd : (x == ("__classdict__" : Str)) = false := by decide) : PE X (.Name x pos) (tVar i) := by
  intro pins s σ H Q I h
  obtain ⟨v, e, h⟩ := h
  obtain ⟨m, hn, hl⟩ := I.loc
  obtain ⟨u, r, l⟩ := hl i x v hN e hv
  have fin : EP X pins σ Q u s := ⟨v, H, I, r, h⟩
  rcases l with ⟨hk, hm⟩ | ⟨hk, c, hc, hcell⟩
  · exact wpAny_Name (wpAny_loadName_local I.ok.kind hk hn hm fin) hd
  · rcases hk with hk | hk
    · exact wpAny_Name (wpAny_loadName_cell I.ok.kind hk hc hcell fin) hd
    · exact wpAny_Name (wpAny_loadName_free I.ok.kind hk hc hcell fin hcd) hd
theorem pe_int {i j pos} : PE X (.Constant (.int i) j pos) (tC (.int i)) := fun _ _ _ H _ I h => wpAny_Constant_int ⟨.int i, H, I.tok _, ⟨_, rfl⟩, h⟩
theorem pe_bl {b j pos} : PE X (.Constant (.bool b) j pos) (tC (.bl b)) := fun _ _ _ H _ I h => Constant_bool ⟨.bl b, H, I, rfl, h⟩
theorem pe_non {j pos} : PE X (.Constant .none j pos) (tC .non) := fun _ _ _ H _ I h => Constant_none ⟨.non, H, I, rfl, h⟩
theorem pe_str {x j pos} : PE X (.Constant (.str x) j pos) (tC (.str x)) := fun _ _ _ H _ I h => Calls.Constant_str ⟨.str x, H, I.tok _, ⟨_, rfl⟩, h⟩

/-- a global name of the def -/
def Gl (X : Cx) (x : Str) : Prop := X.env.kindOf x = some .globalImplicit
theorem ld_glob {E : Value → Shared → Prop} {pins : List (Addr × Obj)} {s : Shared} {σ : St} {H : Hp} {x : Str} {u : Value} {pos : Pos} {Q : Value → Shared → Prop} (I : Inv X pins σ H s) (hg : Gl X x) (hm : X.mg x = some u) (h : Q u s)
    (hd : (x == ("__debug__" : Str)) = false := by decide) : wpAny (model X.prog X.w) X.A (eval (.Name x pos) X.env) Q E s :=
  Calls.Name_function_global I.ok.kind hg (Calls.loadGlobal_global (by rw [I.ok.glob]; exact I.mod.glob.keeps I.bk) hm h) hd
theorem ld_blt {E : Value → Shared → Prop} {pins : List (Addr × Obj)} {s : Shared} {σ : St} {H : Hp} {x : Str} {u : Value} {pos : Pos} {Q : Value → Shared → Prop} (I : Inv X pins σ H s) (hg : Gl X x) (hm : X.mg x = none) (hv : bootBuiltins x = some u) (h : Q u s)
    (hn : x ≠ "__name__" := by decide) (hd : (x == ("__debug__" : Str)) = false := by decide) : wpAny (model X.prog X.w) X.A (eval (.Name x pos) X.env) Q E s := by
  obtain ⟨mb, h1, h2⟩ := I.mod.blt
  exact Calls.Name_function_global I.ok.kind hg (Calls.loadGlobal_builtin (by rw [I.ok.glob]; exact I.mod.glob.keeps I.bk) hm (by rw [I.ok.blt]; exact h1.keeps I.bk) ((h2 x hn).trans hv) h) hd
/-- a module's constant, a class, a function, as a value -/
theorem pe_glob {x : Str} {v : V} {u : Value} {pos : Pos} (hg : Gl X x) (hm : X.mg x = some u) (r : RelV v u) (hd : (x == ("__debug__" : Str)) = false := by decide) : PE X (.Name x pos) (tC v) :=
  fun _ _ _ H _ I h => ld_glob I hg hm ⟨v, H, I, r, h⟩ hd
theorem pe_bltn {x : Str} {v : V} {u : Value} {pos : Pos} (hg : Gl X x) (hm : X.mg x = none) (hv : bootBuiltins x = some u) (r : RelV v u) (hn : x ≠ "__name__" := by decide) (hd : (x == ("__debug__" : Str)) = false := by decide) : PE X (.Name x pos) (tC v) :=
  fun _ _ _ H _ I h => ld_blt I hg hm hv ⟨v, H, I, r, h⟩ hn hd

/-! ### arithmetic -/
variable {a b : Expr} {ta tb : TE} {pos : Pos}
/-! ### comparisons -/
/-- a comparison as a value, as a test -/
def tB (t : TE) : TT := fun σ H Q => t σ H fun x H1 => ∃ c, x = .bl c ∧ Q c H1
/-- an expression whose value is a bool, as a test -/
theorem pt_val {e : Expr} {t : TE} (h : PE X e t) (he : ∀ whole, isTrue e X.env whole = (do let v ← whole; standAt e.pos; holding [v] (truthy v)) := by intro _; rfl) : PT X e (tB t) := by
  intro pins s σ H Q I hw
  refine isTrue_plain (thn (h pins s σ H _ I hw) fun v s1 ⟨x, H1, I1, r1, q1⟩ => ?_) (he _)
  obtain ⟨d, rfl, q⟩ := q1
  cases r1
  exact wpAny_truthy_bool ⟨H1, I1, q⟩

/-! ### and, or, not -/
variable {tA tB' : TT} {rest : List Expr}
def tAnd (t u : TT) : TT := fun σ H Q => t σ H fun c H1 => if c = true then u σ H1 Q else Q false H1
def tOr (t u : TT) : TT := fun σ H Q => t σ H fun c H1 => if c = true then Q true H1 else u σ H1 Q
def tNot (t : TT) : TT := fun σ H Q => t σ H fun c H1 => Q (!c) H1
theorem pw_or1 (ha : PT X a tA) : PW X (.BoolOp .Or [a] pos) tA := by
  intro wh pins s σ H Q I h
  refine isTrue_or (thn (ha pins s σ H Q I h) fun c s1 e => ?_)
  cases c with
  | false => exact isTrue_or_nil e
  | true => exact e
theorem pw_or (ha : PT X a tA) (hb : PW X (.BoolOp .Or (b :: rest) pos) tB') : PW X (.BoolOp .Or (a :: b :: rest) pos) (tOr tA tB') := by
  intro wh pins s σ H Q I h
  refine isTrue_or (thn (ha pins s σ H _ I h) fun c s1 ⟨H1, I1, q1⟩ => ?_)
  cases c with
  | true => exact ⟨H1, I1, q1⟩
  | false => exact hb wh pins s1 σ H1 Q I1 q1
theorem pt_not (ha : PT X a tA) : PT X (.UnaryOp .Not a pos) (tNot tA) := by
  intro pins s σ H Q I h
  exact isTrue_not (ha pins s σ H (fun c H1 => Q (!c) H1) I h)
/-- .. as values (bools) -/
def tAndV (ta tb : TE) : TE := fun σ H Q => ta σ H fun x H1 => ∃ c, x = .bl c ∧ if c = true then tb σ H1 Q else Q (.bl false) H1
def tOrV (ta tb : TE) : TE := fun σ H Q => ta σ H fun x H1 => ∃ c, x = .bl c ∧ if c = true then Q (.bl true) H1 else tb σ H1 Q
def tNotV (ta : TE) : TE := fun σ H Q => ta σ H fun x H1 => ∃ c, x = .bl c ∧ Q (.bl (!c)) H1
theorem pe_one {op} {t : TE} (h : PE X a t) : PE X (.BoolOp op [a] pos) t := fun pins s σ H Q I hw => BoolOp_one (h pins s σ H Q I hw)
theorem pe_and (ha : PE X a ta) (hb : PE X (.BoolOp .And (b :: rest) pos) tb) : PE X (.BoolOp .And (a :: b :: rest) pos) (tAndV ta tb) := by
  intro pins s σ H Q I h
  refine BoolOp_and (thn (ha pins s σ H _ I h) fun v s1 ⟨x, H1, I1, r1, q1⟩ => ?_)
  obtain ⟨c, rfl, q1⟩ := q1
  cases r1
  refine wpAny_truthy_bool ?_
  cases c with
  | true => exact hb pins s1 σ H1 Q I1 q1
  | false => exact ⟨.bl false, H1, I1, rfl, q1⟩
theorem pe_not (ha : PE X a ta) : PE X (.UnaryOp .Not a pos) (tNotV ta) := by
  intro pins s σ H Q I h
  refine UnaryOp_ (thn (ha pins s σ H _ I h) fun v s1 ⟨x, H1, I1, r1, q1⟩ => ?_)
  obtain ⟨c, rfl, q1⟩ := q1
  cases r1
  exact not_of (wpAny_truthy_bool ⟨.bl (!c), H1, I1, rfl, q1⟩)
/-- a if t else b -/
def tIf (t : TT) (ta tb : TE) : TE := fun σ H Q => t σ H fun c H1 => if c = true then ta σ H1 Q else tb σ H1 Q
theorem pe_ifExp {c : Expr} (hc : PT X c tA) (ha : PE X a ta) (hb : PE X b tb) : PE X (.IfExp c a b pos) (tIf tA ta tb) := by
  intro pins s σ H Q I h
  refine wpAny_IfExp (thn (hc pins s σ H _ I h) fun d s1 ⟨H1, I1, q1⟩ => ?_)
  cases d with
  | true => exact ha pins s1 σ H1 Q I1 q1
  | false => exact hb pins s1 σ H1 Q I1 q1
end
end L2

namespace L2
open PySem PySem.Spec PyProof.Rows

/-! ### a list, a tuple that is read: tracked, frozen, or an object of the module -/
def SqL (K : PySem.W.Frag) (H : Hp) (a : Addr) (xs : List V) : Prop :=
  Rd H a (.lst xs) ∨
    ∃ (o : Obj) (its : Array Value) (n : Nat), K.lookup a = some o ∧ o.cls = .type "list" ∧ o.dict = none ∧ o.data = .seq its n ∧ its.size ≤ sizeLine ∧ Vals xs its.toList
def SqT (K : PySem.W.Frag) (H : Hp) (a : Addr) (xs : List V) : Prop :=
  Rd H a (.tup xs) ∨
    ∃ (o : Obj) (its : Array Value) (n : Nat), K.lookup a = some o ∧ o.cls = .type "tuple" ∧ o.data = .seq its n ∧ its.size ≤ sizeLine ∧ Vals xs its.toList
def absV : Value → Option V
  | .none => some .non
  | .bool b => some (.bl b)
  | .int i _ => some (.int i)
  | .str x _ => some (.str x)
  | .bytes b _ => some (.byt b)
  | .float b _ => some (.flt b)
  | .ref a => some (.ref a)
  | .type n => some (.ty n)
  | _ => none
theorem RelV.abs {x : V} {u : Value} (r : RelV x u) : absV u = some x := by
  cases x with
  | non => cases r; rfl
  | bl _ => cases r; rfl
  | int _ => obtain ⟨t, rfl⟩ := r; rfl
  | str _ => obtain ⟨t, rfl⟩ := r; rfl
  | byt _ => obtain ⟨t, rfl⟩ := r; rfl
  | flt _ => obtain ⟨t, rfl⟩ := r; rfl
  | ref _ => cases r; rfl
  | ty _ => cases r; rfl
theorem RelV.inj {x y : V} {u : Value} (r : RelV x u) (q : RelV y u) : x = y := Option.some.inj (r.abs.symm.trans q.abs)
theorem Vals.inj : ∀ {xs ys : List V} {us : List Value}, Vals xs us → Vals ys us → xs = ys
  | _, _, _, .nil, .nil => rfl
  | _, _, _, .cons r t, .cons r' t' => by rw [r.inj r', Vals.inj t t']
section
variable {X : Cx} {pins : List (Addr × Obj)} {σ : St} {H : Hp} {s : Shared} {a : Addr} {xs ys : List V}
theorem SqL.of {K : PySem.W.Frag} (h : H a = some (.lst xs)) : SqL K H a xs := .inl (.inl h)
theorem SqT.of {K : PySem.W.Frag} (h : H a = some (.tup xs)) : SqT K H a xs := .inl (.inl h)
theorem Inv.list (I : Inv X pins σ H s) (h : SqL X.K H a xs) : ∃ its : List Value, Vals xs its ∧ PlainL s.heap a its.toArray ∧ xs.length ≤ sizeLine := by
  rcases h with h | ⟨o, its, n, hk, hc, hd, hs, hz, r⟩
  · obtain ⟨z, its, n, r, e⟩ := h.ok I.hok
    exact ⟨its, r, ⟨_, n, e, rfl, rfl, rfl⟩, z⟩
  · refine ⟨its.toList, r, ⟨o, n, I.kIn a o hk, hc, hd, by simpa using hs⟩, ?_⟩
    have e := r.length
    simp only [Array.length_toList] at e
    omega
theorem Inv.tuple (I : Inv X pins σ H s) (h : SqT X.K H a xs) : ∃ its : List Value, Vals xs its ∧ IsTup s.heap a its.toArray ∧ xs.length ≤ sizeLine := by
  rcases h with h | ⟨o, its, n, hk, hc, hs, hz, r⟩
  · obtain ⟨z, its, r, p⟩ := h.ok I.hok
    exact ⟨its, r, p, z⟩
  · refine ⟨its.toList, r, ⟨o, I.kIn a o hk, hc, n, by simpa using hs⟩, ?_⟩
    have e := r.length
    simp only [Array.length_toList] at e
    omega
theorem Inv.list_inj (I : Inv X pins σ H s) (h : SqL X.K H a xs) (h' : SqL X.K H a ys) : xs = ys := by
  obtain ⟨its, r, ⟨o, n, e, _, _, d⟩, _⟩ := I.list h
  obtain ⟨its', r', ⟨o', n', e', _, _, d'⟩, _⟩ := I.list h'
  rw [e] at e'; cases e'
  rw [d] at d'
  injection d' with d1 _
  have : its = its' := by simpa using congrArg Array.toList d1
  subst this
  exact r.inj r'
theorem Inv.tuple_inj (I : Inv X pins σ H s) (h : SqT X.K H a xs) (h' : SqT X.K H a ys) : xs = ys := by
  obtain ⟨its, r, ⟨o, e, _, n, d⟩, _⟩ := I.tuple h
  obtain ⟨its', r', ⟨o', e', _, n', d'⟩, _⟩ := I.tuple h'
  rw [e] at e'; cases e'
  rw [d] at d'
  injection d' with d1 _
  have : its = its' := by simpa using congrArg Array.toList d1
  subst this
  exact r.inj r'
end

/-! ### another wish about exceptions -/
abbrev Cx.wish (X : Cx) (E : Value → Shared → Prop) : Cx := { X with xe := E }
/-- no exception leaves -/
abbrev Cx.nox (X : Cx) : Cx := X.wish fun _ _ => False
theorem Cx.Ok.wish {X : Cx} (ok : X.Ok) (E : Value → Shared → Prop) : (X.wish E).Ok :=
  ⟨ok.mod, ok.kind, ok.glob, ok.blt, ok.above, ok.inj, ok.has, ok.cab, ok.hd, ok.frames, ok.stk, ok.exf, ok.bs, ok.bsz, ok.noex, ok.exfs, ok.funs, ok.frf⟩
theorem Cx.Ok.unwish {X : Cx} {E : Value → Shared → Prop} (ok : (X.wish E).Ok) : X.Ok :=
  ⟨ok.mod, ok.kind, ok.glob, ok.blt, ok.above, ok.inj, ok.has, ok.cab, ok.hd, ok.frames, ok.stk, ok.exf, ok.bs, ok.bsz, ok.noex, ok.exfs, ok.funs, ok.frf⟩
section
variable {X : Cx} {pins : List (Addr × Obj)} {σ : St} {H : Hp} {s : Shared} {E : Value → Shared → Prop}
theorem Inv.wish (I : Inv X pins σ H s) (E : Value → Shared → Prop) : Inv (X.wish E) pins σ H s := ⟨I.ok.wish E, I.os, I.bare, I.base, I.loc, I.cell, I.free, I.freeC, I.pin, I.hok, I.len⟩
theorem Inv.unwish (I : Inv (X.wish E) pins σ H s) : Inv X pins σ H s := ⟨I.ok.unwish, I.os, I.bare, I.base, I.loc, I.cell, I.free, I.freeC, I.pin, I.hok, I.len⟩
theorem SP.unwish {D : Ends} {f : Flow} {s' : Shared} (h : SP (X.wish E) pins D f s') : SP X pins D f s' := by
  cases f with
  | next => obtain ⟨σ', H', I, q⟩ := h; exact ⟨σ', H', I.unwish, q⟩
  | brk => obtain ⟨σ', H', I, q⟩ := h; exact ⟨σ', H', I.unwish, q⟩
  | cont => obtain ⟨σ', H', I, q⟩ := h; exact ⟨σ', H', I.unwish, q⟩
  | ret u => obtain ⟨v, σ', H', I, r, q⟩ := h; exact ⟨v, σ', H', I.unwish, r, q⟩
theorem PE.nox {e : Expr} {t : TE} (h : PE X.nox e t) : PE X e t := fun pins s σ H Q I hw =>
  wpAny_mono (h pins s σ H Q (I.wish _) hw) (fun _ _ ⟨v, H', I', r, q⟩ => ⟨v, H', I'.unwish, r, q⟩) fun _ _ z => False.elim z
theorem PT.nox {e : Expr} {t : TT} (h : PT X.nox e t) : PT X e t := fun pins s σ H Q I hw =>
  wpAny_mono (h pins s σ H Q (I.wish _) hw) (fun _ _ ⟨H', I', q⟩ => ⟨H', I'.unwish, q⟩) fun _ _ z => False.elim z
theorem PSs.nox {st : List Stmt} {t : TS} (h : PSs X.nox st t) : PSs X st t := fun pins s σ H D I hw =>
  wpAny_mono (h pins s σ H D (I.wish _) hw) (fun _ _ q => q.unwish) fun _ _ z => False.elim z
end

/-! ### blocks and small statements -/
section
variable {X : Cx} {st : Stmt} {rest : List Stmt} {t u : TS} {e : Expr} {te : TE} {pos : Pos}
def tNext : TS := fun D σ H => D.nx σ H
def tSeq (t u : TS) : TS := fun D σ H => t { D with nx := u D } σ H
theorem pss_nil : PSs X [] tNext := fun _ _ σ H _ I h => wpAny_execs_nil ⟨σ, H, I, h⟩
theorem pss_cons (h1 : PS X st t) (h2 : PSs X rest u) : PSs X (st :: rest) (tSeq t u) := by
  intro pins s σ H D I h
  refine wpAny_execs_cons (thn (h1 pins s σ H { D with nx := u D } I h) fun f s1 q => ?_)
  cases f with
  | next =>
    obtain ⟨σ', H', I', q⟩ := q
    exact h2 pins s1 σ' H' D I' q
  | ret v => exact q
  | brk => exact q
  | cont => exact q
theorem pss_one (h1 : PS X st t) : PSs X [st] t := by
  intro pins s σ H D I h
  refine wpAny_execs_cons (thn (h1 pins s σ H D I h) fun f s1 q => ?_)
  cases f with
  | next => exact wpAny_execs_nil q
  | ret v => exact q
  | brk => exact q
  | cont => exact q
/-- in a def's body nothing is shown -/
theorem Inv.quiet {pins : List (Addr × Obj)} {σ : St} {H : Hp} {s : Shared} (I : Inv X pins σ H s) : interactive X.env = false := by simp [interactive, I.ok.kind]
/-- an expression whose value is dropped -/
def tDrop (te : TE) : TS := fun D σ H => te σ H fun _ H1 => D.nx σ H1
theorem ps_expr (he : PE X e te) (hs : swapsWith e none pos.line X.env = pure false := by rfl) : PS X (.Expr e pos) (tDrop te) := by
  intro pins s σ H D I h
  exact wpAny_Expr_any (thn (he pins s σ H _ I h) fun v s1 ⟨x, H1, I1, r1, q1⟩ => ⟨σ, H1, I1, q1⟩) I.quiet hs
def tRet (te : TE) : TS := fun D σ H => te σ H D.rt
theorem ps_ret (he : PE X e te) : PS X (.Return (some e) pos) (tRet te) := by
  intro pins s σ H D I h
  exact wpAny_Return_some (thn (he pins s σ H _ I h) fun v s1 ⟨x, H1, I1, r1, q1⟩ => ⟨x, σ, H1, I1, r1, q1⟩)
def tRetN : TS := fun D _ H => D.rt .non H
def tIfS (c : TT) (t u : TS) : TS := fun D σ H => c σ H fun b H1 => if b = true then t D σ H1 else u D σ H1
theorem ps_if {c : Expr} {a b : List Stmt} {tc : TT} (hc : PT X c tc) (ha : PSs X a t) (hb : PSs X b u) : PS X (.If c a b pos) (tIfS tc t u) := by
  intro pins s σ H D I h
  refine wpAny_If (thn (hc pins s σ H _ I h) fun d s1 ⟨H1, I1, q1⟩ => ?_)
  cases d with
  | true => exact ha pins s1 σ H1 D I1 q1
  | false => exact hb pins s1 σ H1 D I1 q1
end

/-! ### targets -/
abbrev TG := V → St → Hp → (St → Hp → Prop) → Prop
abbrev TGs := List V → St → Hp → (St → Hp → Prop) → Prop
def PG (X : Cx) (target : Expr) (t : TG) : Prop :=
  ∀ (pins : List (Addr × Obj)) (s : Shared) (σ : St) (H : Hp) (v : V) (u : Value) (Q : St → Hp → Prop), Inv X pins σ H s → RelV v u → t v σ H Q →
    wpAny (model X.prog X.w) X.A (assign target X.env u) (fun _ s' => ∃ σ' H', Inv X pins σ' H' s' ∧ Q σ' H') X.xe s
/-- several targets, one after another -/
def PGs (X : Cx) (ts : List Expr) (t : TGs) : Prop :=
  ∀ (pins : List (Addr × Obj)) (s : Shared) (σ : St) (H : Hp) (vs : List V) (us : List Value) (Q : St → Hp → Prop), Inv X pins σ H s → Vals vs us → t vs σ H Q →
    wpAny (model X.prog X.w) X.A (assignInOrder ((assignEach ts X.env).map (·.2)) us) (fun _ s' => ∃ σ' H', Inv X pins σ' H' s' ∧ Q σ' H') X.xe s
/-- o[i] = v, by values -/
abbrev TSet := V → V → V → Hp → (Hp → Prop) → Prop
def PSet (X : Cx) (t : TSet) : Prop :=
  ∀ (pins : List (Addr × Obj)) (s : Shared) (σ : St) (H : Hp) (o i v : V) (ov iv u : Value) (Q : Hp → Prop), Inv X pins σ H s → RelV o ov → RelV i iv → RelV v u → t o i v H Q →
    wpAny (model X.prog X.w) X.A (setItem ov iv u) (fun _ s' => ∃ H', Inv X pins σ H' s' ∧ Q H') X.xe s
/-- a op= b, by values -/
abbrev TIp := V → V → Hp → VK → Prop
def PIp (X : Cx) (op : Operator) (t : TIp) : Prop :=
  ∀ (pins : List (Addr × Obj)) (s : Shared) (σ : St) (H : Hp) (x y : V) (v u : Value) (Q : VK), Inv X pins σ H s → RelV x v → RelV y u → t x y H Q →
    wpAny (model X.prog X.w) X.A (inplaceOp op v u) (EP X pins σ Q) X.xe s
section
variable {X : Cx} {pos : Pos}
def gName (i : Nat) : TG := fun v σ H Q => Q (σ.set i (some v)) H
theorem pg_name {i : Nat} {x : Str} (hN : X.N.Nodup) (hi : X.N[i]? = some x) (hx : Loc X.env.scope x) (hf : X.fn x = true ∨ X.env.scope.names.lookup x = some .local := by first | exact .inl rfl | exact .inr rfl | assumption) : PG X (.Name x pos) (gName i) := by
  intro pins s σ H v u Q I r h
  exact wpAny_assign_Name (store_ok I hN hi hx r (fun s' I' => ⟨_, H, I', h⟩) hf)
def gNil : TGs := fun vs σ H Q => vs = [] ∧ Q σ H
def gCons (t : TG) (u : TGs) : TGs := fun vs σ H Q => ∃ v r, vs = v :: r ∧ t v σ H fun σ' H' => u r σ' H' Q
theorem pgs_nil : PGs X [] gNil := by
  intro pins s σ H vs us Q I r h
  obtain ⟨e, h⟩ := h
  subst e
  cases r
  exact assignInOrder_nil ⟨σ, H, I, h⟩
theorem pgs_cons {e : Expr} {es : List Expr} {t : TG} {u : TGs} (h1 : PG X e t) (h2 : PGs X es u)
    (hs : (assignEach (e :: es) X.env).map (·.2) = assign e X.env :: (assignEach es X.env).map (·.2) := by rfl) : PGs X (e :: es) (gCons t u) := by
  intro pins s σ H vs us Q I r h
  obtain ⟨v, vr, e1, h⟩ := h
  subst e1
  cases r with
  | cons r rr =>
    rw [hs]
    refine assignInOrder_cons (thn (h1 pins s σ H _ _ _ I r h) fun _ s1 ⟨σ1, H1, I1, q1⟩ => ?_)
    exact h2 pins s1 σ1 H1 _ _ Q I1 rr q1
/-- (a, b, ..) = a tuple of that length -/
def gTup (K : PySem.W.Frag) (n : Nat) (t : TGs) : TG := fun v σ H Q => ∃ a xs, v = .ref a ∧ SqT K H a xs ∧ xs.length = n ∧ t xs σ H Q
theorem pg_tup {es : List Expr} {k : Nat} {t : TGs} {n : Nat} (hc : X.calm = true) (h : PGs X es t)
    (hn : (assignEach es X.env).length = n := by rfl) (hst : (assignEach es X.env).findIdx? (·.1) = none := by rfl) : PG X (.Tuple es k pos) (gTup X.K n t) := by
  intro pins s σ H v u Q I r hw
  obtain ⟨a, xs, e1, hq, hl, hw⟩ := hw
  subst e1
  cases r
  obtain ⟨its, rv, ht, hz⟩ := I.tuple hq
  refine assign_Tuple_tuple (I.ok.hd hc) ht (by simp [hn, ← hl, rv.length]) hst fun h' hx => ?_
  have I1 : Inv X pins σ H { s with heap := h' } := I.kept (t' := s.toks) fun b o e => hx b o (Nat.ne_of_lt (Heap.lt_size e)) e
  exact h pins _ σ H xs _ Q I1 (by simpa using rv) hw
/-- o[i] = .. -/
def gSub (to ti : TE) (t : TSet) : TG := fun v σ H Q => to σ H fun o H1 => ti σ H1 fun i H2 => t o i v H2 fun H3 => Q σ H3
/-- target = value -/
def tAsg (te : TE) (g : TG) : TS := fun D σ H => te σ H fun x H1 => g x σ H1 D.nx
theorem ps_asg {tg e : Expr} {te : TE} {g : TG} (he : PE X e te) (hg : PG X tg g) (hs : swapsWithSole [tg] e pos.line X.env = pure false := by rfl) (hw : swappedStores [tg] e X.env = pure none := by rfl)
    (h1 : (assignEach [tg] X.env).map (·.2) = [assign tg X.env] := by rfl) : PS X (.Assign [tg] e pos) (tAsg te g) := by
  intro pins s σ H D I h
  refine wpAny_Assign_stores (thn (he pins s σ H _ I h) fun v s1 ⟨x, H1, I1, r1, q1⟩ => ?_) hs hw
  rw [h1]
  exact thn (hg pins s1 σ H1 x v _ I1 r1 q1) fun _ s2 q => q
/-- name = value -/
theorem ps_set {i : Nat} {x : Str} {e : Expr} {te : TE} {pos' : Pos} (hN : X.N.Nodup) (hi : X.N[i]? = some x) (hx : Loc X.env.scope x) (he : PE X e te) (hs : swapsWith e (some (.Name x pos')) pos.line X.env = pure false := by rfl) (hf : X.fn x = true ∨ X.env.scope.names.lookup x = some .local := by first | exact .inl rfl | exact .inr rfl | assumption) :
    PS X (.Assign [.Name x pos'] e pos) (tAsg te (gName i)) := by
  intro pins s σ H D I h
  refine wpAny_Assign_Name (thn (he pins s σ H _ I h) fun v s1 ⟨y, H1, I1, r1, q1⟩ => ?_) hs
  exact store_ok I1 hN hi hx r1 (fun s2 I2 => ⟨_, H1, I2, q1⟩) hf
/-- name op= e -/
def tAug (i : Nat) (te : TE) (ti : TIp) : TS := fun D σ H => ∃ x, σ[i]? = some (some x) ∧ te σ H fun y H1 => ti x y H1 fun z H2 => D.nx (σ.set i (some z)) H2
/-- o[i] op= e -/
def tAugS (to ti te : TE) (tget : V → V → Hp → VK → Prop) (tip : TIp) (tset : TSet) : TS := fun D σ H => to σ H fun o H1 => ti σ H1 fun i H2 => tget o i H2 fun x H3 => te σ H3 fun y H4 => tip x y H4 fun z H5 => tset o i z H5 fun H6 => D.nx σ H6
/-- o[i], by values -/
def PGet (X : Cx) (t : V → V → Hp → VK → Prop) : Prop :=
  ∀ (pins : List (Addr × Obj)) (s : Shared) (σ : St) (H : Hp) (o i : V) (ov iv : Value) (Q : VK), Inv X pins σ H s → RelV o ov → RelV i iv → t o i H Q →
    wpAny (model X.prog X.w) X.A (getItem ov iv) (EP X pins σ Q) X.xe s
theorem ps_augS {o i e : Expr} {to ti te : TE} {tget : V → V → Hp → VK → Prop} {tip : TIp} {tset : TSet} {op : Operator} {tpos : Pos} (ho : PE X o to) (hi : PE X i ti) (hg : PGet X tget) (he : PE X e te) (hp : PIp X op tip) (hs : PSet X tset)
    (ha : ∀ ov iv new, augStore i ov iv new = (do holding [new, ov, iv] (setItem ov iv new); release [new, ov, iv] []; pure .next) := by intros; rfl) : PS X (.AugAssign (.Subscript o i tpos) op e pos) (tAugS to ti te tget tip tset) := by
  intro pins s σ H D I h
  refine wpAny_AugAssign_SubscriptAny (thn (ho pins s σ H _ I h) fun ov s1 ⟨x1, H1, I1, r1, q1⟩ => ?_) ha
  refine thn (hi pins s1 σ H1 _ I1 q1) fun iv s2 ⟨x2, H2, I2, r2, q2⟩ => ?_
  refine thn (hg pins s2 σ H2 x1 x2 ov iv _ I2 r1 r2 q2) fun old s3 ⟨x3, H3, I3, r3, q3⟩ => ?_
  refine thn (he pins s3 σ H3 _ I3 q3) fun v s4 ⟨x4, H4, I4, r4, q4⟩ => ?_
  refine thn (hp pins s4 σ H4 x3 x4 old v _ I4 r3 r4 q4) fun new s5 ⟨x5, H5, I5, r5, q5⟩ => ?_
  exact thn (hs pins s5 σ H5 x1 x2 x5 ov iv new _ I5 r1 r2 r5 q5) fun _ s6 ⟨H6, I6, q6⟩ => ⟨σ, H6, I6, q6⟩
/-- ints -/
def ipI (f : Int → Int → Int) : TIp := fun x y H Q => ∃ i j, x = .int i ∧ y = .int j ∧ Q (.int (f i j)) H
theorem ip_add : PIp X .Add (ipI fun i j => i + j) := by
  intro pins s σ H x y v u Q I r1 r2 h
  obtain ⟨i, j, e1, e2, q⟩ := h
  subst e1; subst e2
  obtain ⟨t, rfl⟩ := r1
  obtain ⟨t', rfl⟩ := r2
  exact iadd_int ⟨.int _, H, I.tok _, ⟨_, rfl⟩, q⟩
end

/-! ### while -/
section
variable {X : Cx} {pos : Pos}
/-- the invariant W with its measure -/
def tWhile (c : TT) (tb : TS) : TS := fun D σ H => ∃ W : Nat → St → Hp → Prop, (∃ m, W m σ H) ∧ ∀ m σ H, W m σ H →
  c σ H fun b H1 => if b = true then ∃ N : St → Hp → Prop, (∀ σ' H', N σ' H' → ∃ m', m' < m ∧ W m' σ' H') ∧ tb { D with nx := N, ct := N, bk := D.nx } σ H1 else D.nx σ H1
theorem ps_while {c : Expr} {body : List Stmt} {tc : TT} {tb : TS} (hp : PassesOwn (model X.prog X.w) X.A X.env X.xe) (hc : PT X c tc) (hb : PSs X body tb) : PS X (.While c body [] pos) (tWhile tc tb) := by
  intro pins s σ H D I h
  obtain ⟨W, ⟨m0, w0⟩, turn⟩ := h
  refine wpAny_While (codeAny_whileLoop (fun n s' => ∃ σ' H', Inv X pins σ' H' s' ∧ W n σ' H') ?_ m0 ⟨σ, H, I, w0⟩)
  rintro n s1 ⟨σ1, H1, I1, w1⟩
  refine wpAny_passesOwn hp (thn (hc pins s1 σ1 H1 _ I1 (turn n σ1 H1 w1)) fun b s2 ⟨H2, I2, q2⟩ => ?_)
  cases b with
  | true =>
    obtain ⟨N, hN, q2⟩ := q2
    rw [if_pos rfl]
    refine wpAny_passesOwn hp (thn (hb pins s2 σ1 H2 _ I2 q2) fun f s3 q3 => ?_)
    cases f with
    | next =>
      obtain ⟨σ3, H3, I3, n3⟩ := q3
      obtain ⟨m', hm, w3⟩ := hN σ3 H3 n3
      exact ⟨m', hm, σ3, H3, I3, w3⟩
    | cont =>
      obtain ⟨σ3, H3, I3, n3⟩ := q3
      obtain ⟨m', hm, w3⟩ := hN σ3 H3 n3
      exact ⟨m', hm, σ3, H3, I3, w3⟩
    | brk => exact q3
    | ret v => exact q3
  | false =>
    rw [if_neg Bool.false_ne_true]
    exact wpAny_execs_nil ⟨σ1, H2, I2, q2⟩
end

/-! ### what a loop or a comprehension walks -/
/-- at turn i: it yields x (the heap may grow), or it stops -/
structure It where
  go : Nat → Hp → Prop
  yld : Nat → Hp → V → Hp → Prop
  stop : Nat → Hp → Prop
/-- the iterator's own objects may turn: they are not the frame's, not pinned, younger than the entry (or a comprehension's own) -/
def FpOk (X : Cx) (pins : List (Addr × Obj)) (H : Hp) (b : Addr) : Prop :=
  H b = none ∧ b ≠ X.env.locals ∧ b ∉ X.fs ∧ (b ∈ X.ex ∨ X.s₀.heap.objs.size ≤ b) ∧ (∀ x c, X.env.cells.lookup x = some c → c ≠ b) ∧ ∀ p ∈ X.pn ++ pins, p.1 ≠ b
theorem Inv.fpOk {X : Cx} {pins : List (Addr × Obj)} {σ : St} {H H' : Hp} {s : Shared} {b : Addr} (I : Inv X pins σ H s) (hb : s.heap.objs.size ≤ b) (hn : H' b = none) : FpOk X pins H' b := by
  refine ⟨hn, Nat.ne_of_gt (Nat.lt_of_lt_of_le I.lt hb), I.nofs hb, .inr (Nat.le_trans I.sz hb), fun x c e z => ?_, fun p hp z => ?_⟩
  · obtain ⟨v, q⟩ := I.cell x c e
    exact absurd (Nat.lt_of_lt_of_le q.lt (by rw [z]; exact hb)) (Nat.lt_irrefl _)
  · exact absurd (Nat.lt_of_lt_of_le (Heap.lt_size (I.pin p hp).1) (by rw [z]; exact hb)) (Nat.lt_irrefl _)
structure Turn (P : Program) (w : World) (K : PySem.W.Frag) (tg : Expr) (J : It) (fp : List Addr) (it : Addr) (tn : Nat → Heap → Prop) : Prop where
  mem : it ∈ fp
  obj : ∀ i h, tn i h → ∀ b ∈ fp, ∃ o, h.get? b = some o ∧ ∀ v, o.data ≠ .cell v
  keep : ∀ i h h', tn i h → (∀ b ∈ fp, ∀ o, h.get? b = some o → h'.get? b = some o) → tn i h'
  item : ∀ (X : Cx), X.prog = P → X.w = w → X.K = K → X.calm = true → ∀ (i : Nat) (pins : List (Addr × Obj)) (s : Shared) (σ : St) (H : Hp) (E : Value → Shared → Prop), Inv X pins σ H s → (∀ b ∈ fp, FpOk X pins H b) → tn i s.heap → J.go i H →
    wpAny (model P w) X.A (pyNext (.ref it)) (fun r s1 => ∃ u, r = some u ∧
      wpAny (model P w) X.A (letOwnedTupleGo tg (.ref it) u) (fun _ s2 => ∃ x H', Inv X pins σ H' s2 ∧ RelV x u ∧ J.yld i H x H' ∧ tn (i + 1) s2.heap ∧ ∀ b ∈ fp, H' b = none) E s1) E s
  done : ∀ (X : Cx), X.prog = P → X.w = w → X.K = K → X.calm = true → ∀ (i : Nat) (pins : List (Addr × Obj)) (s : Shared) (σ : St) (H : Hp) (E : Value → Shared → Prop), Inv X pins σ H s → (∀ b ∈ fp, FpOk X pins H b) → tn i s.heap → J.stop i H →
    wpAny (model P w) X.A (pyNext (.ref it)) (fun r s1 => r = none ∧ Inv X pins σ H s1) E s
  self : ∀ (A : Around) (i : Nat) (s : Shared) (Q : Value → Shared → Prop) (E : Value → Shared → Prop), tn i s.heap → Q (.ref it) s → wpAny (model P w) A (pyIter (.ref it)) Q E s
abbrev TI := St → Hp → (It → Hp → Prop) → Prop
/-- an iterator has come -/
def PIE (X : Cx) (pins : List (Addr × Obj)) (σ : St) (tg : Expr) (R : It → Hp → Prop) (itv : Value) (s2 : Shared) : Prop :=
  ∃ (it : Addr) (fp : List Addr) (tn : Nat → Heap → Prop) (J : It) (H' : Hp), itv = .ref it ∧ Inv X pins σ H' s2 ∧ Turn X.prog X.w X.K tg J fp it tn ∧ tn 0 s2.heap ∧ (∀ b ∈ fp, FpOk X pins H' b) ∧ R J H'
def PI (X : Cx) (tg iter : Expr) (wi : TI) : Prop :=
  ∀ (pins : List (Addr × Obj)) (s : Shared) (σ : St) (H : Hp) (R : It → Hp → Prop), Inv X pins σ H s → wi σ H R →
    wpAny (model X.prog X.w) X.A (eval iter X.env) (fun v s1 => wpAny (model X.prog X.w) X.A (pyIter v) (PIE X pins σ tg R) X.xe s1) X.xe s

/-- the step ahead of the store is nothing for an iterator that keeps no tuple -/
theorem go_of {M : Model} {A : Around} {E : Value → Shared → Prop} {s : Shared} {tg : Expr} {it : Addr} {u : Value} {o : Obj} {n : String} {vs : Array Value} {Q : Unit → Shared → Prop} (ho : s.heap.get? it = some o) (hc : o.cls = .type n) (hd : o.data = .fields vs)
    (hn : ["enumerate", "zip", "dict_itemiterator", "dict_reverseitemiterator", "odict_iterator", "itertools.zip_longest", "itertools.pairwise"].contains n = false) (hQ : Q () s) : wpAny M A (letOwnedTupleGo tg (.ref it) u) Q E s := by
  unfold letOwnedTupleGo
  cases tg <;> first
    | exact wpAny_pure hQ
    | (cases u <;> first
        | exact wpAny_pure hQ
        | (refine wpAny_bind (wpAny_load ho ?_)
           rw [hc, hd]
           show wpAny M A (if (["enumerate", "zip", "dict_itemiterator", "dict_reverseitemiterator", "odict_iterator", "itertools.zip_longest", "itertools.pairwise"].contains n && vs[0]? == some (rawInt _)) = true then _ else _) Q E s
           rw [if_neg (by intro h; rw [hn, Bool.false_and] at h; cases h)]
           exact wpAny_pure hQ))

/-- the list at a, as it stands at each turn (a loop may append to it) -/
def Itl (K : PySem.W.Frag) (a : Addr) : It :=
  ⟨fun i H => ∃ xs x, SqL K H a xs ∧ xs[i]? = some x, fun i H x H' => H' = H ∧ ∀ xs, SqL K H a xs → xs[i]? = some x, fun i H => ∃ xs, SqL K H a xs ∧ xs.length ≤ i⟩
def Itt (K : PySem.W.Frag) (a : Addr) : It :=
  ⟨fun i H => ∃ xs x, SqT K H a xs ∧ xs[i]? = some x, fun i H x H' => H' = H ∧ ∀ xs, SqT K H a xs → xs[i]? = some x, fun i H => ∃ xs, SqT K H a xs ∧ xs.length ≤ i⟩
/-- lo, lo + 1, .. (n of them) -/
def Itr (lo : Int) (n : Nat) : It := ⟨fun i _ => i < n, fun i H x H' => H' = H ∧ x = .int (lo + i), fun i _ => n ≤ i⟩
theorem turn_list {P : Program} {w : World} {K : PySem.W.Frag} {tg : Expr} (a it : Addr) : Turn P w K tg (Itl K a) [it] it (fun i h => h.IsListIter it a i) where
  mem := by simp
  obj := fun i h st b hb => by
    have e : b = it := by simpa using hb
    subst e
    obtain ⟨o, e, c, d⟩ := st
    exact ⟨o, e, fun v z => by rw [d] at z; cases z⟩
  keep := fun i h h' st k => st.at fun o e => k it (by simp) o e
  item := by
    intro X hP hw hK hc i pins s σ H E I hf st hg
    subst hP hw hK
    obtain ⟨xs, x, hq, hx⟩ := hg
    obtain ⟨its, rv, p, hz⟩ := I.list hq
    obtain ⟨u, hu, ru⟩ := rv.get hx
    obtain ⟨f0, f1, f2, f3, f4, f5⟩ := hf it (by simp)
    refine wpAny_pyNext_list_item st p.isList (x := u) (by simpa using hu) fun h' st' sb => ?_
    have I1 : Inv X pins σ H { s with heap := h' } := I.turned (t' := s.toks) (fun b o hb e => (sb.2 b hb).trans e) f0 f1 f3 f4 f5
    obtain ⟨o, e, c, d⟩ := id st'
    exact ⟨u, rfl, go_of (s := { s with heap := h' }) e c d (by decide) ⟨x, H, I1, ru, ⟨rfl, fun ys hy => by rw [I.list_inj hy hq]; exact hx⟩, st', fun b hb => (hf b hb).1⟩⟩
  done := by
    intro X hP hw hK hc i pins s σ H E I hf st hg
    subst hP hw hK
    obtain ⟨xs, hq, hx⟩ := hg
    obtain ⟨its, rv, p, hz⟩ := I.list hq
    obtain ⟨f0, f1, f2, f3, f4, f5⟩ := hf it (by simp)
    have hl := rv.length
    exact wpAny_pyNext_list_end (I.ok.hd hc) st p.isList (by simp; omega) fun h' eb => ⟨rfl, I.turned (t' := s.toks) (fun b o hb e => eb b o hb e) f0 f1 f3 f4 f5⟩
  self := fun _ _ _ _ _ st h => wpAny_pyIter_listiter st h
theorem turn_tuple {P : Program} {w : World} {K : PySem.W.Frag} {tg : Expr} (a it : Addr) : Turn P w K tg (Itt K a) [it] it (fun i h => h.IsTupleIter it a i) where
  mem := by simp
  obj := fun i h st b hb => by
    have e : b = it := by simpa using hb
    subst e
    obtain ⟨o, e, c, d⟩ := st
    exact ⟨o, e, fun v z => by rw [d] at z; cases z⟩
  keep := fun i h h' st k => st.at fun o e => k it (by simp) o e
  item := by
    intro X hP hw hK hc i pins s σ H E I hf st hg
    subst hP hw hK
    obtain ⟨xs, x, hq, hx⟩ := hg
    obtain ⟨its, rv, p, hz⟩ := I.tuple hq
    obtain ⟨u, hu, ru⟩ := rv.get hx
    obtain ⟨f0, f1, f2, f3, f4, f5⟩ := hf it (by simp)
    refine wpAny_pyNext_tuple_item st (show s.heap.IsTuple a its.toArray from p) (x := u) (by simpa using hu) fun h' st' sb => ?_
    have I1 : Inv X pins σ H { s with heap := h' } := I.turned (t' := s.toks) (fun b o hb e => (sb.2 b hb).trans e) f0 f1 f3 f4 f5
    obtain ⟨o, e, c, d⟩ := id st'
    exact ⟨u, rfl, go_of (s := { s with heap := h' }) e c d (by decide) ⟨x, H, I1, ru, ⟨rfl, fun ys hy => by rw [I.tuple_inj hy hq]; exact hx⟩, st', fun b hb => (hf b hb).1⟩⟩
  done := by
    intro X hP hw hK hc i pins s σ H E I hf st hg
    subst hP hw hK
    obtain ⟨xs, hq, hx⟩ := hg
    obtain ⟨its, rv, p, hz⟩ := I.tuple hq
    obtain ⟨f0, f1, f2, f3, f4, f5⟩ := hf it (by simp)
    have hl := rv.length
    exact wpAny_pyNext_tuple_end (I.ok.hd hc) st (show s.heap.IsTuple a its.toArray from p) (by simp; omega) fun h' eb => ⟨rfl, I.turned (t' := s.toks) (fun b o hb e => eb b o hb e) f0 f1 f3 f4 f5⟩
  self := fun _ _ _ _ _ st h => wpAny_pyIter_tupleiter st h
theorem turn_range {P : Program} {w : World} {K : PySem.W.Frag} {tg : Expr} (it : Addr) (lo : Int) (n : Nat) : Turn P w K tg (Itr lo n) [it] it (fun i h => IsRangeIter h it (lo + (i : Nat) * 1) ((n : Int) - (i : Nat)) 1) where
  mem := by simp
  obj := fun i h st b hb => by
    have e : b = it := by simpa using hb
    subst e
    exact ⟨_, st, fun v z => by
      have z' : Data.fields _ = Data.cell v := z
      cases z'⟩
  keep := fun i h h' st k => k it (by simp) _ st
  item := by
    intro X hP hw hK hc i pins s σ H E I hf st hg
    subst hP hw hK
    obtain ⟨f0, f1, f2, f3, f4, f5⟩ := hf it (by simp)
    have W := Walks.range (prog := X.prog) (w := X.w) (I.ok.hd hc) it lo 1 n
    refine W.item i s _ _ hg st fun v h' tk hv st' kk => ?_
    obtain ⟨t, rfl⟩ := hv
    have I1 : Inv X pins σ H { s with heap := h', toks := tk } := I.turned (fun b o hb e => kk b o (by simpa using hb) e) f0 f1 f3 f4 f5
    refine ⟨_, rfl, go_of (s := { s with heap := h', toks := tk }) (n := "range_iterator") st' rfl rfl (by decide) ⟨.int (lo + i), H, I1, ⟨t, ?_⟩, ⟨rfl, rfl⟩, st', fun b hb => (hf b hb).1⟩⟩
    rw [Int.mul_one]
  done := by
    intro X hP hw hK hc i pins s σ H E I hf st hg
    subst hP hw hK
    obtain ⟨f0, f1, f2, f3, f4, f5⟩ := hf it (by simp)
    exact wpAny_pyNext_range_end (I.ok.hd hc) st (by have : n ≤ i := hg; omega) fun h' eb => ⟨rfl, I.turned (t' := s.toks) (fun b o hb e => eb b o hb e) f0 f1 f3 f4 f5⟩
  self := fun _ _ _ _ _ st h => wpAny_pyIter_rangeiter st h
end L2

namespace L2
open PySem PySem.Spec PyProof.Rows
section
variable {X : Cx} {tg : Expr}
def iList (K : PySem.W.Frag) (tl : TE) : TI := fun σ H R => tl σ H fun x H1 => ∃ a, x = .ref a ∧ (∃ xs, SqL K H1 a xs) ∧ R (Itl K a) H1
def iTup (K : PySem.W.Frag) (tl : TE) : TI := fun σ H R => tl σ H fun x H1 => ∃ a, x = .ref a ∧ (∃ xs, SqT K H1 a xs) ∧ R (Itt K a) H1
theorem pi_list {l : Expr} {tl : TE} (hl : PE X l tl) : PI X tg l (iList X.K tl) := by
  intro pins s σ H R I h
  refine thn (hl pins s σ H _ I h) fun v s1 ⟨x, H1, I1, r1, q1⟩ => ?_
  obtain ⟨a, e, ⟨xs, hq⟩, q⟩ := q1
  subst e
  cases r1
  obtain ⟨its, rv, p, hz⟩ := I1.list hq
  refine wpAny_pyIter_list p.isList ?_
  refine ⟨s1.heap.objs.size, [s1.heap.objs.size], _, _, H1, rfl, I1.kept (t' := s1.toks) fun b o e => Heap.get?_push_of_some _ e, turn_list a _, ⟨_, Heap.get?_push_size _ rfl, rfl, rfl⟩, fun b hb => ?_, q⟩
  have e : b = s1.heap.objs.size := by simpa using hb
  subst e
  exact I1.fpOk (Nat.le_refl _) (I1.hok.fresh (Nat.le_refl _))
theorem pi_tup {l : Expr} {tl : TE} (hl : PE X l tl) : PI X tg l (iTup X.K tl) := by
  intro pins s σ H R I h
  refine thn (hl pins s σ H _ I h) fun v s1 ⟨x, H1, I1, r1, q1⟩ => ?_
  obtain ⟨a, e, ⟨xs, hq⟩, q⟩ := q1
  subst e
  cases r1
  obtain ⟨its, rv, p, hz⟩ := I1.tuple hq
  refine wpAny_pyIter_tuple (show s1.heap.IsTuple a its.toArray from p) ?_
  refine ⟨s1.heap.objs.size, [s1.heap.objs.size], _, _, H1, rfl, I1.kept (t' := s1.toks) fun b o e => Heap.get?_push_of_some _ e, turn_tuple a _, ⟨_, Heap.get?_push_size _ rfl, rfl, rfl⟩, fun b hb => ?_, q⟩
  have e : b = s1.heap.objs.size := by simpa using hb
  subst e
  exact I1.fpOk (Nat.le_refl _) (I1.hok.fresh (Nat.le_refl _))
/-- a range object just made, walked -/
theorem range_it {pins : List (Addr × Obj)} {σ : St} {H : Hp} {s : Shared} {R : It → Hp → Prop} {E : Value → Shared → Prop} {lo hi : Int} {t u v : Tok} {tk : Nat} (I : Inv X pins σ H s) (h1 : -(2 ^ 62) ≤ lo) (h2 : lo < 2 ^ 62) (h3 : -(2 ^ 62) ≤ hi) (h4 : hi < 2 ^ 62)
    (q : R (Itr lo (hi - lo).toNat) H) : wpAny (model X.prog X.w) X.A (pyIter (.ref s.heap.objs.size)) (PIE X pins σ tg R) E { s with heap := s.heap.push { cls := .type "range", data := .fields #[.int lo t, .int hi u, .int 1 v] }, toks := tk } := by
  refine wpAny_pyIter_range (IsRange.new ..) (small_one h1 h2 h3 h4) ?_
  have I1 : Inv X pins σ H { s with heap := s.heap.push { cls := .type "range", data := .fields #[.int lo t, .int hi u, .int 1 v] }, toks := tk } := I.kept fun b o e => Heap.get?_push_of_some _ e
  refine ⟨(s.heap.push { cls := .type "range", data := .fields #[.int lo t, .int hi u, .int 1 v] }).objs.size, [(s.heap.push { cls := .type "range", data := .fields #[.int lo t, .int hi u, .int 1 v] }).objs.size], _, _, H, rfl,
    I1.kept (t' := tk) fun b o e => Heap.get?_push_of_some _ e, turn_range _ lo (hi - lo).toNat, ?_, fun b hb => ?_, q⟩
  · have e1 : lo + ((0 : Nat) : Int) * 1 = lo := by simp
    have e2 : (((hi - lo).toNat : Nat) : Int) - ((0 : Nat) : Int) = Builtin.Range.rangeSize lo hi 1 := by rw [rangeSize_one]; split <;> omega
    show IsRangeIter _ _ (lo + ((0 : Nat) : Int) * 1) ((((hi - lo).toNat : Nat) : Int) - ((0 : Nat) : Int)) 1
    rw [e1, e2]
    exact Heap.get?_push_size _ rfl
  · have e : b = (s.heap.push { cls := .type "range", data := .fields #[.int lo t, .int hi u, .int 1 v] }).objs.size := by simpa using hb
    subst e
    exact I1.fpOk (Nat.le_refl _) (I1.hok.fresh (Nat.le_refl _))
def iRng1 (ta : TA) : TI := fun σ H R => ta σ H fun vs H1 => ∃ j : Int, vs = [.int j] ∧ -(2 ^ 62) ≤ j ∧ j < 2 ^ 62 ∧ R (Itr 0 j.toNat) H1
def iRng2 (ta : TA) : TI := fun σ H R => ta σ H fun vs H1 => ∃ i j : Int, vs = [.int i, .int j] ∧ (-(2 ^ 62) ≤ i ∧ i < 2 ^ 62 ∧ -(2 ^ 62) ≤ j ∧ j < 2 ^ 62) ∧ R (Itr i (j - i).toNat) H1
theorem pi_range1 {a : Expr} {ta : TA} {p pos : Pos} (hg : Gl X "range") (hm : X.mg "range" = none) (ha : PA X [a] ta) (hs : starEach [a] X.env = [(false, eval a X.env)] := by rfl) : PI X tg (.Call (.Name "range" p) [a] [] pos) (iRng1 ta) := by
  intro pins s σ H R I h
  refine Call_ (ld_blt I hg hm boot_range (PyProof.Rows.callWith_type1 (thn (ha pos pins s σ H _ I h) fun us s1 ⟨vs, H1, I1, r1, q1⟩ => ?_) hs rfl))
  obtain ⟨j, e, q1, q2, q⟩ := q1
  subst e
  cases r1 with
  | cons r rr =>
    cases rr
    obtain ⟨t, rfl⟩ := r
    exact call_range_1 (range_it I1 (by omega) (by omega) q1 q2 (by simpa using q))
/-! ### for -/
/-- W: the invariant by the turn and a measure; N: what the body is to reach -/
def tFor (wi : TI) (g : TG) (tb : TS) : TS := fun D σ H => wi σ H fun J H1 => ∃ W : Nat → Nat → St → Hp → Prop, (∃ m, W 0 m σ H1) ∧ ∀ i m σ H, W i m σ H →
  (J.stop i H ∧ D.nx σ H) ∨ (J.go i H ∧ ∃ N : St → Hp → Prop, (∀ σ' H', N σ' H' → ∃ m', m' < m ∧ W (i + 1) m' σ' H') ∧ ∀ x H', J.yld i H x H' → g x σ H' fun σ2 H2 => tb { D with nx := N, ct := N, bk := D.nx } σ2 H2)
/-- the records at fp as they stand -/
def pinsAt (fp : List Addr) (h : Heap) : List (Addr × Obj) := fp.filterMap fun b => (h.get? b).map fun o => (b, o)
theorem mem_pinsAt {fp : List Addr} {h : Heap} {b : Addr} {o : Obj} (hb : b ∈ fp) (e : h.get? b = some o) : (b, o) ∈ pinsAt fp h := List.mem_filterMap.mpr ⟨b, hb, by rw [e]; rfl⟩
theorem of_pinsAt {fp : List Addr} {h : Heap} {p : Addr × Obj} (hp : p ∈ pinsAt fp h) : p.1 ∈ fp ∧ h.get? p.1 = some p.2 := by
  obtain ⟨b, hb, e⟩ := List.mem_filterMap.mp hp
  cases q : h.get? b with
  | none => rw [q] at e; cases e
  | some o =>
    rw [q] at e
    have e' : (b, o) = p := Option.some.inj e
    subst e'
    exact ⟨hb, q⟩
theorem Inv.pinned {pins : List (Addr × Obj)} {σ : St} {H : Hp} {s : Shared} {fp : List Addr} (I : Inv X pins σ H s) (hf : ∀ b ∈ fp, FpOk X pins H b) (ho : ∀ b ∈ fp, ∃ o, s.heap.get? b = some o ∧ ∀ v, o.data ≠ .cell v) : Inv X (pins ++ pinsAt fp s.heap) σ H s :=
  I.pins_of fun p hp => (List.mem_append.mp hp).elim (fun z => I.pin p (List.mem_append_right _ z)) fun z => by
    obtain ⟨hb, e⟩ := of_pinsAt z
    obtain ⟨f0, f1, f2, _⟩ := hf p.1 hb
    obtain ⟨o, e', d⟩ := ho p.1 hb
    rw [e] at e'; cases e'
    exact ⟨e, f0, f1, f2, d⟩
theorem Inv.unpinned {pins pl : List (Addr × Obj)} {σ : St} {H : Hp} {s : Shared} (I : Inv X (pins ++ pl) σ H s) : Inv X pins σ H s := I.pins_of fun p hp => I.pin p (List.mem_append_right _ (List.mem_append_left _ hp))
theorem ps_for {iter : Expr} {body : List Stmt} {wi : TI} {g : TG} {tb : TS} {pos : Pos} (hp : PassesOwn (model X.prog X.w) X.A X.env X.xe) (hc : X.calm = true) (hi : PI X tg iter wi) (hg : PG X tg g) (hb : PSs X body tb)
    (hs : ∀ x, foldedSetIterable iter X.env x = pure x := by intro _; rfl) : PS X (.For tg iter body [] pos) (tFor wi g tb) := by
  intro pins s σ H D I h
  refine wpAny_For (thn (hi pins s σ H _ I h) fun v s1 h1 => thn h1 fun itv s2 h2 => ?_) hs
  obtain ⟨it, fp, tn, J, H2, e, I2, T, st2, f2, W, ⟨m0, w0⟩, turn⟩ := h2
  subst e
  -- what stays true of the iterator's objects through the loop
  have stat : ∀ {H' : Hp}, (∀ b ∈ fp, H' b = none) → ∀ b ∈ fp, FpOk X pins H' b := fun hn b hb => ⟨hn b hb, (f2 b hb).2⟩
  refine codeAny_forLoop_any (fun n s' => ∃ i σ' H', Inv X pins σ' H' s' ∧ tn i s'.heap ∧ (∀ b ∈ fp, H' b = none) ∧ W i n σ' H') ?_ m0 ⟨0, σ, H2, I2, st2, fun b hb => (f2 b hb).1, w0⟩
  rintro n s3 ⟨i, σ3, H3, I3, st3, fr3, w3⟩
  rcases turn i n σ3 H3 w3 with ⟨stop, qn⟩ | ⟨go, N, hN, step⟩
  · refine wpAny_passesOwn hp (thn (T.done X rfl rfl rfl hc i pins s3 σ3 H3 X.xe I3 (stat fr3) st3 stop) fun r s4 ⟨hr, I4⟩ => ?_)
    subst hr
    exact wpAny_execs_nil ⟨σ3, H3, I4, qn⟩
  · refine wpAny_passesOwn hp (thn (T.item X rfl rfl rfl hc i pins s3 σ3 H3 X.xe I3 (stat fr3) st3 go) fun r s4 ⟨u, hr, h4⟩ => ?_)
    subst hr
    refine wpAny_passesOwn hp (thn h4 fun _ s5 ⟨x, H5, I5, r5, y5, st5, fr5⟩ => ?_)
    have I5' := I5.pinned (stat fr5) (T.obj _ _ st5)
    refine wpAny_passesOwn hp (thn (hg _ s5 σ3 H5 x u _ I5' r5 (step x H5 y5)) fun _ s6 ⟨σ6, H6, I6, q6⟩ => ?_)
    refine wpAny_passesOwn hp (thn (hb _ s6 σ6 H6 _ I6 q6) fun f s7 q7 => ?_)
    have again : ∀ {σ7 : St} {H7 : Hp}, Inv X (pins ++ pinsAt fp s5.heap) σ7 H7 s7 → N σ7 H7 → ∃ m, m < n ∧ ∃ i σ' H', Inv X pins σ' H' s7 ∧ tn i s7.heap ∧ (∀ b ∈ fp, H' b = none) ∧ W i m σ' H' := fun {σ7 H7} I7 n7 => by
      obtain ⟨m', hm, w7⟩ := hN σ7 H7 n7
      refine ⟨m', hm, i + 1, σ7, H7, I7.unpinned, T.keep _ _ _ st5 fun b hb o e => (I7.pin (b, o) (List.mem_append_right _ (List.mem_append_right _ (mem_pinsAt hb e)))).1, fun b hb => ?_, w7⟩
      obtain ⟨o, e, d⟩ := T.obj _ _ st5 b hb
      exact (I7.pin (b, o) (List.mem_append_right _ (List.mem_append_right _ (mem_pinsAt hb e)))).2.1
    cases f with
    | next => obtain ⟨σ7, H7, I7, n7⟩ := q7; exact again I7 n7
    | cont => obtain ⟨σ7, H7, I7, n7⟩ := q7; exact again I7 n7
    | brk => obtain ⟨σ7, H7, I7, q7⟩ := q7; exact ⟨σ7, H7, I7.unpinned, q7⟩
    | ret v => obtain ⟨x7, σ7, H7, I7, r7, q7⟩ := q7; exact ⟨x7, σ7, H7, I7.unpinned, r7, q7⟩
end

/-! ### the forms one uses -/
/-- over a list that the body leaves as it is -/
theorem for_list {K : PySem.W.Frag} {a : Addr} {xs : List V} {g : TG} {tb : TS} {D : Ends} {σ : St} {H : Hp} (Pv : Nat → St → Hp → Prop) (h0 : Pv 0 σ H) (hl : ∀ i σ H, i ≤ xs.length → Pv i σ H → SqL K H a xs)
    (hs : ∀ i x σ H, xs[i]? = some x → Pv i σ H → g x σ H fun σ2 H2 => tb { D with nx := Pv (i + 1), ct := Pv (i + 1), bk := D.nx } σ2 H2) (hd : ∀ σ H, Pv xs.length σ H → D.nx σ H) :
    ∃ W : Nat → Nat → St → Hp → Prop, (∃ m, W 0 m σ H) ∧ ∀ i m σ H, W i m σ H →
      ((Itl K a).stop i H ∧ D.nx σ H) ∨ ((Itl K a).go i H ∧ ∃ N : St → Hp → Prop, (∀ σ' H', N σ' H' → ∃ m', m' < m ∧ W (i + 1) m' σ' H') ∧ ∀ x H', (Itl K a).yld i H x H' → g x σ H' fun σ2 H2 => tb { D with nx := N, ct := N, bk := D.nx } σ2 H2) := by
  refine ⟨fun i m σ H => m = xs.length - i ∧ i ≤ xs.length ∧ Pv i σ H, ⟨xs.length, by simp, Nat.zero_le _, h0⟩, ?_⟩
  rintro i m σ H ⟨rfl, hi, p⟩
  have q := hl i σ H hi p
  by_cases hlt : i < xs.length
  · refine .inr ⟨⟨xs, xs[i], q, by simp [hlt]⟩, Pv (i + 1), fun σ' H' p' => ⟨xs.length - (i + 1), by omega, rfl, hlt, p'⟩, fun x H' y => ?_⟩
    obtain ⟨e, y⟩ := y
    subst e
    exact hs i x σ _ (y xs q) p
  · have e : i = xs.length := by omega
    subst e
    exact .inl ⟨⟨xs, q, Nat.le_refl _⟩, hd σ H p⟩
theorem for_tup {K : PySem.W.Frag} {a : Addr} {xs : List V} {g : TG} {tb : TS} {D : Ends} {σ : St} {H : Hp} (Pv : Nat → St → Hp → Prop) (h0 : Pv 0 σ H) (hl : ∀ i σ H, i ≤ xs.length → Pv i σ H → SqT K H a xs)
    (hs : ∀ i x σ H, xs[i]? = some x → Pv i σ H → g x σ H fun σ2 H2 => tb { D with nx := Pv (i + 1), ct := Pv (i + 1), bk := D.nx } σ2 H2) (hd : ∀ σ H, Pv xs.length σ H → D.nx σ H) :
    ∃ W : Nat → Nat → St → Hp → Prop, (∃ m, W 0 m σ H) ∧ ∀ i m σ H, W i m σ H →
      ((Itt K a).stop i H ∧ D.nx σ H) ∨ ((Itt K a).go i H ∧ ∃ N : St → Hp → Prop, (∀ σ' H', N σ' H' → ∃ m', m' < m ∧ W (i + 1) m' σ' H') ∧ ∀ x H', (Itt K a).yld i H x H' → g x σ H' fun σ2 H2 => tb { D with nx := N, ct := N, bk := D.nx } σ2 H2) := by
  refine ⟨fun i m σ H => m = xs.length - i ∧ i ≤ xs.length ∧ Pv i σ H, ⟨xs.length, by simp, Nat.zero_le _, h0⟩, ?_⟩
  rintro i m σ H ⟨rfl, hi, p⟩
  have q := hl i σ H hi p
  by_cases hlt : i < xs.length
  · refine .inr ⟨⟨xs, xs[i], q, by simp [hlt]⟩, Pv (i + 1), fun σ' H' p' => ⟨xs.length - (i + 1), by omega, rfl, hlt, p'⟩, fun x H' y => ?_⟩
    obtain ⟨e, y⟩ := y
    subst e
    exact hs i x σ _ (y xs q) p
  · have e : i = xs.length := by omega
    subst e
    exact .inl ⟨⟨xs, q, Nat.le_refl _⟩, hd σ H p⟩
theorem for_range {lo : Int} {n : Nat} {g : TG} {tb : TS} {D : Ends} {σ : St} {H : Hp} (Pv : Nat → St → Hp → Prop) (h0 : Pv 0 σ H)
    (hs : ∀ i σ H, i < n → Pv i σ H → g (.int (lo + i)) σ H fun σ2 H2 => tb { D with nx := Pv (i + 1), ct := Pv (i + 1), bk := D.nx } σ2 H2) (hd : ∀ σ H, Pv n σ H → D.nx σ H) :
    ∃ W : Nat → Nat → St → Hp → Prop, (∃ m, W 0 m σ H) ∧ ∀ i m σ H, W i m σ H →
      ((Itr lo n).stop i H ∧ D.nx σ H) ∨ ((Itr lo n).go i H ∧ ∃ N : St → Hp → Prop, (∀ σ' H', N σ' H' → ∃ m', m' < m ∧ W (i + 1) m' σ' H') ∧ ∀ x H', (Itr lo n).yld i H x H' → g x σ H' fun σ2 H2 => tb { D with nx := N, ct := N, bk := D.nx } σ2 H2) := by
  refine ⟨fun i m σ H => m = n - i ∧ i ≤ n ∧ Pv i σ H, ⟨n, by simp, Nat.zero_le _, h0⟩, ?_⟩
  rintro i m σ H ⟨rfl, hi, p⟩
  by_cases hlt : i < n
  · refine .inr ⟨hlt, Pv (i + 1), fun σ' H' p' => ⟨n - (i + 1), by omega, rfl, hlt, p'⟩, fun x H' y => ?_⟩
    obtain ⟨e, y⟩ := y
    subst e y
    exact hs i σ _ hlt p
  · have e : i = n := by omega
    subst e
    exact .inl ⟨Nat.le_refl _, hd σ H p⟩
end L2

namespace L2
open PySem PySem.Spec PyProof.Rows

abbrev R2 := V → V → Hp → VK → Prop
/-- a two-place operation on values: f is binaryOp op, inplaceOp op or compareOp op -/
def OpR (X : Cx) (f : Value → Value → Sem Value) (r : R2) : Prop :=
  ∀ (pins : List (Addr × Obj)) (s : Shared) (σ : St) (H : Hp) (x y : V) (v u : Value) (Q : VK), Inv X pins σ H s → RelV x v → RelV y u → r x y H Q →
    wpAny (model X.prog X.w) X.A (f v u) (EP X pins σ Q) X.xe s
/-- a one-place operation -/
def UnR (X : Cx) (f : Value → Sem Value) (r : V → Hp → VK → Prop) : Prop :=
  ∀ (pins : List (Addr × Obj)) (s : Shared) (σ : St) (H : Hp) (x : V) (v : Value) (Q : VK), Inv X pins σ H s → RelV x v → r x H Q →
    wpAny (model X.prog X.w) X.A (f v) (EP X pins σ Q) X.xe s
/-- a call of a value that is known (a builtin, a type) with values -/
def CallR (X : Cx) (f : Value) (r : List V → Hp → VK → Prop) : Prop :=
  ∀ (pins : List (Addr × Obj)) (s : Shared) (σ : St) (H : Hp) (xs : List V) (us : List Value) (Q : VK), Inv X pins σ H s → Vals xs us → r xs H Q →
    wpAny (model X.prog X.w) X.A (call f us) (EP X pins σ Q) X.xe s
def tOp (r : R2) (ta tb : TE) : TE := fun σ H Q => ta σ H fun x H1 => tb σ H1 fun y H2 => r x y H2 Q
def tUn (r : V → Hp → VK → Prop) (ta : TE) : TE := fun σ H Q => ta σ H fun x H1 => r x H1 Q
/-- ints in, under C, and a value out -/
def rI (C : Int → Int → Prop) (g : Int → Int → V) : R2 := fun x y H Q => ∃ i j, x = .int i ∧ y = .int j ∧ C i j ∧ Q (g i j) H
def rI0 (g : Int → Int → V) : R2 := fun x y H Q => ∃ i j, x = .int i ∧ y = .int j ∧ Q (g i j) H
def rU (g : Int → V) : V → Hp → VK → Prop := fun x H Q => ∃ i, x = .int i ∧ Q (g i) H

section
variable {X : Cx} {a b c : Expr} {ta tb tc : TE} {pos : Pos}

theorem binT (ha : PE X a ta) (hb : PE X b tb) {pins : List (Addr × Obj)} {s : Shared} {σ : St} {H : Hp} {R : V → V → Hp → Prop} (I : Inv X pins σ H s)
    (h : ta σ H fun x H1 => tb σ H1 fun y H2 => R x y H2) {Q : Value → Shared → Prop} {f : Value → Value → Sem Value}
    (hf : ∀ v u s2 x y H2, Inv X pins σ H2 s2 → RelV x v → RelV y u → R x y H2 → wpAny (model X.prog X.w) X.A (f v u) Q X.xe s2) :
    wpAny (model X.prog X.w) X.A (eval a X.env) (fun v s₁ => wpAny (model X.prog X.w) X.A (eval b X.env) (fun u s₂ => wpAny (model X.prog X.w) X.A (f v u) Q X.xe s₂) X.xe s₁) X.xe s := by
  refine thn (ha pins s σ H _ I h) fun v s1 ⟨x, H1, I1, r1, q1⟩ => ?_
  refine thn (hb pins s1 σ H1 _ I1 q1) fun u s2 ⟨y, H2, I2, r2, q2⟩ => ?_
  exact hf v u s2 x y H2 I2 r1 r2 q2

theorem pe_op {op : Operator} {r : R2} (ho : OpR X (binaryOp op) r) (ha : PE X a ta) (hb : PE X b tb) : PE X (.BinOp a op b pos) (tOp r ta tb) := by
  intro pins s σ H Q I h
  exact wpAny_BinOp (binT ha hb I h fun v u s2 x y H2 I2 rx ry q => ho pins s2 σ H2 x y v u Q I2 rx ry q)
theorem pe_un {op : UnaryOp} {r : V → Hp → VK → Prop} (ho : UnR X (unaryOp op) r) (ha : PE X a ta) : PE X (.UnaryOp op a pos) (tUn r ta) := by
  intro pins s σ H Q I h
  exact UnaryOp_ (thn (ha pins s σ H _ I h) fun v s1 ⟨x, H1, I1, r1, q1⟩ => ho pins s1 σ H1 x v Q I1 r1 q1)
/-! ### ints -/
theorem opI {f : Value → Value → Sem Value} {C : Int → Int → Prop} {g : Int → Int → Int}
    (rule : ∀ (i j : Int) (t u : Tok) (s : Shared) (Q : Value → Shared → Prop) (E : Value → Shared → Prop), C i j → Q (.int (g i j) s.toks) { s with toks := s.toks + 1 } → wpAny (model X.prog X.w) X.A (f (.int i t) (.int j u)) Q E s) :
    OpR X f (rI C fun i j => .int (g i j)) := by
  intro pins s σ H x y v u Q I rx ry h
  obtain ⟨i, j, rfl, rfl, hc, q⟩ := h
  obtain ⟨t, rfl⟩ := rx
  obtain ⟨t', rfl⟩ := ry
  exact rule i j t t' s _ _ hc ⟨.int (g i j), H, I.tok _, ⟨_, rfl⟩, q⟩
theorem opI0 {f : Value → Value → Sem Value} {g : Int → Int → Int}
    (rule : ∀ (i j : Int) (t u : Tok) (s : Shared) (Q : Value → Shared → Prop) (E : Value → Shared → Prop), Q (.int (g i j) s.toks) { s with toks := s.toks + 1 } → wpAny (model X.prog X.w) X.A (f (.int i t) (.int j u)) Q E s) :
    OpR X f (rI0 fun i j => .int (g i j)) := by
  intro pins s σ H x y v u Q I rx ry h
  obtain ⟨i, j, rfl, rfl, q⟩ := h
  obtain ⟨t, rfl⟩ := rx
  obtain ⟨t', rfl⟩ := ry
  exact rule i j t t' s _ _ ⟨.int (g i j), H, I.tok _, ⟨_, rfl⟩, q⟩
theorem opB0 {f : Value → Value → Sem Value} {g : Int → Int → Bool}
    (rule : ∀ (i j : Int) (t u : Tok) (s : Shared) (Q : Value → Shared → Prop) (E : Value → Shared → Prop), Q (.bool (g i j)) s → wpAny (model X.prog X.w) X.A (f (.int i t) (.int j u)) Q E s) :
    OpR X f (rI0 fun i j => .bl (g i j)) := by
  intro pins s σ H x y v u Q I rx ry h
  obtain ⟨i, j, rfl, rfl, q⟩ := h
  obtain ⟨t, rfl⟩ := rx
  obtain ⟨t', rfl⟩ := ry
  exact rule i j t t' s _ _ ⟨.bl (g i j), H, I, rfl, q⟩

def CDiv (i j : Int) : Prop := 0 < j ∧ j < 1073741824
def CPow (i j : Int) : Prop := 0 ≤ j ∧ j ≤ 1000000 ∧ i.natAbs < 2 ^ 64
def CMul (i j : Int) : Prop := (-(2 ^ 64) < i ∧ i < 2 ^ 64) ∨ (-(2 ^ 64) < j ∧ j < 2 ^ 64)
theorem CMul.ok {i j : Int} (h : CMul i j) : IntMulOk i j := by
  rcases h with ⟨h1, h2⟩ | ⟨h1, h2⟩
  · exact .of_left (intBits_le_64 h1 h2)
  · exact .of_right (intBits_le_64 h1 h2)
theorem op_add : OpR X (binaryOp .Add) (rI0 fun i j => .int (i + j)) := opI0 fun _ _ _ _ _ _ _ q => add_int q
theorem op_sub : OpR X (binaryOp .Sub) (rI0 fun i j => .int (i - j)) := opI0 fun _ _ _ _ _ _ _ q => sub_int q
theorem op_mul : OpR X (binaryOp .Mult) (rI CMul fun i j => .int (i * j)) := opI fun _ _ _ _ _ _ _ hc q => mul_int q hc.ok
/-- // by a positive divisor -/
theorem op_fdiv : OpR X (binaryOp .FloorDiv) (rI CDiv fun i j => .int (i / j)) := opI fun i j _ _ _ _ _ hc q => by
  have h1 : (0 : Int) < j := hc.1
  have h2 : j < 1073741824 := hc.2
  exact floordiv_int (by omega) (by rw [Int.fdiv_eq_ediv_of_nonneg i (by omega)]; exact q) (.inl (PyProof.noPylong_small (by omega)))
/-- % by a positive divisor of any size -/
theorem op_mod : OpR X (binaryOp .Mod) (rI (fun _ j => 0 < j) fun i j => .int (i % j)) := opI fun i j _ _ _ _ _ hc q => by
  have h1 : (0 : Int) < j := hc
  exact mod_int' (by omega) (by rw [Int.fmod_eq_emod_of_nonneg i (by omega)]; exact q)
theorem op_pow : OpR X (binaryOp .Pow) (rI CPow fun i j => .int (i ^ j.toNat)) := opI fun _ _ _ _ _ _ _ hc q => pow_int_small hc.1 hc.2.1 hc.2.2 q
theorem unI {f : Value → Sem Value} {g : Int → Int}
    (rule : ∀ (i : Int) (t : Tok) (s : Shared) (Q : Value → Shared → Prop) (E : Value → Shared → Prop), Q (.int (g i) s.toks) { s with toks := s.toks + 1 } → wpAny (model X.prog X.w) X.A (f (.int i t)) Q E s) :
    UnR X f (rU fun i => .int (g i)) := by
  intro pins s σ H x v Q I rx h
  obtain ⟨i, rfl, q⟩ := h
  obtain ⟨t, rfl⟩ := rx
  exact rule i t s _ _ ⟨.int (g i), H, I.tok _, ⟨_, rfl⟩, q⟩
theorem un_neg : UnR X (unaryOp .USub) (rU fun i => .int (-i)) := unI fun _ _ _ _ _ q => neg_int q
/-! ### bools among ints: n += (a < b) -/
end

/-! ### comparisons -/
/-- the scalars that == tells apart as data does -/
def scal : V → V → Bool
  | .non, .non => true | .non, .int _ => true | .int _, .non => true | .non, .bl _ => true | .bl _, .non => true | .non, .str _ => true | .str _, .non => true
  | .int _, .int _ => true | .bl _, .bl _ => true | .str _, .str _ => true | .byt _, .byt _ => true
  | .int _, .str _ => true | .str _, .int _ => true | .bl _, .str _ => true | .str _, .bl _ => true
  | _, _ => false
def rEq : R2 := fun x y H Q => scal x y = true ∧ Q (.bl (decide (x = y))) H
def rNe : R2 := fun x y H Q => scal x y = true ∧ Q (.bl (!decide (x = y))) H

theorem dec_int {i j : Int} : decide (V.int i = V.int j) = (i == j) := by
  rw [Bool.eq_iff_iff]
  simp
theorem dec_bl {i j : Bool} : decide (V.bl i = V.bl j) = (i == j) := by
  rw [Bool.eq_iff_iff]
  simp
theorem dec_str {i j : Str} : decide (V.str i = V.str j) = (i == j) := by
  rw [Bool.eq_iff_iff]
  simp
theorem dec_byt {i j : Array UInt8} : decide (V.byt i = V.byt j) = (i.toList == j.toList) := by
  rw [Bool.eq_iff_iff]
  cases i
  cases j
  simp

section
variable {X : Cx} {a b c : Expr} {ta tb tc : TE} {pos : Pos}
theorem fin_bl {pins : List (Addr × Obj)} {σ : St} {H : Hp} {s : Shared} {Q : VK} {k k' : Bool} (I : Inv X pins σ H s) (q : Q (.bl k) H) (e : k = k') : EP X pins σ Q (.bool k') s := by
  subst e
  exact ⟨.bl k, H, I, rfl, q⟩
theorem op_eq : OpR X (compareOp .Eq) rEq := by
  intro pins s σ H x y v u Q I rx ry h
  obtain ⟨hs, q⟩ := h
  cases x with
  | non =>
    cases rx
    cases y with
    | non => cases ry; exact PySem.EqNone.eq_none_none (fin_bl I q (by simp))
    | bl j => cases ry; exact PySem.EqNone.eq_none_bool (fin_bl I q (by simp))
    | int j => obtain ⟨t', rfl⟩ := ry; exact PySem.EqNone.eq_none_int (fin_bl I q (by simp))
    | str j => obtain ⟨t', rfl⟩ := ry; exact PySem.EqNone.eq_none_str (fin_bl I q (by simp))
    | _ => exact absurd (show false = true from hs) Bool.false_ne_true
  | bl i =>
    cases rx
    cases y with
    | non => cases ry; exact PySem.EqNone.eq_bool_none (fin_bl I q (by simp))
    | bl j => cases ry; exact eq_bool (fin_bl I q dec_bl)
    | str j => obtain ⟨t', rfl⟩ := ry; exact PySem.EqMixed.eq_bool_str (fin_bl I q (by simp))
    | _ => exact absurd (show false = true from hs) Bool.false_ne_true
  | int i =>
    obtain ⟨t, rfl⟩ := rx
    cases y with
    | non => cases ry; exact PySem.EqNone.eq_int_none (fin_bl I q (by simp))
    | int j => obtain ⟨t', rfl⟩ := ry; exact eq_int (fin_bl I q dec_int)
    | str j => obtain ⟨t', rfl⟩ := ry; exact PySem.EqMixed.eq_int_str (fin_bl I q (by simp))
    | _ => exact absurd (show false = true from hs) Bool.false_ne_true
  | str i =>
    obtain ⟨t, rfl⟩ := rx
    cases y with
    | non => cases ry; exact PySem.EqNone.eq_str_none (fin_bl I q (by simp))
    | bl j => cases ry; exact PySem.EqMixed.eq_str_bool (fin_bl I q (by simp))
    | int j => obtain ⟨t', rfl⟩ := ry; exact PySem.EqMixed.eq_str_int (fin_bl I q (by simp))
    | str j => obtain ⟨t', rfl⟩ := ry; exact eq_str (fin_bl I q dec_str)
    | _ => exact absurd (show false = true from hs) Bool.false_ne_true
  | byt i =>
    obtain ⟨t, rfl⟩ := rx
    cases y with
    | byt j => obtain ⟨t', rfl⟩ := ry; exact PySem.W.eq_bytes (fin_bl I q dec_byt)
    | _ => exact absurd (show false = true from hs) Bool.false_ne_true
  | _ => cases y <;> exact absurd (show false = true from hs) Bool.false_ne_true
theorem op_ne : OpR X (compareOp .NotEq) rNe := by
  intro pins s σ H x y v u Q I rx ry h
  obtain ⟨hs, q⟩ := h
  cases x with
  | non =>
    cases rx
    cases y with
    | non => cases ry; exact PySem.EqNone.ne_none_none (fin_bl I q (by simp))
    | bl j => cases ry; exact PySem.EqNone.ne_none_bool (fin_bl I q (by simp))
    | int j => obtain ⟨t', rfl⟩ := ry; exact PySem.EqNone.ne_none_int (fin_bl I q (by simp))
    | str j => obtain ⟨t', rfl⟩ := ry; exact PySem.EqNone.ne_none_str (fin_bl I q (by simp))
    | _ => exact absurd (show false = true from hs) Bool.false_ne_true
  | bl i =>
    cases rx
    cases y with
    | non => cases ry; exact PySem.EqNone.ne_bool_none (fin_bl I q (by simp))
    | bl j => cases ry; exact ne_bool (fin_bl I q (congrArg not dec_bl))
    | str j => obtain ⟨t', rfl⟩ := ry; exact PySem.EqMixed.ne_bool_str (fin_bl I q (by simp))
    | _ => exact absurd (show false = true from hs) Bool.false_ne_true
  | int i =>
    obtain ⟨t, rfl⟩ := rx
    cases y with
    | non => cases ry; exact PySem.EqNone.ne_int_none (fin_bl I q (by simp))
    | int j => obtain ⟨t', rfl⟩ := ry; exact ne_int (fin_bl I q (congrArg not dec_int))
    | str j => obtain ⟨t', rfl⟩ := ry; exact PySem.EqMixed.ne_int_str (fin_bl I q (by simp))
    | _ => exact absurd (show false = true from hs) Bool.false_ne_true
  | str i =>
    obtain ⟨t, rfl⟩ := rx
    cases y with
    | non => cases ry; exact PySem.EqNone.ne_str_none (fin_bl I q (by simp))
    | bl j => cases ry; exact PySem.EqMixed.ne_str_bool (fin_bl I q (by simp))
    | int j => obtain ⟨t', rfl⟩ := ry; exact PySem.EqMixed.ne_str_int (fin_bl I q (by simp))
    | str j => obtain ⟨t', rfl⟩ := ry; exact ne_str (fin_bl I q (congrArg not dec_str))
    | _ => exact absurd (show false = true from hs) Bool.false_ne_true
  | byt i =>
    obtain ⟨t, rfl⟩ := rx
    cases y with
    | byt j => obtain ⟨t', rfl⟩ := ry; exact PySem.W.ne_bytes (fin_bl I q (congrArg not dec_byt))
    | _ => exact absurd (show false = true from hs) Bool.false_ne_true
  | _ => cases y <;> exact absurd (show false = true from hs) Bool.false_ne_true

theorem op_lt : OpR X (compareOp .Lt) (rI0 fun i j => .bl (decide (i < j))) := opB0 fun _ _ _ _ _ _ _ q => lt_int q
theorem op_le : OpR X (compareOp .LtE) (rI0 fun i j => .bl (decide (i ≤ j))) := opB0 fun _ _ _ _ _ _ _ q => le_int q
theorem op_ge : OpR X (compareOp .GtE) (rI0 fun i j => .bl (decide (j ≤ i))) := opB0 fun _ _ _ _ _ _ _ q => ge_int q
/-- is None, is not None: the right side a value none -/
theorem op_isN : OpR X (compareOp .Is) (fun x y H Q => y = .non ∧ Q (.bl (decide (x = .non))) H) := by
  intro pins s σ H x y v u Q I rx ry h
  obtain ⟨rfl, q⟩ := h
  cases ry
  refine is_none_gen (fin_bl I q ?_)
  cases x <;> first
    | (cases rx; rfl)
    | (obtain ⟨t, rfl⟩ := rx; rfl)
/-- two rules for one operation: by cases -/
theorem OpR.or {f : Value → Value → Sem Value} {r r' : R2} (h : OpR X f r) (h' : OpR X f r') : OpR X f (fun x y H Q => r x y H Q ∨ r' x y H Q) := by
  intro pins s σ H x y v u Q I rx ry q
  rcases q with q | q
  · exact h pins s σ H x y v u Q I rx ry q
  · exact h' pins s σ H x y v u Q I rx ry q

theorem nomark (b : Expr) {op : CmpOp} (h : op ≠ .In := by decide) (h2 : op ≠ .NotIn := by decide) : behindInMarks op b = false := by
  have e1 : (op == CmpOp.In) = false := by cases op <;> first | rfl | exact absurd rfl h
  have e2 : (op == CmpOp.NotIn) = false := by cases op <;> first | rfl | exact absurd rfl h2
  cases b <;> simp [behindInMarks, e1, e2]
/-- a comparison as a value; hm: nomark b, or (for in, not in) by with_unfolding_all rfl -/
theorem pe_cmpR {op : CmpOp} {r : R2} (ho : OpR X (compareOp op) r) (ha : PE X a ta) (hb : PE X b tb) (hm : behindInMarks op b = false) : PE X (.Compare a [op] [b] pos) (tOp r ta tb) := by
  intro pins s σ H Q I h
  exact wpAny_Compare1 (binT ha hb I h fun v u s2 x y H2 I2 rx ry q => ho pins s2 σ H2 x y v u Q I2 rx ry q) hm
/-- a reading of a value as a test -/
def tTest (t : TE) : TT := fun σ H Q => t σ H fun x H' => ∃ k, x = .bl k ∧ Q k H'
theorem pt_cmpR {op : CmpOp} {r : R2} (ho : OpR X (compareOp op) r) (ha : PE X a ta) (hb : PE X b tb) (hm : behindInMarks op b = false) : PT X (.Compare a [op] [b] pos) (tTest (tOp r ta tb)) := by
  intro pins s σ H Q I h
  refine wpAny_isTrue_Compare1 (thn (ha pins s σ H _ I h) fun v s1 ⟨x, H1, I1, r1, q1⟩ => thn (hb pins s1 σ H1 _ I1 q1) fun u s2 ⟨y, H2, I2, r2, q2⟩ =>
    thn (ho pins s2 σ H2 x y v u _ I2 r1 r2 q2) fun c s3 ⟨z, H3, I3, r3, k, e, q3⟩ => ?_) hm
  subst e
  cases r3
  exact wpAny_truthy_bool ⟨H3, I3, q3⟩
/-- a op1 b op2 c -/
def tChain (r r' : R2) (ta tb tc : TE) : TE := fun σ H Q => ta σ H fun x H1 => tb σ H1 fun y H2 => r x y H2 fun z H3 => ∃ k, z = .bl k ∧
  (if k = true then tc σ H3 fun w' H4 => r' y w' H4 Q else Q (.bl false) H3)
theorem pt_chain {op op' : CmpOp} {r r' : R2} (ho : OpR X (compareOp op) r) (ho' : OpR X (compareOp op') r') (ha : PE X a ta) (hb : PE X b tb) (hc : PE X c tc)
    (hm : lastMarks [op, op'] [b, c] = false := by with_unfolding_all rfl) : PT X (.Compare a [op, op'] [b, c] pos) (tTest (tChain r r' ta tb tc)) := by
  intro pins s σ H Q I h
  refine isTrue_chain (thn (ha pins s σ H _ I h) fun v s1 ⟨x, H1, I1, r1, q1⟩ => test_link (thn (hb pins s1 σ H1 _ I1 q1) fun u s2 ⟨y, H2, I2, r2, q2⟩ =>
    thn (ho pins s2 σ H2 x y v u _ I2 r1 r2 q2) fun d s3 ⟨z, H3, I3, r3, k, e, q3⟩ => ?_)) hm
  subst e
  cases r3
  refine wpAny_truthy_bool ?_
  cases k with
  | false =>
    obtain ⟨k', e', q'⟩ := q3
    cases e'
    exact ite_ff ⟨H3, I3, q'⟩
  | true =>
    refine ite_tt (test_last (thn (hc pins s3 σ H3 _ I3 q3) fun w' s4 ⟨z', H4, I4, r4, q4⟩ => thn (ho' pins s4 σ H4 y z' u w' _ I4 r2 r4 q4) fun d' s5 ⟨z2, H5, I5, r5, k2, e2, q5⟩ => ?_))
    subst e2
    cases r5
    exact wpAny_truthy_bool ⟨H5, I5, q5⟩

/-! ### truth -/
theorem line63 : (sizeLine : Nat) < 2 ^ 63 := by rw [sizeLine_eq]; decide
/-! ### strs and bytes -/
/-! ### scalar builtins, by CallR -/
theorem vals1 {x : V} {us : List Value} (r : Vals [x] us) : ∃ u, us = [u] ∧ RelV x u := by
  cases r with
  | cons r1 r2 => cases r2; exact ⟨_, rfl, r1⟩
theorem vals2 {x y : V} {us : List Value} (r : Vals [x, y] us) : ∃ u w', us = [u, w'] ∧ RelV x u ∧ RelV y w' := by
  cases r with
  | cons r1 r2 =>
    cases r2 with
    | cons r3 r4 => cases r4; exact ⟨_, _, rfl, r1, r3⟩
theorem call_min2 (hc : X.calm = true) : CallR X (.builtin "min") (fun xs H Q => ∃ i j, xs = [.int i, .int j] ∧ Q (.int (if j < i then j else i)) H) := by
  intro pins s σ H xs us Q I r h
  obtain ⟨i, j, rfl, q⟩ := h
  obtain ⟨u, w', rfl, ⟨t, rfl⟩, ⟨t', rfl⟩⟩ := vals2 r
  refine min_two_ints (I.ok.hd hc) fun h' tk k => ⟨_, H, I.kept k, ?_, q⟩
  by_cases hj : j < i
  · rw [if_pos hj, if_pos hj]; exact ⟨_, rfl⟩
  · rw [if_neg hj, if_neg hj]; exact ⟨_, rfl⟩
theorem call_int1 : CallR X (.type "int") (fun xs H Q => (∃ i, xs = [.int i] ∧ Q (.int i) H) ∨ ∃ k, xs = [.bl k] ∧ Q (.int (if k then 1 else 0)) H) := by
  intro pins s σ H xs us Q I r h
  rcases h with ⟨i, rfl, q⟩ | ⟨k, rfl, q⟩
  · obtain ⟨u, rfl, t, rfl⟩ := vals1 r
    exact call_int_int ⟨.int i, H, I, ⟨_, rfl⟩, q⟩
  · obtain ⟨u, rfl, r1⟩ := vals1 r
    cases r1
    exact call_int_bool ⟨.int (if k then 1 else 0), H, I.tok _, ⟨_, rfl⟩, q⟩
end
end L2

namespace L2
open PySem PySem.Spec PyProof.Rows

/-! ### an instance, its attributes a map -/
structure ObjM (h : Heap) (x dx C : Addr) (mA : Str → Option Value) : Prop where
  obj : h.get? x = some (PySem.W.instObj C dx)
  ns : h.Ns1 dx mA
  ne : dx ≠ x

theorem lookIn_ns {h : Heap} {dx : Addr} {mA : Str → Option Value} (n : h.Ns1 dx mA) : ∃ od, h.get? dx = some od ∧ ∀ name, PySem.W.lookIn name od = some (mA name) := by
  obtain ⟨o, es, ep, ho, hd, hk, _, hm⟩ := n
  refine ⟨o, ho, fun name => ?_⟩
  have e := hm name
  unfold nsFind findBy at e
  rw [← Array.find?_toList] at e
  unfold PySem.W.lookIn
  rw [hd]
  dsimp only
  split
  · rename_i y q
    rw [q] at e
    exact congrArg some e
  · rename_i q
    rw [q] at e
    have a : es.toList.any (·.refKey) = false := by
      rw [List.any_eq_false]
      intro y hy
      obtain ⟨z, t, hkey⟩ := hk y (Array.mem_toList_iff.mp hy)
      simp [DictEntry.refKey, hkey]
    have a' : ¬ es.toList.any (·.refKey) = true := by rw [a]; exact Bool.false_ne_true
    rw [if_neg a']
    exact congrArg some e

theorem ObjM.look {h : Heap} {x dx C : Addr} {mA : Str → Option Value} (I : ObjM h x dx C mA) : ∃ od, PySem.W.InstAt h x (PySem.W.instObj C dx) C (some od) ∧ ∀ name, PySem.W.lookIn name od = some (mA name) :=
  let ⟨od, ho, hl⟩ := lookIn_ns I.ns
  ⟨od, ⟨I.obj, rfl, rfl, ho⟩, hl⟩

section
variable {prog : Program} {w : World} {A : Around} {E : Value → Shared → Prop} {s : Shared} {K : PySem.W.Frag} {x dx C f : Addr} {mA : Str → Option Value} {name : Str} {v : Value}

end

/-! ### the attributes as a list of pairs -/
section
variable {P : Program} {w : World} {H H' : Hp} {h h' : Heap} {a C dx : Addr} {fs fs' : List (Str × V)}
theorem ins_get (hok : HOk P w H h) (e : H a = some (.ins C dx fs)) : ∃ mA, ObjM h a dx C mA ∧ (∀ f, RelO (fs.lookup f) (mA f)) ∧ PySem.Within mA (fs.map (·.1)) ∧ fs.length ≤ 1000 ∧ H dx = some (.own a) := by
  obtain ⟨d, z, ne, ob, mA, n, r, q⟩ := (show ObjOk P w H h a (.ins C dx fs) from hok a _ e)
  exact ⟨mA, ⟨ob, n, ne⟩, r, q, z, d⟩
end

/-! ### what of the text a class must have -/
structure Cls (K : PySem.W.Frag) (C : Addr) : Prop where
  pg : PySem.W.plainGet K C Str.empty = true
  hd : PySem.W.hasDictIn K C = true
  po : PySem.W.plainOver K C = true
  sa : PySem.W.findIn K (.ref C) "__setattr__" = some (some (.builtin "object.__setattr__"))
theorem Cls.get {K : PySem.W.Frag} {C : Addr} (c : Cls K C) (f : Str) : PySem.W.plainGet K C f = true := c.pg
/-- a constant of the class -/
structure Con (K : PySem.W.Frag) (C : Addr) (f : Str) (v : V) (u : Value) : Prop where
  at_ : PySem.W.findIn K (.ref C) f = some (some u)
  rel : RelV v u
  get : PySem.W.specialIn K u "__get__" = some none
  cp : PySem.W.copiedNames.contains f = false
/-- a method: a plain def of the class or of one above it -/
structure Meth (K : PySem.W.Frag) (C : Addr) (m : Str) (f : Addr) : Prop where
  at_ : PySem.W.findIn K (.ref C) m = some (some (.ref f))
  fn : PySem.W.isFn K (.ref f) = true
  kp : PySem.W.keepIn K (.ref f) = true

section
variable {X : Cx} {pins : List (Addr × Obj)} {σ : St} {H : Hp} {s : Shared} {a C dx : Addr} {fs : List (Str × V)} {f : Str} {v : V} {A : Around} {E : Value → Shared → Prop}

/-- a new instance, tracked, without attributes -/
theorem Inv.made (I : Inv X pins σ H s) : Inv X pins σ (upd (upd H s.heap.objs.size (.own (s.heap.objs.size + 1))) (s.heap.objs.size + 1) (.ins C s.heap.objs.size []))
    { s with heap := (s.heap.push PySem.W.emptyDict).push (PySem.W.instObj C s.heap.objs.size) } := by
  have e1 : (s.heap.push PySem.W.emptyDict).get? s.heap.objs.size = some PySem.W.emptyDict := Heap.get?_push_size s.heap rfl
  have e2 : ((s.heap.push PySem.W.emptyDict).push (PySem.W.instObj C s.heap.objs.size)).get? (s.heap.objs.size + 1) = some (PySem.W.instObj C s.heap.objs.size) := by
    have := Heap.get?_push_size (s.heap.push PySem.W.emptyDict) (o := PySem.W.instObj C s.heap.objs.size) rfl
    rwa [Heap.size_push] at this
  have e3 : (s.heap.push PySem.W.emptyDict).Ns s.heap.objs.size (fun _ => none) := ⟨PySem.W.emptyDict, #[], _, e1, rfl, (fun e he => absurd he (by simp)), fun _ => rfl⟩
  have I1 := I.laid (a := s.heap.objs.size) (o := .own (s.heap.objs.size + 1)) (h' := s.heap.push PySem.W.emptyDict) (t' := s.toks) (fun b u q => Heap.get?_push_of_some _ q) (Nat.le_refl _) ⟨_, e1⟩
  refine I1.laid (a := s.heap.objs.size + 1) (o := .ins C s.heap.objs.size []) (t' := s.toks) (fun b u q => Heap.get?_push_of_some _ q) (Nat.le_of_eq (Heap.size_push _ _)) ?_
  have ne : s.heap.objs.size ≠ s.heap.objs.size + 1 := Nat.ne_of_lt (Nat.lt_succ_self _)
  refine ⟨by rw [upd_ne ne, upd_same], Nat.zero_le _, ne, e2, fun _ => none, (Heap.Ns1.of_empty e3).at fun o q => Heap.get?_push_of_some _ q, fun _ => True.intro, fun y hy => absurd rfl hy⟩

end

/-! ### readings and rules -/
section
variable {X : Cx} {o e value : Expr} {f : Str} {pos pos' tpos : Pos} {ta tv : TE}
end

/-! ### isinstance -/
section
variable {X : Cx} {pins : List (Addr × Obj)} {σ : St} {H : Hp} {s : Shared} {A : Around} {E : Value → Shared → Prop} {Q : Value → Shared → Prop} {c : Value} {b : Bool}
/-- the type of a value, as the fragment's deciders take it; for an instance its class -/
inductive TyOf (K : PySem.W.Frag) (H : Hp) : V → Value → Prop where
  | non : TyOf K H .non (.type "NoneType")
  | bl (x : Bool) : TyOf K H (.bl x) (.type "bool")
  | int (i : Int) : TyOf K H (.int i) (.type "int")
  | str (x : Str) : TyOf K H (.str x) (.type "str")
  | flt (x : UInt64) : TyOf K H (.flt x) (.type "float")
  | lst {a : Addr} {xs : List V} (e : H a = some (.lst xs)) : TyOf K H (.ref a) (.type "list")
  | frz {a : Addr} {o : Obj} {xs : List V} (e : H a = some (.frz o (.lst xs))) : TyOf K H (.ref a) (.type "list")
  | tup {a : Addr} {xs : List V} (e : H a = some (.tup xs)) : TyOf K H (.ref a) (.type "tuple")
  | dK {a : Addr} {kvs : List (Key × V)} (e : H a = some (.dK kvs)) : TyOf K H (.ref a) (.type "dict")
  | dT {a : Addr} {kvs : List (List Key × V)} (e : H a = some (.dT kvs)) : TyOf K H (.ref a) (.type "dict")
  | ins {a C dx : Addr} {fs : List (Str × V)} (e : H a = some (.ins C dx fs)) (cl : Cls K C) (ha : PySem.W.findIn K (.ref C) "__class__" = some (some (.builtin "object.__class__")))
      (hn : PySem.W.specialIn K (.builtin "object.__class__") "__get__" = some (some (.builtin "getset_descriptor.__get__"))) (htk : PySem.W.takesIn K (.builtin "object.__class__") = some true)
      (hm : PySem.W.mroIn K C (.type "object") = some true) : TyOf K H (.ref a) (.ref C)
/-- isinstance(x, c) for one class c, a built-in or an own one: kitOne's answer -/
theorem isinst_ok {x : V} {u t : Value} (I : Inv X pins σ H s) (rx : RelV x u) (ty : TyOf X.K H x t) (e : PySem.W.kitOne X.K t c = some b) (h : ∀ tk, Q (.bool b) { s with toks := tk }) :
    wpAny (model X.prog X.w) A (call (.builtin "isinstance") [u, c]) Q E s := by
  cases ty with
  | non => cases (show u = Value.none from rx); exact PySem.W.kia_one PySem.W.kitx_none I.kIn True.intro e (fun z => nomatch z) h
  | bl y => cases (show u = Value.bool y from rx); exact PySem.W.kia_one PySem.W.kitx_bool I.kIn True.intro e (fun z => nomatch z) h
  | int i => obtain ⟨t, q⟩ := (show ∃ t, u = Value.int i t from rx); cases q; exact PySem.W.kia_one PySem.W.kitx_int I.kIn True.intro e (fun z => nomatch z) h
  | str y => obtain ⟨t, q⟩ := (show ∃ t, u = Value.str y t from rx); cases q; exact PySem.W.kia_one PySem.W.kitx_str I.kIn True.intro e (fun z => nomatch z) h
  | flt y => obtain ⟨t, q⟩ := (show ∃ t, u = Value.float y t from rx); cases q; exact PySem.W.kia_one PySem.W.kitx_float I.kIn True.intro e (fun z => nomatch z) h
  | @lst a xs ea =>
    cases (show u = Value.ref a from rx)
    obtain ⟨_, _, n, _, h1⟩ := (show ObjOk X.prog X.w H s.heap a (.lst xs) from I.hok a _ ea)
    exact PySem.W.kia_one PySem.W.kitx_list I.kIn ⟨_, h1, rfl⟩ e (fun z => nomatch z) h
  | @frz a ob xs ea =>
    cases (show u = Value.ref a from rx)
    obtain ⟨_, _, _, n, _, h1⟩ := (show ObjOk X.prog X.w H s.heap a (.frz ob (.lst xs)) from I.hok a _ ea)
    exact PySem.W.kia_one PySem.W.kitx_list I.kIn ⟨_, h1, rfl⟩ e (fun z => nomatch z) h
  | @tup a xs ea =>
    cases (show u = Value.ref a from rx)
    obtain ⟨_, _, _, p⟩ := (show ObjOk X.prog X.w H s.heap a (.tup xs) from I.hok a _ ea)
    obtain ⟨o, h1, h2, _⟩ := p
    exact PySem.W.kia_one PySem.W.kitx_tuple I.kIn ⟨o, h1, h2⟩ e (fun z => nomatch z) h
  | @dK a kvs ea =>
    cases (show u = Value.ref a from rx)
    obtain ⟨_, _, vs, _, p⟩ := (show ObjOk X.prog X.w H s.heap a (.dK kvs) from I.hok a _ ea)
    obtain ⟨o, es, ep, h1, h2, _⟩ := p
    exact PySem.W.kia_one PySem.W.kitx_dict I.kIn ⟨o, h1, h2.1⟩ e (fun z => nomatch z) h
  | @dT a kvs ea =>
    cases (show u = Value.ref a from rx)
    obtain ⟨_, _, xs, _, o, es, ep, h1, h2, _⟩ := (show ObjOk X.prog X.w H s.heap a (.dT kvs) from I.hok a _ ea)
    exact PySem.W.kia_one PySem.W.kitx_dict I.kIn ⟨o, h1, h2.1⟩ e (fun z => nomatch z) h
  | @ins a C dx fs ea cl ha hn htk hm =>
    cases (show u = Value.ref a from rx)
    obtain ⟨mA, O, _⟩ := ins_get I.hok ea
    obtain ⟨od, J, _⟩ := O.look
    exact PySem.W.kia_one (PySem.W.kitx_own (cl.get _) cl.hd ha hn htk hm) I.kIn J e (fun z => nomatch z) h
end
end L2

namespace L2
open PySem PySem.Spec PyProof.Rows

/-! ### room -/
structure Room (k : Nat) (A : Around) : Prop where
  hd : A.handled = none
  dp : A.depth + 3 * k + 5 < recursionLimit
  un : A.units + 16 * k + 200 < cLine
theorem Room.mono {j k : Nat} {A : Around} (r : Room k A) (h : j ≤ k) : Room j A := ⟨r.hd, by have := r.dp; omega, by have := r.un; omega⟩
theorem Room.deeper {k : Nat} {A : Around} (r : Room (k + 1) A) (env : Env) : Room k (A.deeper env) :=
  ⟨r.hd, by have := r.dp; show A.depth + 1 + 3 * k + 5 < _; omega, by have := r.un; show A.units + 3 + 16 * k + 200 < _; omega⟩
theorem Room.in1 {k : Nat} {A : Around} (r : Room (k + 1) A) : Room k A.in1 :=
  ⟨r.hd, by have := r.dp; show A.depth + 3 * k + 5 < _; omega, by have := r.un; show A.units + 1 + 16 * k + 200 < _; omega⟩
theorem Room.depth {k : Nat} {A : Around} (r : Room k A) : A.depth < recursionLimit := by have := r.dp; omega
theorem Room.units {k : Nat} {A : Around} (r : Room k A) : A.units + 64 < cLine := by have := r.un; omega
/-! ### argument lists and displays -/
def tNil : TA := fun _ H Q => Q [] H
def tCons (ta : TE) (tr : TA) : TA := fun σ H Q => ta σ H fun x H1 => tr σ H1 fun xs H2 => Q (x :: xs) H2
section
variable {X : Cx} {e : Expr} {es : List Expr} {te : TE} {t : TA} {pos : Pos}
theorem pa_nil : PA X [] tNil := fun _ _ _ _ H Q I h => Calls.spliced_nil ⟨[], H, I, .nil, h⟩
theorem pa_cons (ha : PE X e te) (hr : PA X es t) (hs : starEach (e :: es) X.env = (false, eval e X.env) :: starEach es X.env := by rfl) : PA X (e :: es) (tCons te t) := by
  intro pos pins s σ H Q I h
  rw [hs]
  show wpAny _ _ (spliced ((false, eval e X.env) :: backTo pos (starEach es X.env))) _ _ s
  refine Calls.spliced_cons (thn (ha pins s σ H _ I h) fun u s1 ⟨x, H1, I1, r1, q1⟩ => ?_)
  exact thn (hr pos pins s1 σ H1 _ I1 q1) fun us s2 ⟨xs, H2, I2, r2, q2⟩ => ⟨x :: xs, H2, I2, .cons r1 r2, q2⟩

/-- a tuple, a list of written items -/
def tTup (t : TA) : TE := fun σ H Q => t σ H fun xs H1 => xs.length ≤ sizeLine ∧ ∀ p, H1 p = none → Q (.ref p) (upd H1 p (.tup xs))
def tLst (t : TA) : TE := fun σ H Q => t σ H fun xs H1 => xs.length ≤ sizeLine ∧ ∀ p, H1 p = none → Q (.ref p) (upd H1 p (.lst xs))
theorem pe_tup {x1} (h : PA X es t) : PE X (.Tuple es x1 pos) (tTup t) := by
  intro pins s σ H Q I hq
  refine wpAny_Tuple_spliced (thn (h pos pins s σ H _ I hq) fun us s1 ⟨xs, H1, I1, r, z, q⟩ => ⟨by rw [← r.length]; exact z, ?_⟩)
  have hf : H1 s1.heap.objs.size = none := I1.hok.fresh (Nat.le_refl _)
  refine ⟨.ref s1.heap.objs.size, upd H1 s1.heap.objs.size (.tup xs), I1.laid (t' := s1.toks) (fun b u e => Heap.get?_push_of_some _ e) (Nat.le_refl _) ?_, rfl, q _ hf⟩
  exact ⟨z, us, r, ⟨_, Heap.get?_push_size _ rfl, rfl, _, rfl⟩⟩
theorem pe_lst (h : PA X es t) : PE X (.List es pos) (tLst t) := by
  intro pins s σ H Q I hq
  refine wpAny_List_spliced (thn (h pos pins s σ H _ I hq) fun us s1 ⟨xs, H1, I1, r, z, q⟩ => ⟨by rw [← r.length]; exact z, ?_⟩)
  have hf : H1 s1.heap.objs.size = none := I1.hok.fresh (Nat.le_refl _)
  refine ⟨.ref s1.heap.objs.size, upd H1 s1.heap.objs.size (.lst xs), I1.laid (t' := s1.toks) (fun b u e => Heap.get?_push_of_some _ e) (Nat.le_refl _) ?_, rfl, q _ hf⟩
  exact ⟨z, us, 0, r, Heap.get?_push_size _ rfl⟩
end

/-! ### what a def promises -/
/-- a def's promise: the bound arguments in the parameters' order, the heap, the wanted end, the wanted exception -/
abbrev Sp := List V → Hp → VK → XK → Prop
/-- how an exception lies behind a call (file 08 gives it): the callers' frames, abstract heap and state ahead of the call, the wish, the exception, the state -/
abbrev CXT := List Env → Hp → Shared → XK → Value → Shared → Prop

/-- the state at a call -/
structure Env0 (P : Program) (w : World) (K : PySem.W.Frag) (mg : Str → Option Value) (base : Heap) (A : Around) (outer : List Env) (s : Shared) (H : Hp) : Prop where
  frames : A.frames = some outer
  mod : Mod K mg base
  bs : ∀ b o, base.get? b = some o → s.heap.get? b = some o ∧ H b = none
  bsz : base.objs.size ≤ s.heap.objs.size
  funs : s.heap.FunFrames base outer
  frf : ∀ b ∈ frs outer, H b = none
  hok : HOk P w H s.heap
  bare : AllBare s.gens
/-- a call's end -/
def CE (outer : List Env) (P : Program) (w : World) (H : Hp) (s : Shared) (Q : VK) (u : Value) (s' : Shared) : Prop :=
  ∃ v H', s'.os = s.os ∧ AllBare s'.gens ∧ Un (frs outer) [] H H' s.heap s'.heap ∧ HOk P w H' s'.heap ∧ RelV v u ∧ Q v H'
def CR (CX : CXT) (outer : List Env) (P : Program) (w : World) (H : Hp) (s : Shared) (Q : VK) (E : XK) (r : Result) (s' : Shared) : Prop :=
  match r with
  | .ok (.ret u) => CE outer P w H s Q u s'
  | .ok _ => False
  | .error e => CX outer H s E e s'
structure FnOk (P : Program) (w : World) (K : PySem.W.Frag) (mg : Str → Option Value) (base : Heap) (CX : CXT) (k : Nat) (f : Addr) (fd : FuncData) (ps : List Str) (sp : Sp) : Prop where
  len : ∀ vs H Q E, sp vs H Q E → vs.length = ps.length
  run : ∀ (A : Around) (outer : List Env) (s : Shared) (H : Hp) (args : Args) (us : List Value) (vs : List V) (Q : VK) (E : XK), Room k A → Env0 P w K mg base A outer s H → BindsTo s fd args (ps.zip us) → Vals vs us → sp vs H Q E →
    codeAny (model P w) A (.call (.ref f) args) (CR CX outer P w H s Q E) s
theorem FnOk.mono {P : Program} {w : World} {K : PySem.W.Frag} {mg : Str → Option Value} {base : Heap} {CX : CXT} {j k : Nat} {f : Addr} {fd : FuncData} {ps : List Str} {sp : Sp} (F : FnOk P w K mg base CX j f fd ps sp) (h : j ≤ k) :
    FnOk P w K mg base CX k f fd ps sp := ⟨F.len, fun A outer s H args us vs Q E hr => F.run A outer s H args us vs Q E (hr.mono h)⟩
theorem Env0.in1 {P : Program} {w : World} {K : PySem.W.Frag} {mg : Str → Option Value} {base : Heap} {A : Around} {outer : List Env} {s : Shared} {H : Hp} (e : Env0 P w K mg base A outer s H) :
    Env0 P w K mg base A.in1 outer s H := ⟨e.frames, e.mod, e.bs, e.bsz, e.funs, e.frf, e.hok, e.bare⟩

section
variable {X : Cx} {pins : List (Addr × Obj)} {σ : St} {H : Hp} {s s' : Shared}
/-- from a body: what a callee wants -/
theorem Inv.env0 (I : Inv X pins σ H s) : Env0 X.prog X.w X.K X.mg X.base X.A X.stack s H :=
  ⟨I.ok.frames, I.ok.mod, I.bs, Nat.le_trans I.ok.bsz I.sz, I.stack, I.stkFree, I.hok, I.bare⟩
/-- behind a call -/
theorem Inv.after {Q : VK} {u : Value} (I : Inv X pins σ H s) (h : CE X.stack X.prog X.w H s Q u s') : EP X pins σ Q u s' := by
  obtain ⟨v, H', os, bare, un, hok, r, q⟩ := h
  obtain ⟨hh, g, d, t, os'⟩ := s'
  obtain rfl : os' = s.os := os
  exact ⟨v, H', I.call (h' := hh) (g' := g) (d' := d) (t' := t) (ch := []) un hok bare (fun b z => absurd z (by simp)), r, q⟩
end

/-! ### calls -/
/-- f(..): the written arguments, then the defaults dvs; E: what is wanted of an exception -/
def tCall (sp : Sp) (dvs : List V) (E : XK) (t : TA) : TE := fun σ H Q => t σ H fun vs H1 => sp (vs ++ dvs) H1 Q E
/-- how the parameters are bound: us the positional arguments, kw the keywords' values by name, ds the defaults that fill up -/
def Binds (K : PySem.W.Frag) (fd : FuncData) (ps : List Str) (ds : List Value) : Prop :=
  ∀ (s : Shared) (us : List Value), K.In s.heap → (us ++ ds).length = ps.length → BindsTo s fd ⟨us, []⟩ (ps.zip (us ++ ds))
/-- every parameter is given -/
theorem Binds.all {K : PySem.W.Frag} {fd : FuncData} {ps : List Str} (h : ∀ us : List Value, us.length = ps.length → bindArgs fd ⟨us, []⟩ = pure (ps.zip us)) : Binds K fd ps [] := fun s us _ hl => by
  rw [List.append_nil] at hl ⊢
  exact .of_eq (h us hl)

/-- an exception of a callee reaches what this body wants of exceptions -/
def Passes (CX : CXT) (X : Cx) (E : XK) : Prop := ∀ (pins : List (Addr × Obj)) (σ : St) (H : Hp) (s : Shared) (e : Value) (s' : Shared), Inv X pins σ H s → CX X.stack H s E e s' → X.xe e s'

section
variable {X : Cx} {CX : CXT} {k : Nat} {f C : Addr} {fd : FuncData} {ps : List Str} {sp : Sp} {dvs : List V} {ds : List Value} {E : XK} {x m : Str} {p pos apos : Pos} {e o : Expr} {es : List Expr} {ta : TE} {t : TA}

/-- the callee runs -/
theorem run_fn {pins : List (Addr × Obj)} {σ : St} {H : Hp} {s : Shared} {Q : VK} {us : List Value} {vs : List V} (F : FnOk X.prog X.w X.K X.mg X.base CX k f fd ps sp) (hr : Room k X.A) (hb : Binds X.K fd ps ds) (hd : Vals dvs ds) (hx : Passes CX X E)
    (I : Inv X pins σ H s) (r : Vals vs us) (h : sp (vs ++ dvs) H Q E) : wpAny (model X.prog X.w) X.A (call (.ref f) us) (EP X pins σ Q) X.xe s := by
  have r2 : Vals (vs ++ dvs) (us ++ ds) := r.append hd
  have hl : (us ++ ds).length = ps.length := by rw [← r2.length]; exact F.len _ _ _ _ h
  refine wpAny_call (codeAny_mono (F.run X.A X.stack s H ⟨us, []⟩ (us ++ ds) (vs ++ dvs) Q E hr I.env0 (hb s us I.kIn hl) r2 h) fun r s' hq => ?_)
  cases r with
  | error e => exact hx pins σ H s e s' I hq
  | ok fl =>
    cases fl with
    | ret u => exact I.after hq
    | next => exact False.elim hq
    | brk => exact False.elim hq
    | cont => exact False.elim hq

theorem pe_call (F : FnOk X.prog X.w X.K X.mg X.base CX k f fd ps sp) (hr : Room k X.A) (hg : Gl X x) (hm : X.mg x = some (.ref f)) (hk : PySem.W.keepIn X.K (.ref f) = true) (hb : Binds X.K fd ps ds) (hd : Vals dvs ds) (hx : Passes CX X E)
    (ha : PA X (e :: es) t) (hdb : (x == ("__debug__" : Str)) = false := by decide) (he : starEach (e :: es) X.env = (false, eval e X.env) :: starEach es X.env := by rfl) (hpl : (backTo pos (starEach es X.env)).any (·.1) = false := by rfl) :
    PE X (.Call (.Name x p) (e :: es) [] pos) (tCall sp dvs E t) := by
  intro pins s σ H Q I h
  refine wpAny_Call_Name_kw (ld_glob I hg hm ?_ hdb)
  refine PySem.W.callWith_K (h₀ := X.base) I.ok.mod.kin hk (thn (ha pos pins s σ H _ I h) fun us s1 ⟨vs, H1, I1, r, q⟩ => ⟨I1.kIn, ?_⟩) he hpl
  exact run_fn F hr hb hd hx I1 r q
/-- what a class must have to be made -/
structure Mk (K : PySem.W.Frag) (C f : Addr) : Prop where
  makes : PySem.W.makesIn K C = true
  init : PySem.W.findIn K (.ref C) "__init__" = some (some (.ref f))
  fn : PySem.W.isFn K (.ref f) = true
  kp : PySem.W.keepIn K (.ref C) = true

end

/-! ### keywords -/
section
variable {X : Cx} {CX : CXT} {k : Nat} {f C : Addr} {fd : FuncData} {ps ks : List Str} {sp : Sp} {E : XK} {x m : Str} {p pos apos kpos : Pos} {e o : Expr} {es : List Expr} {kws : List Keyword} {te ta : TE} {t tk : TA} {nm : Option Str}
/-- how a call with keywords binds: g puts the positional values us and the keywords' values ws (names ks) in the parameters' order, defaults among them -/
structure KBinds (K : PySem.W.Frag) (fd : FuncData) (ps ks : List Str) (g : List Value → List Value → List Value) (gV : List V → List V → List V) : Prop where
  to : ∀ (s : Shared) (us ws : List Value), K.In s.heap → (g us ws).length = ps.length → BindsTo s fd ⟨us, ks.zip ws⟩ (ps.zip (g us ws))
  rel : ∀ {vs : List V} {us : List Value} {zs : List V} {ws : List Value}, Vals vs us → Vals zs ws → Vals (gV vs zs) (g us ws)
variable {g : List Value → List Value → List Value} {gV : List V → List V → List V}
end

/-! ### a def's body keeps its promise -/
/-- names: the parameters first -/
structure FnScope (N P : List Str) (sc : Scope) : Prop where
  kind : sc.kind = .function
  co : sc.isCoroutine = false
  gen : sc.isGenerator = false
  nd : N.Nodup
  pre : N.take P.length = P
  par : ∀ x ∈ P, sc.names.lookup x = some .local ∨ sc.names.lookup x = some .cell
  nofree : ∀ y ∈ sc.names, y.2 ≠ .free

theorem bindL_out {kindOf : Str → Option NameKind} {x : Str} : ∀ {binds : List (Str × Value)} {m : Str → Option Value}, (∀ v, (x, v) ∉ binds) → bindL kindOf binds m x = m x
  | [], _, _ => rfl
  | (n, v) :: r, m, h => by
    unfold bindL
    rw [bindL_out fun w hw => h w (List.mem_cons_of_mem _ hw)]
    split
    · have : x ≠ n := by rintro rfl; exact h v List.mem_cons_self
      simp [this]
    · rfl
theorem bindC_out {kindOf : Str → Option NameKind} {x : Str} : ∀ {binds : List (Str × Value)} {m : Str → Option Value}, (∀ v, (x, v) ∉ binds) → bindC kindOf binds m x = m x
  | [], _, _ => rfl
  | (n, v) :: r, m, h => by
    unfold bindC
    rw [bindC_out fun w hw => h w (List.mem_cons_of_mem _ hw)]
    split
    · rfl
    · have : x ≠ n := by rintro rfl; exact h v List.mem_cons_self
      simp [this]
theorem bindL_get {kindOf : Str → Option NameKind} {x : Str} {v : Value} : ∀ {P : List Str} {vs : List Value} {i : Nat} {m : Str → Option Value}, P.Nodup → P[i]? = some x → vs[i]? = some v → kindOf x = some .local →
    bindL kindOf (P.zip vs) m x = some v
  | [], _, _, _, _, h, _, _ => by simp at h
  | _ :: _, [], _, _, _, _, h, _ => by simp at h
  | p :: P, w :: vs, 0, m, nd, h1, h2, hk => by
    simp at h1 h2; subst h1; subst h2
    show bindL kindOf ((p, w) :: P.zip vs) m p = _
    unfold bindL
    rw [bindL_out fun v hv => (List.nodup_cons.mp nd).1 (List.of_mem_zip hv).1, if_pos hk]
    simp
  | p :: P, w :: vs, i + 1, m, nd, h1, h2, hk => by
    show bindL kindOf ((p, w) :: P.zip vs) m x = _
    unfold bindL
    exact bindL_get (i := i) (List.nodup_cons.mp nd).2 (by simpa using h1) (by simpa using h2) hk
theorem bindC_get {kindOf : Str → Option NameKind} {x : Str} {v : Value} : ∀ {P : List Str} {vs : List Value} {i : Nat} {m : Str → Option Value}, P.Nodup → P[i]? = some x → vs[i]? = some v → kindOf x ≠ some .local →
    bindC kindOf (P.zip vs) m x = some v
  | [], _, _, _, _, h, _, _ => by simp at h
  | _ :: _, [], _, _, _, _, h, _ => by simp at h
  | p :: P, w :: vs, 0, m, nd, h1, h2, hk => by
    simp at h1 h2; subst h1; subst h2
    show bindC kindOf ((p, w) :: P.zip vs) m p = _
    unfold bindC
    rw [bindC_out fun v hv => (List.nodup_cons.mp nd).1 (List.of_mem_zip hv).1, if_neg hk]
    simp
  | p :: P, w :: vs, i + 1, m, nd, h1, h2, hk => by
    show bindC kindOf ((p, w) :: P.zip vs) m x = _
    unfold bindC
    exact bindC_get (i := i) (List.nodup_cons.mp nd).2 (by simpa using h1) (by simpa using h2) hk

/-- the names' values at the entry -/
def start (N : List Str) (vs : List V) : St := vs.map some ++ List.replicate (N.length - vs.length) none

/-- the context of a def's body, at its entry; an exception leaves the frame, then lies as CX says -/
def cxOf (CX : CXT) (P : Program) (w : World) (K : PySem.W.Frag) (mg : Str → Option Value) (base : Heap) (N : List Str) (qual : Str) (scope : Scope) (f : Addr) (cd : Value) (A : Around) (outer : List Env) (s : Shared) (H : Hp) (E : XK) : Cx where
  prog := P
  w := w
  K := K
  mg := mg
  base := base
  A := A.deeper (envOfC qual scope s.heap.objs.size f cd)
  N := N
  s₀ := s
  H₀ := H
  env := envOfC qual scope s.heap.objs.size f cd
  outer := outer
  stack := envOfC qual scope s.heap.objs.size f cd :: outer
  ex := []
  calm := true
  fn := fun _ => true
  pn := []
  xe := fun e s' => wpAny (model P w) (A.deeper (envOfC qual scope s.heap.objs.size f cd)) (leaving (envOfC qual scope s.heap.objs.size f cd) e) (fun _ s'' => CX outer H s E e s'') (fun e' s'' => CX outer H s E e' s'') s'

theorem cell_has {sc : Scope} {n : Nat} {x : Str} (h : sc.names.lookup x = some .cell) : ∃ c, (cellsFrom n sc.names []).lookup x = some c := by
  have q := PySem.W.cellsFrom_some sc.names n [] (.inl h)
  exact Option.isSome_iff_exists.mp q

theorem inv_start {CX : CXT} {P : Program} {w : World} {K : PySem.W.Frag} {mg : Str → Option Value} {base : Heap} {N ps : List Str} {qual : Str} {scope : Scope} {f : Addr} {cd : Value} {A : Around} {outer : List Env} {s s1 : Shared} {H : Hp} {E : XK} {us : List Value} {vs : List V}
    (S : FnScope N ps scope) (hd : A.handled = none) (e0 : Env0 P w K mg base A outer s H) (hl : vs.length = ps.length) (r : Vals vs us)
    (x : InCallC s s.heap.objs.size (bindL (envOfC qual scope s.heap.objs.size f cd).kindOf (ps.zip us) fun _ => none) (cellsFrom (s.heap.objs.size + 1) scope.names []) (bindC (envOfC qual scope s.heap.objs.size f cd).kindOf (ps.zip us) fun _ => none) s1) :
    Inv (cxOf CX P w K mg base N qual scope f cd A outer s H E) [] (start N vs) H s1 := by
  have hpl : ps.length ≤ N.length := by have := congrArg List.length S.pre; rw [List.length_take] at this; omega
  obtain ⟨h1, tk, rfl, hk⟩ := x.done
  have noA : ∀ b : Addr, b ∉ (cxOf CX P w K mg base N qual scope f cd A outer s H E).ex := fun b z => absurd (show b ∈ ([] : List Addr) from z) (by simp)
  refine ⟨⟨e0.mod, S.kind, rfl, rfl, Nat.le_refl _, fun y z c h1 h2 => ?_, fun y hy => ?_, fun y c _ h => ?_, fun _ => hd, Around.frames_deeper e0.frames, .inr ⟨rfl, rfl⟩, fun b z => absurd z (noA b), e0.bs, e0.bsz, fun b _ _ => noA b, fun b z => absurd z (noA b), e0.funs, e0.frf⟩,
    rfl, e0.bare, Un.kept hk, ⟨_, x.toInCall.ns, fun i y v h1 h2 h3 => ?_⟩, fun y c h => ⟨_, x.cell y c h⟩, e0.hok.fresh (Nat.le_refl _), fun y c h => ?_, fun p hp => absurd (show p ∈ ([] : List (Addr × Obj)) from hp) (by simp), e0.hok.kept hk, ?_⟩
  · exact name_of_addr x.apart (PySem.mem_of_lookup h1) (PySem.mem_of_lookup h2)
  · have hy : scope.names.lookup y = some .cell ∨ scope.names.lookup y = some .free := hy
    rcases hy with hy | hy
    · exact cell_has hy
    · exact absurd rfl (S.nofree _ (PySem.mem_of_lookup hy))
  · exact Nat.le_of_lt (x.above y c (PySem.mem_of_lookup h))
  · have hi : i < vs.length := by
      unfold start at h2
      by_cases hi : i < vs.length
      · exact hi
      · rw [List.getElem?_append_right (by simpa using hi)] at h2
        rw [List.getElem?_replicate] at h2
        split at h2 <;> cases h2
    have ha : vs[i]? = some v := by
      unfold start at h2
      rw [List.getElem?_append_left (by simpa using hi), List.getElem?_map] at h2
      cases e : vs[i]? with
      | none => rw [e] at h2; cases h2
      | some a => rw [e] at h2; cases h2; rfl
    obtain ⟨u, hu, rv⟩ := r.get ha
    have hp : ps[i]? = some y := by
      rw [← S.pre, List.getElem?_take_of_lt (by omega)]; exact h1
    have ndP : ps.Nodup := by rw [← S.pre]; exact S.nd.sublist (List.take_sublist _ _)
    refine ⟨u, rv, ?_⟩
    rcases S.par y (List.mem_of_getElem? hp) with k | k
    · exact .inl ⟨k, bindL_get ndP hp hu k⟩
    · obtain ⟨c, e⟩ := cell_has (n := s.heap.objs.size + 1) k
      refine .inr ⟨.inl k, c, e, ?_⟩
      have q := x.cell y c e
      rw [bindC_get ndP hp hu (by show scope.names.lookup y ≠ _; rw [k]; decide)] at q
      exact q
  · exact e0.hok.fresh (Nat.le_of_lt (x.above y c (PySem.mem_of_lookup h)))
  · unfold start
    show _ = N.length
    rw [List.length_append, List.length_map, List.length_replicate]
    omega

/-- THE RULE: a def (or a method) of the text, by its body. The body's reading t is chosen for each entry; it is run at the parameters' values -/
theorem fn_of {CX : CXT} {P : Program} {w : World} {K : PySem.W.Frag} {mg : Str → Option Value} {base : Heap} {k : Nat} {f : Addr} {name qual : Str} {params : Arguments} {body : List Stmt} {scope : Scope} {dV kV doc pm cdv ct oc : Value} {an od : Option Addr}
    {osl : Array (Option Value)} {N ps : List Str} {sp : Sp} (lk : K.lookup f = some ⟨oc, od, .func (PySem.W.fnOf name qual params body scope dV kV doc pm an cdv ct), osl⟩) (hcd : PySem.W.codeIn K cdv qual = true) (S : FnScope N ps scope)
    (len : ∀ vs H Q E, sp vs H Q E → vs.length = ps.length)
    (hbody : ∀ (A : Around) (outer : List Env) (s : Shared) (H : Hp) (vs : List V) (Q : VK) (E : XK), Room k (A.deeper (envOfC qual scope s.heap.objs.size f cdv)) → sp vs H Q E →
      ∃ t, PSs (cxOf CX P w K mg base N qual scope f cdv A outer s H E) body t ∧ t { nx := fun _ H' => Q .non H', rt := Q } (start N vs) H) :
    FnOk P w K mg base CX (k + 1) f (PySem.W.fnOf name qual params body scope dV kV doc pm an cdv ct) ps sp := by
  refine ⟨len, fun A outer s H args us vs Q E hr e0 hb r hsp => ?_⟩
  have hl := len _ _ _ _ hsp
  have KX : K.In s.heap := e0.mod.kin.keeps fun b o e => (e0.bs b o e).1
  have lim : s.heap.NoLimit := e0.mod.nolimit.keeps fun b o e => (e0.bs b o e).1
  have hkind : ∀ y ∈ ps.zip us, scope.names.lookup y.1 = some .local ∨ (scope.names.lookup y.1 = some .cell ∧ ((cellsFrom (s.heap.objs.size + 1) scope.names []).lookup y.1).isSome = true) := fun ⟨n, v⟩ hy => by
    rcases S.par n (List.of_mem_zip hy).1 with q | q
    · exact .inl q
    · exact .inr ⟨q, PySem.W.cellsFrom_some _ _ _ (.inl q)⟩
  refine codeAny_call_function hr.depth (KX _ _ lk) rfl S.co S.gen rfl (PySem.W.codeRec_of KX hcd) (hb _ _ _ _ ?_)
  refine wpAny_newFunctionEnv_cells S.kind hkind fun env he s1 x => ?_
  subst he
  refine ⟨lim.keeps x.toInCall.keep, codeAny_func ?_⟩
  obtain ⟨t, ht, hq⟩ := hbody A outer s H vs Q E (hr.deeper _) hsp
  have I : Inv (cxOf CX P w K mg base N qual scope f cdv A outer s H E) [] (start N vs) H s1 := inv_start S hr.hd e0 hl r x
  refine wpAny_mono (ht [] s1 (start N vs) H _ I hq) (fun fl s' hs => ?_) fun e s' hs => hs
  have fin : ∀ {σ' : St} {H' : Hp} {v : V} {u : Value}, Inv (cxOf CX P w K mg base N qual scope f cdv A outer s H E) [] σ' H' s' → RelV v u → Q v H' → CE outer P w H s Q u s' :=
    fun {σ' H' v u} J rv q => ⟨v, H', J.os, J.bare, J.base, J.hok, rv, q⟩
  cases fl with
  | ret u =>
    obtain ⟨v, σ', H', J, rv, q⟩ := hs
    exact fin J rv q
  | next =>
    obtain ⟨σ', H', J, q⟩ := hs
    exact fin (v := V.non) (u := Value.none) J rfl q
  | brk =>
    obtain ⟨_, _, _, q⟩ := hs
    exact False.elim q
  | cont =>
    obtain ⟨_, _, _, q⟩ := hs
    exact False.elim q
end L2

namespace L2
open PySem PySem.Spec PyProof.Rows
section
variable {X : Cx} {x : Str} {p pos : Pos} {e : Expr} {es : List Expr} {t : TA} {id T : String} {r : List V → Hp → VK → Prop}

def tCB (r : List V → Hp → VK → Prop) (t : TA) : TE := fun σ H Q => t σ H fun vs H1 => r vs H1 Q
/-- f(e, ..), f a built-in function -/
theorem pe_callB (hc : CallR X (.builtin id) r) (hg : Gl X x) (hm : X.mg x = none) (hv : bootBuiltins x = some (.builtin id)) (ha : PA X (e :: es) t) (hn : x ≠ "__name__" := by decide) (hdb : (x == ("__debug__" : Str)) = false := by decide)
    (he : starEach (e :: es) X.env = (false, eval e X.env) :: starEach es X.env := by rfl) (hpl : (backTo pos (starEach es X.env)).any (·.1) = false := by rfl) : PE X (.Call (.Name x p) (e :: es) [] pos) (tCB r t) := by
  intro pins s σ H Q I h
  refine wpAny_Call_Name_kw (ld_blt I hg hm hv ?_ hn hdb)
  exact PyProof.Rows.callWith_builtin1 (thn (ha pos pins s σ H _ I h) fun us s1 ⟨vs, H1, I1, r1, q1⟩ => hc pins s1 σ H1 vs us Q I1 r1 q1) he hpl
/-- T(e, ..), T a built-in type -/
theorem pe_callTy (hc : CallR X (.type T) r) (hg : Gl X x) (hm : X.mg x = none) (hv : bootBuiltins x = some (.type T)) (ha : PA X (e :: es) t) (hn : x ≠ "__name__" := by decide) (hdb : (x == ("__debug__" : Str)) = false := by decide)
    (he : starEach (e :: es) X.env = (false, eval e X.env) :: starEach es X.env := by rfl) (hpl : (backTo pos (starEach es X.env)).any (·.1) = false := by rfl) : PE X (.Call (.Name x p) (e :: es) [] pos) (tCB r t) := by
  intro pins s σ H Q I h
  refine wpAny_Call_Name_kw (ld_blt I hg hm hv ?_ hn hdb)
  exact PyProof.Rows.callWith_type1 (thn (ha pos pins s σ H _ I h) fun us s1 ⟨vs, H1, I1, r1, q1⟩ => hc pins s1 σ H1 vs us Q I1 r1 q1) he hpl
end
end L2

namespace HT
open PySem PyProof.Rows

section
open PySem.SeqAt
open PySem.AutoSeq1 (wpAny_loadPart')
open PySem.MeetsSeq PySem.MeetsSeq2 PySem.MeetsSeq3

end

section
variable {prog : Program} {w : World} {A : Around} {E : Value → Shared → Prop} {s : Shared}

/-! ### t[a:b], not the whole -/
/-- a slice's bound as a place among n (d where it is left out) -/
def sIx (n d : Nat) : Option Int → Nat
  | none => d
  | some v => if v < 0 then (v + (n : Int)).toNat else min v.toNat n
end
end HT

namespace L2
open PySem PySem.Spec PyProof.Rows

/-! ### the parts of a slice -/
abbrev TO := St → Hp → (Option Int → Hp → Prop) → Prop
/-- a slice's part (left out, or an int) -/
def PO (X : Cx) (e : Option Expr) (t : TO) : Prop :=
  ∀ (pins : List (Addr × Obj)) (s : Shared) (σ : St) (H : Hp) (Q : Option Int → Hp → Prop), Inv X pins σ H s → t σ H Q →
    wpAny (model X.prog X.w) X.A (evalPart e X.env) (fun u s' => ∃ o H', Inv X pins σ H' s' ∧ IsPart u o ∧ Q o H') X.xe s
def tNoPart : TO := fun _ H Q => Q none H
def tPart (t : TE) : TO := fun σ H Q => t σ H fun x H1 => ∃ i, x = .int i ∧ Q (some i) H1

theorem intsAre_of {ns : List Int} : ∀ {us : List Value}, Vals (ns.map V.int) us → IntsAre us ns := by
  induction ns with
  | nil => intro us r; rw [List.map_nil] at r; cases r; exact .nil
  | cons n ns ih =>
    intro us r
    rw [List.map_cons] at r
    cases r with
    | cons r1 r2 =>
      obtain ⟨t, e⟩ := r1
      subst e
      exact .cons n t (ih r2)

section
variable {X : Cx} {e : Expr} {te : TE} {lo hi : Option Expr} {tl th : TO} {pos p2 : Pos}

theorem po_none : PO X none tNoPart := by
  intro pins s σ H Q I h
  rw [evalPart_none]
  exact wpAny_pure ⟨none, H, I, .none, h⟩
theorem po_some (h : PE X e te) : PO X (some e) (tPart te) := by
  intro pins s σ H Q I hw
  rw [evalPart_some]
  refine thn (h pins s σ H _ I hw) fun u s1 ⟨x, H1, I1, r1, q1⟩ => ?_
  obtain ⟨i, rfl, q⟩ := q1
  obtain ⟨t, rfl⟩ := r1
  exact ⟨some i, H1, I1, .int i t, q⟩

/-- what a slice of a value is, by values: the slice object stands at sl -/
def SlR (X : Cx) (r : V → Option Int → Option Int → Hp → VK → Prop) : Prop :=
  ∀ (pins : List (Addr × Obj)) (s : Shared) (σ : St) (H : Hp) (x : V) (v vl vu : Value) (lo hi : Option Int) (sl : Addr) (Q : VK), Inv X pins σ H s → RelV x v → s.heap.IsSliceOf sl vl vu .none → IsPart vl lo → IsPart vu hi → r x lo hi H Q →
    ∃ T id, typeLookup (.type T) "__getitem__" = pure (some (.builtin id)) ∧ s.TypeIs v T ∧ wpAny (model X.prog X.w) X.A (getItem v (.ref sl)) (EP X pins σ Q) X.xe s
theorem SlR.or {r r' : V → Option Int → Option Int → Hp → VK → Prop} (h : SlR X r) (h' : SlR X r') : SlR X (fun x lo hi H Q => r x lo hi H Q ∨ r' x lo hi H Q) := by
  intro pins s σ H x v vl vu lo hi sl Q I rx hs pl pu q
  rcases q with q | q
  · exact h pins s σ H x v vl vu lo hi sl Q I rx hs pl pu q
  · exact h' pins s σ H x v vl vu lo hi sl Q I rx hs pl pu q
def tSl (r : V → Option Int → Option Int → Hp → VK → Prop) (te : TE) (tl th : TO) : TE := fun σ H Q => te σ H fun x H1 => tl σ H1 fun l H2 => th σ H2 fun u H3 => r x l u H3 Q
/-- a[lo:hi], any a -/
theorem pe_slice {r : V → Option Int → Option Int → Hp → VK → Prop} (hr : SlR X r) (he : PE X e te) (hl : PO X lo tl) (hu : PO X hi th) : PE X (.Subscript e (.Slice lo hi none p2) pos) (tSl r te tl th) := by
  intro pins s σ H Q I h
  refine Subscript_ (thn (he pins s σ H _ I h) fun v s1 ⟨x, H1, I1, r1, q1⟩ => ?_)
  refine wpAny_Slice (thn (hl pins s1 σ H1 _ I1 q1) fun vl s2 ⟨l, H2, I2, pl, q2⟩ => thn (hu pins s2 σ H2 _ I2 q2) fun vu s3 ⟨u, H3, I3, pu, q3⟩ => ?_)
  rw [evalPart_none]
  refine wpAny_pure ?_
  have I4 : Inv X pins σ H3 { s3 with heap := s3.heap.push { cls := .type "slice", data := .fields #[vl, vu, .none] } } := I3.kept (t' := s3.toks) fun b ob q => Heap.get?_push_of_some _ q
  obtain ⟨T, id, hT, ht, hg⟩ := hr pins { s3 with heap := s3.heap.push { cls := .type "slice", data := .fields #[vl, vu, .none] } } σ H3 x v vl vu l u s3.heap.objs.size Q I4 r1 (Heap.IsSliceOf.new ..) pl pu q3
  show wpAny (model X.prog X.w) X.A (subscriptTail e (.Slice lo hi none p2) v (.ref s3.heap.objs.size)) (EP X pins σ Q) X.xe { s3 with heap := s3.heap.push { cls := .type "slice", data := .fields #[vl, vu, .none] } }
  exact tail_any (ops := [.ref s3.heap.objs.size, v]) ht hT hg (by with_unfolding_all rfl)

/-- the items of xs[lo:hi] -/
def cutV (xs : List V) (lo hi : Option Int) : List V := (xs.drop (HT.sIx xs.length 0 lo)).take (HT.sIx xs.length xs.length hi - HT.sIx xs.length 0 lo)
theorem cutV_length (xs : List V) (lo hi : Option Int) : (cutV xs lo hi).length ≤ xs.length := by
  unfold cutV
  rw [List.length_take, List.length_drop]
  omega
/-! ### t < u, t + u -/
end
end L2

namespace L2
open PySem PySem.Spec PyProof.Rows

/-! ### places -/
/-- the place that an index of any sign means -/
def ixN (n : Nat) (i : Int) : Option Nat := if 0 ≤ i then (if i < n then some i.toNat else none) else if -(n : Int) ≤ i then some (i + n).toNat else none
def atI {α : Type} (xs : List α) (i : Int) : Option α := (ixN xs.length i).bind fun j => xs[j]?
theorem ixN_seq {n : Nat} {i : Int} {j : Nat} (h : ixN n i = some j) : seqIndex? i n = some j ∧ j < n ∧ -(n : Int) ≤ i ∧ i < n := by
  unfold ixN at h
  by_cases h0 : 0 ≤ i
  · rw [if_pos h0] at h
    by_cases h1 : i < n
    · rw [if_pos h1] at h
      have e : i.toNat = j := Option.some.inj h
      exact ⟨by rw [seqIndex_of h0 h1, e], by omega, by omega, h1⟩
    · rw [if_neg h1] at h; cases h
  · rw [if_neg h0] at h
    by_cases h1 : -(n : Int) ≤ i
    · rw [if_pos h1] at h
      have e : (i + n).toNat = j := Option.some.inj h
      exact ⟨by rw [seqIndex_neg (by omega) h1, e], by omega, h1, by omega⟩
    · rw [if_neg h1] at h; cases h
theorem atI_get {α : Type} {xs : List α} {i : Int} {v : α} (h : atI xs i = some v) : ∃ j, seqIndex? i xs.length = some j ∧ xs[j]? = some v ∧ j < xs.length ∧ -(xs.length : Int) ≤ i ∧ i < xs.length := by
  unfold atI at h
  cases e : ixN xs.length i with
  | none => rw [e] at h; cases h
  | some j =>
    rw [e] at h
    obtain ⟨h1, h2, h3, h4⟩ := ixN_seq e
    exact ⟨j, h1, h, h2, h3, h4⟩
theorem atI_nat {α : Type} {xs : List α} {j : Nat} {v : α} (h : xs[j]? = some v) : atI xs (j : Int) = some v := by
  have hj : j < xs.length := (List.getElem?_eq_some_iff.mp h).1
  have e : ixN xs.length (j : Int) = some j := by
    unfold ixN
    rw [if_pos (by omega), if_pos (by omega)]; simp
  unfold atI; rw [e]; exact h
theorem atI_last {α : Type} (xs : List α) (v : α) : atI (xs ++ [v]) (-1) = some v := by
  have hl : (xs ++ [v]).length = xs.length + 1 := by simp
  have e : ixN (xs ++ [v]).length (-1) = some xs.length := by
    unfold ixN
    rw [hl, if_neg (by decide), if_pos (by omega)]
    congr 1
    omega
  unfold atI
  rw [e]
  show (xs ++ [v])[xs.length]? = some v
  simp

/-! ### what may be subscripted -/
/-- what stands as an index of a plain subscript -/
def PlainIx (b : Expr) : Prop := ∀ o i, subscripted b false o i = operate [o, i] (getItem o i)
/-- a subscript by values -/
def IxR (X : Cx) (r : R2) : Prop :=
  ∀ (value slice : Expr) (pins : List (Addr × Obj)) (s : Shared) (σ : St) (H : Hp) (x y : V) (v u : Value) (Q : VK), Inv X pins σ H s → RelV x v → RelV y u → r x y H Q →
    subscripted slice false v u = operate [v, u] (getItem v u) → wpAny (model X.prog X.w) X.A (subscriptTail value slice v u) (EP X pins σ Q) X.xe s
/-- a call of a builtin's method by values: the receiver, the arguments -/
def MtR (X : Cx) (id : String) (r : V → List V → Hp → VK → Prop) : Prop :=
  ∀ (pins : List (Addr × Obj)) (s : Shared) (σ : St) (H : Hp) (x : V) (xs : List V) (v : Value) (us : List Value) (Q : VK), Inv X pins σ H s → RelV x v → Vals xs us → r x xs H Q →
    wpAny (model X.prog X.w) X.A (call (.builtin id) (v :: us)) (EP X pins σ Q) X.xe s
section
variable {X : Cx} {a b : Expr} {ta tb : TE} {pos : Pos}
theorem IxR.or {r r' : R2} (h : IxR X r) (h' : IxR X r') : IxR X (fun x y H Q => r x y H Q ∨ r' x y H Q) := by
  intro value slice pins s σ H x y v u Q I rx ry q hs
  rcases q with q | q
  · exact h value slice pins s σ H x y v u Q I rx ry q hs
  · exact h' value slice pins s σ H x y v u Q I rx ry q hs
theorem MtR.or {id : String} {r r' : V → List V → Hp → VK → Prop} (h : MtR X id r) (h' : MtR X id r') : MtR X id (fun x xs H Q => r x xs H Q ∨ r' x xs H Q) := by
  intro pins s σ H x xs v us Q I rx rs q
  rcases q with q | q
  · exact h pins s σ H x xs v us Q I rx rs q
  · exact h' pins s σ H x xs v us Q I rx rs q
/-- a[b] -/
theorem pe_ix {r : R2} (hr : IxR X r) (ha : PE X a ta) (hb : PE X b tb) (hs : PlainIx b) : PE X (.Subscript a b pos) (tOp r ta tb) := by
  intro pins s σ H Q I h
  exact Subscript_ (binT ha hb I h fun v u s2 x y H2 I2 rx ry q => hr a b pins s2 σ H2 x y v u Q I2 rx ry q (hs _ _))

def rIxL (K : PySem.W.Frag) : R2 := fun x y H Q => ∃ p xs i v, x = .ref p ∧ y = .int i ∧ SqL K H p xs ∧ atI xs i = some v ∧ Q v H
def rIxT (K : PySem.W.Frag) : R2 := fun x y H Q => ∃ p xs i v, x = .ref p ∧ y = .int i ∧ SqT K H p xs ∧ atI xs i = some v ∧ Q v H
theorem ix_list : IxR X (rIxL X.K) := by
  intro value slice pins s σ H x y v u Q I rx ry h hs
  obtain ⟨p, xs, i, z, rfl, rfl, hq, he, q⟩ := h
  cases rx
  obtain ⟨t, rfl⟩ := ry
  obtain ⟨its, r, pl, hz⟩ := I.list hq
  obtain ⟨j, h1, h2, h3, h4, h5⟩ := atI_get he
  obtain ⟨w, ew, rw'⟩ := r.get h2
  have hl := r.length
  have hn := line63
  have fin : EP X pins σ Q w s := ⟨z, H, I, rw', q⟩
  by_cases h0 : 0 ≤ i
  · have hj : i.toNat = j := by
      rw [seqIndex_of h0 h5] at h1
      exact Option.some.inj h1
    exact item_listR pl.isList h0 (by omega) (by rw [hj]; simpa using ew) fin hs
  · have hj : (i + (its.toArray.size : Int)).toNat = j := by
      rw [seqIndex_neg (by omega) h4] at h1
      rw [List.size_toArray, ← hl]
      exact Option.some.inj h1
    exact subscriptTail_builtinR (x := w) pl.isList.typeIs slot_list_getitem.lookup
      (wpAny_getItem_list_neg (Q := fun r s' => r = w ∧ EP X pins σ Q r s') pl.isList (by omega) (by rw [List.size_toArray] <;> omega) (by omega) (by rw [hj]; simpa using ew) ⟨rfl, fin⟩) hs
theorem ix_tup : IxR X (rIxT X.K) := by
  intro value slice pins s σ H x y v u Q I rx ry h hs
  obtain ⟨p, xs, i, z, rfl, rfl, hq, he, q⟩ := h
  cases rx
  obtain ⟨t, rfl⟩ := ry
  obtain ⟨its, r, pl, hz⟩ := I.tuple hq
  obtain ⟨j, h1, h2, h3, h4, h5⟩ := atI_get he
  obtain ⟨w, ew, rw'⟩ := r.get h2
  have hl := r.length
  have hn := line63
  have fin : EP X pins σ Q w s := ⟨z, H, I, rw', q⟩
  exact subscriptTail_builtinR (x := w) pl.typeIs slot_tuple_getitem.lookup
    (getItem_tuple (j := j) (Q := fun r s' => r = w ∧ EP X pins σ Q r s') pl (by omega) (by omega) (by rw [List.size_toArray, ← hl]; exact h1) (by simpa using ew) ⟨rfl, fin⟩) hs
/-! ### xs[i] = v, any sign -/
/-- the list's object behind a store -/
theorem mapSeq_set (its : List Value) (n j : Nat) (u : Value) : Obj.mapSeq (·.setIfInBounds j u) { cls := .type "list", data := .seq its.toArray n } = { cls := .type "list", data := .seq (its.set j u).toArray n } := by
  simp [Obj.mapSeq]
theorem Inv.lst {pins : List (Addr × Obj)} {σ : St} {H : Hp} {s : Shared} {p : Addr} {xs : List V} (I : Inv X pins σ H s) (h : H p = some (.lst xs)) :
    ∃ (its : List Value) (n : Nat), Vals xs its ∧ s.heap.get? p = some { cls := .type "list", data := .seq its.toArray n } ∧ xs.length ≤ sizeLine := by
  obtain ⟨z, its, n, r, e⟩ := I.hok p _ h
  exact ⟨its, n, r, e, z⟩
/-- the list at p is written by an update of its object -/
theorem Inv.lstUpd {pins : List (Addr × Obj)} {σ : St} {H : Hp} {s : Shared} {p : Addr} {xs ys : List V} {its its' : List Value} {n n' : Nat} {f : Obj → Obj} (I : Inv X pins σ H s) (h : H p = some (.lst xs))
    (ho : s.heap.get? p = some { cls := .type "list", data := .seq its.toArray n }) (hf : f { cls := .type "list", data := .seq its.toArray n } = { cls := .type "list", data := .seq its'.toArray n' }) (r : Vals ys its') (hz : ys.length ≤ sizeLine) (t : Nat) :
    Inv X pins σ (upd H p (.lst ys)) { s with heap := s.heap.update p f, toks := t } := by
  have e : (s.heap.update p f).get? p = some { cls := .type "list", data := .seq its'.toArray n' } := by
    rw [Heap.get?_update_self f ho (by rw [hf] <;> rfl), hf]
  refine I.write (x := p) (e := p) (by rw [h]; trivial) (.inl rfl) (fun b u hb q => (Heap.get?_update_other _ _ (Ne.symm hb)).trans q) ⟨_, e⟩ ?_
  exact ⟨hz, its', n', r, e⟩
def rSetL : V → V → V → Hp → (Hp → Prop) → Prop := fun o i v H Q => ∃ p xs k j, o = .ref p ∧ i = .int k ∧ H p = some (.lst xs) ∧ ixN xs.length k = some j ∧ Q (upd H p (.lst (xs.set j v)))
theorem set_list : PSet X rSetL := by
  intro pins s σ H o i v ov iv u Q I ro ri rv h
  obtain ⟨p, xs, k, j, rfl, rfl, hp, hj, q⟩ := h
  cases ro
  obtain ⟨t, rfl⟩ := ri
  obtain ⟨its, n, r, ho, hz⟩ := I.lst hp
  obtain ⟨h1, h2, h3, h4⟩ := ixN_seq hj
  have hl := r.length
  have hn := line63
  have I' : Inv X pins σ (upd H p (.lst (xs.set j v))) { s with heap := s.heap.update p (Obj.mapSeq (·.setIfInBounds j u)) } :=
    I.lstUpd hp ho (mapSeq_set its n j u) (r.set rv j) (by rw [List.length_set]; exact hz) s.toks
  by_cases h0 : 0 ≤ k
  · have hk : k.toNat = j := by
      rw [seqIndex_of h0 h4] at h1
      exact Option.some.inj h1
    exact PySem.W.ki_setAt ho h0 (by omega) (by rw [List.size_toArray, ← hl]; exact h4) (by rw [hk]; exact ⟨_, I', q⟩)
  · have hk : (k + (its.toArray.size : Int)).toNat = j := by
      rw [seqIndex_neg (by omega) h3] at h1
      rw [List.size_toArray, ← hl]
      exact Option.some.inj h1
    exact PySem.W.ki_setBack ho (by omega) (by rw [List.size_toArray, ← hl]; exact h3) (by omega) (by rw [hk]; exact ⟨_, I', q⟩)

/-! ### slices -/
theorem slice_bounds (lo hi : Option Int) (n : Nat) : (sliceBounds lo hi none n).1 = ((HT.sIx n 0 lo : Nat) : Int) ∧ (sliceBounds lo hi none n).2.1 = ((HT.sIx n n hi : Nat) : Int) ∧ (sliceBounds lo hi none n).2.2 = 1 := by
  refine ⟨?_, ?_, rfl⟩
  · cases lo with
    | none => simp [sliceBounds, HT.sIx]
    | some i =>
      simp only [sliceBounds, HT.sIx, Option.getD_none, show (1 : Int) > 0 by decide, if_true]
      by_cases h : i < 0
      · simp only [h, if_true] <;> omega
      · simp only [h, if_false] <;> omega
  · cases hi with
    | none => simp [sliceBounds, HT.sIx]
    | some i =>
      simp only [sliceBounds, HT.sIx, Option.getD_none, show (1 : Int) > 0 by decide, if_true]
      by_cases h : i < 0
      · simp only [h, if_true] <;> omega
      · simp only [h, if_false] <;> omega
theorem slicePick_cut (its : List Value) (lo hi : Option Int) : slicePick its.toArray lo hi none = ((its.drop (HT.sIx its.length 0 lo)).take (HT.sIx its.length its.length hi - HT.sIx its.length 0 lo)).toArray := by
  obtain ⟨h1, h2, h3⟩ := slice_bounds lo hi its.toArray.size
  unfold slicePick
  rw [h1, h2, h3]
  simp only [sliceRange_one, pick_run, List.size_toArray] <;> rfl
/-- xs[lo:hi] of a list: a new list -/
def rSlL (K : PySem.W.Frag) : V → Option Int → Option Int → Hp → VK → Prop := fun x lo hi H Q => ∃ a xs, x = .ref a ∧ SqL K H a xs ∧ ∀ p, H p = none → Q (.ref p) (upd H p (.lst (cutV xs lo hi)))
theorem sl_list : SlR X (rSlL X.K) := by
  intro pins s σ H x v vl vu lo hi sl Q I rx hs pl pu h
  obtain ⟨a, xs, rfl, hx, q⟩ := h
  cases rx
  obtain ⟨its, r, ht, hz⟩ := I.list hx
  have hlen := r.length
  refine ⟨"list", _, slot_list_getitem.lookup, ht.isList.typeIs, ?_⟩
  refine wpAny_getItem_list_slice ht.isList hs pl pu .none (by simp) ?_ (by rw [List.size_toArray] <;> omega)
  rw [slicePick_cut, ← hlen]
  refine ⟨.ref s.heap.objs.size, _, I.laid (t' := s.toks) (o := .lst (cutV xs lo hi)) (fun b ob q => Heap.get?_push_of_some _ q) (Nat.le_refl _) ?_, rfl, q _ (I.hok.fresh (Nat.le_refl _))⟩
  exact ⟨Nat.le_trans (cutV_length xs lo hi) hz, _, 0, (r.drop (HT.sIx xs.length 0 lo)).take (HT.sIx xs.length xs.length hi - HT.sIx xs.length 0 lo), Heap.get?_push_size _ rfl⟩

/-! ### in, not in: flat items -/
def flatV : V → Bool
  | .non => true
  | .bl _ => true
  | .int _ => true
  | .str _ => true
  | _ => false
/-- == of flat values -/
def eqV : V → V → Bool
  | .non, .non => true
  | .bl a, .bl b => a == b
  | .bl a, .int b => (if a then 1 else 0) == b
  | .int a, .bl b => a == (if b then 1 else 0)
  | .int a, .int b => a == b
  | .str a, .str b => a == b
  | _, _ => false
def inV (x : V) (xs : List V) : Bool := xs.any fun y => eqV y x
/-- x in a list or tuple of flat items -/
def rIn (K : PySem.W.Frag) (neg : Bool) : R2 := fun x y H Q => ∃ p xs, y = .ref p ∧ (SqL K H p xs ∨ SqT K H p xs) ∧ flatV x = true ∧ xs.all flatV = true ∧ Q (.bl (if neg then !inV x xs else inV x xs)) H
/-! ### len, list(x), tuple(x) of any list or tuple that is read -/
theorem call_len_seq : CallR X (.builtin "len") (fun xs H Q => ∃ p ys, xs = [.ref p] ∧ (SqL X.K H p ys ∨ SqT X.K H p ys) ∧ Q (.int ys.length) H) := by
  intro pins s σ H xs us Q I r h
  obtain ⟨p, ys, rfl, hq, q⟩ := h
  obtain ⟨u, rfl, rx⟩ := vals1 r
  cases rx
  have hn := line63
  rcases hq with hq | hq
  · obtain ⟨its, r', pl, hz⟩ := I.list hq
    have hlen := r'.length
    exact Calls.call_len_list pl.isList (by simp only [List.size_toArray] <;> omega) ⟨.int ys.length, H, I.tok _, ⟨s.toks + 1, by rw [List.size_toArray, hlen]⟩, q⟩
  · obtain ⟨its, r', pl, hz⟩ := I.tuple hq
    have hlen := r'.length
    exact len_tuple pl (by simp only [List.size_toArray] <;> omega) ⟨.int ys.length, H, I.tok _, ⟨s.toks + 1, by rw [List.size_toArray, hlen]⟩, q⟩
theorem CallR.or {f : Value} {r r' : List V → Hp → VK → Prop} (h : CallR X f r) (h' : CallR X f r') : CallR X f (fun xs H Q => r xs H Q ∨ r' xs H Q) := by
  intro pins s σ H xs us Q I rs q
  rcases q with q | q
  · exact h pins s σ H xs us Q I rs q
  · exact h' pins s σ H xs us Q I rs q
theorem call_list_of : CallR X (.type "list") (fun xs H Q => ∃ p ys, xs = [.ref p] ∧ (SqL X.K H p ys ∨ SqT X.K H p ys) ∧ ∀ l, H l = none → Q (.ref l) (upd H l (.lst ys))) := by
  intro pins s σ H xs us Q I r h
  obtain ⟨p, ys, rfl, hq, q⟩ := h
  obtain ⟨u, rfl, rx⟩ := vals1 r
  cases rx
  have fin : ∀ (its : List Value), Vals ys its → ys.length ≤ sizeLine → ∀ (h' : Heap) (c' : Nat), (∀ b o', s.heap.get? b = some o' → h'.get? b = some o') →
      h'.get? s.heap.objs.size = some { cls := .type "list", dict := none, data := .seq its.toArray c', slots := #[] } → EP X pins σ Q (.ref s.heap.objs.size) { s with heap := h' } := fun its r' hz h' c' kp e =>
    ⟨.ref s.heap.objs.size, _, I.laid (t' := s.toks) kp (Nat.le_refl _) (show ObjOk X.prog X.w _ h' _ (.lst ys) from ⟨hz, its, c', r', e⟩), rfl, q _ (I.hok.fresh (Nat.le_refl _))⟩
  rcases hq with hq | hq
  · obtain ⟨its, r', pl, hz⟩ := I.list hq
    have hlen := r'.length
    obtain ⟨o, ho, hc, n, hd⟩ := pl.isList
    exact call_list_seq p (.inl rfl) ho hc hd (fun h' c' kp e => fin its r' hz h' c' kp e) (by simp only [List.size_toArray] <;> omega)
  · obtain ⟨its, r', pl, hz⟩ := I.tuple hq
    have hlen := r'.length
    obtain ⟨o, ho, hc, n, hd⟩ := pl
    exact call_list_seq p (.inr rfl) ho hc hd (fun h' c' kp e => fin its r' hz h' c' kp e) (by simp only [List.size_toArray] <;> omega)
/-! ### the call of a builtin's method: o.m(..) -/
/-- the value is of that builtin type -/
def tyV (K : PySem.W.Frag) (T : String) (x : V) (H : Hp) : Prop := match x with
  | .str _ => T = "str"
  | .int _ => T = "int"
  | .ref p => (T = "list" ∧ ∃ xs, SqL K H p xs) ∨ (T = "tuple" ∧ ∃ o, K.lookup p = some o ∧ o.cls = .type "tuple" ∧ o.dict = none) ∨
      (T = "dict" ∧ ((∃ kvs, H p = some (.dK kvs)) ∨ ∃ kvs, H p = some (.dT kvs))) ∨ (T = "set" ∧ ∃ S n, H p = some (.set S n))
  | _ => False
theorem tyV_is {pins : List (Addr × Obj)} {σ : St} {H : Hp} {s : Shared} {T : String} {x : V} {v : Value} (I : Inv X pins σ H s) (r : RelV x v) (ty : tyV X.K T x H) :
    s.TypeIs v T ∧ ∀ a, v = .ref a → ∃ ob, s.heap.get? a = some ob ∧ ob.dict = none := by
  cases x with
  | str z =>
    obtain ⟨t, rfl⟩ := r
    cases (show T = "str" from ty)
    exact ⟨typeIs_str s z t, fun _ e => nomatch e⟩
  | int i =>
    obtain ⟨t, rfl⟩ := r
    cases (show T = "int" from ty)
    exact ⟨typeIs_int s i t, fun _ e => nomatch e⟩
  | ref p =>
    cases r
    rcases ty with ⟨rfl, xs, hq⟩ | ⟨rfl, o, hk, hc, hd⟩ | ⟨rfl, hk⟩ | ⟨rfl, S, n, hk⟩
    · obtain ⟨its, _, pl, _⟩ := I.list hq
      refine ⟨pl.isList.typeIs, fun a e => ?_⟩
      cases e
      obtain ⟨o, n, e, c, hd, _⟩ := pl
      exact ⟨o, e, hd⟩
    · refine ⟨⟨o, I.kIn p o hk, hc⟩, fun a e => ?_⟩
      cases e
      exact ⟨o, I.kIn _ o hk, hd⟩
    · have z : ∃ o, s.heap.get? p = some o ∧ o.ExactDict := by
        rcases hk with ⟨kvs, hk⟩ | ⟨kvs, hk⟩
        · obtain ⟨_, _, _, _, o, _, _, e, ex, _⟩ := I.hok p _ hk
          exact ⟨o, e, ex⟩
        · obtain ⟨_, _, _, _, o, _, _, e, ex, _⟩ := I.hok p _ hk
          exact ⟨o, e, ex⟩
      obtain ⟨o, e, ex⟩ := z
      refine ⟨⟨o, e, ex.1⟩, fun a e2 => ?_⟩
      cases e2
      exact ⟨o, e, ex.2.1⟩
    · obtain ⟨o, _, _, _, e, ex, _⟩ := I.hok p _ hk
      refine ⟨⟨o, e, ex.1⟩, fun a e2 => ?_⟩
      cases e2
      exact ⟨o, e, ex.2.1⟩
  | _ => exact False.elim ty
def tBM0 (K : PySem.W.Frag) (T : String) (r : V → List V → Hp → VK → Prop) (to : TE) : TE := fun σ H Q => to σ H fun x H1 => tyV K T x H1 ∧ r x [] H1 Q
def tBM (K : PySem.W.Frag) (T : String) (r : V → List V → Hp → VK → Prop) (to : TE) (t : TA) : TE := fun σ H Q => to σ H fun x H1 => tyV K T x H1 ∧ t σ H1 fun xs H2 => r x xs H2 Q
variable {o e : Expr} {es : List Expr} {to : TE} {t : TA} {name : Str} {apos cpos : Pos} {T id : String} {r : V → List V → Hp → VK → Prop}
theorem pe_bm (pa : PlainAttrs T) (slot : Slot T name id) (hty : typeOf (.builtin id) = pure (.type "method_descriptor")) (hm : MtR X id r) (ho : PE X o to) (ha : PA X (e :: es) t)
    (hbase : attributeBase o name X.env (eval o X.env) = eval o X.env := by rfl)
    (hfew : ((backTo cpos (starEach (e :: es) X.env)).all (fun x => !x.1) && (backToKw cpos (keywordEach [] X.env)).all (fun x => x.1.isSome)
      && decide ((e :: es).length + ([] : List Keyword).length + (if ([] : List Keyword).isEmpty then 0 else 1) < 30)) = true := by rfl)
    (hline : (apos.endLine == cpos.line) = true := by rfl) (hs : starEach (e :: es) X.env = (false, eval e X.env) :: starEach es X.env := by rfl) (hplain : (backTo cpos (starEach es X.env)).any (·.1) = false := by rfl) :
    PE X (.Call (.Attribute o name apos) (e :: es) [] cpos) (tBM X.K T r to t) := by
  intro pins s σ H Q I h
  refine wpAny_Call_method_late hbase hfew hline rfl (thn (ho pins s σ H _ I h) fun v s1 ⟨x, H1, I1, r1, ty, q1⟩ => ?_)
  obtain ⟨h1, h2⟩ := tyV_is I1 r1 ty
  refine ⟨T, id, pa, slot, hty, h1, h2, ?_⟩
  have hA := ha cpos pins s1 σ H1 _ I1 q1
  rw [hs] at hA ⊢
  refine Calls.callWith_builtin (by show (false || (backTo cpos (starEach es X.env)).any (·.1)) = false; rw [hplain] <;> rfl) (Calls.evalArgs_plain ?_)
  exact thn hA fun us s2 ⟨vs, H2, I2, r2, q2⟩ => hm pins s2 σ H2 x vs v us Q I2 r1 r2 q2
/- xs.append(e), list.index on a module's tuple .. are MtR facts of 06m -/
end
end L2

namespace L2
open PySem PySem.Spec PyProof.Rows

def MtM (X : Cx) (id : String) (r : V → List V → Hp → VK → Prop) : Prop :=
  ∀ (pins : List (Addr × Obj)) (s : Shared) (σ : St) (H : Hp) (x : V) (xs : List V) (v : Value) (us : List Value) (Q : VK), Inv X pins σ H s → RelV x v → Vals xs us → r x xs H Q →
    wpAny (model X.prog X.w) X.A (call (.builtin id) (v :: us)) (EP X pins σ Q) X.xe s

/-! ### lists of values -/
theorem Vals.one : ∀ {x : V} {us : List Value}, Vals [x] us → ∃ u, us = [u] ∧ RelV x u
  | _, _, .cons r .nil => ⟨_, rfl, r⟩
theorem Vals.two : ∀ {x y : V} {us : List Value}, Vals [x, y] us → ∃ u v, us = [u, v] ∧ RelV x u ∧ RelV y v
  | _, _, _, .cons r (.cons q .nil) => ⟨_, _, rfl, r, q⟩
theorem Vals.zero : ∀ {us : List Value}, Vals [] us → us = []
  | _, .nil => rfl
theorem Vals.dropLast {xs : List V} {us : List Value} (h : Vals xs us) : Vals xs.dropLast us.dropLast := by
  induction h with
  | nil => exact .nil
  | cons r t ih =>
    cases t with
    | nil => exact .nil
    | cons q t' => exact .cons r ih
theorem Vals.eraseIdx : ∀ {xs : List V} {us : List Value} (i : Nat), Vals xs us → Vals (xs.eraseIdx i) (us.eraseIdx i)
  | _, _, _, .nil => .nil
  | _, _, 0, .cons _ t => t
  | _, _, i + 1, .cons r t => .cons r (Vals.eraseIdx i t)
theorem Vals.reverse {xs : List V} {us : List Value} (h : Vals xs us) : Vals xs.reverse us.reverse := by
  induction h with
  | nil => exact .nil
  | cons r t ih => rw [List.reverse_cons, List.reverse_cons]; exact Vals.append ih (.cons r .nil)
theorem len_erase {α : Type} : ∀ (l : List α) (i : Nat), (l.eraseIdx i).length ≤ l.length
  | [], _ => Nat.le_refl _
  | _ :: _, 0 => Nat.le_succ _
  | _ :: r, i + 1 => Nat.succ_le_succ (len_erase r i)
section
variable {X : Cx} {pins : List (Addr × Obj)} {σ : St} {H : Hp} {s : Shared} {l b : Addr} {xs ys zs : List V}

/-! ### the two steps: a tracked list is rewritten, a new list is laid -/
theorem Inv.lset {its its' : List Value} {n : Nat} {f : Array Value → Array Value} {t' : Nat} (I : Inv X pins σ H s) (hH : H l = some (.lst xs))
    (e : s.heap.get? l = some { cls := .type "list", data := .seq its.toArray n }) (hf : f its.toArray = its'.toArray) (hv : Vals ys its') (hz : ys.length ≤ sizeLine) :
    Inv X pins σ (upd H l (.lst ys)) { s with heap := s.heap.update l (Obj.mapSeq f), toks := t' } := by
  have q := PySem.IsL.update e f
  rw [hf] at q
  refine I.write (x := l) (e := l) (by rw [hH]; exact trivial) (.inl rfl) (fun b' u hb hu => (Heap.get?_update_other s.heap (Obj.mapSeq f) (Ne.symm hb)).trans hu) ⟨_, q⟩ ?_
  exact ⟨hz, its', _, hv, q⟩
theorem Inv.lnew {its : List Value} {t' : Nat} (I : Inv X pins σ H s) (hv : Vals ys its) (hz : ys.length ≤ sizeLine) :
    Inv X pins σ (upd H s.heap.objs.size (.lst ys)) { s with heap := s.heap.push { cls := .type "list", data := .seq its.toArray }, toks := t' } :=
  I.laid (fun _ _ q => Heap.get?_push_of_some _ q) (Nat.le_refl _) ⟨hz, its, 0, hv, Heap.get?_push_size _ rfl⟩
theorem Inv.fresh (I : Inv X pins σ H s) : H s.heap.objs.size = none := I.hok.fresh (Nat.le_refl _)
theorem Inv.lstM (I : Inv X pins σ H s) (hH : H l = some (.lst xs)) : xs.length ≤ sizeLine ∧ ∃ (its : List Value) (n : Nat), Vals xs its ∧ xs.length = its.length ∧ s.heap.get? l = some { cls := .type "list", data := .seq its.toArray n } := by
  obtain ⟨z, its, n, r, e⟩ := I.hok l _ hH
  exact ⟨z, its, n, r, r.length, e⟩

end

section
variable {X : Cx}

/-! ### methods -/
def rAppend : V → List V → Hp → VK → Prop := fun x vs H Q => ∃ l xs y, x = .ref l ∧ vs = [y] ∧ H l = some (.lst xs) ∧ xs.length < sizeLine ∧ Q .non (upd H l (.lst (xs ++ [y])))
theorem mt_append : MtM X "list.append" rAppend := by
  intro pins s σ H x vs v us Q I rx rv h
  obtain ⟨l, xs, y, rfl, rfl, hH, hz, q⟩ := h
  cases rx
  obtain ⟨u, rfl, ru⟩ := rv.one
  obtain ⟨z, its, n, r, hl, e⟩ := I.lstM hH
  refine call_meets F.slot_list_append ⟨_, e, rfl⟩ F.entry_list_append (F.args_list_append_2 _ _) (PySem.list_append l its.toArray n u (by rw [List.size_toArray]; omega)) ⟨e, ?_⟩
  refine ⟨.non, _, I.lset (its' := its ++ [u]) hH e (by simp) (r.append (.cons ru .nil)) ?_, rfl, q⟩
  rw [List.length_append, List.length_singleton]
  omega

def rPopAt : V → List V → Hp → VK → Prop := fun x vs H Q => ∃ l xs i k y, x = .ref l ∧ vs = [.int i] ∧ H l = some (.lst xs) ∧ -(2 ^ 63) ≤ i ∧ i < 2 ^ 63 ∧ seqIndex? i xs.length = some k ∧ xs[k]? = some y ∧ Q y (upd H l (.lst (xs.eraseIdx k)))
theorem mt_popAt : MtM X "list.pop" rPopAt := by
  intro pins s σ H x vs v us Q I rx rv h
  obtain ⟨l, xs, i, k, y, rfl, rfl, hH, h1, h2, hk, hy, q⟩ := h
  cases rx
  obtain ⟨u, rfl, ru⟩ := rv.one
  obtain ⟨t, rfl⟩ := ru
  obtain ⟨z, its, n, r, hl, e⟩ := I.lstM hH
  obtain ⟨w, hw, rw'⟩ := r.get hy
  refine call_meets F.slot_list_pop ⟨_, e, rfl⟩ F.entry_list_pop (F.args_list_pop_2 _ _)
    (MeetsSeq.list_pop_at l its.toArray n i t k w (fitsIndex_both h1 h2) (by rw [List.size_toArray, ← hl]; exact hk) (by rw [← Array.getElem?_toList]; exact hw) (by rw [List.size_toArray]; omega)) ⟨e, ?_⟩
  refine ⟨y, _, I.lset (its' := its.eraseIdx k) hH e ?_ (r.eraseIdx k) ?_, rw', q⟩
  · show its.toArray.eraseIdxIfInBounds k = (its.eraseIdx k).toArray
    rw [List.eraseIdxIfInBounds_toArray]
  · have := len_erase xs k
    omega

def rReverse : V → List V → Hp → VK → Prop := fun x vs H Q => ∃ l xs, x = .ref l ∧ vs = [] ∧ H l = some (.lst xs) ∧ Q .non (upd H l (.lst xs.reverse))
/-! ### list + list, list += list, list * int -/
def rCat : R2 := fun x y H Q => ∃ l b xs zs, x = .ref l ∧ y = .ref b ∧ H l = some (.lst xs) ∧ H b = some (.lst zs) ∧ xs.length + zs.length ≤ sizeLine ∧ ∀ p, H p = none → Q (.ref p) (upd H p (.lst (xs ++ zs)))
theorem op_cat : OpR X (binaryOp .Add) rCat := by
  intro pins s σ H x y v u Q I rx ry h
  obtain ⟨l, b, xs, zs, rfl, rfl, hH, hB, hz, q⟩ := h
  cases rx
  cases ry
  obtain ⟨z, its, n, r, hl, e⟩ := I.lstM hH
  obtain ⟨z2, its2, n2, r2, hl2, e2⟩ := I.lstM hB
  refine PySem.P.add_list e e2 ?_ (by rw [List.size_toArray, List.size_toArray]; omega)
  have ea : its.toArray ++ its2.toArray = (its ++ its2).toArray := by simp
  rw [ea]
  exact ⟨.ref _, _, I.lnew (t' := s.toks) (r.append r2) (by rw [List.length_append]; omega), rfl, q _ I.fresh⟩
/-! ### del xs[i] -/
end

/-! ### xs[a:b] = ys -/
section
variable {prog : Program} {w : World} {A : Around} {E : Value → Shared → Prop} {s : Shared}
end

section
variable {X : Cx}
end
end L2

namespace Att
open PySem PySem.W PySem.Calls PyProof.Rows

/-! ### the script -/
theorem ints_of_wellAll {P : Params} {h : Heap} : ∀ (ns : List Int) (vs : List Value), WellAll P h vs (ns.map WData.int) → IntsAre vs ns := by
  intro ns
  induction ns with
  | nil =>
    intro vs w
    rw [List.map_nil] at w
    cases w
    exact .nil
  | cons n ns ih =>
    intro vs w
    rw [List.map_cons] at w
    cases w with
    | cons a b =>
      cases a
      exact .cons _ _ (ih _ b)

theorem script_of {l : OpenLaw} {n : Nat} (hn : l.most = some n) {P : Params} {h : Heap} {args : List WData} {vals : List Value}
    (hpre : l.row.toRowW.claim.pre args = true) (hwl : WellAll P h vals args) :
    ∃ a vs ns, vals = [Value.ref a] ∧ args = [WData.list (ns.map WData.int)] ∧ h.get? a = some { cls := .type "list", data := .seq vs.toArray } ∧ IntsAre vs ns ∧ ns.length ≤ n := by
  have hsh : WShape.hasAll [] args [.list .int] = true := (pre_splitW hpre).1
  have hc : l.pre.holds [] { args := args } = true := (pre_splitW hpre).2
  obtain ⟨d, r, rfl, h1, h2⟩ := hasAllW_cons hsh
  obtain rfl := hasAllW_nil h2
  obtain ⟨xs, rfl, h3⟩ := hasW_list h1
  obtain ⟨ns, rfl⟩ := items_int h3
  have hlen : ns.length ≤ n := by
    unfold OpenLaw.pre at hc
    have h4 : (WTm.not (.lt (.lit (.int (n : Int))) (.len (.arg 0)))).holds [] { args := [.list (ns.map .int)] } = true := by
      have h4 := (holds_andW hc).1
      rw [hn] at h4
      exact h4
    have h5 := condW_of h4 (w_not (w_lt w_lit (w_len_list (w_arg rfl))))
    rw [List.length_map] at h5
    refine Nat.le_of_not_lt fun q => ?_
    have q' : (n : Int) < ((ns.length : Nat) : Int) := by omega
    first
      | (rw [decide_eq_true q'] at h5; exact absurd h5 (by decide))
      | (simp at h5; omega)
  cases hwl with
  | cons w1 w2 =>
    cases w2
    cases w1 with
    | list ho hall => exact ⟨_, _, ns, rfl, rfl, ho, ints_of_wellAll ns _ hall, hlen⟩

theorem post_true (l : OpenLaw) (args : List WData) : l.row.toRowW.claim.post args (.bool true) args = true :=
  postW_of (r := l.row.toRowW) (X := (true == true))
    (show WShape.has [] (.bool true) .bool = true by first | rfl | decide | simp [WShape.has, WShape.arms, WShape.armsAll])
    (show (WTm.eq .res (.lit (.bool true))).value [] { args := args, res := some (.bool true), after := args } = some (.bool (true == true)) from w_eq_bool (w_res rfl) w_lit) rfl

/-! ### the attachment: holds_open's last premise (the goal 'hc' behind k_head) from a wpAny of the law's body -/
/-- the same from a codeAny of the CALL (for a layer whose function contracts speak of calls) -/
theorem attach_call {l : OpenLaw} {n : Nat} {q : Program} {loose : List Str} {XP : (Str → Option Value) → Heap → Prop} {YP : World → Heap → Prop} {d : DefRec}
    (hn : l.most = some n) (hdf : d.params.defaults = [])
    (call : ∀ (w : World) (s₀ s₁ : Shared) (mg mb : Str → Option Value) (fa : Addr) (o : Obj) (pm cd doc : Value) (a : Addr) (vs : List Value) (ns : List Int),
      Ground q loose [] XP w s₀ mg mb s₁.heap → YP w s₁.heap →
      s₁.heap.get? fa = some o → o.data = .func (docDef d.name d.params d.body d.scope pm cd doc) → s₁.heap.CodeRec cd d.name → mg d.name = some (.ref fa) →
      s₁.heap.get? a = some { cls := .type "list", data := .seq vs.toArray } → IntsAre vs ns → ns.length ≤ n → s₁.gens = #[] →
      codeAny (model l.prog w) callerA (.call (.ref fa) ⟨[.ref a], []⟩) (fun r s' => r = .ok (.ret (.bool true)) ∧ OldK s₁.heap s'.heap ∧ s'.os = s₁.os ∧ AllBare s'.gens) s₁) :
    WalkO q loose XP YP l.row.toRowW d [] (fun f vs => PySem.call f vs) := by
  intro w s₀ s₁ mg mb G Y fa o pm cd doc dV kV ho hd hcd hD hmg hg args vals as hpre hlay hrd hwl hlo
  obtain rfl : dV = .none := Dflts.none hD hdf
  obtain rfl : kV = .none := Dflts.noKw hD
  obtain ⟨a, vs, ns, rfl, rfl, hobj, hints, hlen⟩ := script_of hn hpre hwl
  refine enter_call (codeAny_mono (call w s₀ s₁ mg mb fa o pm cd doc a vs ns G Y ho (fd_plain hd) hcd hmg hobj hints hlen hg) fun r s' hq => ?_)
  obtain ⟨rfl, h2, h3, h4⟩ := hq
  exact ⟨.inl ⟨.bool true, .bool true, [], rfl, fun _ => rfl, .bool true, post_true l _, fun _ => ⟨List.Pairwise.nil, fun _ hm => (nomatch hm)⟩⟩, h2, h3, h4⟩

/-! ### rules over ANY heap (no ledger) from facts about the written part K: the library's own take a ledger (News) for what they write -/
section
variable {prog : Program} {w : World} {A : Around} {E : Value → Shared → Prop} {s : Shared} {K : Frag}

/-! the whole heap as the ledger: makes every rule that writes through a ledger a rule over any heap -/
def ledger (h : Heap) (L d : Addr) : List (Addr × Obj) := (List.range h.objs.size).filterMap fun a => if a = L ∨ a = d then none else (h.get? a).map fun o => (a, o)
end
end Att

namespace L2
open PySem PySem.Spec PyProof.Rows

theorem vals_ints : ∀ {vs : List Value} {ns : List Int}, IntsAre vs ns → Vals (ns.map V.int) vs
  | _, _, .nil => .nil
  | _, _, .cons n t h => .cons ⟨t, rfl⟩ (vals_ints h)

/-- nothing is tracked but the script, known to the object (or it is an object of the module) -/
def Only (H : Hp) : Prop := ∀ b, H b = none ∨ ∃ o xs, H b = some (.frz o (.lst xs))

/-- THE HEAD: the law's promise, at the heap behind the top. F, the promise of the law's def, may use that base is part of the heap (so K.In base, base.Ns mainGlobals mg stand in Mod) -/
theorem law_call {P : Program} {w : World} {K : PySem.W.Frag} {mg mb : Str → Option Value} {CX : CXT} {k : Nat} {fa a : Addr} {fd : FuncData} {x : Str} {sp : Sp} {s₁ : Shared} {vs : List Value} {ns : List Int}
    (KX : K.In s₁.heap) (hns : s₁.heap.Ns mainGlobals mg) (hb : s₁.heap.Ns builtinsNs mb) (hbb : ∀ x : Str, x ≠ "__name__" → mb x = bootBuiltins x) (hlim : s₁.heap.NoLimit) (hg : s₁.gens = #[])
    (ha : s₁.heap.get? a = some { cls := .type "list", data := .seq vs.toArray }) (hi : IntsAre vs ns) (hl : ns.length ≤ sizeLine) (hr : Room k callerA)
    (F : ∀ base : Heap, K.In base → base.Ns mainGlobals mg → FnOk P w K mg base CX k fa fd [x] sp) (hbind : ∀ (s : Shared) (u : Value), BindsTo s fd ⟨[u], []⟩ [(x, u)])
    (hsp : ∀ H : Hp, Only H → SqL K H a (ns.map V.int) → sp [.ref a] H (fun v _ => v = .bl true) fun _ _ _ => False)
    (hCX : ∀ H e s', CX [] H s₁ (fun _ _ _ => False) e s' → False) :
    codeAny (model P w) callerA (.call (.ref fa) ⟨[.ref a], []⟩) (fun r s' => r = .ok (.ret (.bool true)) ∧ OldK s₁.heap s'.heap ∧ s'.os = s₁.os ∧ AllBare s'.gens) s₁ := by
  have rv := vals_ints hi
  have lenV := hi.length
  -- from an abstract heap in which nothing but the script may be tracked
  have core : ∀ H : Hp, Only H → SqL K H a (ns.map V.int) → HOk P w H s₁.heap → (∀ b, H b ≠ none → b = a) → (H a ≠ none → K.lookup a = none) →
      codeAny (model P w) callerA (.call (.ref fa) ⟨[.ref a], []⟩) (fun r s' => r = .ok (.ret (.bool true)) ∧ OldK s₁.heap s'.heap ∧ s'.os = s₁.os ∧ AllBare s'.gens) s₁ := by
    intro H hO hS hok hA hK
    have base_of : ∀ {b : Addr} {o : Obj}, s₁.heap.get? b = some o → H b = none → (hidT s₁.heap H).get? b = some o := fun e n => hidT_get e n
    have noA : ∀ {b : Addr} {o : Obj} {es : Array DictEntry} {ep : Nat}, s₁.heap.get? b = some o → o.data = .dict es ep → H b = none := fun {b o es ep} e d => by
      cases q : H b with
      | none => rfl
      | some u =>
        have e' : b = a := hA b (by rw [q]; simp)
        subst e'
        rw [ha] at e; cases e
        have d' : Data.seq vs.toArray _ = Data.dict es ep := d
        cases d'
    have nsK : ∀ {b : Addr} {m : Str → Option Value}, s₁.heap.Ns b m → (hidT s₁.heap H).Ns b m := fun {b m} ⟨o, es, ep, e, d, r⟩ => ⟨o, es, ep, base_of e (noA e d), d, r⟩
    have hKb : K.In (hidT s₁.heap H) := fun b o e => base_of (KX b o e) (by
      cases q : H b with
      | none => rfl
      | some u =>
        have e' : b = a := hA b (by rw [q]; simp)
        subst e'
        rw [hK (by rw [q]; simp)] at e; cases e)
    have hM : Mod K mg (hidT s₁.heap H) := ⟨hKb, nsK hns, ⟨mb, nsK hb, hbb⟩, let ⟨mc, h1, h2⟩ := hlim; ⟨mc, nsK h1, h2⟩⟩
    have e0 : Env0 P w K mg (hidT s₁.heap H) callerA [] s₁ H := ⟨rfl, hM, fun b o e => of_hidT e, Nat.le_of_eq (hidT_size _ _), trivial, fun b hb => absurd (show b ∈ ([] : List Addr) from hb) (by simp), hok, .of_eq hg⟩
    refine codeAny_mono ((F _ hKb (nsK hns)).run callerA [] s₁ H ⟨[.ref a], []⟩ [.ref a] [.ref a] _ _ hr e0 (hbind s₁ (.ref a)) (.cons rfl .nil) (hsp H hO hS)) fun r s' h => ?_
    cases r with
    | error e => exact (hCX H e s' h).elim
    | ok fl =>
      cases fl with
      | next => exact False.elim h
      | brk => exact False.elim h
      | cont => exact False.elim h
      | ret u =>
        obtain ⟨v, H', os, bare, un, hok', r', q⟩ := h
        have q' : v = .bl true := q
        subst q'
        obtain rfl : u = Value.bool true := r'
        refine ⟨rfl, OldK.of_keep fun b o e => ?_, os, bare⟩
        cases q : H b with
        | none => exact un.keep b o e q (by intro z; exact absurd (show b ∈ ([] : List Addr) from z) (by simp)) (by simp)
        | some u =>
          rcases hO b with z | ⟨ob, xs, z⟩
          · rw [q] at z; cases z
          · have z2 := un.frzs b ob _ z
            obtain ⟨e1, _⟩ := hok b _ z
            obtain ⟨e2, _⟩ := hok' b _ z2
            rw [e] at e1; cases e1
            exact e2
  cases hk : K.lookup a with
  | some o =>
    -- the script is one of the module's own objects
    have e := KX a o hk
    rw [ha] at e
    cases e
    refine core (fun _ => none) (fun _ => .inl rfl) (.inr ⟨_, vs.toArray, _, hk, rfl, rfl, rfl, by rw [List.size_toArray, lenV]; exact hl, by simpa using rv⟩) (fun b u z => by have z' : (none : Option HO) = some u := z; cases z') (fun b z => absurd rfl z) fun z => absurd rfl z
  | none =>
    refine core (fun b => if b = a then some (.frz { cls := .type "list", data := .seq vs.toArray } (.lst (ns.map V.int))) else none) (fun b => ?_) (.inl (.inr ⟨{ cls := .type "list", data := .seq vs.toArray }, if_pos rfl⟩)) (fun b u z => ?_) (fun b z => ?_) fun _ => hk
    · by_cases hb : b = a
      · exact .inr ⟨_, _, if_pos hb⟩
      · exact .inl (if_neg hb)
    · by_cases hb : b = a
      · have z' := (if_pos hb).symm.trans z
        cases z'
        subst hb
        exact ⟨ha, by rw [List.length_map]; exact hl, vs, _, rv, ha⟩
      · have z' := (if_neg hb).symm.trans z
        cases z'
    · by_cases hb : b = a
      · exact hb
      · exact absurd (if_neg hb) z
end L2

namespace L2
open PySem PySem.Spec PyProof.Rows

/-- the goal that k_head leaves (case hc), from the law's promise. F gives the function object fd (K's own) once, then the promise over every base -/
theorem walk_of {l : PySem.W.OpenLaw} {n k : Nat} {q : Program} {loose : List Str} {XP : (Str → Option Value) → Heap → Prop} {YP : World → Heap → Prop} {d : DefRec} {K : Params → PySem.W.Frag} {CX : World → CXT} {sp : World → Sp} {x : Str}
    (hn : l.most = some n) (hn2 : n ≤ sizeLine) (hdf : d.params.defaults = []) (hr : Room k callerA)
    (hY : ∀ (w : World) (h : Heap), YP w h → (K w.params).In h)
    (F : ∀ (w : World) (mg : Str → Option Value) (fa : Addr) (h : Heap), (K w.params).In h → h.Ns mainGlobals mg → mg d.name = some (.ref fa) →
      ∃ fd : FuncData, (∀ (s : Shared) (u : Value), BindsTo s fd ⟨[u], []⟩ [(x, u)]) ∧
        ∀ base : Heap, (K w.params).In base → base.Ns mainGlobals mg → FnOk l.prog w (K w.params) mg base (CX w) k fa fd [x] (sp w))
    (hsp : ∀ (w : World) (H : Hp) (a : Addr) (ns : List Int), ns.length ≤ n → Only H → SqL (K w.params) H a (ns.map V.int) → sp w [.ref a] H (fun v _ => v = .bl true) fun _ _ _ => False)
    (hCX : ∀ (w : World) (H : Hp) (s : Shared) (e : Value) (s' : Shared), CX w [] H s (fun _ _ _ => False) e s' → False) :
    PySem.W.WalkO q loose XP YP l.row.toRowW d [] (fun f vs => PySem.call f vs) := by
  refine Att.attach_call hn hdf fun w s₀ s₁ mg mb fa o pm cd doc a vs ns G Y ho hd hcd hmg hobj hints hlen hg => ?_
  have KX := hY w _ Y
  obtain ⟨fd, hb, hF⟩ := F w mg fa _ KX G.T.g hmg
  exact law_call KX G.T.g G.T.b G.T.builtins G.T.nolimit hg hobj hints (Nat.le_trans hlen hn2) hr hF hb (fun H hO hS => hsp w H a ns hlen hO hS) fun H e s' => hCX w H s₁ e s'
end L2


/-! SHORT WORDS over the layer: a def of the text, its body, what a loop and a test want. -/
namespace L2
open PySem PySem.Spec PyProof.Rows

/-! ### the text by places -/
def defArgs (s : Stmt) : Arguments := match s with
  | .FunctionDef _ a _ _ _ _ _ _ _ _ => a
  | _ => { posonlyargs := [], args := [], vararg := none, kwonlyargs := [], kw_defaults := [], kwarg := none, defaults := [] }
def defBody (s : Stmt) : List Stmt := match s with
  | .FunctionDef _ _ b _ _ _ _ _ _ _ => b
  | _ => []
def defScope (s : Stmt) : Scope := match s with
  | .FunctionDef _ _ _ _ _ _ sc _ _ _ => sc
  | _ => { kind := .function, names := [], isGenerator := false, isCoroutine := false }

/-! ### no exception leaves a def -/
abbrev CX0 : CXT := fun _ _ _ _ _ _ => False
abbrev E0 : XK := fun _ _ _ => False
theorem pass0 {X : Cx} : Passes CX0 X E0 := fun _ _ _ _ _ _ _ h => h.elim

/-! ### a def (or method) of the text as it stands behind the top -/
structure Fun (K : PySem.W.Frag) (x qual : Str) (st : Stmt) (f : Addr) (fd : FuncData) : Prop where
  ex : ∃ (oc : Value) (od : Option Addr) (kV doc pm : Value) (an : Option Addr) (cdv ct : Value) (osl : Array (Option Value)),
    fd = PySem.W.fnOf x qual (defArgs st) (defBody st) (defScope st) .none kV doc pm an cdv ct ∧ K.lookup f = some ⟨oc, od, .func fd, osl⟩ ∧ PySem.W.codeIn K cdv qual = true
  kp : PySem.W.keepIn K (.ref f) = true
section
variable {P : Program} {w : World} {K : PySem.W.Frag} {mg : Str → Option Value} {base : Heap}
/-- THE RULE for a def: its body as a term of rules, and the reading of that term -/
theorem Fun.ok {x qual : Str} {st : Stmt} {f : Addr} {fd : FuncData} {N ps : List Str} {k : Nat} {sp : Sp} (F : Fun K x qual st f fd) (S : FnScope N ps (defScope st)) (len : ∀ vs H Q E, sp vs H Q E → vs.length = ps.length)
    (hbody : ∀ (cdv : Value) (A : Around) (outer : List Env) (s : Shared) (H : Hp) (vs : List V) (Q : VK) (E : XK), Room k (A.deeper (envOfC qual (defScope st) s.heap.objs.size f cdv)) → sp vs H Q E →
      ∃ t, PSs (cxOf CX0 P w K mg base N qual (defScope st) f cdv A outer s H E).nox (defBody st) t ∧ t { nx := fun _ H' => Q .non H', rt := Q } (start N vs) H) : FnOk P w K mg base CX0 (k + 1) f fd ps sp := by
  obtain ⟨oc, od, kV, doc, pm, an, cdv, ct, osl, rfl, lk, hcd⟩ := F.ex
  refine fn_of lk hcd S len fun A outer s H vs Q E hr hsp => ?_
  obtain ⟨t, h, q⟩ := hbody cdv A outer s H vs Q E hr hsp
  exact ⟨t, h.nox, q⟩
/-- how its arguments bind (no defaults): h is «fun _ _ _ _ _ _ us hl => match us, hl with | [_, _], _ => rfl», one _ a parameter -/
theorem Fun.binds {x qual : Str} {st : Stmt} {f : Addr} {fd : FuncData} {ps : List Str} (F : Fun K x qual st f fd)
    (h : ∀ (kV doc pm : Value) (an : Option Addr) (cdv ct : Value) (us : List Value), us.length = ps.length → bindArgs (PySem.W.fnOf x qual (defArgs st) (defBody st) (defScope st) .none kV doc pm an cdv ct) ⟨us, []⟩ = pure (ps.zip us)) : Binds K fd ps [] := by
  obtain ⟨oc, od, kV, doc, pm, an, cdv, ct, osl, rfl, lk, hcd⟩ := F.ex
  exact .all (h kV doc pm an cdv ct)
theorem fun_mk {x qual : Str} {st : Stmt} {f : Addr} {oc : Value} {od an : Option Addr} {osl : Array (Option Value)} {kV doc pm cdv ct : Value} (l : K.lookup f = some ⟨oc, od, .func (PySem.W.fnOf x qual (defArgs st) (defBody st) (defScope st) .none kV doc pm an cdv ct), osl⟩)
    (c : PySem.W.codeIn K cdv qual = true) (k : PySem.W.keepIn K (.ref f) = true) : Fun K x qual st f (PySem.W.fnOf x qual (defArgs st) (defBody st) (defScope st) .none kV doc pm an cdv ct) := ⟨⟨oc, od, kV, doc, pm, an, cdv, ct, osl, rfl, l, c⟩, k⟩
end
/-! ### expressions in short: the name that stands in the i-th slot -/
section
variable {X : Cx}
theorem pv (i : Nat) {x : Str} {pos : Pos} (hN : X.N[i]? = some x := by rfl) (hv : Vis X.env.scope x := by first | exact Or.inl rfl | exact Or.inr (Or.inl rfl) | exact Or.inr (Or.inr rfl)) (hd : (x == ("__debug__" : Str)) = false := by decide)
    (hcd : (x == ("__classdict__" : Str)) = false := by decide) : PE X (.Name x pos) (tVar i) := pe_var hN hv hd hcd
end

/-! ### tests -/
theorem iteF {A B : Prop} (h : B) : if false = true then A else B := by
  rw [if_neg Bool.false_ne_true]
  exact h
theorem iteT {A B : Prop} (h : A) : if true = true then A else B := by
  rw [if_pos rfl]
  exact h
theorem ite2 {c A B : Prop} [Decidable c] (h1 : c → A) (h2 : ¬ c → B) : if c then A else B := by
  by_cases h : c
  · rw [if_pos h]
    exact h1 h
  · rw [if_neg h]
    exact h2 h
/-! ### heaps -/
/-- all that was tracked is as it was -/
def Same (H H' : Hp) : Prop := ∀ b o, H b = some o → H' b = some o
theorem Same.refl (H : Hp) : Same H H := fun _ _ h => h
theorem Same.trans {H H1 H2 : Hp} (a : Same H H1) (b : Same H1 H2) : Same H H2 := fun c o h => b c o (a c o h)
theorem Same.free {H H' : Hp} (e : Same H H') {l : Addr} (h : H' l = Option.none) : H l = Option.none := by
  cases q : H l with
  | none => rfl
  | some o =>
    rw [e l o q] at h
    cases h
theorem Same.seq {K : PySem.W.Frag} {H H' : Hp} {a : Addr} {xs : List V} (e : Same H H') (h : SqL K H a xs) : SqL K H' a xs := by
  rcases h with (h | ⟨o, h⟩) | h
  · exact .inl (.inl (e _ _ h))
  · exact .inl (.inr ⟨o, e _ _ h⟩)
  · exact .inr h

end L2

namespace L2
open PySem PySem.Spec PyProof.Rows

/-! ### lists of pairs as tables -/
section
variable {κ : Type} [DecidableEq κ]
def valV (kvs : List (κ × V)) (k : κ) : Option V := (kvs.find? fun kv => decide (kv.1 = k)).map (·.2)
/-- in its place, or at the end -/
def putK (kvs : List (κ × V)) (k : κ) (v : V) : List (κ × V) :=
  if (kvs.any fun kv => decide (kv.1 = k)) = true then kvs.map (fun kv => if kv.1 = k then (kv.1, v) else kv) else kvs ++ [(k, v)]
def dropK (kvs : List (κ × V)) (k : κ) : List (κ × V) := kvs.filter fun kv => decide (kv.1 ≠ k)

theorem valV_pos {p : κ × V} {r : List (κ × V)} {k : κ} (e : p.1 = k) : valV (p :: r) k = some p.2 := by simp [valV, List.find?_cons, e]
theorem valV_neg {p : κ × V} {r : List (κ × V)} {k : κ} (e : ¬ p.1 = k) : valV (p :: r) k = valV r k := by simp [valV, List.find?_cons, e]
theorem valV_any (k : κ) : ∀ kvs : List (κ × V), (kvs.any fun kv => decide (kv.1 = k)) = (valV kvs k).isSome
  | [] => rfl
  | p :: r => by
    rw [List.any_cons]
    by_cases e : p.1 = k
    · simp only [valV_pos e, decide_eq_true e, Bool.true_or, Option.isSome_some]
    · rw [valV_neg e, decide_eq_false e, Bool.false_or]; exact valV_any k r
theorem RelO.isSome_eq {o : Option V} {u : Option Value} (r : RelO o u) : o.isSome = u.isSome := by
  cases o with
  | none => cases u with
    | none => rfl
    | some _ => exact (show False from r).elim
  | some _ => cases u with
    | none => exact (show False from r).elim
    | some _ => rfl
theorem RelO.getD {o : Option V} {u : Option Value} {d : V} {d' : Value} (r : RelO o u) (rd : RelV d d') : RelV (o.getD d) (u.getD d') := by
  cases o with
  | none => cases u with
    | none => exact rd
    | some _ => exact (show False from r).elim
  | some _ => cases u with
    | none => exact (show False from r).elim
    | some _ => exact r

/-- raw tables of the same keys -/
theorem KV.val {kvs : List (κ × V)} {vs : List (κ × Value)} (r : KV kvs vs) (k : κ) : RelO (valV kvs k) (valueAt vs k) := by
  unfold KV at r
  induction r with
  | nil => exact True.intro
  | @cons p q ps qs h t ih =>
    obtain ⟨h1, h2⟩ := h
    by_cases e : p.1 = k
    · have e' : q.1 = k := h1.symm.trans e
      have b : valueAt (q :: qs) k = some q.2 := by simp [valueAt, List.find?_cons, e']
      rw [valV_pos e, b]; exact h2
    · have e' : ¬ q.1 = k := fun z => e (h1.trans z)
      have b : valueAt (q :: qs) k = valueAt qs k := by simp [valueAt, List.find?_cons, e']
      rw [valV_neg e, b]; exact ih
theorem KV.any {kvs : List (κ × V)} {vs : List (κ × Value)} (r : KV kvs vs) (k : κ) : (kvs.any fun kv => decide (kv.1 = k)) = vs.any fun kv => decide (kv.1 = k) := by
  unfold KV at r
  induction r with
  | nil => rfl
  | cons h t ih => rw [List.any_cons, List.any_cons, ih, h.1]
theorem KV.repl {kvs : List (κ × V)} {vs : List (κ × Value)} (r : KV kvs vs) (k : κ) {y : V} {u : Value} (ry : RelV y u) :
    KV (kvs.map fun kv => if kv.1 = k then (kv.1, y) else kv) (vs.map fun kv => if kv.1 = k then (kv.1, u) else kv) := by
  unfold KV at r ⊢
  induction r with
  | nil => exact .nil
  | @cons p q ps qs h t ih =>
    rw [List.map_cons, List.map_cons]
    refine .cons ?_ ih
    obtain ⟨h1, h2⟩ := h
    by_cases e : p.1 = k
    · rw [if_pos e, if_pos (h1.symm.trans e)]; exact ⟨h1, ry⟩
    · rw [if_neg e, if_neg (fun z => e (h1.trans z))]; exact ⟨h1, h2⟩
theorem KV.put {kvs : List (κ × V)} {vs : List (κ × Value)} (r : KV kvs vs) (k : κ) {y : V} {u : Value} (ry : RelV y u) : KV (putK kvs k y) (stored vs k u) := by
  unfold putK stored
  rw [r.any k]
  by_cases e : (vs.any fun kv => decide (kv.1 = k)) = true
  · rw [if_pos e, if_pos e]; exact r.repl k ry
  · rw [if_neg e, if_neg e]; exact Paired.snoc r ⟨rfl, ry⟩
theorem KV.drop {kvs : List (κ × V)} {vs : List (κ × Value)} (r : KV kvs vs) (k : κ) : KV (dropK kvs k) (without vs k) := by
  unfold KV at r ⊢
  unfold dropK without
  induction r with
  | nil => exact .nil
  | @cons p q ps qs h t ih =>
    obtain ⟨h1, h2⟩ := h
    rw [List.filter_cons, List.filter_cons]
    by_cases e : p.1 = k
    · have a : ¬ decide (p.1 ≠ k) = true := by simp [e]
      have b : ¬ decide (q.1 ≠ k) = true := by simp [h1.symm.trans e]
      rw [if_neg a, if_neg b]; exact ih
    · have e' : ¬ q.1 = k := fun z => e (h1.trans z)
      have a : decide (p.1 ≠ k) = true := by simp [e]
      have b : decide (q.1 ≠ k) = true := by simp [e']
      rw [if_pos a, if_pos b]; exact .cons ⟨h1, h2⟩ ih
theorem KV.keys {kvs : List (κ × V)} {vs : List (κ × Value)} (r : KV kvs vs) : kvs.map (·.1) = vs.map (·.1) := by
  unfold KV at r
  induction r with
  | nil => rfl
  | cons h t ih => rw [List.map_cons, List.map_cons, ih, h.1]
theorem KV.length {kvs : List (κ × V)} {vs : List (κ × Value)} (r : KV kvs vs) : kvs.length = vs.length := Paired.length r
end


/-! ### a tracked dict, its keys ints and texts or tuples of these -/
/-- raw entries of a dict with tuple keys -/
abbrev KT (H : Hp) : List (List Key × V) → List (List Key × Addr × Value) → Prop := Paired fun p q => p.1 = q.1 ∧ H q.2.1 = some (.tup (p.1.map kV)) ∧ RelV p.2 q.2.2
theorem KT.val {H : Hp} {kvs : List (List Key × V)} {xs : List (List Key × Addr × Value)} (r : KT H kvs xs) (k : List Key) : RelO (valV kvs k) ((atKey xs k).map (·.2)) := by
  induction r with
  | nil => exact True.intro
  | @cons p q ps qs h t ih =>
    obtain ⟨h1, _, h2⟩ := h
    by_cases e : p.1 = k
    · have e' : q.1 = k := h1.symm.trans e
      have b : atKey (q :: qs) k = some q.2 := by simp [atKey, List.find?_cons, e']
      rw [valV_pos e, b]; exact h2
    · have e' : ¬ q.1 = k := fun z => e (h1.trans z)
      have b : atKey (q :: qs) k = atKey qs k := by simp [atKey, List.find?_cons, e']
      rw [valV_neg e, b]; exact ih
theorem KT.repl {H : Hp} {kvs : List (List Key × V)} {xs : List (List Key × Addr × Value)} (r : KT H kvs xs) (k : List Key) {y : V} {u : Value} (ry : RelV y u) :
    KT H (kvs.map fun kv => if kv.1 = k then (kv.1, y) else kv) (xs.map (putAt k u)) := by
  induction r with
  | nil => exact .nil
  | @cons p q ps qs h t ih =>
    rw [List.map_cons, List.map_cons]
    refine .cons ?_ ih
    obtain ⟨h1, h2, h3⟩ := h
    unfold putAt
    by_cases e : p.1 = k
    · rw [if_pos e, if_pos (h1.symm.trans e)]; exact ⟨h1, h2, ry⟩
    · rw [if_neg e, if_neg (fun z => e (h1.trans z))]; exact ⟨h1, h2, h3⟩
theorem KT.put {H : Hp} {kvs : List (List Key × V)} {xs : List (List Key × Addr × Value)} (r : KT H kvs xs) (k : List Key) {b : Addr} {y : V} {u : Value} (hb : H b = some (.tup (k.map kV))) (ry : RelV y u) :
    KT H (putK kvs k y) (storedH xs k b u) := by
  have e : (kvs.any fun kv => decide (kv.1 = k)) = (atKey xs k).isSome := by
    rw [valV_any, (r.val k).isSome_eq, Option.isSome_map]
  unfold putK storedH
  rw [e]
  by_cases q : (atKey xs k).isSome = true
  · rw [if_pos q, if_pos q]; exact r.repl k ry
  · rw [if_neg q, if_neg q]; exact Paired.snoc r ⟨rfl, hb, ry⟩
theorem KT.keeps {H H' : Hp} {kvs : List (List Key × V)} {xs : List (List Key × Addr × Value)} (r : KT H kvs xs) (ht : ∀ b ys, H b = some (.tup ys) → H' b = some (.tup ys)) : KT H' kvs xs :=
  Paired.mapP r fun _ _ z => ⟨z.1, ht _ _ z.2.1, z.2.2⟩

section
variable {P : Program} {w : World} {H : Hp} {h : Heap} {a : Addr}
end

/-- what the dict at a holds at the key y -/
def DGet (H : Hp) (a : Addr) (y : V) (r : Option V) : Prop :=
  (∃ kvs k, Rd H a (.dK kvs) ∧ y = kV k ∧ r = valV kvs k) ∨ ∃ kvs k b, Rd H a (.dT kvs) ∧ y = .ref b ∧ H b = some (.tup (k.map kV)) ∧ r = valV kvs k
/-- the heap behind a[y] = v -/
def DPut (H : Hp) (a : Addr) (y v : V) (H' : Hp) : Prop :=
  (∃ kvs k, H a = some (.dK kvs) ∧ y = kV k ∧ kvs.length < sizeLine ∧ H' = upd H a (.dK (putK kvs k v))) ∨
  ∃ kvs k b, H a = some (.dT kvs) ∧ y = .ref b ∧ H b = some (.tup (k.map kV)) ∧ kvs.length < sizeLine ∧ H' = upd H a (.dT (putK kvs k v))
theorem DGet.k {H : Hp} {a : Addr} {kvs : List (Key × V)} {k : Key} (e : H a = some (.dK kvs)) : DGet H a (kV k) (valV kvs k) := .inl ⟨kvs, k, .inl e, rfl, rfl⟩
theorem DGet.t {H : Hp} {a b : Addr} {kvs : List (List Key × V)} {k : List Key} (e : H a = some (.dT kvs)) (eb : H b = some (.tup (k.map kV))) : DGet H a (.ref b) (valV kvs k) := .inr ⟨kvs, k, b, .inl e, rfl, eb, rfl⟩
theorem DPut.k {H : Hp} {a : Addr} {kvs : List (Key × V)} {k : Key} {v : V} (e : H a = some (.dK kvs)) (hl : kvs.length < sizeLine) : DPut H a (kV k) v (upd H a (.dK (putK kvs k v))) := .inl ⟨kvs, k, e, rfl, hl, rfl⟩
theorem DPut.t {H : Hp} {a b : Addr} {kvs : List (List Key × V)} {k : List Key} {v : V} (e : H a = some (.dT kvs)) (eb : H b = some (.tup (k.map kV))) (hl : kvs.length < sizeLine) :
    DPut H a (.ref b) v (upd H a (.dT (putK kvs k v))) := .inr ⟨kvs, k, b, e, rfl, eb, hl, rfl⟩


section
variable {X : Cx} {pins : List (Addr × Obj)} {σ : St} {H : Hp} {s : Shared} {a : Addr} {y v : V} {u r : Value} {o : Option V} {A : Around} {E : Value → Shared → Prop}

end

section
variable {X : Cx} {pins : List (Addr × Obj)} {σ : St} {H : Hp} {s : Shared} {a : Addr} {kvs : List (Key × V)} {k : Key} {u : Value} {A : Around} {E : Value → Shared → Prop}
end


/-! ### readings and rules -/
section
variable {X : Cx} {o i e value : Expr} {pos pos' tpos : Pos} {td ty tv : TE}
end


/-! ### displays -/
section
variable {X : Cx} {pos : Pos}
end

section
variable {κ : Type} [DecidableEq κ]
end
section
variable {X : Cx}
end
end L2

set_option maxHeartbeats 4000000
namespace L2
open PySem PySem.Spec PyProof.Rows

/-! ### comprehensions -/
/-- the tests of a clause -/
def PTs (Y : Cx) (ifs : List Expr) (t : TT) : Prop :=
  ∀ (pins : List (Addr × Obj)) (s : Shared) (σ : St) (H : Hp) (Q : Bool → Hp → Prop), Inv Y pins σ H s → t σ H Q →
    wpAny (model Y.prog Y.w) Y.A (forIn ifs true fun c r => if r = true then do let ok ← isTrue c Y.env (eval c Y.env); pure (ForInStep.yield ok) else pure (ForInStep.yield r)) (TP Y pins σ Q) Y.xe s
theorem pts_nil {Y : Cx} : PTs Y [] (fun _ H Q => Q true H) := by
  intro pins s σ H Q I h
  rw [List.forIn_nil]
  exact wpAny_pure ⟨H, I, h⟩
theorem pts_one {Y : Cx} {c : Expr} {t : TT} (hc : PT Y c t) : PTs Y [c] t := by
  intro pins s σ H Q I h
  rw [List.forIn_cons]
  refine wpAny_bind ?_
  rw [if_pos rfl]
  refine wpAny_bind (thn (hc pins s σ H Q I h) fun b s1 q => wpAny_pure ?_)
  show wpAny _ _ (forIn [] b _) _ _ _
  rw [List.forIn_nil]
  exact wpAny_pure q
/-- what a clause does with its inner part -/
def LcW (prog : Program) (w : World) (A : Around) (elt : Expr) (gens : List Comprehension) (scope : Scope) (pos : Pos) (d : Nat) (acc : Value) (env : Env) (Q : Shared → Prop) (s : Shared) : Prop :=
  match gens[d + 1]? with
  | some g' => (g'.is_async = 0 ∧ ∀ x, foldedSetIterable g'.iter env x = pure x) ∧ wpAny (model prog w) A (eval g'.iter env) (fun x s4 => wpAny (model prog w) A (pyIter x) (fun itv s5 =>
      codeAny (model prog w) A (.compStart (.ListComp elt gens scope pos) (d + 1) itv acc env) (fun r s6 => r = .ok .next ∧ Q s6) s5) (fun _ _ => False) s4) (fun _ _ => False) s
  | none => wpAny (model prog w) A (eval elt env) (fun x s4 => wpAny (model prog w) A (call (.builtin "list.append") [acc, x]) (fun _ s5 => Q s5) (fun _ _ => False) s4) (fun _ _ => False) s
section
variable {prog : Program} {w : World} {A : Around} {R : Result → Shared → Prop} {s : Shared}
theorem compLoop_any {elt target iter : Expr} {ifs : List Expr} {gens : List Comprehension} {scope : Scope} {pos : Pos} {d : Nat} {it acc : Value} {env : Env} (hg : gens[d]? = some ⟨target, iter, ifs, 0⟩) (I : Nat → Shared → Prop)
    (turn : ∀ n s, I n s → wpAny (model prog w) A (pyNext it) (fun r s₁ => match r with
      | none => R (.ok .next) s₁
      | some v => wpAny (model prog w) A (letOwnedTupleGo target it v) (fun _ s₁' => wpAny (model prog w) A (assign target env v) (fun _ s₂ =>
          wpAny (model prog w) A (forIn ifs true fun c r => if r = true then do let ok ← isTrue c env (eval c env); pure (ForInStep.yield ok) else pure (ForInStep.yield r)) (fun ok s₃ =>
            if ok = true then LcW prog w A elt gens scope pos d acc env (fun s₅ => ∃ m, m < n ∧ I m s₅) s₃
            else ∃ m, m < n ∧ I m s₃) (fun _ _ => False) s₂) (fun _ _ => False) s₁') (fun _ _ => False) s₁) (fun _ _ => False) s)
    (n : Nat) (h : I n s) :
    codeAny (model prog w) A (.compLoop (.ListComp elt gens scope pos) d it acc env) R s := by
  refine codeAny_loop rfl I (fun n s hI => ?_) n h
  show wpAny _ A ((compTurn (.ListComp elt gens scope pos) d it acc env).onRaise (fun x => do noteFrame x env; theTreesLotGoes x)) _ _ s
  refine wpAny_noted (wpAny_noRaise ?_)
  unfold compTurn
  dsimp only
  rw [hg]
  dsimp only
  refine wpAny_bind (wpAny_standAt (wpAny_bind (thn (turn n s hI) (fun r s₁ h₁ => ?_))))
  cases r with
  | none => exact wpAny_pure h₁
  | some v =>
    refine wpAny_bind (thn h₁ fun _ s₁' h₁ => wpAny_bind (thn h₁ fun _ s₂ h₂ => wpAny_bind (thn h₂ fun ok s₃ h₃ => ?_)))
    cases ok with
    | false => exact wpAny_pure ⟨rfl, h₃⟩
    | true =>
      rw [if_pos rfl] at h₃ ⊢
      unfold LcW at h₃
      cases e : gens[d + 1]? with
      | none =>
        rw [e] at h₃
        exact wpAny_bind (wpAny_bind (thn h₃ fun x s₄ h₄ => wpAny_bind (thn h₄ fun _ s₅ h₅ => wpAny_pure (wpAny_pure ⟨rfl, h₅⟩))))
      | some g' =>
        rw [e] at h₃
        dsimp only at h₃ ⊢
        obtain ⟨⟨ha, hf⟩, h₃⟩ := h₃
        refine wpAny_bind (thn h₃ fun x s₄ h₄ => wpAny_bind (wpAny_standAt ?_))
        rw [ha, if_neg (by decide)]
        refine wpAny_bind (wpAny_of_eq (hf x) (wpAny_bind (wpAny_holding ?_)))
        rw [if_neg (by decide)]
        refine thn h₄ fun itv s₅ h₅ => wpAny_bind (wpAny_runOwn (codeAny_mono h₅ fun r s₆ ⟨hr, q⟩ => ?_))
        subst hr
        exact wpAny_pure ⟨rfl, q⟩
theorem compStart_any {elt target iter : Expr} {ifs : List Expr} {gens : List Comprehension} {scope : Scope} {pos : Pos} {d : Nat} {it acc : Value} {env : Env} (hg : gens[d]? = some ⟨target, iter, ifs, 0⟩)
    (h0 : codeAny (model prog w) A (.compLoop (.ListComp elt gens scope pos) d it acc env) R s)
    (h : wpAny (model prog w) A (pyIter it) (fun it' s' => codeAny (model prog w) A (.compLoop (.ListComp elt gens scope pos) d it' acc env) R s') (fun _ _ => False) s) :
    codeAny (model prog w) A (.compStart (.ListComp elt gens scope pos) d it acc env) R s := by
  refine codeAny_of_tree ?_
  show wpAny _ _ ((compStart (.ListComp elt gens scope pos) d it acc env).onRaise (fun x => do noteFrame x env; standAt theWindowsPlace)) _ _ s
  refine wpAny_notedAt (wpAny_noRaise ?_)
  unfold compStart
  have hc : clausesOf (.ListComp elt gens scope pos) = gens := rfl
  rw [hc, hg]
  show wpAny _ _ (ask >>= _) _ _ s
  refine wpAny_bind (wpAny_askSetting (wpAny_ite ?_))
  split
  · first
      | exact wpAny_bind (wpAny_pure (wpAny_pure (And.intro rfl h0)))
      | exact wpAny_pure (And.intro rfl h0)
  · first
      | exact wpAny_bind (wpAny_rule (wpAny_bind (wpAny_standAt (wpAny_bind (wpAny_mono h (fun it' s' h' => wpAny_pure (And.intro rfl h')) fun _ _ x => x)))))
      | (refine wpAny_bind (wpAny_rule ?_); show wpAny _ _ (standAt iter.pos >>= _) _ _ s; exact wpAny_bind (wpAny_standAt (wpAny_bind (wpAny_mono h (fun it' s' h' => wpAny_pure (And.intro rfl h')) fun _ _ x => x))))
end

/-- a loop's reading, the iterator at hand -/
def loopT (J : It) (g : TG) (tb : TS) : TS := fun D σ H => ∃ W : Nat → Nat → St → Hp → Prop, (∃ m, W 0 m σ H) ∧ ∀ i m σ H, W i m σ H →
  (J.stop i H ∧ D.nx σ H) ∨ (J.go i H ∧ ∃ N : St → Hp → Prop, (∀ σ' H', N σ' H' → ∃ m', m' < m ∧ W (i + 1) m' σ' H') ∧ ∀ x H', J.yld i H x H' → g x σ H' fun σ2 H2 => tb { D with nx := N, ct := N, bk := D.nx } σ2 H2)
def tIfB (ti : TT) (tb : TS) : TS := fun D σ H => ti σ H fun b H1 => if b = true then tb D σ H1 else D.nx σ H1
def PB (Y : Cx) (elt : Expr) (gens : List Comprehension) (scope : Scope) (pos : Pos) (d : Nat) (acc : Addr) (tb : TS) : Prop :=
  ∀ (pins : List (Addr × Obj)) (s : Shared) (σ : St) (H : Hp) (D : Ends), Inv Y pins σ H s → tb D σ H → LcW Y.prog Y.w Y.A elt gens scope pos d (.ref acc) Y.env (fun s' => ∃ σ' H', Inv Y pins σ' H' s' ∧ D.nx σ' H') s
section
variable {Y : Cx} {elt : Expr} {gens : List Comprehension} {scope : Scope} {pos : Pos} {d : Nat} {acc : Addr}
def tEmit (acc : Addr) (te : TE) : TS := fun D σ H => te σ H fun v H1 => ∃ xs, H1 acc = some (.lst xs) ∧ xs.length < sizeLine ∧ D.nx σ (upd H1 acc (.lst (xs ++ [v])))
theorem pb_emit {te : TE} (hg : gens[d + 1]? = none) (hx : Y.xe = fun _ _ => False) (he : PE Y elt te) : PB Y elt gens scope pos d acc (tEmit acc te) := by
  intro pins s σ H D I h
  unfold LcW
  rw [hg]
  dsimp only
  have he' := he pins s σ H _ I h
  rw [hx] at he'
  refine thn he' fun u s1 ⟨v, H1, I1, r1, xs, e, hl, q⟩ => ?_
  have a2 := mt_append pins s1 σ H1 (.ref acc) [v] (.ref acc) [u] (fun _ H2 => D.nx σ H2) I1 rfl (.cons r1 .nil) ⟨acc, xs, v, rfl, rfl, e, hl, q⟩
  rw [hx] at a2
  exact thn a2 fun _ s2 ⟨_, H2, I2, _, q2⟩ => ⟨σ, H2, I2, q2⟩
theorem lc_loop {tg iter : Expr} {ifs : List Expr} {g : TG} {ti : TT} {tb : TS} {pins : List (Addr × Obj)} {s : Shared} {σ : St} {H : Hp} {D : Ends} {J : It} {fp : List Addr} {it : Addr} {tn : Nat → Heap → Prop}
    (hgd : gens[d]? = some ⟨tg, iter, ifs, 0⟩) (hx : Y.xe = fun _ _ => False) (hc : Y.calm = true) (hg : PG Y tg g) (ht : PTs Y ifs ti) (hb : PB Y elt gens scope pos d acc tb)
    (I : Inv Y pins σ H s) (T : Turn Y.prog Y.w Y.K tg J fp it tn) (st : tn 0 s.heap) (f2 : ∀ b ∈ fp, FpOk Y pins H b) (h : loopT J g (tIfB ti tb) D σ H) :
    codeAny (model Y.prog Y.w) Y.A (.compLoop (.ListComp elt gens scope pos) d (.ref it) (.ref acc) Y.env) (fun r s' => r = .ok .next ∧ ∃ σ' H', Inv Y pins σ' H' s' ∧ D.nx σ' H') s := by
  obtain ⟨W, ⟨m0, w0⟩, turn⟩ := h
  have stat : ∀ {H' : Hp}, (∀ b ∈ fp, H' b = none) → ∀ b ∈ fp, FpOk Y pins H' b := fun hn b hb => ⟨hn b hb, (f2 b hb).2⟩
  refine compLoop_any hgd (fun n s' => ∃ i σ' H', Inv Y pins σ' H' s' ∧ tn i s'.heap ∧ (∀ b ∈ fp, H' b = none) ∧ W i n σ' H') ?_ m0 ⟨0, σ, H, I, st, fun b hb => (f2 b hb).1, w0⟩
  rintro n s3 ⟨i, σ3, H3, I3, st3, fr3, w3⟩
  rcases turn i n σ3 H3 w3 with ⟨stop, qn⟩ | ⟨go, N, hN, step⟩
  · refine thn (T.done Y rfl rfl rfl hc i pins s3 σ3 H3 _ I3 (stat fr3) st3 stop) fun r s4 ⟨hr, I4⟩ => ?_
    subst hr
    exact ⟨rfl, σ3, H3, I4, qn⟩
  · refine thn (T.item Y rfl rfl rfl hc i pins s3 σ3 H3 _ I3 (stat fr3) st3 go) fun r s4 ⟨u, hr, h4⟩ => ?_
    subst hr
    refine thn h4 fun _ s5 ⟨x, H5, I5, r5, y5, st5, fr5⟩ => ?_
    have I5' := I5.pinned (stat fr5) (T.obj _ _ st5)
    have a1 := hg _ s5 σ3 H5 x u _ I5' r5 (step x H5 y5)
    rw [hx] at a1
    refine thn a1 fun _ s6 ⟨σ6, H6, I6, q6⟩ => ?_
    have a2 := ht _ s6 σ6 H6 _ I6 q6
    rw [hx] at a2
    refine thn a2 fun ok s7 ⟨H7, I7, q7⟩ => ?_
    have again : ∀ {s8 : Shared} {σ7 : St} {H7 : Hp}, Inv Y (pins ++ pinsAt fp s5.heap) σ7 H7 s8 → N σ7 H7 → ∃ m, m < n ∧ ∃ i σ' H', Inv Y pins σ' H' s8 ∧ tn i s8.heap ∧ (∀ b ∈ fp, H' b = none) ∧ W i m σ' H' := fun {s8 σ7 H7} I7 n7 => by
      obtain ⟨m', hm, w7⟩ := hN σ7 H7 n7
      refine ⟨m', hm, i + 1, σ7, H7, I7.unpinned, T.keep _ _ _ st5 fun b hb o e => (I7.pin (b, o) (List.mem_append_right _ (List.mem_append_right _ (mem_pinsAt hb e)))).1, fun b hb => ?_, w7⟩
      obtain ⟨o, e, d⟩ := T.obj _ _ st5 b hb
      exact (I7.pin (b, o) (List.mem_append_right _ (List.mem_append_right _ (mem_pinsAt hb e)))).2.1
    cases ok with
    | false =>
      rw [if_neg Bool.false_ne_true] at q7 ⊢
      exact again I7 q7
    | true =>
      rw [if_pos rfl] at q7 ⊢
      have a3 := hb _ s7 σ6 H7 _ I7 q7
      unfold LcW at a3 ⊢
      cases e : gens[d + 1]? with
      | none =>
        rw [e] at a3
        exact thn a3 fun x s8 h8 => thn h8 fun _ s9 ⟨σ9, H9, I9, n9⟩ => again I9 n9
      | some g' =>
        rw [e] at a3
        exact ⟨a3.1, thn a3.2 fun x s8 h8 => thn h8 fun _ s9 h9 => codeAny_mono h9 fun r s10 ⟨hr, σ9, H9, I9, n9⟩ => ⟨hr, again I9 n9⟩⟩
end
end L2

namespace L2
open PySem PySem.Spec PyProof.Rows

/-- the cells that a block takes over -/
def clFrom (env : Env) : List (Str × NameKind) → List (Str × Addr) → List (Str × Addr)
  | [], acc => acc
  | (n, k) :: r, acc => if k == .free then clFrom env r ((n, (env.cells.lookup n).getD 0) :: acc) else clFrom env r acc
theorem clFrom_go {env : Env} (f : Str × NameKind → List (Str × Addr) → Sem (ForInStep (List (Str × Addr))))
    (hf : ∀ n k cs, f (n, k) cs = if k == .free then (do let c ← cellOf env n; pure (.yield ((n, c) :: cs))) else pure (.yield cs)) :
    ∀ (names : List (Str × NameKind)) (acc : List (Str × Addr)), (∀ x ∈ names, x.2 = .free → ∃ c, env.cells.lookup x.1 = some c) → forIn names acc f = pure (clFrom env names acc)
  | [], acc, _ => by rw [List.forIn_nil]; rfl
  | (n, k) :: r, acc, h => by
    rw [List.forIn_cons, hf]
    unfold clFrom
    by_cases hk : (k == NameKind.free) = true
    · rw [if_pos hk, if_pos hk]
      obtain ⟨c, hc⟩ := h (n, k) List.mem_cons_self (by simpa using hk)
      have hc' : env.cells.lookup n = some c := hc
      have e : cellOf env n = pure c := by unfold cellOf; rw [hc']
      rw [e, hc']
      exact clFrom_go f hf r _ fun x hx => h x (List.mem_cons_of_mem _ hx)
    · rw [if_neg hk, if_neg hk]
      exact clFrom_go f hf r _ fun x hx => h x (List.mem_cons_of_mem _ hx)
theorem closureFor_cl {scope : Scope} {env : Env} (h : ∀ x ∈ scope.names, x.2 = .free → ∃ c, env.cells.lookup x.1 = some c) : closureFor scope env = pure (clFrom env scope.names []) := by
  unfold closureFor
  dsimp only
  rw [clFrom_go (env := env) _ (fun n k cs => by cases hk : k == NameKind.free <;> simp [hk]) scope.names [] h]
  rfl
theorem clFrom_look {env : Env} {x : Str} {c : Addr} : ∀ (names : List (Str × NameKind)) (acc : List (Str × Addr)), (∀ y ∈ names, y.2 = .free → ∃ c, env.cells.lookup y.1 = some c) →
    (clFrom env names acc).lookup x = some c → (((x, NameKind.free) ∈ names ∧ env.cells.lookup x = some c) ∨ acc.lookup x = some c)
  | [], acc, _, e => .inr e
  | (n, k) :: r, acc, h, e => by
    unfold clFrom at e
    have hr : ∀ y ∈ r, y.2 = .free → ∃ c, env.cells.lookup y.1 = some c := fun y hy => h y (List.mem_cons_of_mem _ hy)
    by_cases hk : (k == NameKind.free) = true
    · rw [if_pos hk] at e
      have hk' : k = .free := by simpa using hk
      subst hk'
      rcases clFrom_look r _ hr e with ⟨h1, h2⟩ | h1
      · exact .inl ⟨List.mem_cons_of_mem _ h1, h2⟩
      · rw [List.lookup_cons] at h1
        cases q : x == n with
        | true =>
          rw [q] at h1
          have : x = n := by simpa using q
          subst this
          obtain ⟨c', hc'⟩ := h (x, .free) List.mem_cons_self rfl
          have hc'' : env.cells.lookup x = some c' := hc'
          rw [hc''] at h1
          exact .inl ⟨List.mem_cons_self, by rw [hc'']; exact h1⟩
        | false =>
          rw [q] at h1
          exact .inr h1
    · rw [if_neg hk] at e
      rcases clFrom_look r _ hr e with ⟨h1, h2⟩ | h1
      · exact .inl ⟨List.mem_cons_of_mem _ h1, h2⟩
      · exact .inr h1
theorem clFrom_some {env : Env} {x : Str} : ∀ (names : List (Str × NameKind)) (acc : List (Str × Addr)), (x, NameKind.free) ∈ names ∨ (acc.lookup x).isSome = true → ((clFrom env names acc).lookup x).isSome = true
  | [], acc, h => by rcases h with h | h; cases h; exact h
  | (n, k) :: r, acc, h => by
    unfold clFrom
    by_cases hk : (k == NameKind.free) = true
    · rw [if_pos hk]
      refine clFrom_some r _ ?_
      rw [List.lookup_cons]
      cases q : x == n with
      | true => exact .inr rfl
      | false =>
        rcases h with h | h
        · rcases List.mem_cons.mp h with e | e
          · cases e; simp at q
          · exact .inl e
        · exact .inr h
    · rw [if_neg hk]
      refine clFrom_some r _ ?_
      rcases h with h | h
      · rcases List.mem_cons.mp h with e | e
        · cases e; exact absurd rfl hk
        · exact .inl e
      · exact .inr h
theorem clFrom_mem {env : Env} {x : Str} {c : Addr} : ∀ (names : List (Str × NameKind)) (acc : List (Str × Addr)), (∀ y ∈ names, y.2 = .free → ∃ c, env.cells.lookup y.1 = some c) → (x, c) ∈ clFrom env names acc → env.cells.lookup x = some c ∨ (x, c) ∈ acc
  | [], acc, _, e => .inr e
  | (n, k) :: r, acc, h, e => by
    unfold clFrom at e
    have hr : ∀ y ∈ r, y.2 = .free → ∃ c, env.cells.lookup y.1 = some c := fun y hy => h y (List.mem_cons_of_mem _ hy)
    by_cases hk : (k == NameKind.free) = true
    · rw [if_pos hk] at e
      have hk' : k = .free := by simpa using hk
      subst hk'
      rcases clFrom_mem r _ hr e with h1 | h1
      · exact .inl h1
      · rcases List.mem_cons.mp h1 with q | q
        · obtain ⟨c', hc'⟩ := h (n, .free) List.mem_cons_self rfl
          have hc'' : env.cells.lookup n = some c' := hc'
          rw [hc''] at q
          cases q
          exact .inl hc''
        · exact .inr q
    · rw [if_neg hk] at e
      exact clFrom_mem r _ hr e
/-- where a name's cell lies -/
theorem cellsFrom_look {x : Str} {c : Addr} : ∀ (names : List (Str × NameKind)) (n : Nat) (acc : List (Str × Addr)), (cellsFrom n names acc).lookup x = some c → ((x, NameKind.cell) ∈ names ∧ n ≤ c) ∨ acc.lookup x = some c
  | [], n, acc, e => .inr e
  | (y, k) :: r, n, acc, e => by
    unfold cellsFrom at e
    by_cases hk : (k == NameKind.cell) = true
    · rw [if_pos hk] at e
      have hk' : k = .cell := by simpa using hk
      subst hk'
      rcases cellsFrom_look r _ _ e with ⟨h1, h2⟩ | h1
      · exact .inl ⟨List.mem_cons_of_mem _ h1, by omega⟩
      · rw [List.lookup_cons] at h1
        cases q : x == y with
        | true =>
          rw [q] at h1
          have : x = y := by simpa using q
          subst this
          cases h1
          exact .inl ⟨List.mem_cons_self, Nat.le_refl _⟩
        | false => rw [q] at h1; exact .inr h1
    · rw [if_neg hk] at e
      rcases cellsFrom_look r _ _ e with ⟨h1, h2⟩ | h1
      · exact .inl ⟨List.mem_cons_of_mem _ h1, h2⟩
      · exact .inr h1
/-- a name that is no cell of the block keeps what was there -/
theorem cellsFrom_old {x : Str} : ∀ (names : List (Str × NameKind)) (n : Nat) (acc : List (Str × Addr)), (x, NameKind.cell) ∉ names → (cellsFrom n names acc).lookup x = acc.lookup x
  | [], n, acc, _ => rfl
  | (y, k) :: r, n, acc, h => by
    unfold cellsFrom
    have hr : (x, NameKind.cell) ∉ r := fun z => h (List.mem_cons_of_mem _ z)
    by_cases hk : (k == NameKind.cell) = true
    · rw [if_pos hk, cellsFrom_old r _ _ hr, List.lookup_cons]
      cases q : x == y with
      | true =>
        have : x = y := by simpa using q
        subst this
        have hk' : k = .cell := by simpa using hk
        subst hk'
        exact absurd List.mem_cons_self h
      | false => rfl
    · rw [if_neg hk]
      exact cellsFrom_old r _ _ hr
/-- the new cells stand in the heap, apart -/
theorem cellsFrom_new : ∀ (names : List (Str × NameKind)) (h : Heap) (acc : List (Str × Addr)) (lo : Nat), lo ≤ h.objs.size → (∀ y c, (y, c) ∈ acc → lo ≤ c → h.IsCell c none) → (acc.Pairwise fun x y => lo ≤ x.2 → x.2 ≠ y.2) → (∀ y c, (y, c) ∈ acc → c < h.objs.size) →
    (∀ y c, (y, c) ∈ cellsFrom h.objs.size names acc → lo ≤ c → (pushCells h names).IsCell c none) ∧ ((cellsFrom h.objs.size names acc).Pairwise fun x y => lo ≤ x.2 → x.2 ≠ y.2)
  | [], h, acc, lo, _, h1, h2, _ => ⟨h1, h2⟩
  | (n, k) :: r, h, acc, lo, hlo, h1, h2, h3 => by
    unfold cellsFrom pushCells
    by_cases hk : (k == NameKind.cell) = true
    · rw [if_pos hk, if_pos hk]
      have := cellsFrom_new r (h.push { cls := .type "cell", data := .cell none }) ((n, h.objs.size) :: acc) lo (by rw [Heap.size_push]; omega) (fun y c hm hc => by
        rcases List.mem_cons.mp hm with e | hm
        · cases e; exact ⟨_, Heap.get?_push_size _ rfl, rfl⟩
        · exact (h1 y c hm hc).keeps fun b o e => Heap.get?_push_of_some _ e) (List.pairwise_cons.mpr ⟨fun y hy _ e => by
          have := h3 y.1 y.2 hy
          have e' : h.objs.size = y.2 := e
          exact absurd (e' ▸ this) (Nat.lt_irrefl _), h2⟩) (fun y c hm => by
        rw [Heap.size_push]
        rcases List.mem_cons.mp hm with e | hm
        · cases e; exact Nat.lt_succ_self _
        · exact Nat.lt_succ_of_lt (h3 y c hm))
      rw [Heap.size_push] at this
      exact this
    · rw [if_neg hk, if_neg hk]
      exact cellsFrom_new r h acc lo hlo h1 h2 h3

/-- the block's own env -/
def inEnv (scope : Scope) (env : Env) (C : Addr) : Env :=
  { scope := relabel scope env, locals := C, globals := env.globals, cells := cellsFrom (C + 1) scope.names (clFrom env scope.names []), qual := env.qual, func := none, code := env.code, frame := env.frame, builtins := env.builtins }
theorem newEnv_in {M : Model} {A : Around} {E : Value → Shared → Prop} {s : Shared} {scope : Scope} {env : Env} {Q : Env → Shared → Prop}
    (h : Q (newEnv scope s.heap.objs.size env.globals (cellsFrom (s.heap.objs.size + 1) scope.names (clFrom env scope.names [])) env.qual none .none (some env) builtinsNs)
      { s with heap := pushCells (s.heap.push { cls := .type "dict", data := .dict #[] }) scope.names }) :
    wpAny M A (newFunctionEnv scope env.globals (clFrom env scope.names []) [] env.qual none .none (some env)) Q E s := by
  simp only [newFunctionEnv, Option.isSome_some, if_true]
  refine wpAny_bind (wpAny_alloc ?_)
  refine wpAny_bind (wpAny_layCells _ (fun name kind cells => by cases hkc : kind == NameKind.cell <;> simp [hkc]) _ _ _ _ ?_)
  rw [show ({ s with heap := s.heap.push { cls := .type "dict", data := .dict #[] } } : Shared).heap.objs.size = s.heap.objs.size + 1 from Heap.size_push ..]
  rw [List.forIn_nil]
  exact wpAny_bind (wpAny_pure (wpAny_pure h))
/-- the block's context -/
def Cx.inn (X : Cx) (scope : Scope) (N : List Str) (s₃ : Shared) (H₃ : Hp) (fp : List Addr) : Cx :=
  { X with N := N, s₀ := s₃, H₀ := H₃, env := inEnv scope X.env s₃.heap.objs.size, outer := X.stack, stack := X.stack, ex := fp, fn := fun x => scope.names.lookup x == some .cell, pn := [], xe := fun _ _ => False }
/-- the names of a block: its own, and those that it takes over (with their places outside) -/
def capN (own : List Str) (cap : List (Str × Nat)) : List Str := own ++ cap.map (·.1)
def capS (own : List Str) (cap : List (Str × Nat)) (σ : St) : St := own.map (fun _ => none) ++ cap.map fun p => (σ[p.2]?).join
structure LcScope (X : Cx) (scope : Scope) (own : List Str) (cap : List (Str × Nat)) : Prop where
  kind : scope.kind = .function
  nd : (scope.names.map (·.1)).Nodup
  loc : ∀ x ∈ scope.names, x.2 = .local → scope.names.lookup x.1 = some .local
  fre : ∀ x ∈ scope.names, x.2 = .free → X.env.kindOf x.1 = some .cell ∨ X.env.kindOf x.1 = some .free
  cap : ∀ p ∈ cap, X.N[p.2]? = some p.1 ∧ (p.1, NameKind.free) ∈ scope.names
theorem nodup_kind {names : List (Str × NameKind)} (nd : (names.map (·.1)).Nodup) {x : Str} {k k' : NameKind} (h : (x, k) ∈ names) (h' : (x, k') ∈ names) : k = k' := by
  induction names with
  | nil => cases h
  | cons p r ih =>
    rw [List.map_cons, List.nodup_cons] at nd
    rcases List.mem_cons.mp h with e | h <;> rcases List.mem_cons.mp h' with e' | h'
    · rw [← e] at e'; cases e'; rfl
    · exact absurd (List.mem_map.mpr ⟨_, h', by rw [← e]⟩) nd.1
    · exact absurd (List.mem_map.mpr ⟨_, h, by rw [← e']⟩) nd.1
    · exact ih nd.2 h h'
theorem nodup_look {names : List (Str × NameKind)} (nd : (names.map (·.1)).Nodup) {x : Str} {k : NameKind} (h : (x, k) ∈ names) : names.lookup x = some k := by
  cases e : names.lookup x with
  | some k' => rw [nodup_kind nd h (PySem.mem_of_lookup e)]
  | none =>
    have : ∀ p ∈ names, (x == p.1) = false := by
      have := List.lookup_eq_none_iff.mp e
      intro p hp
      have := this p hp
      simpa using this
    have := this _ h
    simp at this
theorem name_of_addr' {lo : Nat} : ∀ {cs : List (Str × Addr)}, (cs.Pairwise fun x y => lo ≤ x.2 → x.2 ≠ y.2) → ∀ {n n' : Str} {c : Addr}, (n, c) ∈ cs → (n', c) ∈ cs → lo ≤ c → n = n'
  | x :: r, hp, n, n', c, h, h', hc => by
    obtain ⟨h1, h2⟩ := List.pairwise_cons.mp hp
    rcases List.mem_cons.mp h with e | h <;> rcases List.mem_cons.mp h' with e' | h'
    · rw [← e'] at e; exact (Prod.mk.inj e).1
    · exact absurd (by rw [← e]) (h1 _ h' (by rw [← e]; exact hc))
    · exact absurd (by rw [← e']) (h1 _ h (by rw [← e']; exact hc))
    · exact name_of_addr' h2 h h' hc
theorem map_look {f : Str → NameKind → Bool} {x : Str} : ∀ {names : List (Str × NameKind)}, (names.map fun p => if f p.1 p.2 = true then (p.1, NameKind.cell) else p).lookup x = (names.lookup x).map fun k => if f x k = true then NameKind.cell else k
  | [] => rfl
  | (n, k) :: r => by
    rw [List.map_cons]
    have ih := @map_look f x r
    cases hx : x == n with
    | true =>
      have : x = n := by simpa using hx
      subst this
      cases hc : f x k <;> simp [List.lookup_cons, hc]
    | false =>
      cases hc : f n k <;> simp only [List.lookup_cons, hx, hc, if_true, if_false, Bool.false_eq_true] <;> exact ih
theorem relabel_look {scope : Scope} {env : Env} {x : Str} : (relabel scope env).names.lookup x =
    (scope.names.lookup x).map fun k => if (k == NameKind.free && env.scope.kind == .function && env.kindOf x == some .cell) = true then NameKind.cell else k := by
  have e : (relabel scope env).names = scope.names.map fun p => if (fun n k => (k == NameKind.free && env.scope.kind == .function && env.kindOf n == some .cell)) p.1 p.2 = true then (p.1, NameKind.cell) else p := by
    unfold relabel
    dsimp only
  rw [e]
  exact map_look (f := fun n k => (k == NameKind.free && env.scope.kind == .function && env.kindOf n == some .cell))
section
variable {X : Cx} {pins : List (Addr × Obj)} {σ : St} {H : Hp} {s : Shared} {scope : Scope} {own : List Str} {cap : List (Str × Nat)} {fp : List Addr}
theorem inv_in (L : LcScope X scope own cap) (I : Inv X pins σ H s) (hf : ∀ b ∈ fp, FpOk X pins H b) (ho : ∀ b ∈ fp, ∃ o, s.heap.get? b = some o) :
    Inv (X.inn scope (capN own cap) s H fp) [] (capS own cap σ) H { s with heap := pushCells (s.heap.push { cls := .type "dict", data := .dict #[] }) scope.names } := by
  have hcl : ∀ x ∈ scope.names, x.2 = .free → ∃ c, X.env.cells.lookup x.1 = some c := fun x hx hk => I.ok.has x.1 (L.fre x hx hk)
  have old : ∀ x c, (clFrom X.env scope.names []).lookup x = some c → (x, NameKind.free) ∈ scope.names ∧ X.env.cells.lookup x = some c := fun x c e => by
    rcases clFrom_look _ _ hcl e with h | h
    · exact h
    · cases h
  have keep : ∀ b o, s.heap.get? b = some o → (pushCells (s.heap.push { cls := .type "dict", data := .dict #[] }) scope.names).get? b = some o := fun b o e => pushCells_keeps _ _ b o (Heap.get?_push_of_some _ e)
  have look : ∀ x c, (X.inn scope (capN own cap) s H fp).env.cells.lookup x = some c → ((x, NameKind.cell) ∈ scope.names ∧ s.heap.objs.size + 1 ≤ c) ∨ ((x, NameKind.free) ∈ scope.names ∧ X.env.cells.lookup x = some c) := fun x c e => by
    rcases cellsFrom_look _ _ _ e with h | h
    · exact .inl h
    · exact .inr (old x c h)
  have oldlt : ∀ x c, X.env.cells.lookup x = some c → c < s.heap.objs.size := fun x c e => by
    obtain ⟨v, hv⟩ := I.cell x c e
    exact hv.lt
  have nf : ∀ x, (x, NameKind.free) ∈ scope.names → (x, NameKind.cell) ∉ scope.names := fun x h h' => by cases nodup_kind L.nd h h'
  have ml : ∀ y c, (y, c) ∈ clFrom X.env scope.names [] → c < s.heap.objs.size := fun y c hm => by
    rcases clFrom_mem _ _ hcl hm with h | h
    · exact oldlt y c h
    · cases h
  have clnd : (clFrom X.env scope.names []).Pairwise fun x y => s.heap.objs.size + 1 ≤ x.2 → x.2 ≠ y.2 := List.pairwise_iff_forall_sublist.mpr fun {a b} hs hle => by
    have : a ∈ clFrom X.env scope.names [] := hs.subset List.mem_cons_self
    have := ml a.1 a.2 this
    exact absurd (Nat.lt_of_le_of_lt hle this) (Nat.not_lt.mpr (Nat.le_succ _))
  have nst := cellsFrom_new scope.names (s.heap.push { cls := .type "dict", data := .dict #[] }) (clFrom X.env scope.names []) (s.heap.objs.size + 1) (by rw [Heap.size_push]; exact Nat.le_refl _)
    (fun y c hm hc => absurd (Nat.lt_of_le_of_lt hc (ml y c hm)) (Nat.not_lt.mpr (Nat.le_succ _))) clnd (fun y c hm => by rw [Heap.size_push]; exact Nat.lt_succ_of_lt (ml y c hm))
  rw [Heap.size_push] at nst
  have newcell : ∀ x c, (X.inn scope (capN own cap) s H fp).env.cells.lookup x = some c → s.heap.objs.size + 1 ≤ c → (pushCells (s.heap.push { cls := .type "dict", data := .dict #[] }) scope.names).IsCell c none := fun x c e hc => nst.1 x c (PySem.mem_of_lookup e) hc
  have kindY : ∀ x, (X.inn scope (capN own cap) s H fp).env.kindOf x = (scope.names.lookup x).map fun k => if (k == NameKind.free && X.env.scope.kind == .function && X.env.kindOf x == some .cell) = true then NameKind.cell else k := fun x => relabel_look
  refine ⟨⟨I.ok.mod, L.kind, I.ok.glob, I.ok.blt, Nat.le_refl _, fun x y c h1 h2 => ?inj, fun x hx => ?has, fun x c hx h => ?cab, I.ok.hd, I.ok.frames, .inl rfl, fun b hb => ⟨?ex1, fun x c h => ?ex2⟩, fun b o e => I.bs b o e, Nat.le_trans I.ok.bsz I.sz, fun b o e hb => ?noex, fun b hb hb' => ?exfs, I.stack, I.stkFree⟩,
    rfl, I.bare, Un.kept keep, ⟨fun _ => none, ?ns, fun i x v h1 h2 h3 => ?look⟩, fun x c h => ?cell, I.fresh, fun x c h => ?freeC, fun p hp => absurd (show p ∈ ([] : List (Addr × Obj)) from hp) (by simp), I.hok.kept keep, ?len⟩
  case inj =>
    rcases look x c h1 with ⟨_, g1⟩ | ⟨_, g1⟩ <;> rcases look y c h2 with ⟨_, g2⟩ | ⟨_, g2⟩
    · exact name_of_addr' nst.2 (PySem.mem_of_lookup h1) (PySem.mem_of_lookup h2) g1
    · exact absurd (Nat.lt_of_le_of_lt g1 (oldlt y c g2)) (Nat.not_lt.mpr (Nat.le_succ _))
    · exact absurd (Nat.lt_of_le_of_lt g2 (oldlt x c g1)) (Nat.not_lt.mpr (Nat.le_succ _))
    · exact I.ok.inj x y c g1 g2
  case has =>
    rw [kindY] at hx
    cases e : scope.names.lookup x with
    | none => rw [e] at hx; rcases hx with h | h <;> cases h
    | some k =>
      rw [e] at hx
      have hm := PySem.mem_of_lookup e
      have hk : k = .cell ∨ k = .free := by
        by_cases hc : (k == NameKind.free && X.env.scope.kind == .function && X.env.kindOf x == some .cell) = true
        · simp only [Bool.and_eq_true, beq_iff_eq] at hc
          exact .inr hc.1.1
        · rw [Option.map_some, if_neg hc] at hx
          rcases hx with h | h
          · exact .inl (Option.some.inj h)
          · exact .inr (Option.some.inj h)
      rcases hk with rfl | rfl
      · exact Option.isSome_iff_exists.mp (PySem.W.cellsFrom_some scope.names _ _ (.inl e))
      · exact Option.isSome_iff_exists.mp (PySem.W.cellsFrom_some scope.names _ _ (.inr (clFrom_some _ _ (.inl hm))))
  case cab =>
    have hx' : scope.names.lookup x = some .cell := by simpa [Cx.inn] using hx
    rcases look x c h with ⟨_, g⟩ | ⟨g, _⟩
    · exact Nat.le_of_succ_le g
    · exact absurd (PySem.mem_of_lookup hx') (nf x g)
  case ex1 =>
    obtain ⟨o, e⟩ := ho b hb
    exact Nat.ne_of_lt (Heap.lt_size e)
  case ex2 =>
    obtain ⟨o, e⟩ := ho b hb
    rcases look x c h with ⟨_, g⟩ | ⟨_, g⟩
    · rintro rfl
      exact absurd (Nat.lt_of_le_of_lt g (Heap.lt_size e)) (Nat.not_lt.mpr (Nat.le_succ _))
    · exact (hf b hb).2.2.2.2.1 x c g
  case noex =>
    rcases (hf b hb).2.2.2.1 with g | g
    · exact I.ok.noex b o e g
    · exact absurd (Nat.lt_of_lt_of_le (Heap.lt_size e) I.ok.bsz) (Nat.not_lt.mpr g)
  case exfs =>
    rcases List.mem_cons.mp (I.stkSub b hb') with g | g
    · exact (hf b hb).2.1 g
    · exact (hf b hb).2.2.1 g
  case ns => exact (Heap.Ns.new s.heap (.type "dict")).keeps (pushCells_keeps _ _)
  case look =>
    obtain ⟨j, p, hp, rfl, hv⟩ : ∃ (j : Nat) (p : Str × Nat), cap[j]? = some p ∧ p.1 = x ∧ σ[p.2]? = some (some v) := by
      have h1 : (own ++ cap.map (·.1))[i]? = some x := h1
      unfold capS at h2
      by_cases hi : i < own.length
      · rw [List.getElem?_append_left (by simpa using hi), List.getElem?_map] at h2
        cases e : own[i]? with
        | none => rw [e] at h2; cases h2
        | some y => rw [e] at h2; cases h2
      · rw [List.getElem?_append_right (by omega)] at h1
        rw [List.getElem?_append_right (by simpa using hi)] at h2
        rw [List.length_map] at h2
        rw [List.getElem?_map] at h1 h2
        cases e : cap[i - own.length]? with
        | none => rw [e] at h1; cases h1
        | some p =>
          rw [e] at h1 h2
          refine ⟨_, p, e, Option.some.inj h1, ?_⟩
          have h2 : (σ[p.2]?).join = some v := Option.some.inj h2
          cases q : σ[p.2]? with
          | none => rw [q] at h2; cases h2
          | some z => rw [q] at h2; exact congrArg some h2
    obtain ⟨c1, c2⟩ := L.cap p (List.mem_of_getElem? hp)
    have hk := L.fre _ c2 rfl
    obtain ⟨m, hn, hl⟩ := I.loc
    obtain ⟨u, ru, lk⟩ := hl p.2 p.1 v c1 hv (.inr hk)
    refine ⟨u, ru, .inr ?_⟩
    rcases lk with ⟨lk, _⟩ | ⟨_, c, e, hc⟩
    · rcases hk with hk | hk
      · have : X.env.kindOf p.1 = some .cell := hk
        rw [lk] at this; cases this
      · have : X.env.kindOf p.1 = some .free := hk
        rw [lk] at this; cases this
    · have hlk := nodup_look L.nd c2
      refine ⟨?_, c, ?_, hc.keeps keep⟩
      · rw [kindY, hlk, Option.map_some]
        split
        · exact .inl rfl
        · exact .inr rfl
      · show (cellsFrom _ scope.names _).lookup p.1 = some c
        rw [cellsFrom_old _ _ _ (nf _ c2)]
        obtain ⟨c', e'⟩ := Option.isSome_iff_exists.mp (clFrom_some (env := X.env) scope.names [] (.inl c2))
        rw [e', ← e]
        exact (old _ _ e').2.symm
  case cell =>
    rcases look x c h with ⟨_, g⟩ | ⟨_, g⟩
    · exact ⟨_, newcell x c h g⟩
    · obtain ⟨v, hv⟩ := I.cell x c g
      exact ⟨v, hv.keeps keep⟩
  case freeC =>
    rcases look x c h with ⟨_, g⟩ | ⟨_, g⟩
    · exact I.hok.fresh (Nat.le_of_succ_le g)
    · exact I.freeC x c g
  case len =>
    show (capS own cap σ).length = (capN own cap).length
    unfold capS capN
    simp
end

/-- a list comprehension: the first clause's iterator outside, the rest a loop inside -/
def tLC (wi : TI) (g : TG) (ti : TT) (tb : Addr → TS) (own : List Str) (cap : List (Str × Nat)) : TE := fun σ H Q => wi σ H fun J H1 => ∀ acc, H1 acc = none →
  loopT J g (tIfB ti (tb acc)) { nx := fun _ H' => Q (.ref acc) H', rt := fun _ _ => False } (capS own cap σ) (upd H1 acc (.lst []))
theorem pe_lc {X : Cx} {elt tg iter : Expr} {ifs : List Expr} {rest : List Comprehension} {scope : Scope} {pos : Pos} {wi : TI} {g : TG} {ti : TT} {tb : Addr → TS} (own : List Str) (cap : List (Str × Nat)) (hc : X.calm = true) (L : LcScope X scope own cap) (hi : PI X tg iter wi)
    (hin : ∀ (s₃ : Shared) (H₃ : Hp) (fp : List Addr) (acc : Addr), PG (X.inn scope (capN own cap) s₃ H₃ fp) tg g ∧ PTs (X.inn scope (capN own cap) s₃ H₃ fp) ifs ti ∧ PB (X.inn scope (capN own cap) s₃ H₃ fp) elt (⟨tg, iter, ifs, 0⟩ :: rest) scope pos 0 acc (tb acc))
    (hs : ∀ x, foldedSetIterable iter X.env x = pure x := by intro _; rfl) : PE X (.ListComp elt (⟨tg, iter, ifs, 0⟩ :: rest) scope pos) (tLC wi g ti tb own cap) := by
  intro pins s σ H Q I h
  rw [eval_ListComp]
  have hcl : ∀ x ∈ scope.names, x.2 = .free → ∃ c, X.env.cells.lookup x.1 = some c := fun x hx hk => I.ok.has x.1 (L.fre x hx hk)
  refine wpAny_comprehension_free (use := none) rfl hs (closureFor_cl hcl) L.kind L.loc (thn (hi pins s σ H _ I h) fun x s1 h1 => thn h1 fun itv s2 ⟨it, fp, tn, J, H2, e, I2, T, st2, f2, q2⟩ => ?_)
  subst e
  refine wpAny_newObj_type ?_
  have I3 := I2.lnew (t' := s2.toks) (ys := []) (its := []) .nil (Nat.zero_le _)
  have fr2 : H2 s2.heap.objs.size = none := I2.fresh
  have f3 : ∀ b ∈ fp, FpOk X pins (upd H2 s2.heap.objs.size (.lst [])) b := fun b hb => by
    obtain ⟨o, eo, _⟩ := T.obj 0 _ st2 b hb
    obtain ⟨g1, g2⟩ := f2 b hb
    exact ⟨by rw [upd_ne (Nat.ne_of_lt (Heap.lt_size eo))]; exact g1, g2⟩
  have k3 : ∀ b o, s2.heap.get? b = some o → (s2.heap.push { cls := .type "list", data := .seq ([] : List Value).toArray }).get? b = some o := fun b o e => Heap.get?_push_of_some _ e
  have st3 : tn 0 (s2.heap.push { cls := .type "list", data := .seq ([] : List Value).toArray }) := T.keep 0 _ _ st2 fun b _ o e => k3 b o e
  refine newEnv_in ?_
  have I4 := inv_in L I3 f3 fun b hb => by obtain ⟨o, eo, _⟩ := T.obj 0 _ st3 b hb; exact ⟨o, eo⟩
  obtain ⟨hg, ht, hb⟩ := hin { s2 with heap := s2.heap.push { cls := .type "list", data := .seq ([] : List Value).toArray }, toks := s2.toks } (upd H2 s2.heap.objs.size (.lst [])) fp s2.heap.objs.size
  have st4 := T.keep 0 _ (pushCells ((s2.heap.push { cls := .type "list", data := .seq ([] : List Value).toArray }).push { cls := .type "dict", data := .dict #[] }) scope.names) st3 fun b _ o e => pushCells_keeps _ _ b o (Heap.get?_push_of_some _ e)
  have f4 : ∀ b ∈ fp, FpOk (X.inn scope (capN own cap) { s2 with heap := s2.heap.push { cls := .type "list", data := .seq ([] : List Value).toArray }, toks := s2.toks } (upd H2 s2.heap.objs.size (.lst [])) fp) [] (upd H2 s2.heap.objs.size (.lst [])) b := fun b hb =>
    ⟨(f3 b hb).1, (I4.ok.exf b hb).1, I4.ok.exfs b hb, .inl hb, (I4.ok.exf b hb).2, fun p hp => absurd (show p ∈ ([] : List (Addr × Obj)) from hp) (by simp)⟩
  have lp := lc_loop (Y := X.inn scope (capN own cap) { s2 with heap := s2.heap.push { cls := .type "list", data := .seq ([] : List Value).toArray }, toks := s2.toks } (upd H2 s2.heap.objs.size (.lst [])) fp) (acc := s2.heap.objs.size) (gens := ⟨tg, iter, ifs, 0⟩ :: rest) (d := 0) rfl rfl hc hg ht hb I4 T st4 f4 (q2 _ fr2)
  have lp' := codeAny_mono lp (R' := compPost (model X.prog X.w) X.A X.xe none (EP X pins σ Q) (.ref s2.heap.objs.size) (s2.heap.push { cls := .type "list", data := .seq ([] : List Value).toArray }).objs.size) fun r s' ⟨hr, σ', H', I', q'⟩ => by
    subst hr
    obtain ⟨m', hn', _⟩ := id I'.loc
    refine ⟨m', hn', fun h' hsb => ?_⟩
    refine ⟨.ref s2.heap.objs.size, H', ?_, rfl, q'⟩
    have neC : ∀ b o, (s2.heap.push { cls := .type "list", data := .seq ([] : List Value).toArray }).get? b = some o → b ≠ (s2.heap.push { cls := .type "list", data := .seq ([] : List Value).toArray }).objs.size := fun b o e => Nat.ne_of_lt (Heap.lt_size e)
    have B := I'.base
    refine I3.call' (ch := fp) I'.os ⟨fun b o e n hb hx => (hsb.2 b (neC b o e)).trans (B.keep b o e n hb hx), fun b o e n hb hx => ?_, B.free, fun b o e hx => ?_, B.tups, B.frzs, B.tbls⟩ (fun b u e => ?_) I'.bare fun b hb => ⟨(f3 b hb).2.2.2.1, (f3 b hb).2.1, (f3 b hb).2.2.2.2.1, (f3 b hb).2.2.2.2.2⟩
    · obtain ⟨sl, e1⟩ := B.slot b o e n hb hx
      exact ⟨sl, (hsb.2 b (neC b o e)).trans e1⟩
    · obtain ⟨o', e1⟩ := B.there b o e hx
      exact ⟨o', (hsb.2 b (neC b o e)).trans e1⟩
    · have hC : H' (s2.heap.push { cls := .type "list", data := .seq ([] : List Value).toArray }).objs.size = none := I'.free
      refine (I'.hok b u e).stay (fun c v hc' q => (hsb.2 c ?_).trans q) (fun _ q => q) fun _ _ q => q
      rintro rfl
      rcases hc' with hc' | hc'
      · rw [← hc', hC] at e; cases e
      · rw [hC] at hc'; cases hc'
  exact compStart_any rfl lp' (T.self _ _ _ _ _ st4 lp')
/-- name = [..], a local name: stored ahead of the block's end -/
theorem ps_setlc {X : Cx} {i : Nat} {y : Str} {py spos : Pos} {elt tg iter : Expr} {ifs : List Expr} {rest : List Comprehension} {scope : Scope} {pos : Pos} {wi : TI} {g : TG} {ti : TT} {tb : Addr → TS} (own : List Str) (cap : List (Str × Nat)) (hN : X.N.Nodup) (hyi : X.N[i]? = some y) (hy : X.env.scope.names.lookup y = some .local) (hc : X.calm = true) (L : LcScope X scope own cap) (hi : PI X tg iter wi)
    (hin : ∀ (s₃ : Shared) (H₃ : Hp) (fp : List Addr) (acc : Addr), PG (X.inn scope (capN own cap) s₃ H₃ fp) tg g ∧ PTs (X.inn scope (capN own cap) s₃ H₃ fp) ifs ti ∧ PB (X.inn scope (capN own cap) s₃ H₃ fp) elt (⟨tg, iter, ifs, 0⟩ :: rest) scope pos 0 acc (tb acc))
    (hsw : swapsWith (.ListComp elt (⟨tg, iter, ifs, 0⟩ :: rest) scope pos) (some (.Name y py)) spos.line X.env = pure true := by rfl) (hs : ∀ x, foldedSetIterable iter X.env x = pure x := by intro _; rfl) :
    PS X (.Assign [.Name y py] (.ListComp elt (⟨tg, iter, ifs, 0⟩ :: rest) scope pos) spos) (tAsg (tLC wi g ti tb own cap) (gName i)) := by
  intro pins s σ H D I h
  rw [exec_Assign_Name_used _ _ _ _ hsw]
  refine wpAny_bind (wpAny_standAt (wpAny_bind ?_))
  show wpAny _ X.A (do let _ ← comprehension (.ListComp elt (⟨tg, iter, ifs, 0⟩ :: rest) scope pos) scope X.env _ (newList []) false (eval iter X.env) (some (assign (.Name y py) X.env))) _ _ s
  have hcl : ∀ x ∈ scope.names, x.2 = .free → ∃ c, X.env.cells.lookup x.1 = some c := fun x hx hk => I.ok.has x.1 (L.fre x hx hk)
  refine wpAny_bind (wpAny_mono (wpAny_comprehension_free (use := some (assign (.Name y py) X.env)) (Q := fun _ s' => SP X pins D .next s') rfl hs (closureFor_cl hcl) L.kind L.loc (thn (hi pins s σ H _ I h) fun x s1 h1 => thn h1 fun itv s2 ⟨it, fp, tn, J, H2, e, I2, T, st2, f2, q2⟩ => ?_)) (fun _ s' hq => wpAny_pure (wpAny_pure hq)) fun _ _ e => e)
  subst e
  refine wpAny_newObj_type ?_
  have I3 := I2.lnew (t' := s2.toks) (ys := []) (its := []) .nil (Nat.zero_le _)
  have fr2 : H2 s2.heap.objs.size = none := I2.fresh
  have f3 : ∀ b ∈ fp, FpOk X pins (upd H2 s2.heap.objs.size (.lst [])) b := fun b hb => by
    obtain ⟨o, eo, _⟩ := T.obj 0 _ st2 b hb
    obtain ⟨g1, g2⟩ := f2 b hb
    exact ⟨by rw [upd_ne (Nat.ne_of_lt (Heap.lt_size eo))]; exact g1, g2⟩
  have k3 : ∀ b o, s2.heap.get? b = some o → (s2.heap.push { cls := .type "list", data := .seq ([] : List Value).toArray }).get? b = some o := fun b o e => Heap.get?_push_of_some _ e
  have st3 : tn 0 (s2.heap.push { cls := .type "list", data := .seq ([] : List Value).toArray }) := T.keep 0 _ _ st2 fun b _ o e => k3 b o e
  refine newEnv_in ?_
  have I4 := inv_in L I3 f3 fun b hb => by obtain ⟨o, eo, _⟩ := T.obj 0 _ st3 b hb; exact ⟨o, eo⟩
  obtain ⟨hg, ht, hb⟩ := hin { s2 with heap := s2.heap.push { cls := .type "list", data := .seq ([] : List Value).toArray }, toks := s2.toks } (upd H2 s2.heap.objs.size (.lst [])) fp s2.heap.objs.size
  have st4 := T.keep 0 _ (pushCells ((s2.heap.push { cls := .type "list", data := .seq ([] : List Value).toArray }).push { cls := .type "dict", data := .dict #[] }) scope.names) st3 fun b _ o e => pushCells_keeps _ _ b o (Heap.get?_push_of_some _ e)
  have f4 : ∀ b ∈ fp, FpOk (X.inn scope (capN own cap) { s2 with heap := s2.heap.push { cls := .type "list", data := .seq ([] : List Value).toArray }, toks := s2.toks } (upd H2 s2.heap.objs.size (.lst [])) fp) [] (upd H2 s2.heap.objs.size (.lst [])) b := fun b hb =>
    ⟨(f3 b hb).1, (I4.ok.exf b hb).1, I4.ok.exfs b hb, .inl hb, (I4.ok.exf b hb).2, fun p hp => absurd (show p ∈ ([] : List (Addr × Obj)) from hp) (by simp)⟩
  have lp := lc_loop (Y := X.inn scope (capN own cap) { s2 with heap := s2.heap.push { cls := .type "list", data := .seq ([] : List Value).toArray }, toks := s2.toks } (upd H2 s2.heap.objs.size (.lst [])) fp) (acc := s2.heap.objs.size) (gens := ⟨tg, iter, ifs, 0⟩ :: rest) (d := 0) rfl rfl hc hg ht hb I4 T st4 f4 (q2 _ fr2)
  have lp' := codeAny_mono lp (R' := compPost (model X.prog X.w) X.A X.xe (some (assign (.Name y py) X.env)) (fun _ s' => SP X pins D .next s') (.ref s2.heap.objs.size) (s2.heap.push { cls := .type "list", data := .seq ([] : List Value).toArray }).objs.size) fun r s' ⟨hr, σ', H', I', q'⟩ => by
    subst hr
    obtain ⟨m', hn', _⟩ := id I'.loc
    have B := I'.base
    have I5 : Inv X pins σ H' s' := I3.call' (ch := fp) I'.os B I'.hok I'.bare fun b hb => ⟨(f3 b hb).2.2.2.1, (f3 b hb).2.1, (f3 b hb).2.2.2.2.1, (f3 b hb).2.2.2.2.2⟩
    have hC : H' (s2.heap.push { cls := .type "list", data := .seq ([] : List Value).toArray }).objs.size = none := I'.free
    show wpAny _ X.A (assign (.Name y py) X.env (.ref s2.heap.objs.size)) _ _ _
    refine wpAny_assign_Name (store_ok2 I5 hN hyi (.inl hy) (v := .ref s2.heap.objs.size) rfl (fun s6 I6 ⟨a6, sb6, ha6⟩ => ?_) (.inr hy))
    have neL : X.env.locals ≠ (s2.heap.push { cls := .type "list", data := .seq ([] : List Value).toArray }).objs.size := Nat.ne_of_lt I3.lt
    have ha : a6 ≠ (s2.heap.push { cls := .type "list", data := .seq ([] : List Value).toArray }).objs.size := by
      rcases ha6 with rfl | ha6
      · exact neL
      · obtain ⟨v, hv⟩ := I3.cell y a6 ha6
        exact Nat.ne_of_lt hv.lt
    refine ⟨m', hn'.sameBut sb6 ha.symm, fun h' hsb => ?_⟩
    refine ⟨_, H', ?_, q'⟩
    have kb : ∀ b o, b ≠ (s2.heap.push { cls := .type "list", data := .seq ([] : List Value).toArray }).objs.size → s6.heap.get? b = some o → h'.get? b = some o := fun b o hb e => (hsb.2 b hb).trans e
    refine I6.turned (t' := s6.toks) (it := (s2.heap.push { cls := .type "list", data := .seq ([] : List Value).toArray }).objs.size) kb hC neL.symm (.inr I3.sz) (fun x c e z => ?_) (fun p hp z => ?_)
    · obtain ⟨v, hv⟩ := I3.cell x c e
      exact absurd z (Nat.ne_of_lt hv.lt)
    · have := (I3.pin p hp).1
      exact absurd z (Nat.ne_of_lt (Heap.lt_size this))
  exact compStart_any rfl lp' (T.self _ _ _ _ _ st4 lp')
end L2

namespace L2
open PySem PySem.Spec PyProof.Rows

/-! ### deep data -/
mutual
inductive Den (K : PySem.W.Frag) (H : Hp) : V → PyData → Prop
  | non : Den K H .non .none
  | bl (b) : Den K H (.bl b) (.bool b)
  | int (i) : Den K H (.int i) (.int i)
  | str (x) : Den K H (.str x) (.str x)
  | lst {a us ds} : SqL K H a us → Dens K H us ds → Den K H (.ref a) (.list ds)
  | tup {a us ds} : SqT K H a us → Dens K H us ds → Den K H (.ref a) (.tuple ds)
inductive Dens (K : PySem.W.Frag) (H : Hp) : List V → List PyData → Prop
  | nil : Dens K H [] []
  | cons {v vs d ds} : Den K H v d → Dens K H vs ds → Dens K H (v :: vs) (d :: ds)
end
theorem Same.tup {K : PySem.W.Frag} {H H' : Hp} {a : Addr} {xs : List V} (e : Same H H') (h : SqT K H a xs) : SqT K H' a xs := by
  rcases h with (h | ⟨o, h⟩) | h
  · exact .inl (.inl (e _ _ h))
  · exact .inl (.inr ⟨o, e _ _ h⟩)
  · exact .inr h
mutual
theorem Den.same {K : PySem.W.Frag} {H H' : Hp} (e : Same H H') : ∀ {v d}, Den K H v d → Den K H' v d
  | _, _, .non => .non
  | _, _, .bl b => .bl b
  | _, _, .int i => .int i
  | _, _, .str x => .str x
  | _, _, .lst h r => .lst (e.seq h) (Dens.same e r)
  | _, _, .tup h r => .tup (e.tup h) (Dens.same e r)
theorem Dens.same {K : PySem.W.Frag} {H H' : Hp} (e : Same H H') : ∀ {vs ds}, Dens K H vs ds → Dens K H' vs ds
  | _, _, .nil => .nil
  | _, _, .cons h r => .cons (Den.same e h) (Dens.same e r)
end
section
variable {X : Cx} {pins : List (Addr × Obj)} {σ : St} {H : Hp} {s : Shared}
mutual
theorem Den.reads (I : Inv X pins σ H s) : ∀ {v d} {u : Value}, Den X.K H v d → RelV v u → ∃ as, Reads s.heap u d as
  | _, _, _, .non, r => by cases r; exact ⟨_, .none⟩
  | _, _, _, .bl b, r => by cases r; exact ⟨_, .bool b⟩
  | _, _, _, .int i, r => by obtain ⟨t, rfl⟩ := r; exact ⟨_, .int i t⟩
  | _, _, _, .str i, r => by obtain ⟨t, rfl⟩ := r; exact ⟨_, .str i t⟩
  | _, _, _, .lst h hr, r => by
    cases r
    obtain ⟨its, rv, ⟨o, n, e, c, _, d⟩, _⟩ := I.list h
    obtain ⟨as, q⟩ := Dens.reads I hr rv
    exact ⟨_, .list e c d (by simpa using q)⟩
  | _, _, _, .tup h hr, r => by
    cases r
    obtain ⟨its, rv, ⟨o, e, c, n, d⟩, _⟩ := I.tuple h
    obtain ⟨as, q⟩ := Dens.reads I hr rv
    exact ⟨_, .tuple e c d (by simpa using q)⟩
theorem Dens.reads (I : Inv X pins σ H s) : ∀ {vs ds} {us : List Value}, Dens X.K H vs ds → Vals vs us → ∃ as, ReadsAll s.heap us ds as
  | _, _, _, .nil, r => by cases r; exact ⟨_, .nil⟩
  | _, _, _, .cons h hr, r => by
    cases r with
    | cons r1 r2 =>
      obtain ⟨as, q⟩ := Den.reads I h r1
      obtain ⟨bs, q2⟩ := Dens.reads I hr r2
      exact ⟨_, .cons q q2⟩
end
end
def rEqD (K : PySem.W.Frag) (f : Bool → Bool) : R2 := fun x y H Q => ∃ dx dy, Den K H x dx ∧ Den K H y dy ∧ dx.canLay0 = true ∧ dy.canLay0 = true ∧ dx.depth ≤ 32 ∧ Q (.bl (f (PyData.eqv dx dy))) H
section
variable {X : Cx}
theorem op_eqD (hu : X.A.units + 64 < cLine) : OpR X (compareOp .Eq) (rEqD X.K id) := by
  intro pins s σ H x y v u Q I rx ry h
  obtain ⟨dx, dy, h1, h2, h3, h4, h5, q⟩ := h
  obtain ⟨as, r1⟩ := h1.reads I rx
  obtain ⟨bs, r2⟩ := h2.reads I ry
  exact SeqAt.compareEq_reads r1 r2 h3 h4 (by omega) ⟨.bl _, H, I, rfl, q⟩
theorem op_neD (hu : X.A.units + 64 < cLine) : OpR X (compareOp .NotEq) (rEqD X.K not) := by
  intro pins s σ H x y v u Q I rx ry h
  obtain ⟨dx, dy, h1, h2, h3, h4, h5, q⟩ := h
  obtain ⟨as, r1⟩ := h1.reads I rx
  obtain ⟨bs, r2⟩ := h2.reads I ry
  exact SeqAt.compareNe_reads r1 r2 h3 h4 (by omega) ⟨.bl _, H, I, rfl, q⟩
/-! ### isinstance of one class -/
theorem call_isinst : CallR X (.builtin "isinstance") (fun xs H Q => ∃ x T t b, xs = [x, .ty T] ∧ TyOf X.K H x t ∧ PySem.W.kitOne X.K t (.type T) = some b ∧ Q (.bl b) H) := by
  intro pins s σ H xs us Q I r h
  obtain ⟨x, T, t, b, rfl, ty, e, q⟩ := h
  obtain ⟨u, w', rfl, r1, r2⟩ := vals2 r
  cases r2
  exact isinst_ok I r1 ty e fun tk => ⟨.bl b, H, I.tok _, rfl, q⟩
/-! ### all, any over a list of bools -/
theorem vals_bools {bs : List Bool} : ∀ {us : List Value}, Vals (bs.map V.bl) us → us = bs.map Value.bool := by
  induction bs with
  | nil => intro us h; cases h; rfl
  | cons b r ih =>
    intro us h
    cases h with
    | cons h1 h2 => cases h1; rw [ih h2]; rfl
theorem range_all {bs : List Bool} : (List.range bs.length).all (fun i => bs.getD i false) = bs.all id := by
  rw [Bool.eq_iff_iff, List.all_eq_true, List.all_eq_true]
  constructor
  · intro h b hb
    obtain ⟨i, hi, rfl⟩ := List.mem_iff_getElem.mp hb
    have := h i (List.mem_range.mpr hi)
    simpa [hi] using this
  · intro h i hi
    have hi := List.mem_range.mp hi
    have := h _ (List.getElem_mem hi)
    simpa [hi] using this
theorem range_any {bs : List Bool} : (List.range bs.length).any (fun i => bs.getD i false) = bs.any id := by
  rw [Bool.eq_iff_iff, List.any_eq_true, List.any_eq_true]
  constructor
  · rintro ⟨i, hi, h⟩
    have hi := List.mem_range.mp hi
    exact ⟨_, List.getElem_mem hi, by simpa [hi] using h⟩
  · rintro ⟨b, hb, h⟩
    obtain ⟨i, hi, rfl⟩ := List.mem_iff_getElem.mp hb
    exact ⟨i, List.mem_range.mpr hi, by simpa [hi] using h⟩
theorem bools_truth {prog : Program} {w : World} {A : Around} {bs : List Bool} : TruthOf prog w A (fun i v => (bs.map Value.bool).toArray[i]? = some v) (fun i => bs.getD i false) := by
  intro i v s Q E hv hq
  simp only [List.getElem?_toArray, List.getElem?_map] at hv
  cases e : bs[i]? with
  | none => rw [e] at hv; cases hv
  | some b =>
    rw [e] at hv; cases hv
    have hq : Q (bs.getD i false) s := hq
    rw [List.getD_eq_getElem?_getD, e] at hq
    exact wpAny_truthy_bool hq
theorem call_all_bools (hc : X.calm = true) : CallR X (.builtin "all") (fun xs H Q => ∃ (a : Addr) (bs : List Bool), xs = [.ref a] ∧ SqL X.K H a (bs.map V.bl) ∧ Q (.bl (bs.all id)) H) := by
  intro pins s σ H xs us Q I r h
  obtain ⟨a, bs, rfl, hq, q⟩ := h
  obtain ⟨u, rfl, r1⟩ := vals1 r
  cases r1
  obtain ⟨its, rv, p, hz⟩ := I.list hq
  cases vals_bools rv
  refine call_all_walk (wpAny_pyIter_list p.isList ?_)
  have hne : a ≠ s.heap.objs.size := by obtain ⟨o, n, e, _⟩ := p; exact Nat.ne_of_lt (Heap.lt_size e)
  refine ⟨_, _, _, _, _, _, _, rfl, Walks.list (A := X.A.in1) (I.ok.hd hc) s.heap.objs.size a hne _, ⟨⟨_, Heap.get?_push_size _ rfl, rfl, rfl⟩, (p.keeps fun b o e => Heap.get?_push_of_some _ e).isList⟩, bools_truth, fun h' tk k => ?_⟩
  have e1 : ((bs.map Value.bool).toArray.size) = bs.length := by simp
  rw [e1, range_all]
  refine ⟨.bl _, H, I.kept fun b o e => k b o ?_ (Heap.get?_push_of_some _ e), rfl, q⟩
  simp only [List.mem_singleton]
  exact Nat.ne_of_lt (Heap.lt_size e)
theorem call_any_bools (hc : X.calm = true) : CallR X (.builtin "any") (fun xs H Q => ∃ (a : Addr) (bs : List Bool), xs = [.ref a] ∧ SqL X.K H a (bs.map V.bl) ∧ Q (.bl (bs.any id)) H) := by
  intro pins s σ H xs us Q I r h
  obtain ⟨a, bs, rfl, hq, q⟩ := h
  obtain ⟨u, rfl, r1⟩ := vals1 r
  cases r1
  obtain ⟨its, rv, p, hz⟩ := I.list hq
  cases vals_bools rv
  refine call_any_walk (wpAny_pyIter_list p.isList ?_)
  have hne : a ≠ s.heap.objs.size := by obtain ⟨o, n, e, _⟩ := p; exact Nat.ne_of_lt (Heap.lt_size e)
  refine ⟨_, _, _, _, _, _, _, rfl, Walks.list (A := X.A.in1) (I.ok.hd hc) s.heap.objs.size a hne _, ⟨⟨_, Heap.get?_push_size _ rfl, rfl, rfl⟩, (p.keeps fun b o e => Heap.get?_push_of_some _ e).isList⟩, bools_truth, fun h' tk k => ?_⟩
  have e1 : ((bs.map Value.bool).toArray.size) = bs.length := by simp
  rw [e1, range_any]
  refine ⟨.bl _, H, I.kept fun b o e => k b o ?_ (Heap.get?_push_of_some _ e), rfl, q⟩
  simp only [List.mem_singleton]
  exact Nat.ne_of_lt (Heap.lt_size e)
/-! ### sum of a list of ints, of any size -/
theorem call_sum_ints (hc : X.calm = true) : CallR X (.builtin "sum") (fun xs H Q => ∃ (a : Addr) (ns : List Int), xs = [.ref a] ∧ SqL X.K H a (ns.map V.int) ∧ Q (.int ns.sum) H) := by
  intro pins s σ H xs us Q I r h
  obtain ⟨a, ns, rfl, hq, q⟩ := h
  obtain ⟨u, rfl, r1⟩ := vals1 r
  cases r1
  obtain ⟨its, rv, p, hz⟩ := I.list hq
  have hi := intsAre_of rv
  obtain ⟨zs, ez⟩ := hi.allInts.items
  have hl := p.isList
  rw [ez] at hl
  refine sum_intListG (I.ok.hd hc) hl fun h' tk t' k => ?_
  have e1 : preSum (numAt zs) zs.size = ns.sum := by
    have e2 := hi.numsOf
    have e3 := nums_intItems (xs := zs)
    rw [← ez] at e3
    rw [preSum_eq, List.take_of_length_le (by simp), ← e3]
    exact congrArg List.sum e2
  rw [e1]
  exact ⟨.int _, H, I.kept k, ⟨_, rfl⟩, q⟩
/-! ### list(range(n)) -/
def tLR (ta : TA) : TE := fun σ H Q => ta σ H fun vs H1 => ∃ n : Nat, vs = [.int n] ∧ n ≤ 1000000 ∧ ∀ l, H1 l = none → Q (.ref l) (upd H1 l (.lst ((List.range n).map fun (i : Nat) => V.int (i : Int))))
theorem pe_listrange {a : Expr} {ta : TA} {p p2 pos pos2 : Pos} (hc : X.calm = true) (hg : Gl X "list") (hm : X.mg "list" = none) (hg2 : Gl X "range") (hm2 : X.mg "range" = none) (ha : PA X [a] ta)
    (hs : starEach [a] X.env = [(false, eval a X.env)] := by rfl) (hs2 : starEach [(.Call (.Name "range" p2) [a] [] pos2)] X.env = [(false, eval (.Call (.Name "range" p2) [a] [] pos2) X.env)] := by rfl) : PE X (.Call (.Name "list" p) [.Call (.Name "range" p2) [a] [] pos2] [] pos) (tLR ta) := by
  intro pins s σ H Q I h
  refine Call_ (ld_blt I hg hm PyProof.Rows.boot_list (PyProof.Rows.callWith_type1 ?_ hs2 rfl))
  rw [hs2]
  show wpAny _ _ (spliced ((false, eval (.Call (.Name "range" p2) [a] [] pos2) X.env) :: backTo pos [])) _ _ s
  refine Calls.spliced_cons (Call_ (ld_blt I hg2 hm2 boot_range (PyProof.Rows.callWith_type1 (thn (ha pos2 pins s σ H _ I h) fun us s1 ⟨vs, H1, I1, r1, q1⟩ => ?_) hs rfl)))
  obtain ⟨n, rfl, hn, q⟩ := q1
  obtain ⟨u, rfl, t, rfl⟩ := vals1 r1
  refine call_range_1 (Calls.spliced_nil ?_)
  have hsz : Builtin.Range.rangeSize 0 (n : Int) 1 = (n : Int) := by rw [rangeSize_one]; split <;> omega
  refine call_list_range (I.ok.hd hc) (IsRange.new ..) (small_one (by omega) (by omega) (by omega) (by omega)) hsz (by omega) fun h' tk acc' c' hk hS hacc => ?_
  have I2 : Inv X pins σ H1 { s1 with heap := s1.heap.push { cls := .type "range", data := .fields #[.int 0 s1.toks, .int n t, .int 1 (s1.toks + 1)] }, toks := s1.toks + 1 + 1 } := I1.kept fun b o e => Heap.get?_push_of_some _ e
  obtain ⟨ha1, ha2⟩ := hacc
  have hv : Vals ((List.range n).map fun (i : Nat) => V.int (i : Int)) acc'.toList := by
    have : ∀ (k : Nat) (l : List Value) (m : Nat), l.length = k → (∀ (j : Nat) (v : Value), l[j]? = some v → ∃ t, v = Value.int (((m + j : Nat) : Int)) t) → Vals ((List.range' m k).map fun (i : Nat) => V.int (i : Int)) l := by
      intro k
      induction k with
      | zero => intro l m hl _; cases l with
        | nil => exact .nil
        | cons _ _ => cases hl
      | succ k ih =>
        intro l m hl hj
        cases l with
        | nil => cases hl
        | cons v l =>
          rw [List.range'_succ, List.map_cons]
          refine .cons ?_ (ih l (m + 1) (by simpa using hl) fun j v' e => ?_)
          · obtain ⟨t, rfl⟩ := hj 0 v rfl
            exact ⟨t, by simp⟩
          · obtain ⟨t, rfl⟩ := hj (j + 1) v' (by simpa using e)
            exact ⟨t, by congr 1; omega⟩
    rw [List.range_eq_range']
    refine this n acc'.toList 0 (by simpa using ha1) fun j v e => ?_
    obtain ⟨t, rfl⟩ := ha2 j v (by simpa using e)
    exact ⟨t, by congr 1; omega⟩
  have I3 := I2.laid (h' := h') (t' := tk) (o := .lst ((List.range n).map fun (i : Nat) => V.int (i : Int))) hk (Nat.le_refl _) ⟨by rw [List.length_map, List.length_range]; exact Nat.le_trans hn (by decide), acc'.toList, c', hv, by simpa using hS⟩
  refine ⟨.ref _, _, I3, rfl, q _ ?_⟩
  exact I1.hok.fresh (by rw [Heap.size_push]; exact Nat.le_succ _)
end
/-! ### an iterator's step that lays a new object -/
section
variable {X : Cx} {pins : List (Addr × Obj)} {σ : St} {H : Hp} {s : Shared} {h' : Heap} {t' : Nat}
theorem Inv.turnLay {a : Addr} {o : HO} {ch : List Addr} (I : Inv X pins σ H s) (k : ∀ b u, b ∉ ch → s.heap.get? b = some u → h'.get? b = some u) (hp : s.heap.objs.size ≤ a) (new : ObjOk X.prog X.w (upd H a o) h' a o) (hch : ∀ b ∈ ch, FpOk X pins H b) :
    Inv X pins σ (upd H a o) { s with heap := h', toks := t' } := by
  have hn : H a = none := I.hok.fresh hp
  have nch : ∀ b u, H b = some u → b ∉ ch := fun b u e z => by rw [(hch b z).1] at e; cases e
  refine I.call (g' := s.gens) (d' := s.drawn) (ch := ch) ⟨fun b u q _ _ hx => k b u hx q, fun b u q _ _ hx => ⟨u.slots, k b u hx q⟩, fun b u q n _ => ?_, fun b u q hx => ⟨u, k b u hx q⟩, fun b xs q => ?_, fun b u xs q => ?_, fun b ps q => ⟨#[], ?_⟩⟩ (fun b u e => ?_) I.bare
    fun b hb => ⟨(hch b hb).2.2.2.1, (hch b hb).2.1, (hch b hb).2.2.2.2.1, (hch b hb).2.2.2.2.2⟩
  · rw [upd_ne (Nat.ne_of_lt (Nat.lt_of_lt_of_le (Heap.lt_size q) hp))]; exact n
  · rw [upd_ne (ne_of_none q hn)]; exact q
  · rw [upd_ne (ne_of_none q hn)]; exact q
  · rw [upd_ne (ne_of_none q hn), q]; simp
  · by_cases hb : b = a
    · subst hb; rw [upd_same] at e; cases e; exact new
    · rw [upd_ne hb] at e
      refine (I.hok b u e).stay (fun c v hc q => k c v ?_ q) (fun c q => by rw [upd_ne (ne_of_none q hn)]; exact q) fun c xs q => by rw [upd_ne (ne_of_none q hn)]; exact q
      rcases hc with z | z
      · rw [z]; exact nch b u e
      · exact nch c _ z
end
/-! ### enumerate(xs) -/
def Ite (K : PySem.W.Frag) (a : Addr) : It :=
  ⟨fun i H => ∃ xs x, SqL K H a xs ∧ xs[i]? = some x, fun i H x H' => ∃ p y, H p = none ∧ (∀ xs, SqL K H a xs → xs[i]? = some y) ∧ x = .ref p ∧ H' = upd H p (.tup [.int i, y]), fun i H => ∃ xs, SqL K H a xs ∧ xs.length ≤ i⟩
section
variable {X : Cx}
def iEnum (K : PySem.W.Frag) (ta : TA) : TI := fun σ H R => ta σ H fun vs H1 => ∃ a, vs = [.ref a] ∧ (∃ xs, SqL K H1 a xs) ∧ R (Ite K a) H1
end
end L2

namespace L2
open PySem PySem.Spec PyProof.Rows

def lcCheck (osc : Scope) (oN : List Str) (scope : Scope) (own : List Str) (cap : List (Str × Nat)) : Bool :=
  scope.kind == .function && decide ((scope.names.map (·.1)).Nodup) && (scope.names.all fun x => x.2 != .local || scope.names.lookup x.1 == some .local)
    && (scope.names.all fun x => x.2 != .free || (osc.names.lookup x.1 == some .cell || osc.names.lookup x.1 == some .free))
    && (cap.all fun p => oN[p.2]? == some p.1 && scope.names.contains (p.1, NameKind.free))
theorem LcScope.of {X : Cx} {scope : Scope} {own : List Str} {cap : List (Str × Nat)} (h : lcCheck X.env.scope X.N scope own cap = true) : LcScope X scope own cap := by
  unfold lcCheck at h
  simp only [Bool.and_eq_true, List.all_eq_true, beq_iff_eq, decide_eq_true_eq, Bool.or_eq_true, bne_iff_ne, ne_eq] at h
  obtain ⟨⟨⟨⟨h1, h2⟩, h3⟩, h4⟩, h5⟩ := h
  refine ⟨h1, h2, fun x hx hk => ?_, fun x hx hk => ?_, fun p hp => ?_⟩
  · rcases h3 x hx with z | z
    · exact absurd hk z
    · exact z
  · rcases h4 x hx with z | z
    · exact absurd hk z
    · exact z
  · obtain ⟨a, b⟩ := h5 p hp
    exact ⟨a, by simpa using b⟩
section
variable {X : Cx} {e : Expr} {te : TE} {pos : Pos}
theorem pset (i : Nat) {x : Str} {pos' : Pos} (hN : X.N.Nodup) (he : PE X e te) (hi : X.N[i]? = some x := by rfl) (hx : Loc X.env.scope x := by first | exact Or.inl rfl | exact Or.inr rfl) (hs : swapsWith e (some (.Name x pos')) pos.line X.env = pure false := by rfl)
    (hf : X.fn x = true ∨ X.env.scope.names.lookup x = some .local := by first | exact .inl rfl | exact .inr rfl | assumption) : PS X (.Assign [.Name x pos'] e pos) (tAsg te (gName i)) := ps_set hN hi hx he hs hf
theorem pgn (i : Nat) {x : Str} (hN : X.N.Nodup) (hi : X.N[i]? = some x := by rfl) (hx : Loc X.env.scope x := by first | exact Or.inl rfl | exact Or.inr rfl) (hf : X.fn x = true ∨ X.env.scope.names.lookup x = some .local := by first | exact .inl rfl | exact .inr rfl | assumption) : PG X (.Name x pos) (gName i) := pg_name hN hi hx hf
end
/-- a def of the text that keeps its promise -/
structure Df (P : Program) (w : World) (K : PySem.W.Frag) (mg : Str → Option Value) (base : Heap) (x : Str) (ps : List Str) (k : Nat) (sp : Sp) : Prop where
  ex : ∃ f fd, FnOk P w K mg base CX0 k f fd ps sp ∧ mg x = some (.ref f) ∧ PySem.W.keepIn K (.ref f) = true ∧ Binds K fd ps []
theorem Df.mono {P : Program} {w : World} {K : PySem.W.Frag} {mg : Str → Option Value} {base : Heap} {x : Str} {ps : List Str} {j k : Nat} {sp : Sp} (D : Df P w K mg base x ps j sp) (h : j ≤ k) : Df P w K mg base x ps k sp := by
  obtain ⟨f, fd, F, r⟩ := D.ex
  exact ⟨f, fd, F.mono h, r⟩
theorem pe_df {X : Cx} {x : Str} {ps : List Str} {k : Nat} {sp : Sp} {p pos : Pos} {e : Expr} {es : List Expr} {t : TA} (D : Df X.prog X.w X.K X.mg X.base x ps k sp) (hr : Room k X.A) (ha : PA X (e :: es) t) (hg : Gl X x := by rfl) (hdb : (x == ("__debug__" : Str)) = false := by decide)
    (he : starEach (e :: es) X.env = (false, eval e X.env) :: starEach es X.env := by rfl) (hpl : (backTo pos (starEach es X.env)).any (·.1) = false := by rfl) : PE X (.Call (.Name x p) (e :: es) [] pos) (tCall sp [] E0 t) := by
  obtain ⟨f, fd, F, hm, hk, hb⟩ := D.ex
  exact pe_call F hr hg hm hk hb .nil pass0 ha hdb he hpl
section
variable {X : Cx} {o e : Expr} {to : TE} {te : TE} {apos cpos : Pos}
theorem pm_append (ho : PE X o to) (he : PE X e te) (hs : starEach [e] X.env = [(false, eval e X.env)]) (hbase : attributeBase o "append" X.env (eval o X.env) = eval o X.env := by rfl)
    (hline : (apos.endLine == cpos.line) = true := by rfl) : PE X (.Call (.Attribute o "append" apos) [e] [] cpos) (tBM X.K "list" rAppend to (tCons te tNil)) :=
  pe_bm PySem.F.plainAttrs_list PySem.F.slot_list_append PySem.F.type_list_append mt_append ho (pa_cons he pa_nil hs) hbase (by rw [hs]; rfl) hline hs rfl
theorem pm_popAt (ho : PE X o to) (he : PE X e te) (hs : starEach [e] X.env = [(false, eval e X.env)]) (hbase : attributeBase o "pop" X.env (eval o X.env) = eval o X.env := by rfl)
    (hline : (apos.endLine == cpos.line) = true := by rfl) : PE X (.Call (.Attribute o "pop" apos) [e] [] cpos) (tBM X.K "list" rPopAt to (tCons te tNil)) :=
  pe_bm PySem.F.plainAttrs_list PySem.F.slot_list_pop PySem.F.type_list_pop mt_popAt ho (pa_cons he pa_nil hs) hbase (by rw [hs]; rfl) hline hs rfl
end
def rGetL (K : PySem.W.Frag) : R2 := fun x y H Q => ∃ p xs j v, x = .ref p ∧ y = .int ((j : Nat) : Int) ∧ SqL K H p xs ∧ xs[j]? = some v ∧ Q v H
theorem get_list {X : Cx} : PGet X (rGetL X.K) := by
  intro pins s σ H x y v u Q I rx ry h
  obtain ⟨p, xs, j, z, rfl, rfl, hq, he, q⟩ := h
  cases rx
  obtain ⟨t, rfl⟩ := ry
  obtain ⟨its, r, pl, hz⟩ := I.list hq
  obtain ⟨w, ew, rw'⟩ := r.get he
  have hl := r.length
  have hn := line63
  have hj : j < xs.length := (List.getElem?_eq_some_iff.mp he).1
  exact wpAny_getItem_list pl.isList (by omega) (by omega) (by simpa using ew) ⟨z, H, I, rw', q⟩
theorem nd_of {N : List Str} (h : decide N.Nodup = true) : N.Nodup := of_decide_eq_true h

/-! ### the same rules, the fragment written by its name -/
section
variable {X : Cx} {K : PySem.W.Frag}
theorem pg_tupK (K : PySem.W.Frag) (n : Nat) (hK : X.K = K) {es : List Expr} {k : Nat} {t : TGs} {pos : Pos} (hc : X.calm = true) (h : PGs X es t) (hn : (assignEach es X.env).length = n) (hst : (assignEach es X.env).findIdx? (·.1) = none) : PG X (.Tuple es k pos) (gTup K n t) := by
  subst hK; exact pg_tup hc h hn hst
theorem pi_listK (K : PySem.W.Frag) (hK : X.K = K) {tg l : Expr} {tl : TE} (hl : PE X l tl) : PI X tg l (iList K tl) := by subst hK; exact pi_list hl
theorem pi_tupK (K : PySem.W.Frag) (hK : X.K = K) {tg l : Expr} {tl : TE} (hl : PE X l tl) : PI X tg l (iTup K tl) := by subst hK; exact pi_tup hl
theorem ix_listK (K : PySem.W.Frag) (hK : X.K = K) : IxR X (rIxL K) := by subst hK; exact ix_list
theorem ix_tupK (K : PySem.W.Frag) (hK : X.K = K) : IxR X (rIxT K) := by subst hK; exact ix_tup
def rLen (K : PySem.W.Frag) : List V → Hp → VK → Prop := fun xs H Q => ∃ p ys, xs = [.ref p] ∧ (SqL K H p ys ∨ SqT K H p ys) ∧ Q (.int ys.length) H
theorem call_lenK (K : PySem.W.Frag) (hK : X.K = K) : CallR X (.builtin "len") (rLen K) := by subst hK; exact call_len_seq
def rAll (K : PySem.W.Frag) : List V → Hp → VK → Prop := fun xs H Q => ∃ (a : Addr) (bs : List Bool), xs = [.ref a] ∧ SqL K H a (bs.map V.bl) ∧ Q (.bl (bs.all id)) H
def rAny (K : PySem.W.Frag) : List V → Hp → VK → Prop := fun xs H Q => ∃ (a : Addr) (bs : List Bool), xs = [.ref a] ∧ SqL K H a (bs.map V.bl) ∧ Q (.bl (bs.any id)) H
def rSum (K : PySem.W.Frag) : List V → Hp → VK → Prop := fun xs H Q => ∃ (a : Addr) (ns : List Int), xs = [.ref a] ∧ SqL K H a (ns.map V.int) ∧ Q (.int ns.sum) H
def rIsi (K : PySem.W.Frag) : List V → Hp → VK → Prop := fun xs H Q => ∃ x T t b, xs = [x, .ty T] ∧ TyOf K H x t ∧ PySem.W.kitOne K t (.type T) = some b ∧ Q (.bl b) H
def rListOf (K : PySem.W.Frag) : List V → Hp → VK → Prop := fun xs H Q => ∃ p ys, xs = [.ref p] ∧ (SqL K H p ys ∨ SqT K H p ys) ∧ ∀ l, H l = none → Q (.ref l) (upd H l (.lst ys))
theorem call_allK (K : PySem.W.Frag) (hK : X.K = K) (hc : X.calm = true) : CallR X (.builtin "all") (rAll K) := by subst hK; exact call_all_bools hc
theorem call_anyK (K : PySem.W.Frag) (hK : X.K = K) (hc : X.calm = true) : CallR X (.builtin "any") (rAny K) := by subst hK; exact call_any_bools hc
theorem call_sumK (K : PySem.W.Frag) (hK : X.K = K) (hc : X.calm = true) : CallR X (.builtin "sum") (rSum K) := by subst hK; exact call_sum_ints hc
theorem call_isiK (K : PySem.W.Frag) (hK : X.K = K) : CallR X (.builtin "isinstance") (rIsi K) := by subst hK; exact call_isinst
theorem call_listK (K : PySem.W.Frag) (hK : X.K = K) : CallR X (.type "list") (rListOf K) := by subst hK; exact call_list_of
theorem op_eqK (K : PySem.W.Frag) (hK : X.K = K) (hu : X.A.units + 64 < cLine) : OpR X (compareOp .Eq) (rEqD K id) := by subst hK; exact op_eqD hu
theorem op_neK (K : PySem.W.Frag) (hK : X.K = K) (hu : X.A.units + 64 < cLine) : OpR X (compareOp .NotEq) (rEqD K not) := by subst hK; exact op_neD hu
theorem sl_listK (K : PySem.W.Frag) (hK : X.K = K) : SlR X (rSlL K) := by subst hK; exact sl_list
theorem get_listK (K : PySem.W.Frag) (hK : X.K = K) : PGet X (rGetL K) := by subst hK; exact get_list
theorem pm_appendK (K : PySem.W.Frag) (hK : X.K = K) {o e : Expr} {to te : TE} {apos cpos : Pos} (ho : PE X o to) (he : PE X e te) (hs : starEach [e] X.env = [(false, eval e X.env)]) (hbase : attributeBase o "append" X.env (eval o X.env) = eval o X.env)
    (hline : (apos.endLine == cpos.line) = true) : PE X (.Call (.Attribute o "append" apos) [e] [] cpos) (tBM K "list" rAppend to (tCons te tNil)) := by subst hK; exact pm_append ho he hs hbase hline
theorem pm_popAtK (K : PySem.W.Frag) (hK : X.K = K) {o e : Expr} {to te : TE} {apos cpos : Pos} (ho : PE X o to) (he : PE X e te) (hs : starEach [e] X.env = [(false, eval e X.env)]) (hbase : attributeBase o "pop" X.env (eval o X.env) = eval o X.env)
    (hline : (apos.endLine == cpos.line) = true) : PE X (.Call (.Attribute o "pop" apos) [e] [] cpos) (tBM K "list" rPopAt to (tCons te tNil)) := by subst hK; exact pm_popAt ho he hs hbase hline
end

/-! ### a display of written ints -/
def intE (e : Expr) : Option Int := match e with
  | .Constant (.int i) _ _ => some i
  | _ => none
theorem intE_of {e : Expr} {i : Int} (h : intE e = some i) : ∃ k p, e = .Constant (.int i) k p := by
  unfold intE at h
  split at h
  · cases h; exact ⟨_, _, rfl⟩
  · cases h
def intsOf : List Expr → Option (List Int)
  | [] => some []
  | e :: r => match intE e, intsOf r with
    | some i, some l => some (i :: l)
    | _, _ => none
theorem pa_ints {X : Cx} : ∀ {es : List Expr} {ns : List Int}, intsOf es = some ns → PA X es (fun _ H Q => Q (ns.map V.int) H)
  | [], ns, h => by
    cases h
    exact pa_nil
  | e :: r, ns, h => by
    unfold intsOf at h
    split at h
    · rename_i i ms e1 e2
      cases h
      obtain ⟨k, p, rfl⟩ := intE_of e1
      exact pa_cons pe_int (pa_ints e2) rfl
    · cases h
end L2

namespace L2
open PySem PySem.Spec PyProof.Rows

theorem tFor_eq {wi : TI} {g : TG} {tb : TS} {D : Ends} {σ : St} {H : Hp} : tFor wi g tb D σ H = wi σ H fun J H1 => loopT J g tb D σ H1 := rfl
theorem loop_range {lo : Int} {n : Nat} {g : TG} {tb : TS} {D : Ends} {σ : St} {H : Hp} (Pv : Nat → St → Hp → Prop) (h0 : Pv 0 σ H)
    (hs : ∀ i σ H, i < n → Pv i σ H → g (.int (lo + i)) σ H fun σ2 H2 => tb { D with nx := Pv (i + 1), ct := Pv (i + 1), bk := D.nx } σ2 H2) (hd : ∀ σ H, Pv n σ H → D.nx σ H) : loopT (Itr lo n) g tb D σ H := for_range Pv h0 hs hd
theorem loop_list {K : PySem.W.Frag} {a : Addr} (xs : List V) {g : TG} {tb : TS} {D : Ends} {σ : St} {H : Hp} (Pv : Nat → St → Hp → Prop) (h0 : Pv 0 σ H) (hl : ∀ i σ H, i ≤ xs.length → Pv i σ H → SqL K H a xs)
    (hs : ∀ i x σ H, xs[i]? = some x → Pv i σ H → g x σ H fun σ2 H2 => tb { D with nx := Pv (i + 1), ct := Pv (i + 1), bk := D.nx } σ2 H2) (hd : ∀ σ H, Pv xs.length σ H → D.nx σ H) : loopT (Itl K a) g tb D σ H := for_list Pv h0 hl hs hd
theorem loop_tup {K : PySem.W.Frag} {a : Addr} (xs : List V) {g : TG} {tb : TS} {D : Ends} {σ : St} {H : Hp} (Pv : Nat → St → Hp → Prop) (h0 : Pv 0 σ H) (hl : ∀ i σ H, i ≤ xs.length → Pv i σ H → SqT K H a xs)
    (hs : ∀ i x σ H, xs[i]? = some x → Pv i σ H → g x σ H fun σ2 H2 => tb { D with nx := Pv (i + 1), ct := Pv (i + 1), bk := D.nx } σ2 H2) (hd : ∀ σ H, Pv xs.length σ H → D.nx σ H) : loopT (Itt K a) g tb D σ H := for_tup Pv h0 hl hs hd
theorem Same.put {H H' : Hp} {p : Addr} {o : HO} (e : Same H H') (h : H p = none) : Same H (upd H' p o) := fun b o' hb => by rw [upd_ne (ne_of_none hb h)]; exact e b o' hb
theorem Same.new {H : Hp} {p : Addr} {o : HO} (h : H p = none) : Same H (upd H p o) := (Same.refl H).put h
theorem Same.gone {H H' : Hp} {p : Addr} (e : Same H H') (h : H' p = none) : H p = none := e.free h
theorem tyl {K : PySem.W.Frag} {H : Hp} {p : Addr} {xs : List V} (h : SqL K H p xs) : tyV K "list" (.ref p) H := .inl ⟨rfl, _, h⟩
theorem ixs {j n : Nat} (h : j < n) : seqIndex? (j : Int) n = some j := by rw [seqIndex_of (by omega) (by omega)]; simp
end L2

namespace L2
open PySem PySem.Spec PyProof.Rows
structure QE (X : Cx) (e : Expr) (t : TE) : Prop where
  h : PE X e t
structure QT (X : Cx) (e : Expr) (t : TT) : Prop where
  h : PT X e t
structure QW (X : Cx) (e : Expr) (t : TT) : Prop where
  h : PW X e t
structure QA (X : Cx) (e : List Expr) (t : TA) : Prop where
  h : PA X e t
structure QS (X : Cx) (e : Stmt) (t : TS) : Prop where
  h : PS X e t
structure QSs (X : Cx) (e : List Stmt) (t : TS) : Prop where
  h : PSs X e t
structure QG (X : Cx) (e : Expr) (t : TG) : Prop where
  h : PG X e t
structure QGs (X : Cx) (e : List Expr) (t : TGs) : Prop where
  h : PGs X e t
structure QTs (X : Cx) (e : List Expr) (t : TT) : Prop where
  h : PTs X e t
structure QO (X : Cx) (e : Option Expr) (t : TO) : Prop where
  h : PO X e t
structure QI (X : Cx) (tg e : Expr) (t : TI) : Prop where
  h : PI X tg e t
structure QB (Y : Cx) (elt : Expr) (gens : List Comprehension) (scope : Scope) (pos : Pos) (d : Nat) (acc : Addr) (tb : TS) : Prop where
  h : PB Y elt gens scope pos d acc tb
theorem qpv (i : Nat) {x : Str} {pos : Pos} (hN : X.N[i]? = some x := by rfl) (hv : Vis X.env.scope x := by first | exact Or.inl rfl | exact Or.inr (Or.inl rfl) | exact Or.inr (Or.inr rfl)) (hd : (x == ("__debug__" : Str)) = false := by decide) (hcd : (x == ("__classdict__" : Str)) = false := by decide) : QE X (.Name x pos) (tVar i) := ⟨pv i hN hv hd hcd⟩
theorem qpe_bltn {x : Str} {v : V} {u : Value} {pos : Pos} (hg : Gl X x) (hm : X.mg x = none) (hv : bootBuiltins x = some u) (r : RelV v u) (hn : x ≠ "__name__" := by decide) (hd : (x == ("__debug__" : Str)) = false := by decide) : QE X (.Name x pos) (tC v) := ⟨pe_bltn hg hm hv r hn hd⟩
theorem qpe_bl {b j pos} : QE X (.Constant (.bool b) j pos) (tC (.bl b)) := ⟨pe_bl ⟩
theorem qpe_non {j pos} : QE X (.Constant .none j pos) (tC .non) := ⟨pe_non ⟩
theorem qpe_int {i j pos} : QE X (.Constant (.int i) j pos) (tC (.int i)) := ⟨pe_int ⟩
theorem qpe_str {x j pos} : QE X (.Constant (.str x) j pos) (tC (.str x)) := ⟨pe_str ⟩
theorem qpe_un {op : UnaryOp} {r : V → Hp → VK → Prop} (ho : UnR X (unaryOp op) r) (ha : QE X a ta) : QE X (.UnaryOp op a pos) (tUn r ta) := ⟨pe_un ho ha.h⟩
theorem qpe_not (ha : QE X a ta) : QE X (.UnaryOp .Not a pos) (tNotV ta) := ⟨pe_not ha.h⟩
theorem qpe_op {op : Operator} {r : R2} (ho : OpR X (binaryOp op) r) (ha : QE X a ta) (hb : QE X b tb) : QE X (.BinOp a op b pos) (tOp r ta tb) := ⟨pe_op ho ha.h hb.h⟩
theorem qpe_and {rest : List Expr} (ha : QE X a ta) (hb : QE X (.BoolOp .And (b :: rest) pos) tb) : QE X (.BoolOp .And (a :: b :: rest) pos) (tAndV ta tb) := ⟨pe_and ha.h hb.h⟩
theorem qpe_one {op} {t : TE} (h : QE X a t) : QE X (.BoolOp op [a] pos) t := ⟨pe_one h.h⟩
theorem qpe_cmpR {op : CmpOp} {r : R2} (ho : OpR X (compareOp op) r) (ha : QE X a ta) (hb : QE X b tb) (hm : behindInMarks op b = false) : QE X (.Compare a [op] [b] pos) (tOp r ta tb) := ⟨pe_cmpR ho ha.h hb.h hm⟩
theorem qpe_ifExp {c : Expr} (hc : QT X c tA) (ha : QE X a ta) (hb : QE X b tb) : QE X (.IfExp c a b pos) (tIf tA ta tb) := ⟨pe_ifExp hc.h ha.h hb.h⟩
theorem qpe_tup {x1} (h : QA X es t) : QE X (.Tuple es x1 pos) (tTup t) := ⟨pe_tup h.h⟩
theorem qpe_lst (h : QA X es t) : QE X (.List es pos) (tLst t) := ⟨pe_lst h.h⟩
theorem qpe_slice {lo hi : Option Expr} {r : V → Option Int → Option Int → Hp → VK → Prop} (hr : SlR X r) (he : QE X e te) (hl : QO X lo tl) (hu : QO X hi th) : QE X (.Subscript e (.Slice lo hi none p2) pos) (tSl r te tl th) := ⟨pe_slice hr he.h hl.h hu.h⟩
theorem qpe_ix {r : R2} (hr : IxR X r) (ha : QE X a ta) (hb : QE X b tb) (hs : PlainIx b) : QE X (.Subscript a b pos) (tOp r ta tb) := ⟨pe_ix hr ha.h hb.h hs⟩
theorem qpe_df {X : Cx} {x : Str} {ps : List Str} {k : Nat} {sp : Sp} {p pos : Pos} {e : Expr} {es : List Expr} {t : TA} (D : Df X.prog X.w X.K X.mg X.base x ps k sp) (hr : Room k X.A) (ha : QA X (e :: es) t) (hg : Gl X x := by rfl) (hdb : (x == ("__debug__" : Str)) = false := by decide) (he : starEach (e :: es) X.env = (false, eval e X.env) :: starEach es X.env := by rfl) (hpl : (backTo pos (starEach es X.env)).any (·.1) = false := by rfl) : QE X (.Call (.Name x p) (e :: es) [] pos) (tCall sp [] E0 t) := ⟨pe_df D hr ha.h hg hdb he hpl⟩
theorem qpe_listrange {a : Expr} {ta : TA} {p p2 pos pos2 : Pos} (hc : X.calm = true) (hg : Gl X "list") (hm : X.mg "list" = none) (hg2 : Gl X "range") (hm2 : X.mg "range" = none) (ha : QA X [a] ta) (hs : starEach [a] X.env = [(false, eval a X.env)] := by rfl) (hs2 : starEach [(.Call (.Name "range" p2) [a] [] pos2)] X.env = [(false, eval (.Call (.Name "range" p2) [a] [] pos2) X.env)] := by rfl) : QE X (.Call (.Name "list" p) [.Call (.Name "range" p2) [a] [] pos2] [] pos) (tLR ta) := ⟨pe_listrange hc hg hm hg2 hm2 ha.h hs hs2⟩
theorem qpe_callB {id : String} (hc : CallR X (.builtin id) r) (hg : Gl X x) (hm : X.mg x = none) (hv : bootBuiltins x = some (.builtin id)) (ha : QA X (e :: es) t) (hn : x ≠ "__name__" := by decide) (hdb : (x == ("__debug__" : Str)) = false := by decide) (he : starEach (e :: es) X.env = (false, eval e X.env) :: starEach es X.env := by rfl) (hpl : (backTo pos (starEach es X.env)).any (·.1) = false := by rfl) : QE X (.Call (.Name x p) (e :: es) [] pos) (tCB r t) := ⟨pe_callB hc hg hm hv ha.h hn hdb he hpl⟩
theorem qpe_callTy (hc : CallR X (.type T) r) (hg : Gl X x) (hm : X.mg x = none) (hv : bootBuiltins x = some (.type T)) (ha : QA X (e :: es) t) (hn : x ≠ "__name__" := by decide) (hdb : (x == ("__debug__" : Str)) = false := by decide) (he : starEach (e :: es) X.env = (false, eval e X.env) :: starEach es X.env := by rfl) (hpl : (backTo pos (starEach es X.env)).any (·.1) = false := by rfl) : QE X (.Call (.Name x p) (e :: es) [] pos) (tCB r t) := ⟨pe_callTy hc hg hm hv ha.h hn hdb he hpl⟩
theorem qpm_appendK (K : PySem.W.Frag) (hK : X.K = K) {o e : Expr} {to te : TE} {apos cpos : Pos} (ho : QE X o to) (he : QE X e te) (hs : starEach [e] X.env = [(false, eval e X.env)]) (hbase : attributeBase o "append" X.env (eval o X.env) = eval o X.env) (hline : (apos.endLine == cpos.line) = true) : QE X (.Call (.Attribute o "append" apos) [e] [] cpos) (tBM K "list" rAppend to (tCons te tNil)) := ⟨pm_appendK K hK ho.h he.h hs hbase hline⟩
theorem qpm_popAtK (K : PySem.W.Frag) (hK : X.K = K) {o e : Expr} {to te : TE} {apos cpos : Pos} (ho : QE X o to) (he : QE X e te) (hs : starEach [e] X.env = [(false, eval e X.env)]) (hbase : attributeBase o "pop" X.env (eval o X.env) = eval o X.env) (hline : (apos.endLine == cpos.line) = true) : QE X (.Call (.Attribute o "pop" apos) [e] [] cpos) (tBM K "list" rPopAt to (tCons te tNil)) := ⟨pm_popAtK K hK ho.h he.h hs hbase hline⟩
theorem qpi_listK (K : PySem.W.Frag) (hK : X.K = K) {tg l : Expr} {tl : TE} (hl : QE X l tl) : QI X tg l (iList K tl) := ⟨pi_listK K hK hl.h⟩
theorem qpi_tupK (K : PySem.W.Frag) (hK : X.K = K) {tg l : Expr} {tl : TE} (hl : QE X l tl) : QI X tg l (iTup K tl) := ⟨pi_tupK K hK hl.h⟩
theorem qpi_range1 {a : Expr} {ta : TA} {p pos : Pos} (hg : Gl X "range") (hm : X.mg "range" = none) (ha : QA X [a] ta) (hs : starEach [a] X.env = [(false, eval a X.env)] := by rfl) : QI X tg (.Call (.Name "range" p) [a] [] pos) (iRng1 ta) := ⟨pi_range1 hg hm ha.h hs⟩
theorem qpgn (i : Nat) {x : Str} (hN : X.N.Nodup) (hi : X.N[i]? = some x := by rfl) (hx : Loc X.env.scope x := by first | exact Or.inl rfl | exact Or.inr rfl) (hf : X.fn x = true ∨ X.env.scope.names.lookup x = some .local := by first | exact .inl rfl | exact .inr rfl | assumption) : QG X (.Name x pos) (gName i) := ⟨pgn i hN hi hx hf⟩
theorem qpg_tupK (K : PySem.W.Frag) (n : Nat) (hK : X.K = K) {es : List Expr} {k : Nat} {t : TGs} {pos : Pos} (hc : X.calm = true) (h : QGs X es t) (hn : (assignEach es X.env).length = n) (hst : (assignEach es X.env).findIdx? (·.1) = none) : QG X (.Tuple es k pos) (gTup K n t) := ⟨pg_tupK K n hK hc h.h hn hst⟩
theorem qpgs_cons {e : Expr} {es : List Expr} {t : TG} {u : TGs} (h1 : QG X e t) (h2 : QGs X es u) (hs : (assignEach (e :: es) X.env).map (·.2) = assign e X.env :: (assignEach es X.env).map (·.2) := by rfl) : QGs X (e :: es) (gCons t u) := ⟨pgs_cons h1.h h2.h hs⟩
theorem qpgs_nil  : QGs X [] gNil := ⟨pgs_nil ⟩
theorem qpt_cmpR {op : CmpOp} {r : R2} (ho : OpR X (compareOp op) r) (ha : QE X a ta) (hb : QE X b tb) (hm : behindInMarks op b = false) : QT X (.Compare a [op] [b] pos) (tTest (tOp r ta tb)) := ⟨pt_cmpR ho ha.h hb.h hm⟩
theorem qpt_chain {op op' : CmpOp} {r r' : R2} (ho : OpR X (compareOp op) r) (ho' : OpR X (compareOp op') r') (ha : QE X a ta) (hb : QE X b tb) (hc : QE X c tc) (hm : lastMarks [op, op'] [b, c] = false := by with_unfolding_all rfl) : QT X (.Compare a [op, op'] [b, c] pos) (tTest (tChain r r' ta tb tc)) := ⟨pt_chain ho ho' ha.h hb.h hc.h hm⟩
theorem qPWpt {X : Cx} {e : Expr} {t : TT} (h : QW X e t) : QT X e t := ⟨PW.pt h.h⟩
theorem qpw_or {rest : List Expr} (ha : QT X a tA) (hb : QW X (.BoolOp .Or (b :: rest) pos) tB') : QW X (.BoolOp .Or (a :: b :: rest) pos) (tOr tA tB') := ⟨pw_or ha.h hb.h⟩
theorem qpw_or1 (ha : QT X a tA) : QW X (.BoolOp .Or [a] pos) tA := ⟨pw_or1 ha.h⟩
theorem qpt_not (ha : QT X a tA) : QT X (.UnaryOp .Not a pos) (tNot tA) := ⟨pt_not ha.h⟩
theorem qpt_val {e : Expr} {t : TE} (h : QE X e t) (he : ∀ whole, isTrue e X.env whole = (do let v ← whole; standAt e.pos; holding [v] (truthy v)) := by intro _; rfl) : QT X e (tB t) := ⟨pt_val h.h he⟩
theorem qpss_cons {st : Stmt} {rest : List Stmt} (h1 : QS X st t) (h2 : QSs X rest u) : QSs X (st :: rest) (tSeq t u) := ⟨pss_cons h1.h h2.h⟩
theorem qpss_one {st : Stmt} (h1 : QS X st t) : QSs X [st] t := ⟨pss_one h1.h⟩
theorem qpss_nil  : QSs X [] tNext := ⟨pss_nil ⟩
theorem qps_ret (he : QE X e te) : QS X (.Return (some e) pos) (tRet te) := ⟨ps_ret he.h⟩
theorem qps_expr (he : QE X e te) (hs : swapsWith e none pos.line X.env = pure false := by rfl) : QS X (.Expr e pos) (tDrop te) := ⟨ps_expr he.h hs⟩
theorem qpset (i : Nat) {x : Str} {pos' : Pos} (hN : X.N.Nodup) (he : QE X e te) (hi : X.N[i]? = some x := by rfl) (hx : Loc X.env.scope x := by first | exact Or.inl rfl | exact Or.inr rfl) (hs : swapsWith e (some (.Name x pos')) pos.line X.env = pure false := by rfl) (hf : X.fn x = true ∨ X.env.scope.names.lookup x = some .local := by first | exact .inl rfl | exact .inr rfl | assumption) : QS X (.Assign [.Name x pos'] e pos) (tAsg te (gName i)) := ⟨pset i hN he.h hi hx hs hf⟩
theorem qps_asg {tg e : Expr} {te : TE} {g : TG} (he : QE X e te) (hg : QG X tg g) (hs : swapsWithSole [tg] e pos.line X.env = pure false := by rfl) (hw : swappedStores [tg] e X.env = pure none := by rfl) (h1 : (assignEach [tg] X.env).map (·.2) = [assign tg X.env] := by rfl) : QS X (.Assign [tg] e pos) (tAsg te g) := ⟨ps_asg he.h hg.h hs hw h1⟩
theorem qps_augS {o i e : Expr} {to ti te : TE} {tget : V → V → Hp → VK → Prop} {tip : TIp} {tset : TSet} {op : Operator} {tpos : Pos} (ho : QE X o to) (hi : QE X i ti) (hg : PGet X tget) (he : QE X e te) (hp : PIp X op tip) (hs : PSet X tset) (ha : ∀ ov iv new, augStore i ov iv new = (do holding [new, ov, iv] (setItem ov iv new); release [new, ov, iv] []; pure .next) := by intros; rfl) : QS X (.AugAssign (.Subscript o i tpos) op e pos) (tAugS to ti te tget tip tset) := ⟨ps_augS ho.h hi.h hg he.h hp hs ha⟩
theorem qps_if {c : Expr} {a b : List Stmt} {tc : TT} (hc : QT X c tc) (ha : QSs X a t) (hb : QSs X b u) : QS X (.If c a b pos) (tIfS tc t u) := ⟨ps_if hc.h ha.h hb.h⟩
theorem qps_for {iter : Expr} {body : List Stmt} {wi : TI} {g : TG} {tb : TS} {pos : Pos} (hp : PassesOwn (model X.prog X.w) X.A X.env X.xe) (hc : X.calm = true) (hi : QI X tg iter wi) (hg : QG X tg g) (hb : QSs X body tb) (hs : ∀ x, foldedSetIterable iter X.env x = pure x := by intro _; rfl) : QS X (.For tg iter body [] pos) (tFor wi g tb) := ⟨ps_for hp hc hi.h hg.h hb.h hs⟩
theorem qps_while {c : Expr} {body : List Stmt} {tc : TT} {tb : TS} (hp : PassesOwn (model X.prog X.w) X.A X.env X.xe) (hc : QT X c tc) (hb : QSs X body tb) : QS X (.While c body [] pos) (tWhile tc tb) := ⟨ps_while hp hc.h hb.h⟩
theorem qpts_nil {Y : Cx} : QTs Y [] (fun _ H Q => Q true H) := ⟨pts_nil ⟩
theorem qpts_one {Y : Cx} {c : Expr} {t : TT} (hc : QT Y c t) : QTs Y [c] t := ⟨pts_one hc.h⟩
theorem qpb_emit {te : TE} (hg : gens[d + 1]? = none) (hx : Y.xe = fun _ _ => False) (he : QE Y elt te) : QB Y elt gens scope pos d acc (tEmit acc te) := ⟨pb_emit hg hx he.h⟩
theorem qpa_cons (ha : QE X e te) (hr : QA X es t) (hs : starEach (e :: es) X.env = (false, eval e X.env) :: starEach es X.env := by rfl) : QA X (e :: es) (tCons te t) := ⟨pa_cons ha.h hr.h hs⟩
theorem qpa_nil  : QA X [] tNil := ⟨pa_nil ⟩
theorem qpo_none  : QO X none tNoPart := ⟨po_none ⟩
theorem qpo_some (h : QE X e te) : QO X (some e) (tPart te) := ⟨po_some h.h⟩
theorem qpa_ints {X : Cx} {es : List Expr} {ns : List Int} (h : intsOf es = some ns) : QA X es (fun _ H Q => Q (ns.map V.int) H) := ⟨pa_ints h⟩
theorem qpe_lc {X : Cx} {elt tg iter : Expr} {ifs : List Expr} {rest : List Comprehension} {scope : Scope} {pos : Pos} {wi : TI} {g : TG} {ti : TT} {tb : Addr → TS} (own : List Str) (cap : List (Str × Nat)) (hc : X.calm = true) (L : LcScope X scope own cap) (hi : QI X tg iter wi)
    (hin : ∀ (s₃ : Shared) (H₃ : Hp) (fp : List Addr) (acc : Addr), QG (X.inn scope (capN own cap) s₃ H₃ fp) tg g ∧ QTs (X.inn scope (capN own cap) s₃ H₃ fp) ifs ti ∧ QB (X.inn scope (capN own cap) s₃ H₃ fp) elt (⟨tg, iter, ifs, 0⟩ :: rest) scope pos 0 acc (tb acc))
    (hs : ∀ x, foldedSetIterable iter X.env x = pure x := by intro _; rfl) : QE X (.ListComp elt (⟨tg, iter, ifs, 0⟩ :: rest) scope pos) (tLC wi g ti tb own cap) := ⟨pe_lc own cap hc L hi.h (fun a b c d => ⟨(hin a b c d).1.h, (hin a b c d).2.1.h, (hin a b c d).2.2.h⟩) hs⟩
theorem qps_setlc {X : Cx} {i : Nat} {y : Str} {py spos : Pos} {elt tg iter : Expr} {ifs : List Expr} {rest : List Comprehension} {scope : Scope} {pos : Pos} {wi : TI} {g : TG} {ti : TT} {tb : Addr → TS} (own : List Str) (cap : List (Str × Nat)) (hN : X.N.Nodup) (hyi : X.N[i]? = some y) (hy : X.env.scope.names.lookup y = some .local) (hc : X.calm = true) (L : LcScope X scope own cap) (hi : QI X tg iter wi)
    (hin : ∀ (s₃ : Shared) (H₃ : Hp) (fp : List Addr) (acc : Addr), QG (X.inn scope (capN own cap) s₃ H₃ fp) tg g ∧ QTs (X.inn scope (capN own cap) s₃ H₃ fp) ifs ti ∧ QB (X.inn scope (capN own cap) s₃ H₃ fp) elt (⟨tg, iter, ifs, 0⟩ :: rest) scope pos 0 acc (tb acc))
    (hsw : swapsWith (.ListComp elt (⟨tg, iter, ifs, 0⟩ :: rest) scope pos) (some (.Name y py)) spos.line X.env = pure true := by rfl) (hs : ∀ x, foldedSetIterable iter X.env x = pure x := by intro _; rfl) :
    QS X (.Assign [.Name y py] (.ListComp elt (⟨tg, iter, ifs, 0⟩ :: rest) scope pos) spos) (tAsg (tLC wi g ti tb own cap) (gName i)) := ⟨ps_setlc own cap hN hyi hy hc L hi.h (fun a b c d => ⟨(hin a b c d).1.h, (hin a b c d).2.1.h, (hin a b c d).2.2.h⟩) hsw hs⟩
theorem qmk {X : Cx} {b : List Stmt} {t : TS} {D : Ends} {σ : St} {H : Hp} (h : QSs X b t) (r : t D σ H) : ∃ t, PSs X b t ∧ t D σ H := ⟨t, h.h, r⟩
end L2

namespace L2
open PySem PySem.Spec PyProof.Rows
section
variable {X : Cx} {i o value : Expr} {ty td tv : TE} {pos pos' : Pos}
end
end L2

namespace L2
open PySem PySem.Spec PyProof.Rows
/-! ### products of any size, a raise that is not reached -/
section
variable {X : Cx} {pos : Pos}
end
theorem ne_add (n i j : Nat) (h : i ≠ j) : n + i ≠ n + j := by omega
/-! ### zip(xs, ys) of two lists -/
section
variable {X : Cx} {pins : List (Addr × Obj)} {σ : St} {H : Hp} {s : Shared} {h' : Heap} {t' : Nat}
theorem Inv.turnMany {ch : List Addr} (I : Inv X pins σ H s) (k : ∀ b u, b ∉ ch → s.heap.get? b = some u → h'.get? b = some u) (hch : ∀ b ∈ ch, FpOk X pins H b) :
    Inv X pins σ H { s with heap := h', toks := t' } := by
  have nch : ∀ b u, H b = some u → b ∉ ch := fun b u e z => by rw [(hch b z).1] at e; cases e
  refine I.call (g' := s.gens) (d' := s.drawn) (ch := ch) ⟨fun b u q _ _ hx => k b u hx q, fun b u q _ _ hx => ⟨u.slots, k b u hx q⟩, fun b u q n _ => n, fun b u q hx => ⟨u, k b u hx q⟩, fun b xs q => q, fun b u xs q => q, fun b ps q => ⟨#[], by rw [q]; simp⟩⟩ (fun b u e => ?_) I.bare
    fun b hb => ⟨(hch b hb).2.2.2.1, (hch b hb).2.1, (hch b hb).2.2.2.2.1, (hch b hb).2.2.2.2.2⟩
  refine (I.hok b u e).stay (fun c v hc q => k c v ?_ q) (fun c q => q) fun c xs q => q
  rcases hc with z | z
  · rw [z]; exact nch b u e
  · exact nch c _ z
end
def Itz (K : PySem.W.Frag) (a b : Addr) : It :=
  ⟨fun i H => ∃ xs ys x y, SqL K H a xs ∧ SqL K H b ys ∧ xs[i]? = some x ∧ ys[i]? = some y, fun i H z H' => ∃ p x y, H p = none ∧ (∀ xs, SqL K H a xs → xs[i]? = some x) ∧ (∀ ys, SqL K H b ys → ys[i]? = some y) ∧ z = .ref p ∧ H' = upd H p (.tup [x, y]), fun i H => ∃ xs ys, SqL K H a xs ∧ SqL K H b ys ∧ (xs.length ≤ i ∨ ys.length ≤ i)⟩
theorem turn_zip {P : Program} {w : World} {K : PySem.W.Frag} {elts : List Expr} {x1} {tp : Pos} (a b z TI TO i1 i2 : Addr) (h1z : TI ≠ z) (h2z : TO ≠ z) (h3z : i1 ≠ z) (h4z : i2 ≠ z) (h5 : TI ≠ TO) (h6 : TI ≠ i1) (h7 : TI ≠ i2) (h8 : TO ≠ i1) (h9 : TO ≠ i2) (h10 : i1 ≠ i2) :
    Turn P w K (.Tuple elts x1 tp) (Itz K a b) [z, TI, TO, i1, i2] z (fun i h => IsZip h z TI TO .none ∧ IsPair h TI (.ref i1) (.ref i2) ∧ (∃ u v, IsPair h TO u v) ∧ h.IsListIter i1 a i ∧ h.IsListIter i2 b i) where
  mem := by simp
  obj := fun i h st c hc => by
    obtain ⟨hz, hTI, ⟨u, v, hTO⟩, ⟨o1, e1, c1, d1⟩, ⟨o2, e2, c2, d2⟩⟩ := st
    simp only [List.mem_cons, List.not_mem_nil, or_false] at hc
    rcases hc with rfl | rfl | rfl | rfl | rfl
    · exact ⟨_, hz, fun v z => by
        have z' : Data.fields _ = Data.cell v := z
        cases z'⟩
    · exact ⟨_, hTI, fun v z => by
        have z' : Data.seq _ = Data.cell v := z
        cases z'⟩
    · exact ⟨_, hTO, fun v z => by
        have z' : Data.seq _ = Data.cell v := z
        cases z'⟩
    · exact ⟨o1, e1, fun v z => by rw [d1] at z; cases z⟩
    · exact ⟨o2, e2, fun v z => by rw [d2] at z; cases z⟩
  keep := fun i h h' st k => by
    obtain ⟨hz, hTI, ⟨u, v, hTO⟩, g1, g2⟩ := st
    exact ⟨k z (by simp) _ hz, k TI (by simp) _ hTI, ⟨u, v, k TO (by simp) _ hTO⟩, g1.at fun o e => k i1 (by simp) o e, g2.at fun o e => k i2 (by simp) o e⟩
  item := by
    intro X hP hw hK hc i pins s σ H E I hf st hg
    subst hP hw hK
    obtain ⟨hz, hTI, ⟨u, v, hTO⟩, g1, g2⟩ := st
    obtain ⟨xs, ys, x, y, hq, hq2, hx, hy⟩ := hg
    obtain ⟨its, rv, p, _⟩ := I.list hq
    obtain ⟨its2, rv2, p2, _⟩ := I.list hq2
    obtain ⟨ux, hux, rux⟩ := rv.get hx
    obtain ⟨uy, huy, ruy⟩ := rv2.get hy
    have hl1 := p.isList
    have hl2 := p2.isList
    have nz : ∀ {c l : Addr} {o : Obj} {r : Array Value}, s.heap.get? c = some o → o.cls ≠ .type "list" → s.heap.IsList l r → l ≠ c := fun {c l o r} e hn hL z => by
      subst z
      obtain ⟨o', e', c', _⟩ := hL
      rw [e] at e'; cases e'; exact hn c'
    obtain ⟨o1, e1, c1, d1⟩ := id g1
    obtain ⟨o2, e2, c2, d2⟩ := id g2
    have lt1 : z < s.heap.objs.size := Heap.lt_size hz
    have lt2 : TO < s.heap.objs.size := Heap.lt_size hTO
    have lt3 : i1 < s.heap.objs.size := Heap.lt_size e1
    have lt4 : i2 < s.heap.objs.size := Heap.lt_size e2
    have lt5 : TI < s.heap.objs.size := Heap.lt_size hTI
    have nZ : (Value.type "zip") ≠ .type "list" := by decide
    have nT : (Value.type "tuple") ≠ .type "list" := by decide
    have D : ZipApart z TI TO i1 i2 a b := ⟨h1z, h2z, h3z, h4z, h5, h6, h7, h8, h9, h10, nz hz nZ hl1, nz hTO nT hl1, nz e1 (by rw [c1]; decide) hl1, nz e2 (by rw [c2]; decide) hl1, nz hz nZ hl2, nz hTO nT hl2, nz e1 (by rw [c1]; decide) hl2, nz e2 (by rw [c2]; decide) hl2⟩
    refine wpAny_pyNext_zip_item D hz hTI hTO g1 g2 hl1 hl2 (x := ux) (y := uy) (by simpa using hux) (by simpa using huy) fun h' a1 a2 a3 a4 a5 a6 hk => ?_
    refine ⟨_, rfl, wpAny_letOwnedTupleGo_zip (s := { s with heap := h' }) a1 fun h2 hz' hs' => ?_⟩
    have k2 : ∀ c o, c ≠ z → c ≠ TO → c ≠ i1 → c ≠ i2 → s.heap.get? c = some o → h2.get? c = some o := fun c o n1 n2 n3 n4 e => (hs'.2 c n1).trans (hk c o n1 n2 n3 n4 e)
    refine ⟨.ref s.heap.objs.size, upd H s.heap.objs.size (.tup [x, y]), ?_, rfl, ⟨_, x, y, I.fresh, fun q hy => by rw [I.list_inj hy hq]; exact hx, fun q h => by rw [I.list_inj h hq2]; exact hy, rfl, rfl⟩, ⟨hz', k2 _ _ h1z h5 h6 h7 hTI, ⟨_, _, (hs'.2 TO h2z).trans a2⟩, a3.at fun o e => (hs'.2 i1 h3z).trans e, a4.at fun o e => (hs'.2 i2 h4z).trans e⟩, fun c hc => ?_⟩
    · have I1 := I.turnLay (h' := h2) (t' := s.toks) (a := s.heap.objs.size) (o := .tup [x, y]) (ch := [z, TI, TO, i1, i2]) (fun c o hc q => k2 c o (fun e => hc (by simp [e])) (fun e => hc (by simp [e])) (fun e => hc (by simp [e])) (fun e => hc (by simp [e])) q) (Nat.le_refl _) ?_ hf
      · exact I1
      exact ⟨by show 2 ≤ sizeLine; decide, [ux, uy], .cons rux (.cons ruy .nil), ⟨_, (hs'.2 _ (Nat.ne_of_gt lt1)).trans a5, rfl, 0, rfl⟩⟩
    · have nn := (hf c hc).1
      have : c ≠ s.heap.objs.size := by
        simp only [List.mem_cons, List.not_mem_nil, or_false] at hc
        rcases hc with hc | hc | hc | hc | hc <;> (rw [hc]; apply Nat.ne_of_lt; assumption)
      rw [upd_ne this]; exact nn
  done := by
    intro X hP hw hK hc i pins s σ H E I hf st hg
    subst hP hw hK
    obtain ⟨hz, hTI, ⟨u, v, hTO⟩, g1, g2⟩ := st
    obtain ⟨xs, ys, hq, hq2, hend⟩ := hg
    obtain ⟨its, rv, p, _⟩ := I.list hq
    obtain ⟨its2, rv2, p2, _⟩ := I.list hq2
    have hl1 := p.isList
    have hl2 := p2.isList
    have nz : ∀ {c l : Addr} {o : Obj} {r : Array Value}, s.heap.get? c = some o → o.cls ≠ .type "list" → s.heap.IsList l r → l ≠ c := fun {c l o r} e hn hL z => by
      subst z
      obtain ⟨o', e', c', _⟩ := hL
      rw [e] at e'; cases e'; exact hn c'
    obtain ⟨o1, e1, c1, d1⟩ := id g1
    obtain ⟨o2, e2, c2, d2⟩ := id g2
    have nZ : (Value.type "zip") ≠ .type "list" := by decide
    have nT : (Value.type "tuple") ≠ .type "list" := by decide
    have D : ZipApart z TI TO i1 i2 a b := ⟨h1z, h2z, h3z, h4z, h5, h6, h7, h8, h9, h10, nz hz nZ hl1, nz hTO nT hl1, nz e1 (by rw [c1]; decide) hl1, nz e2 (by rw [c2]; decide) hl1, nz hz nZ hl2, nz hTO nT hl2, nz e1 (by rw [c1]; decide) hl2, nz e2 (by rw [c2]; decide) hl2⟩
    have l1 := rv.length
    have l2 := rv2.length
    refine wpAny_pyNext_zip_end (I.ok.hd hc) D hz hTI hTO g1 g2 hl1 hl2 (by rcases hend with h | h <;> simp <;> omega) fun h' hk => ⟨rfl, ?_⟩
    exact I.turnMany (t' := s.toks) (ch := [z, TI, TO, i1, i2]) (fun c o hc q => hk c o (fun e => hc (by simp [e])) (fun e => hc (by simp [e])) (fun e => hc (by simp [e])) (fun e => hc (by simp [e])) q) hf
  self := fun _ _ _ _ _ st h => wpAny_pyIter_zip st.1 h
section
variable {X : Cx}
def iZip (K : PySem.W.Frag) (ta : TA) : TI := fun σ H R => ta σ H fun vs H1 => ∃ a b, vs = [.ref a, .ref b] ∧ (∃ xs, SqL K H1 a xs) ∧ (∃ ys, SqL K H1 b ys) ∧ R (Itz K a b) H1
theorem pi_zip {a b : Expr} {ta : TA} {p pos : Pos} {elts : List Expr} {x1} {tp : Pos} (hg : Gl X "zip") (hm : X.mg "zip" = none) (ha : PA X [a, b] ta) (hs : starEach [a, b] X.env = [(false, eval a X.env), (false, eval b X.env)] := by rfl) (hs2 : starEach [b] X.env = [(false, eval b X.env)] := by rfl) :
    PI X (.Tuple elts x1 tp) (.Call (.Name "zip" p) [a, b] [] pos) (iZip X.K ta) := by
  intro pins s σ H R I h
  refine Call_ (ld_blt I hg hm boot_zip (PyProof.Rows.callWith_type1 (thn (ha pos pins s σ H _ I h) fun us s1 ⟨vs, H1, I1, r1, q1⟩ => ?_) (by rw [hs, hs2]) (by rw [hs2]; rfl)))
  obtain ⟨a, b, e, ⟨xs, hq⟩, ⟨ys, hq2⟩, q⟩ := q1
  subst e
  obtain ⟨u, v, rfl, ru, rv'⟩ := vals2 r1
  cases ru
  cases rv'
  obtain ⟨its, rv, p, hz⟩ := I1.list hq
  obtain ⟨its2, rv2, p2, hz2⟩ := I1.list hq2
  refine call_zip_2 p.isList p2.isList fun h' g1 g2 g3 g4 g5 hsz hk => ?_
  refine wpAny_pyIter_zip g1 ?_
  have I2 : Inv X pins σ H1 { s1 with heap := h' } := I1.kept (t' := s1.toks) hk
  refine ⟨s1.heap.objs.size + 4, [s1.heap.objs.size + 4, s1.heap.objs.size + 2, s1.heap.objs.size + 3, s1.heap.objs.size, s1.heap.objs.size + 1], _, _, H1, rfl, I2, turn_zip a b _ _ _ _ _ (ne_add _ 2 4 (by decide)) (ne_add _ 3 4 (by decide)) (ne_add _ 0 4 (by decide)) (ne_add _ 1 4 (by decide)) (ne_add _ 2 3 (by decide)) (ne_add _ 2 0 (by decide)) (ne_add _ 2 1 (by decide)) (ne_add _ 3 0 (by decide)) (ne_add _ 3 1 (by decide)) (ne_add _ 0 1 (by decide)), ⟨g1, g2, ⟨_, _, g3⟩, g4, g5⟩, fun c hc => ?_, q⟩
  have : s1.heap.objs.size ≤ c := by
    simp only [List.mem_cons, List.not_mem_nil, or_false] at hc
    rcases hc with hc | hc | hc | hc | hc <;> (rw [hc]; first | exact Nat.le_refl _ | exact Nat.le_add_right _ _)
  exact I1.fpOk this (I1.hok.fresh this)
theorem pi_zipK (K : PySem.W.Frag) (hK : X.K = K) {a b : Expr} {ta : TA} {p pos : Pos} {elts : List Expr} {x1} {tp : Pos} (hg : Gl X "zip") (hm : X.mg "zip" = none) (ha : PA X [a, b] ta) (hs : starEach [a, b] X.env = [(false, eval a X.env), (false, eval b X.env)]) (hs2 : starEach [b] X.env = [(false, eval b X.env)]) :
    PI X (.Tuple elts x1 tp) (.Call (.Name "zip" p) [a, b] [] pos) (iZip K ta) := by subst hK; exact pi_zip hg hm ha hs hs2
theorem qpi_zipK (K : PySem.W.Frag) (hK : X.K = K) {a b : Expr} {ta : TA} {p pos : Pos} {elts : List Expr} {x1} {tp : Pos} (hg : Gl X "zip") (hm : X.mg "zip" = none) (ha : QA X [a, b] ta) (hs : starEach [a, b] X.env = [(false, eval a X.env), (false, eval b X.env)] := by rfl) (hs2 : starEach [b] X.env = [(false, eval b X.env)] := by rfl) :
    QI X (.Tuple elts x1 tp) (.Call (.Name "zip" p) [a, b] [] pos) (iZip K ta) := ⟨pi_zipK K hK hg hm ha.h hs hs2⟩
end
theorem loop_zip {K : PySem.W.Frag} {a b : Addr} (xs ys : List V) (hlen : xs.length = ys.length) {g : TG} {tb : TS} {D : Ends} {σ : St} {H : Hp} (Pv : Nat → St → Hp → Prop) (h0 : Pv 0 σ H) (hl : ∀ i σ H, i ≤ xs.length → Pv i σ H → SqL K H a xs ∧ SqL K H b ys)
    (hs : ∀ i x y p σ H, xs[i]? = some x → ys[i]? = some y → Pv i σ H → H p = none → g (.ref p) σ (upd H p (.tup [x, y])) fun σ2 H2 => tb { D with nx := Pv (i + 1), ct := Pv (i + 1), bk := D.nx } σ2 H2) (hd : ∀ σ H, Pv xs.length σ H → D.nx σ H) : loopT (Itz K a b) g tb D σ H := by
  refine ⟨fun i m σ H => m = xs.length - i ∧ i ≤ xs.length ∧ Pv i σ H, ⟨xs.length, by simp, Nat.zero_le _, h0⟩, ?_⟩
  rintro i m σ H ⟨rfl, hi, p⟩
  have q := hl i σ H hi p
  by_cases hlt : i < xs.length
  · have hlt2 : i < ys.length := hlen ▸ hlt
    refine .inr ⟨⟨xs, ys, xs[i], ys[i], q.1, q.2, by simp [hlt], by simp [hlt2]⟩, Pv (i + 1), fun σ' H' p' => ⟨xs.length - (i + 1), by omega, rfl, hlt, p'⟩, fun x H' y => ?_⟩
    obtain ⟨pp, z, z2, hn, hy, hy2, rfl, rfl⟩ := y
    exact hs i z z2 pp σ _ (hy xs q.1) (hy2 ys q.2) p hn
  · have e : i = xs.length := by omega
    subst e
    exact .inl ⟨⟨xs, ys, q.1, q.2, .inl (Nat.le_refl _)⟩, hd σ H p⟩
end L2

namespace M36
def sumN (n : Nat) (f : Nat → Int) : Int := ((List.range n).map f).sum
def mid (i j : Nat) : Int := if i = j then 1 else 0
def Bd (n B : Nat) (M : Nat → Nat → Int) : Prop := ∀ i j, i < n → j < n → -(2 ^ B) < M i j ∧ M i j < 2 ^ B
theorem Bd.mono {n B B' : Nat} {M : Nat → Nat → Int} (h : Bd n B M) (hB : B ≤ B') : Bd n B' M := fun i j hi hj => by
  obtain ⟨h1, h2⟩ := h i j hi hj
  have : (2 : Int) ^ B ≤ 2 ^ B' := by
    have := Nat.pow_le_pow_right (n := 2) (by decide) hB
    exact_mod_cast this
  omega
theorem Bd.congr {n B : Nat} {M M' : Nat → Nat → Int} (h : Bd n B M) (e : ∀ i j, i < n → j < n → M i j = M' i j) : Bd n B M' := fun i j hi hj => by
  rw [← e i j hi hj]; exact h i j hi hj
end M36

namespace L2
open PySem PySem.Spec PyProof.Rows M36
theorem small_line {i : Nat} (h : i < 1000000) : i < sizeLine := Nat.lt_of_lt_of_le h (by decide)
/-! ### what a comprehension has made so far -/
structure IntsAcc (H H1 : Hp) (acc : Addr) (i : Nat) (f : Nat → Int) : Prop where
  at_ : H1 acc = some (.lst ((List.range i).map fun j => V.int (f j)))
  sm : Same H H1
  no : H acc = none
theorem IntsAcc.start {H : Hp} {acc : Addr} (f : Nat → Int) (h : H acc = none) : IntsAcc H (upd H acc (.lst [])) acc 0 f := ⟨upd_same, Same.new h, h⟩
theorem IntsAcc.emit {H H1 H2 : Hp} {acc : Addr} {i : Nat} {f : Nat → Int} {x : Int} (A : IntsAcc H H1 acc i f) (hi : i < 1000000) (sm : Same H1 H2) (e : x = f i) :
    ∃ xs, H2 acc = some (.lst xs) ∧ xs.length < sizeLine ∧ IntsAcc H (upd H2 acc (.lst (xs ++ [.int x]))) acc (i + 1) f := by
  refine ⟨_, sm _ _ A.at_, by rw [List.length_map, List.length_range]; exact small_line hi, ?_, (A.sm.trans sm).put A.no, A.no⟩
  rw [upd_same, List.range_succ, List.map_append, e]; rfl
structure BlsAcc (H H1 : Hp) (acc : Addr) (i : Nat) (f : Nat → Bool) : Prop where
  at_ : H1 acc = some (.lst (((List.range i).map f).map V.bl))
  sm : Same H H1
  no : H acc = none
theorem BlsAcc.start {H : Hp} {acc : Addr} (f : Nat → Bool) (h : H acc = none) : BlsAcc H (upd H acc (.lst [])) acc 0 f := ⟨upd_same, Same.new h, h⟩
theorem BlsAcc.emit {H H1 H2 : Hp} {acc : Addr} {i : Nat} {f : Nat → Bool} {x : Bool} (A : BlsAcc H H1 acc i f) (hi : i < 1000000) (sm : Same H1 H2) (e : x = f i) :
    ∃ xs, H2 acc = some (.lst xs) ∧ xs.length < sizeLine ∧ BlsAcc H (upd H2 acc (.lst (xs ++ [.bl x]))) acc (i + 1) f := by
  refine ⟨_, sm _ _ A.at_, by rw [List.length_map, List.length_map, List.length_range]; exact small_line hi, ?_, (A.sm.trans sm).put A.no, A.no⟩
  rw [upd_same, List.range_succ, List.map_append, List.map_append, e]; rfl
structure RowsAcc (H H1 : Hp) (acc : Addr) (i : Nat) (F : Nat → List Int) : Prop where
  ex : ∃ ts : List Addr, ts.length = i ∧ H1 acc = some (.lst (ts.map V.ref)) ∧ (∀ (j : Nat) (r : Addr), ts[j]? = some r → H1 r = some (.lst ((F j).map V.int)) ∧ H r = none ∧ r ≠ acc) ∧ ts.Nodup
  sm : Same H H1
  no : H acc = none
theorem RowsAcc.start {H : Hp} {acc : Addr} (F : Nat → List Int) (h : H acc = none) : RowsAcc H (upd H acc (.lst [])) acc 0 F := ⟨⟨[], rfl, upd_same, by simp, List.nodup_nil⟩, Same.new h, h⟩
theorem RowsAcc.emit {H H1 H2 : Hp} {acc l : Addr} {i : Nat} {F : Nat → List Int} (A : RowsAcc H H1 acc i F) (hi : i < 1000000) (sm : Same H1 H2) (hl : H1 l = none) (h2 : H2 l = some (.lst ((F i).map V.int))) :
    ∃ xs, H2 acc = some (.lst xs) ∧ xs.length < sizeLine ∧ RowsAcc H (upd H2 acc (.lst (xs ++ [.ref l]))) acc (i + 1) F := by
  obtain ⟨⟨ts, h1, h3, h4, h5⟩, sm1, no⟩ := A
  refine ⟨_, sm _ _ h3, by rw [List.length_map, h1]; exact small_line hi, ⟨ts ++ [l], by rw [List.length_append, List.length_singleton, h1], ?_, fun j r hj => ?_, ?_⟩, (sm1.trans sm).put no, no⟩
  · rw [upd_same, List.map_append]; rfl
  · by_cases hji : j < ts.length
    · rw [List.getElem?_append_left hji] at hj
      obtain ⟨a1, a2, a3⟩ := h4 j r hj
      exact ⟨by rw [upd_ne a3]; exact sm _ _ a1, a2, a3⟩
    · rw [List.getElem?_append_right (by omega)] at hj
      have hj0 : j - ts.length = 0 := by
        cases q : j - ts.length with
        | zero => rfl
        | succ k => rw [q] at hj; simp at hj
      rw [hj0] at hj
      have : r = l := by simpa using hj.symm
      subst this
      have : j = i := by omega
      subst this
      have hne : r ≠ acc := fun e => by rw [e, h3] at hl; cases hl
      exact ⟨by rw [upd_ne hne]; exact h2, sm1.gone hl, hne⟩
  · rw [List.nodup_append]
    refine ⟨h5, by simp, fun a ha b hb => ?_⟩
    have : b = l := by simpa using hb
    subst this
    obtain ⟨j, hj, ej⟩ := List.mem_iff_getElem.mp ha
    have := (h4 j a (by simp [hj, ej])).1
    exact ne_of_none this hl
/-- a list of n lists of n ints, to be read -/
def rowN (n : Nat) (f : Nat → Int) : List Int := (List.range n).map f
structure Mx (H : Hp) (a : Addr) (n : Nat) (M : Nat → Nat → Int) : Prop where
  ex : ∃ rs : List Addr, rs.length = n ∧ H a = some (.lst (rs.map V.ref)) ∧ ∀ (i : Nat) (r : Addr), rs[i]? = some r → H r = some (.lst ((rowN n (M i)).map V.int))
theorem Mx.same {H H' : Hp} {a : Addr} {n : Nat} {M : Nat → Nat → Int} (h : Mx H a n M) (e : Same H H') : Mx H' a n M := by
  obtain ⟨rs, h1, h2, h3⟩ := h
  exact ⟨rs, h1, e _ _ h2, fun i r hi => e _ _ (h3 i r hi)⟩
theorem rowN_congr {n : Nat} {f g : Nat → Int} (h : ∀ j, j < n → f j = g j) : rowN n f = rowN n g := by
  unfold rowN
  exact List.map_congr_left fun j hj => h j (List.mem_range.mp hj)
theorem Mx.congr {H : Hp} {a : Addr} {n : Nat} {M M' : Nat → Nat → Int} (h : Mx H a n M) (e : ∀ i j, i < n → j < n → M i j = M' i j) : Mx H a n M' := by
  obtain ⟨rs, h1, h2, h3⟩ := h
  refine ⟨rs, h1, h2, fun i r hi => ?_⟩
  have hin : i < n := by rw [← h1]; exact (List.getElem?_eq_some_iff.mp hi).1
  rw [← rowN_congr fun j hj => e i j hin hj]
  exact h3 i r hi
theorem RowsAcc.mx {H H1 : Hp} {acc : Addr} {n : Nat} {M : Nat → Nat → Int} (A : RowsAcc H H1 acc n fun i => rowN n (M i)) : Mx H1 acc n M := by
  obtain ⟨⟨ts, h1, h3, h4, h5⟩, sm1, no⟩ := A
  exact ⟨ts, h1, h3, fun i r hi => (h4 i r hi).1⟩
theorem rowN_get {n : Nat} {f : Nat → Int} {j : Nat} (h : j < n) : ((rowN n f).map V.int)[j]? = some (V.int (f j)) := by
  unfold rowN; rw [List.getElem?_map, List.getElem?_map, List.getElem?_range h]; rfl
theorem rowN_len {n : Nat} {f : Nat → Int} : ((rowN n f).map V.int).length = n := by unfold rowN; rw [List.length_map, List.length_map, List.length_range]
theorem rowN_map {n : Nat} {f : Nat → Int} : (rowN n f).map V.int = (List.range n).map fun j => V.int (f j) := by unfold rowN; rw [List.map_map]; rfl
theorem sum_rowN {n : Nat} {f : Nat → Int} : (rowN n f).sum = sumN n f := rfl
theorem ref_at {rs : List Addr} {i : Nat} {x : V} (h : (rs.map V.ref)[i]? = some x) : ∃ r, rs[i]? = some r ∧ x = .ref r := by
  rw [List.getElem?_map] at h
  cases e : rs[i]? with
  | none => rw [e] at h; cases h
  | some r => rw [e] at h; cases h; exact ⟨r, rfl, rfl⟩
theorem at0 (i : Nat) : (0 + (i : Int)) = ((i : Nat) : Int) := by omega
theorem atR {n : Nat} {f : Nat → Int} {j : Nat} (h : j < n) : atI ((rowN n f).map V.int) ((j : Nat) : Int) = some (.int (f j)) := atI_nat (rowN_get h)
theorem atR0 {n : Nat} {f : Nat → Int} {j : Nat} (h : j < n) : atI ((rowN n f).map V.int) (0 + (j : Int)) = some (.int (f j)) := by rw [at0]; exact atR h
theorem atF {rs : List Addr} {j : Nat} {r : Addr} (h : rs[j]? = some r) : atI (rs.map V.ref) ((j : Nat) : Int) = some (.ref r) := atI_nat (by rw [List.getElem?_map, h]; rfl)
theorem atF0 {rs : List Addr} {j : Nat} {r : Addr} (h : rs[j]? = some r) : atI (rs.map V.ref) (0 + (j : Int)) = some (.ref r) := by rw [at0]; exact atF h
end L2

namespace L2
open PySem PySem.Spec PyProof.Rows
/-! ### exceptions under way -/
theorem ObjOk.there {P : Program} {w : World} {H : Hp} {h : Heap} {a : Addr} {o : HO} (x : ObjOk P w H h a o) : ∃ ob, h.get? a = some ob := by
  cases o with
  | lst xs => obtain ⟨_, _, _, _, e⟩ := x; exact ⟨_, e⟩
  | tup xs => obtain ⟨_, _, _, o, e, _⟩ := x; exact ⟨_, e⟩
  | dK kvs => obtain ⟨_, _, _, _, o, _, _, e, _⟩ := x; exact ⟨_, e⟩
  | dT kvs => obtain ⟨_, _, _, _, o, _, _, e, _⟩ := x; exact ⟨_, e⟩
  | set S n => obtain ⟨o, _, _, _, e, _⟩ := x; exact ⟨_, e⟩
  | ins C dx fs => obtain ⟨_, _, _, e, _⟩ := x; exact ⟨_, e⟩
  | own y => obtain ⟨_, e⟩ := x; exact ⟨_, e⟩
  | xd fs => obtain ⟨_, ⟨_, _, _, e, _⟩, _⟩ := x; exact ⟨_, e⟩
  | rng lo hi => obtain ⟨_, _, _, e⟩ := x; exact ⟨_, e⟩
  | frz ob u => obtain ⟨e, _⟩ := x; exact ⟨_, e⟩
  | tbl ps => exact ⟨_, (show h.get? a = some _ from x)⟩
  | met f y => exact ⟨_, (show h.get? a = some _ from x)⟩
  | ext φ => obtain ⟨_, ⟨_, e⟩, _⟩ := x; exact ⟨_, e⟩
/-- B: what is kept to the last sign while the exception passes; what is neither in B nor a running frame is the exception's own, made since h0 -/
def Fly (base : Heap) (l : List Env) (ea : Addr) (cls : Value) (H : Hp) (h0 h : Heap) : Prop :=
  ∃ (B : Heap) (a0 : Value), base.StaysIn B ∧ Heap.FlyingW B l ea cls a0 h ∧ ∀ b, B.get? b = none → b ∉ frs l → (∃ o, h.get? b = some o) → h0.get? b = none ∧ H b = none
def CXE (P : Program) (w : World) (base : Heap) : CXT := fun outer H s E e s' =>
  ∃ (ea : Addr) (cls : Value) (H' : Hp), e = .ref ea ∧ s'.os = s.os ∧ AllBare s'.gens ∧ Un (frs outer) [] H H' s.heap s'.heap ∧ HOk P w H' s'.heap ∧ Fly base outer ea cls H' s.heap s'.heap ∧ E cls none H'
section
variable {X : Cx} {pins : List (Addr × Obj)} {σ : St} {H : Hp} {s : Shared}
theorem Inv.in0 (I : Inv X pins σ H s) (hex : X.ex = []) {b : Addr} (h : s.heap.get? b = none) : X.s₀.heap.get? b = none := by
  cases q : X.s₀.heap.get? b with
  | none => rfl
  | some o =>
    obtain ⟨o', e⟩ := I.base.there b o q (by rw [hex]; simp)
    rw [h] at e; cases e
theorem leave_core {B : Heap} {ea : Addr} {cls a0 : Value} {h' : Heap} {E : XK} (I : Inv X pins σ H s) (hex : X.ex = []) (hst : X.stack = X.env :: X.outer) (hf : X.env.frame = some X.env.locals)
    (hb : X.base.StaysIn B) (hB : B.StaysIn s.heap) (fl : Heap.FlyingW B X.outer ea cls a0 h') (up : s.heap.UpToSlots h')
    (pr : ∀ b, B.get? b = none → b ∉ frs X.stack → (∃ o, s.heap.get? b = some o) → X.s₀.heap.get? b = none ∧ H b = none) (hE : E cls none H) :
    CXE X.prog X.w X.base X.outer X.H₀ X.s₀ E (.ref ea) { s with heap := h' } := by
  have hB' : B.StaysIn h' := fl.1
  have inB : ∀ b o, s.heap.get? b = some o → b ∉ frs X.stack → (X.s₀.heap.get? b ≠ none ∨ H b ≠ none) → B.get? b = some o := by
    intro b o e hb hp
    cases q : B.get? b with
    | some o' => have := hB b o' q; rw [e] at this; rw [this]
    | none =>
      obtain ⟨h1, h2⟩ := pr b q hb ⟨o, e⟩
      rcases hp with z | z
      · exact absurd h1 z
      · exact absurd h2 z
  have L0 : ∀ b o, X.s₀.heap.get? b = some o → b ≠ X.env.locals := fun b o e => Nat.ne_of_lt (Nat.lt_of_lt_of_le (Heap.lt_size e) I.ok.above)
  have fsS : frs X.stack = X.env.locals :: X.fs := by rw [hst]; unfold frs; rw [List.filterMap_cons, hf]; rfl
  have nS : ∀ b o, X.s₀.heap.get? b = some o → b ∉ X.fs → b ∉ frs X.stack := fun b o e hb z => by
    rw [fsS] at z
    rcases List.mem_cons.mp z with z | z
    · exact L0 b o e z
    · exact hb z
  have hx0 : ∀ b : Addr, b ∉ X.ex := fun b => by rw [hex]; simp
  refine ⟨ea, cls, H, rfl, I.os, I.bare, ⟨fun b o e n hbf _ => ?_, fun b o e n hbf _ => ?_, fun b o e n _ => I.base.free b o e n (hx0 b), fun b o e _ => ?_, I.base.tups, I.base.frzs, I.base.tbls⟩, fun b u e => ?_, ⟨B, a0, hb, fl, fun b hbn hbf he => ?_⟩, hE⟩
  · exact hB' b o (inB b o (I.base.keep b o e n hbf (hx0 b)) (nS b o e hbf) (.inl (by rw [e]; simp)))
  · obtain ⟨sl, q⟩ := I.base.slot b o e n hbf (hx0 b)
    obtain ⟨_, o', q', nf⟩ := I.funs.mem hbf
    rw [q] at q'; cases q'
    obtain ⟨sl', q''⟩ := up b _ q nf
    exact ⟨sl', q''⟩
  · obtain ⟨o', q⟩ := I.base.there b o e (hx0 b)
    by_cases hbf : b ∈ X.fs
    · obtain ⟨_, o'', q', nf⟩ := I.funs.mem hbf
      rw [q] at q'; cases q'
      obtain ⟨sl', q''⟩ := up b _ q nf
      exact ⟨_, q''⟩
    · exact ⟨o', hB' b o' (inB b o' q (nS b o e hbf) (.inl (by rw [e]; simp)))⟩
  · refine (I.hok b u e).stay (fun c v hc q => ?_) (fun _ q => q) (fun _ _ q => q)
    have hcn : H c ≠ none := by
      rcases hc with z | z
      · rw [z, e]; simp
      · rw [z]; simp
    exact hB' c v (inB c v q (fun z => hcn (I.stkFree c z)) (.inr hcn))
  · obtain ⟨o, e⟩ := he
    cases q : s.heap.get? b with
    | some ob =>
      by_cases hL : b = X.env.locals
      · rw [hL]; exact ⟨Heap.get?_none_of_le I.ok.above, I.free⟩
      · refine pr b hbn (fun z => ?_) ⟨ob, q⟩
        rw [fsS] at z
        rcases List.mem_cons.mp z with z | z
        · exact hL z
        · exact hbf z
    | none =>
      refine ⟨I.in0 hex q, ?_⟩
      cases z : H b with
      | none => rfl
      | some u =>
        obtain ⟨ob, q'⟩ := ObjOk.there (I.hok b u z)
        rw [q] at q'; cases q'
end
/-- an exception that is made here leaves -/
def RaiseOk (X : Cx) (E : XK) : Prop := ∀ (pins : List (Addr × Obj)) (σ : St) (H : Hp) (s : Shared) (ea : Addr) (cls : Value) (vs : List Value) (h' : Heap), Inv X pins σ H s → Heap.MadeExcOf s.heap h' ea cls vs → E cls none H → X.xe (.ref ea) { s with heap := h' }
section
variable {P : Program} {w : World} {K : PySem.W.Frag} {mg : Str → Option Value} {base : Heap} {N : List Str} {qual : Str} {scope : Scope} {f : Addr} {cd : Value} {A : Around} {outer : List Env} {s0 : Shared} {H0 : Hp} {E : XK}
theorem raiseOk_cx : RaiseOk (cxOf (CXE P w base) P w K mg base N qual scope f cd A outer s0 H0 E) E := by
  intro pins σ H s ea cls vs h' I hx hE
  have hin : ∀ env ∈ (cxOf (CXE P w base) P w K mg base N qual scope f cd A outer s0 H0 E).stack, ∀ b, env.frame = some b → b ∈ frs (cxOf (CXE P w base) P w K mg base N qual scope f cd A outer s0 H0 E).stack := fun env he b hb => List.mem_filterMap.mpr ⟨env, he, hb⟩
  show wpAny _ _ (leaving _ _) _ _ _
  refine wpAny_leaves_madeW (base := PySem.W.hideAll s.heap (frs (cxOf (CXE P w base) P w K mg base N qual scope f cd A outer s0 H0 E).stack)) (h := s.heap) I.ok.frames rfl (fun b o q => PySem.W.of_hideAll _ q) (PySem.W.funFrames_hide I.stack hin) hx fun h'' t fl tup bt up => ?_
  refine leave_core I rfl rfl rfl (fun b o e => PySem.W.hideAll_get _ (I.bk b o e) fun hm => ?_) (fun b o q => PySem.W.of_hideAll _ q) fl ((Heap.UpToSlots.of_keeps hx.keeps).trans up) (fun b hbn hbf he => ?_) hE
  · have := (I.stack.mem hm).1
    rw [show (cxOf (CXE P w base) P w K mg base N qual scope f cd A outer s0 H0 E).base.get? b = some o from e] at this
    cases this
  · obtain ⟨o, e⟩ := he
    rw [PySem.W.hideAll_get _ e hbf] at hbn
    cases hbn
theorem passE : Passes (CXE P w base) (cxOf (CXE P w base) P w K mg base N qual scope f cd A outer s0 H0 E) E := by
  rintro pins σ H s e s' I ⟨ea, cls, H', rfl, os, bare, un, hok, ⟨B, a0, hb, fl, pr⟩, hE⟩
  have I' := I.call' (ch := []) os un hok bare (fun _ z => nomatch z)
  show wpAny _ _ (leaving _ _) _ _ _
  refine wpAny_leaves_onW I.ok.frames rfl fl fun h' fl' up => ?_
  refine leave_core I' rfl rfl rfl hb fl.1 fl' up (fun b h1 h2 h3 => ?_) hE
  obtain ⟨q1, q2⟩ := pr b h1 h2 h3
  exact ⟨I.in0 rfl q1, q2⟩
end
end L2

namespace L2
open PySem PySem.Spec PyProof.Rows
abbrev bmV : List Value := [.type "ValueError", .type "Exception", .type "BaseException", .type "object"]
/-- an own class under ValueError, as the fragment has it -/
structure ExC (K : PySem.W.Frag) (mg : Str → Option Value) (x : Str) (C : Addr) : Prop where
  mgx : mg x = some (.ref C)
  exc : PySem.W.excIn K C bmV "ValueError.__new__" = true
theorem ExC.own {K : PySem.W.Frag} {mg : Str → Option Value} {x : Str} {C : Addr} {h : Heap} (c : ExC K mg x C) (X : K.In h) : OwnCls x C bmV "ValueError.__new__" mg h := by
  obtain ⟨hm, hq⟩ := c
  refine ⟨hm, ?_⟩
  unfold PySem.W.excIn at hq
  split at hq
  case h_2 => cases hq
  case h_1 dk cdk slk hok =>
    split at hq
    case h_2 => cases hq
    case h_1 Ck bk a0 a1 a2 a3 nk a5 hmro hsl =>
      rw [Bool.and_eq_true, Bool.and_eq_true, Bool.and_eq_true, Bool.and_eq_true, Bool.and_eq_true, beq_iff_eq, beq_iff_eq, beq_iff_eq] at hq
      obtain ⟨⟨⟨⟨⟨e1, e2⟩, e3⟩, e4⟩, e5⟩, e6⟩ := hq
      have e3 : cdk.hasDel = false := by simpa using e3
      have hok' := X _ _ hok
      cases e1
      cases e2
      cases cdk with
      | mk x1 x2 x3 x4 x5 x6 x7 x8 x9 x10 x11 =>
        cases slk with
        | mk lk =>
          cases hmro
          cases e3
          cases hsl
          exact ⟨_, _, _, _, _, _, _, _, _, _, _, _, _, _, _, _, _, hok', Heap.Ns.of_isNs (PySem.W.isNs_of_in X e5), PySem.W.nsMap_none_of_in X e5 e6, PySem.W.tail_of_in X e4⟩
section
variable {X : Cx} {pos np cpos : Pos} {x : Str} {C : Addr} {E : XK} {e0 : Expr} {es : List Expr} {ta : TA}
def tRaise (C : Addr) (E : XK) (ta : TA) : TS := fun _ σ H => ta σ H fun vs H1 => vs.length ≤ sizeLine ∧ E (.ref C) none H1
theorem ps_raise (hx : RaiseOk X E) (hc : X.calm = true) (c : ExC X.K X.mg x C) (hg : Gl X x) (ha : PA X (e0 :: es) ta) (hdb : (x == ("__debug__" : Str)) = false := by decide)
    (he : starEach (e0 :: es) X.env = (false, eval e0 X.env) :: starEach es X.env := by rfl) (hpl : (backTo cpos (starEach es X.env)).any (·.1) = false := by rfl) :
    PS X (.Raise (some (.Call (.Name x np) (e0 :: es) [] cpos)) none pos) (tRaise C E ta) := by
  intro pins s σ H D I h
  obtain ⟨tl, N, nm, q, bs, hdct, sn, sub, ab, col, dd, k0, k1, k2, k3, k5, mN, hC, hN, hni, T⟩ := (c.own I.mod.kin).obj
  refine wpAny_Raise_call_subU (C := C) (nm := nm) (q := q) (N := N) (bs := bs) (bm := tl) (hdct := hdct) (sn := sn) (sub := sub) (ab := ab) (col := col) (dd := dd) (k0 := k0) (k1 := k1) (k2 := k2) (k3 := k3) (k5 := k5) PySem.F.excBase_ValueError (by decide +kernel) PySem.F.excBase_ValueError (mN := mN) (T.hasType (by decide +kernel)) (I.ok.hd hc) ?_ hni (ld_glob I hg c.mgx ⟨rfl, ?_⟩ hdb)
  · rw [he]
    show (false || (backTo cpos (starEach es X.env)).any (·.1)) = false
    rw [hpl]; rfl
  have ha' := ha cpos pins s σ H _ I h
  rw [he] at ha' ⊢
  refine Calls.evalArgs_plain (thn ha' fun us s1 ⟨vs, H1, I1, r1, hl, q1⟩ => ?_)
  exact ⟨rfl, by rw [← r1.length]; exact hl, I1.bk _ _ hC, hN.keeps I1.bk, T.keeps I1.bk, fun h' e hm => hx pins σ H1 s1 e (.ref C) us h' I1 hm q1⟩
end
/-! ### defs from which exceptions may leave -/
structure DfE (P : Program) (w : World) (K : PySem.W.Frag) (mg : Str → Option Value) (base : Heap) (x : Str) (ps : List Str) (k : Nat) (sp : Sp) : Prop where
  ex : ∃ f fd, FnOk P w K mg base (CXE P w base) k f fd ps sp ∧ mg x = some (.ref f) ∧ PySem.W.keepIn K (.ref f) = true ∧ Binds K fd ps []
theorem DfE.mono {P : Program} {w : World} {K : PySem.W.Frag} {mg : Str → Option Value} {base : Heap} {x : Str} {ps : List Str} {j k : Nat} {sp : Sp} (D : DfE P w K mg base x ps j sp) (h : j ≤ k) : DfE P w K mg base x ps k sp := by
  obtain ⟨f, fd, F, r⟩ := D.ex
  exact ⟨f, fd, F.mono h, r⟩
theorem pe_dfE {X : Cx} {x : Str} {ps : List Str} {k : Nat} {sp : Sp} {p pos : Pos} {e : Expr} {es : List Expr} {t : TA} {E : XK} (D : DfE X.prog X.w X.K X.mg X.base x ps k sp) (hx : Passes (CXE X.prog X.w X.base) X E) (hr : Room k X.A) (ha : PA X (e :: es) t) (hg : Gl X x := by rfl) (hdb : (x == ("__debug__" : Str)) = false := by decide)
    (he : starEach (e :: es) X.env = (false, eval e X.env) :: starEach es X.env := by rfl) (hpl : (backTo pos (starEach es X.env)).any (·.1) = false := by rfl) : PE X (.Call (.Name x p) (e :: es) [] pos) (tCall sp [] E t) := by
  obtain ⟨f, fd, F, hm, hk, hb⟩ := D.ex
  exact pe_call F hr hg hm hk hb .nil hx ha hdb he hpl
theorem PA.nox {X : Cx} {es : List Expr} {t : TA} (h : PA X.nox es t) : PA X es t := fun pos pins s σ H Q I hw =>
  wpAny_mono (h pos pins s σ H Q (I.wish _) hw) (fun _ _ ⟨v, H', I', r, q⟩ => ⟨v, H', I'.unwish, r, q⟩) fun _ _ z => False.elim z
theorem PS.nox {X : Cx} {st : Stmt} {t : TS} (h : PS X.nox st t) : PS X st t := fun pins s σ H D I hw =>
  wpAny_mono (h pins s σ H D (I.wish _) hw) (fun _ _ q => q.unwish) fun _ _ z => False.elim z
theorem Fun.okE {P : Program} {w : World} {K : PySem.W.Frag} {mg : Str → Option Value} {base : Heap} {x qual : Str} {st : Stmt} {f : Addr} {fd : FuncData} {N ps : List Str} {k : Nat} {sp : Sp} (F : Fun K x qual st f fd) (S : FnScope N ps (defScope st)) (len : ∀ vs H Q E, sp vs H Q E → vs.length = ps.length)
    (hbody : ∀ (cdv : Value) (A : Around) (outer : List Env) (s : Shared) (H : Hp) (vs : List V) (Q : VK) (E : XK), Room k (A.deeper (envOfC qual (defScope st) s.heap.objs.size f cdv)) → sp vs H Q E →
      ∃ t, PSs (cxOf (CXE P w base) P w K mg base N qual (defScope st) f cdv A outer s H E) (defBody st) t ∧ t { nx := fun _ H' => Q .non H', rt := Q } (start N vs) H) : FnOk P w K mg base (CXE P w base) (k + 1) f fd ps sp := by
  obtain ⟨oc, od, kV, doc, pm, an, cdv, ct, osl, rfl, lk, hcd⟩ := F.ex
  exact fn_of lk hcd S len fun A outer s H vs Q E hr hsp => hbody cdv A outer s H vs Q E hr hsp
/-! the same over structures -/
section
variable {X : Cx}
theorem qnT {e : Expr} {t : TT} (h : QT X.nox e t) : QT X e t := ⟨h.h.nox⟩
theorem qnS {e : Stmt} {t : TS} (h : QS X.nox e t) : QS X e t := ⟨h.h.nox⟩
theorem qps_raise {x : Str} {C : Addr} {E : XK} {e0 : Expr} {es : List Expr} {ta : TA} {pos np cpos : Pos} (hx : RaiseOk X E) (hc : X.calm = true) (c : ExC X.K X.mg x C) (hg : Gl X x) (ha : QA X (e0 :: es) ta) (hdb : (x == ("__debug__" : Str)) = false := by decide)
    (he : starEach (e0 :: es) X.env = (false, eval e0 X.env) :: starEach es X.env := by rfl) (hpl : (backTo cpos (starEach es X.env)).any (·.1) = false := by rfl) :
    QS X (.Raise (some (.Call (.Name x np) (e0 :: es) [] cpos)) none pos) (tRaise C E ta) := ⟨ps_raise hx hc c hg ha.h hdb he hpl⟩
theorem qpe_dfE {x : Str} {ps : List Str} {k : Nat} {sp : Sp} {p pos : Pos} {e : Expr} {es : List Expr} {t : TA} {E : XK} (D : DfE X.prog X.w X.K X.mg X.base x ps k sp) (hx : Passes (CXE X.prog X.w X.base) X E) (hr : Room k X.A) (ha : QA X (e :: es) t) (hg : Gl X x := by rfl) (hdb : (x == ("__debug__" : Str)) = false := by decide)
    (he : starEach (e :: es) X.env = (false, eval e X.env) :: starEach es X.env := by rfl) (hpl : (backTo pos (starEach es X.env)).any (·.1) = false := by rfl) : QE X (.Call (.Name x p) (e :: es) [] pos) (tCall sp [] E t) := ⟨pe_dfE D hx hr ha.h hg hdb he hpl⟩
end
end L2

namespace L2
open PySem PySem.Spec PyProof.Rows
/-! ### the class of a handler fits -/
structure Fits (K : PySem.W.Frag) (C R : Addr) : Prop where
  sub : PySem.W.kitCls K (.ref C) (.ref R) = some true
  exc : PySem.W.subIn K (.ref R) (.type "BaseException") = some true
theorem exc_matches {K : PySem.W.Frag} {M : Model} {A : Around} {E : Value → Shared → Prop} {h : Heap} {g : Array GenState} {d : Drawn} {tk : Nat} {os : OsState} {e C R : Addr} {oe : Obj} {Q : Bool → Shared → Prop} (X : K.In h) (he : h.get? e = some oe) (hcls : oe.cls = .ref C)
    (k : Fits K C R) (hq : Q true ⟨h, g, d, tk, os⟩) : wpAny M A (excMatches (.ref e) (.ref R)) Q E ⟨h, g, d, tk, os⟩ := by
  obtain ⟨l1, l2, l3⟩ := PySem.W.kit_cls (M := M) X k.sub
  have l4 := PySem.W.looks_subIn (M := M) X k.exc
  have f := tc_notTuple
  unfold excMatches isInstance isExcClass
  repeat (first | with_reducible refine PySem.W.Looks.at l1 ?_ | with_reducible refine PySem.W.Looks.at l2 ?_ | with_reducible refine PySem.W.Looks.at l3 ?_ | with_reducible refine PySem.W.Looks.at l4 ?_ | (with_reducible refine wpAny_loadPart_at he ?_; rw [hcls]) | wp_step)
  exact hq

/-! ### within a handler -/
abbrev Cx.within (X : Cx) (ea : Addr) (oe : Obj) : Cx := { X with A := X.A.mark (some (.ref ea)), calm := false, pn := X.pn ++ [(ea, oe)], xe := fun _ _ => False }
theorem Cx.Ok.within {X : Cx} (ok : X.Ok) (ea : Addr) (oe : Obj) : (X.within ea oe).Ok :=
  ⟨ok.mod, ok.kind, ok.glob, ok.blt, ok.above, ok.inj, ok.has, ok.cab, (fun z => nomatch z), ok.frames, ok.stk, ok.exf, ok.bs, ok.bsz, ok.noex, ok.exfs, ok.funs, ok.frf⟩
/-- what the exception has for its own -/
def Priv (X : Cx) (pins : List (Addr × Obj)) (B : Heap) (H : Hp) (h : Heap) : Prop :=
  ∀ b, B.get? b = none → b ∉ frs X.stack → (∃ o, h.get? b = some o) → X.s₀.heap.get? b = none ∧ H b = none ∧ ∀ p ∈ X.pn ++ pins, p.1 ≠ b
structure Flat (X : Cx) : Prop where
  ex : X.ex = []
  st : X.stack = X.env :: X.outer
  fr : X.env.frame = some X.env.locals
section
variable {X : Cx} {pins : List (Addr × Obj)} {σ : St} {H : Hp} {s : Shared}
theorem Inv.within {ea : Addr} {oe : Obj} {ws : Array Value} (I : Inv X pins σ H s) (he : s.heap.get? ea = some oe) (hd : oe.data = .fields ws) (hH : H ea = none) (hL : ea ≠ X.env.locals) (hF : ea ∉ X.fs) : Inv (X.within ea oe) pins σ H s :=
  ⟨I.ok.within ea oe, I.os, I.bare, I.base, I.loc, I.cell, I.free, I.freeC, fun p hp => by
    rcases List.mem_append.mp hp with hp | hp
    · rcases List.mem_append.mp hp with hp | hp
      · exact I.pin p (List.mem_append_left _ hp)
      · obtain rfl : p = (ea, oe) := by simpa using hp
        exact ⟨he, hH, hL, hF, fun v z => by rw [hd] at z; cases z⟩
    · exact I.pin p (List.mem_append_right _ hp), I.hok, I.len⟩
theorem Inv.without {ea : Addr} {oe : Obj} (ok : X.Ok) (I : Inv (X.within ea oe) pins σ H s) : Inv X pins σ H s :=
  ⟨ok, I.os, I.bare, I.base, I.loc, I.cell, I.free, I.freeC, fun p hp => I.pin p (by
    rcases List.mem_append.mp hp with hp | hp
    · exact List.mem_append_left _ (List.mem_append_left _ hp)
    · exact List.mem_append_right _ hp), I.hok, I.len⟩
theorem SP.without {ea : Addr} {oe : Obj} {D : Ends} {f : Flow} {s' : Shared} (ok : X.Ok) (h : SP (X.within ea oe) pins D f s') : SP X pins D f s' := by
  cases f with
  | next => obtain ⟨σ', H', I, q⟩ := h; exact ⟨σ', H', I.without ok, q⟩
  | brk => obtain ⟨σ', H', I, q⟩ := h; exact ⟨σ', H', I.without ok, q⟩
  | cont => obtain ⟨σ', H', I, q⟩ := h; exact ⟨σ', H', I.without ok, q⟩
  | ret u => obtain ⟨v, σ', H', I, r, q⟩ := h; exact ⟨v, σ', H', I.without ok, r, q⟩
theorem Flat.fs (F : Flat X) : frs X.stack = X.env.locals :: X.fs := by rw [F.st]; unfold frs; rw [List.filterMap_cons, F.fr]; rfl
/-- an exception passes: what is ours stays -/
theorem Inv.fly {B : Heap} {ea : Addr} {cls a0 : Value} {h' : Heap} (I : Inv X pins σ H s) (F : Flat X) (hb : X.base.StaysIn B) (hB : B.StaysIn s.heap) (fl : Heap.FlyingW B X.stack ea cls a0 h') (up : s.heap.UpToSlots h') (pr : Priv X pins B H s.heap) :
    Inv X pins σ H { s with heap := h' } := by
  have fl' : Heap.FlyingW B X.outer ea cls a0 h' := by
    obtain ⟨k1, k2, k3, k4⟩ := fl
    rw [F.st] at k3
    obtain ⟨_, _, k3⟩ := k3
    exact ⟨k1, k2, k3, k4⟩
  obtain ⟨_, _, H', _, _, _, un, hok, _, eH⟩ := leave_core (E := fun _ _ H' => H' = H) I F.ex F.st F.fr hb hB fl' up (fun b h1 h2 h3 => let ⟨q1, q2, _⟩ := pr b h1 h2 h3; ⟨q1, q2⟩) rfl
  subst eH
  have cellK : ∀ c v, s.heap.IsCell c v → h'.IsCell c v := fun c v ⟨o, ho, hd⟩ => by
    obtain ⟨sl, e⟩ := up c o ho (fun vs z => by rw [hd] at z; cases z)
    exact ⟨_, e, hd⟩
  refine ⟨I.ok, I.os, I.bare, by rw [F.ex]; exact un, ?_, fun x c e => ?_, I.free, I.freeC, fun p hp => ?_, hok, I.len⟩
  · obtain ⟨m, hn, hl⟩ := I.loc
    refine ⟨m, up.ns hn, fun i x v e1 e2 e3 => ?_⟩
    obtain ⟨u, r, q⟩ := hl i x v e1 e2 e3
    refine ⟨u, r, ?_⟩
    rcases q with q | ⟨k, c, e, z⟩
    · exact .inl q
    · exact .inr ⟨k, c, e, cellK c _ z⟩
  · obtain ⟨v, z⟩ := I.cell x c e
    exact ⟨v, cellK c v z⟩
  · obtain ⟨e, n, ne, nf, d⟩ := I.pin p hp
    refine ⟨?_, n, ne, nf, d⟩
    cases q : B.get? p.1 with
    | some o' =>
      have := hB _ _ q
      rw [e] at this; cases this
      exact fl.1 _ _ q
    | none =>
      have := (pr p.1 q (fun z => by rw [F.fs] at z; rcases List.mem_cons.mp z with z | z; exact ne z; exact nf z) ⟨_, e⟩).2.2 p hp
      exact absurd rfl this
theorem Priv.fly {B h' : Heap} (I : Inv X pins σ H s) (F : Flat X) (pr : Priv X pins B H s.heap) : Priv X pins B H h' := fun b h1 h2 _ => by
  cases q : s.heap.get? b with
  | some o => exact pr b h1 h2 ⟨o, q⟩
  | none =>
    refine ⟨I.in0 F.ex q, ?_, fun p hp z => ?_⟩
    · cases z : H b with
      | none => rfl
      | some u => obtain ⟨ob, q'⟩ := ObjOk.there (I.hok b u z); rw [q] at q'; cases q'
    · have := (I.pin p hp).1
      rw [z, q] at this; cases this
theorem fly_own {B h : Heap} {ea : Addr} {cls a0 : Value} (F : Flat X) (fl : Heap.FlyingW B X.stack ea cls a0 h) (pr : Priv X pins B H h) : ∃ oe ws, h.get? ea = some oe ∧ oe.cls = cls ∧ oe.data = .fields ws ∧ H ea = none ∧ ea ≠ X.env.locals ∧ ea ∉ X.fs := by
  obtain ⟨oe, ws, e, c, d, _⟩ := fl.first
  have nf : ea ∉ frs X.stack := fun z => by
    obtain ⟨_, o, q, n⟩ := fl.2.2.1.mem z
    rw [e] at q; cases q
    exact n ws d
  refine ⟨oe, ws, e, c, d, (pr ea fl.2.1 nf ⟨oe, e⟩).2.1, fun z => nf (by rw [F.fs, z]; exact List.mem_cons_self), fun z => nf (by rw [F.fs]; exact List.mem_cons_of_mem _ z)⟩
end
section
variable {X : Cx} {pins : List (Addr × Obj)} {σ : St} {H : Hp} {s : Shared} {ea C R : Addr} {B : Heap} {a0 : Value} {x : Str} {np pos : Pos} {b0 : Stmt} {suite : List Stmt} {rest : List ExceptHandler} {ts : TS} {D : Ends}
end
end L2

namespace L2
open PySem PySem.Spec PyProof.Rows
/-! ### what may raise, within a try -/
def XPr (X : Cx) (pins : List (Addr × Obj)) (σ : St) (E : XK) (e : Value) (s' : Shared) : Prop :=
  ∃ (ea : Addr) (cls : Value) (H' : Hp) (B : Heap) (a0 : Value), e = .ref ea ∧ Inv X pins σ H' s' ∧ X.base.StaysIn B ∧ Heap.FlyingW B X.stack ea cls a0 s'.heap ∧ Priv X pins B H' s'.heap ∧ E cls none H'
abbrev TEX := St → Hp → VK → XK → Prop
abbrev TSX := Ends → (St → XK) → St → Hp → Prop
structure PEX (X : Cx) (e : Expr) (t : TEX) : Prop where
  h : ∀ (pins : List (Addr × Obj)) (s : Shared) (σ : St) (H : Hp) (Q : VK) (E : XK), Inv X pins σ H s → t σ H Q E → wpAny (model X.prog X.w) X.A (eval e X.env) (EP X pins σ Q) (XPr X pins σ E) s
structure PSX (X : Cx) (st : Stmt) (t : TSX) : Prop where
  h : ∀ (pins : List (Addr × Obj)) (s : Shared) (σ : St) (H : Hp) (D : Ends) (E : St → XK), Inv X pins σ H s → t D E σ H → wpAny (model X.prog X.w) X.A (exec st X.env) (SP X pins D) (fun e s' => ∃ σ', XPr X pins σ' (E σ') e s') s
structure PSXs (X : Cx) (st : List Stmt) (t : TSX) : Prop where
  h : ∀ (pins : List (Addr × Obj)) (s : Shared) (σ : St) (H : Hp) (D : Ends) (E : St → XK), Inv X pins σ H s → t D E σ H → wpAny (model X.prog X.w) X.A (execs st X.env) (SP X pins D) (fun e s' => ∃ σ', XPr X pins σ' (E σ') e s') s
section
variable {X : Cx}
def xE (te : TE) : TEX := fun σ H Q _ => te σ H Q
def xCall (sp : Sp) (t : TA) : TEX := fun σ H Q E => t σ H fun vs H1 => sp vs H1 Q E
def xTup2 (ta : TE) (tb : TEX) : TEX := fun σ H Q E => ta σ H fun x H1 => tb σ H1 (fun y H2 => ∀ p, H2 p = none → Q (.ref p) (upd H2 p (.tup [x, y]))) E
def xIsT (ta : TEX) : TEX := fun σ H Q E => ta σ H (fun x H1 => ∃ b, x = .bl b ∧ Q (.bl b) H1) E
def xS (t : TS) : TSX := fun D _ σ H => t D σ H
def xRet (te : TEX) : TSX := fun D E σ H => te σ H D.rt (E σ)
def xSet (i : Nat) (te : TEX) : TSX := fun D E σ H => te σ H (fun v H1 => D.nx (σ.set i (some v)) H1) (E σ)
def xDrop (te : TEX) : TSX := fun D E σ H => te σ H (fun _ H1 => D.nx σ H1) (E σ)
def xIf (tc : TT) (a b : TSX) : TSX := fun D E σ H => tc σ H fun d H1 => if d = true then a D E σ H1 else b D E σ H1
def xNext : TSX := fun D _ σ H => D.nx σ H
def xSeq (a b : TSX) : TSX := fun D E σ H => a { D with nx := b D E } E σ H
theorem pex_call {x : Str} {ps : List Str} {k : Nat} {sp : Sp} {p pos : Pos} {e : Expr} {es : List Expr} {t : TA} (D : DfE X.prog X.w X.K X.mg X.base x ps k sp) (F : Flat X) (hr : Room k X.A) (ha : QA X.nox (e :: es) t) (hg : Gl X x := by rfl) (hdb : (x == ("__debug__" : Str)) = false := by decide)
    (he : starEach (e :: es) X.env = (false, eval e X.env) :: starEach es X.env := by rfl) (hpl : (backTo pos (starEach es X.env)).any (·.1) = false := by rfl) : PEX X (.Call (.Name x p) (e :: es) [] pos) (xCall sp t) := ⟨by
  intro pins s σ H Q E I h
  obtain ⟨f, fd, G, hm, hk, hb⟩ := D.ex
  refine wpAny_Call_Name_kw (ld_glob I hg hm ?_ hdb)
  refine PySem.W.callWith_K (h₀ := X.base) I.ok.mod.kin hk (wpAny_mono (ha.h pos pins s σ H _ (I.wish _) h) (fun us s1 q => ?_) fun _ _ z => False.elim z) he hpl
  obtain ⟨vs, H1, I1, r, q⟩ := q
  have I1 := I1.unwish
  refine ⟨I1.kIn, ?_⟩
  have hl : us.length = ps.length := by rw [← r.length]; exact G.len _ _ _ _ q
  have hbs := hb s1 us I1.kIn (by rw [List.append_nil]; exact hl)
  rw [List.append_nil] at hbs
  refine wpAny_call (codeAny_mono (G.run X.A X.stack s1 H1 ⟨us, []⟩ us vs Q E hr I1.env0 hbs r q) fun r s' hq => ?_)
  cases r with
  | ok fl =>
    cases fl with
    | ret u => exact I1.after hq
    | next => exact False.elim hq
    | brk => exact False.elim hq
    | cont => exact False.elim hq
  | error e =>
    obtain ⟨ea, cls, H', rfl, os, bare, un, hok, ⟨B, a0, hb, fl, pr⟩, hE⟩ := hq
    have I' := I1.call' (ch := []) os un hok bare (fun _ z => nomatch z)
    refine ⟨ea, cls, H', B, a0, rfl, I', hb, fl, fun b h1 h2 h3 => ?_, hE⟩
    obtain ⟨q1, q2⟩ := pr b h1 h2 h3
    refine ⟨I1.in0 F.ex q1, q2, fun p hp z => ?_⟩
    have := (I1.pin p hp).1
    rw [z, q1] at this; cases this⟩
theorem pex_tup2 {a b : Expr} {ta : TE} {tb : TEX} {x1} {pos : Pos} (ha : QE X.nox a ta) (hb : PEX X b tb) (hs : starEach [a, b] X.env = [(false, eval a X.env), (false, eval b X.env)] := by rfl) : PEX X (.Tuple [a, b] x1 pos) (xTup2 ta tb) := ⟨by
  intro pins s σ H Q E I h
  refine wpAny_Tuple_spliced ?_
  rw [hs]
  show wpAny _ _ (spliced ((false, eval a X.env) :: backTo pos [(false, eval b X.env)])) _ _ s
  refine Calls.spliced_cons (wpAny_mono (ha.h pins s σ H _ (I.wish _) h) (fun u s1 q => ?_) fun _ _ z => False.elim z)
  obtain ⟨x, H1, I1, r1, q1⟩ := q
  show wpAny _ _ (spliced ((false, eval b X.env) :: backTo pos [])) _ _ s1
  refine Calls.spliced_cons (wpAny_mono (hb.h pins s1 σ H1 _ E I1.unwish q1) (fun v s2 q => ?_) fun _ _ z => z)
  obtain ⟨y, H2, I2, r2, q2⟩ := q
  refine Calls.spliced_nil ⟨by show 2 ≤ sizeLine; decide, ?_⟩
  have hf : H2 s2.heap.objs.size = none := I2.hok.fresh (Nat.le_refl _)
  refine ⟨.ref s2.heap.objs.size, upd H2 s2.heap.objs.size (.tup [x, y]), I2.laid (t' := s2.toks) (fun b u e => Heap.get?_push_of_some _ e) (Nat.le_refl _) ?_, rfl, q2 _ hf⟩
  exact ⟨by show 2 ≤ sizeLine; decide, [u, v], .cons r1 (.cons r2 .nil), ⟨_, Heap.get?_push_size _ rfl, rfl, _, rfl⟩⟩⟩
theorem psx_ret {e : Expr} {te : TEX} {pos : Pos} (h : PEX X e te) : PSX X (.Return (some e) pos) (xRet te) := ⟨fun pins s σ H D E I hw =>
  wpAny_Return_some (wpAny_mono (h.h pins s σ H _ _ I hw) (fun v s1 ⟨x, H1, I1, r1, q1⟩ => ⟨x, σ, H1, I1, r1, q1⟩) fun _ _ z => ⟨σ, z⟩)⟩
theorem psxs_one {st : Stmt} {t : TSX} (h1 : PSX X st t) : PSXs X [st] t := ⟨fun pins s σ H D E I h => by
  refine wpAny_execs_cons (thn (h1.h pins s σ H D E I h) fun f s1 q => ?_)
  cases f with
  | next =>
    obtain ⟨σ', H', I', q⟩ := q
    exact wpAny_execs_nil ⟨σ', H', I', q⟩
  | ret v => exact q
  | brk => exact q
  | cont => exact q⟩
/-- try: .. except X: .. -/
def tTry0 (R : Addr) (tb : TSX) (ts : TS) (K : PySem.W.Frag) : TS := fun D σ H => tb D (fun σ' cls _ H' => ∃ C, cls = .ref C ∧ Fits K C R ∧ ts D σ' H') σ H
end
end L2

namespace L2
open PySem PySem.Spec PyProof.Rows
/-! ### isinstance of an exception -/
structure ExK (K : PySem.W.Frag) (C : Addr) : Prop where
  ga : PySem.W.findIn K (.ref C) "__getattribute__" = some (some (.builtin "BaseException.__getattribute__"))
  cl : PySem.W.findIn K (.ref C) "__class__" = some (some (.builtin "object.__class__"))
  gg : PySem.W.findIn K (.ref C) "__getattr__" = some none
  ob : PySem.W.subIn K (.ref C) (.type "object") = some true
  be : PySem.W.subIn K (.ref C) (.type "BaseException") = some true
  se : PySem.W.kitCls K (.ref C) (.ref C) = some true
section
variable {K : PySem.W.Frag} {prog : Program} {w : World} {A : Around} {E : Value → Shared → Prop} {h : Heap} {g : Array GenState} {d : Drawn} {t : Nat} {os : OsState} {a C : Addr} {o : Obj}
theorem xc_get {R : Result → Shared → Prop} (X : K.In h) (k : ExK K C) (hx : h.get? a = some o) (hc : o.cls = .ref C) (hq : R (.ok (.ret (.ref C))) ⟨h, g, d, t, os⟩) :
    codeAny (model prog w) A (.call (.builtin "getset_descriptor.__get__") ⟨[.builtin "object.__class__", .ref a, .ref C], []⟩) R ⟨h, g, d, t, os⟩ := by
  have l1 := PySem.W.looks_subIn (M := model prog w) X k.ob
  have e1 := F.owner_object_class
  have hT5 : (⟨h, g, d, t, os⟩ : Shared).TypeIs (.builtin "object.__class__") "getset_descriptor" := F.typeOf_object_class
  refine codeAny_call_builtin F.slot_gs_get.plain F.entry_gs_get (F.slot_gs_get.check _ _ _ _ _ _ _ _ hT5 (F.args_gs_get _ _ _) ?_)
  repeat (any_goals (first | assumption | (with_reducible refine wpAny_loadPart_at hx ?_; rw [hc]) | with_reducible refine PySem.W.Looks.at l1 ?_ | rw [e1] | wp_step))
  refine ⟨Code.quiet_builtin _ (by decide +kernel), codeAny_builtin F.entry_object_class ?_⟩
  repeat (any_goals (first | assumption | (with_reducible refine wpAny_loadPart_at hx ?_; rw [hc]) | wp_step))
theorem xc_entry {tk : Tok} {Q : Fin → Shared → Prop} (X : K.In h) (k : ExK K C) (hx : h.get? a = some o) (hc : o.cls = .ref C) (hq : Q (.done (.ret (.ref C))) ⟨h, g, d, t, os⟩) :
    wpAny (model prog w) A (Builtin.«object.__getattribute__» ⟨[.ref a, .str "__class__" tk], []⟩) Q E ⟨h, g, d, t, os⟩ := by
  have l1 := PySem.W.looks_findIn (M := model prog w) X k.cl
  have hT5 : (⟨h, g, d, t, os⟩ : Shared).TypeIs (.builtin "object.__class__") "getset_descriptor" := F.typeOf_object_class
  have f5 := F.typeOf_object_class
  have f6 := F.slot_gs_get.lookup
  have f7 := F.slot_gs_set.lookup
  repeat (any_goals (first | assumption | (with_reducible refine wpAny_loadPart_at hx ?_; rw [hc]) | with_reducible refine PySem.W.Looks.at l1 ?_ | wp_step))
  refine xc_get X k hx hc ?_
  repeat (any_goals (first | assumption | wp_step))
theorem xc_check {nameV : Value} {Q : Unit → Shared → Prop} (X : K.In h) (k : ExK K C) (hx : h.get? a = some o) (hc : o.cls = .ref C) (hq : Q () ⟨h, g, d, t, os⟩) :
    wpAny (model prog w) A (checkBuiltinCall "BaseException.__getattribute__" ⟨[.ref a, nameV], []⟩) Q E ⟨h, g, d, t, os⟩ := by
  have l1 := PySem.W.looks_subIn (M := model prog w) X k.be
  have kd : builtinKind "BaseException.__getattribute__" = some .slot := by decide +kernel
  have sp : splitId "BaseException.__getattribute__" = some ("BaseException", "__getattribute__") := by decide +kernel
  have ar := F.args_bexc_ga (.ref a) nameV
  simp only [checkBuiltinCall, kd, sp]
  refine wpAny_bind ?_
  unfold isInstance
  repeat (first | (with_reducible refine wpAny_loadPart_at hx ?_; rw [hc]) | with_reducible refine PySem.W.Looks.at l1 ?_ | wp_step)
  exact hq
theorem xc_call {tk : Tok} {R : Result → Shared → Prop} (X : K.In h) (k : ExK K C) (hx : h.get? a = some o) (hc : o.cls = .ref C) (hq : R (.ok (.ret (.ref C))) ⟨h, g, d, t, os⟩) :
    codeAny (model prog w) A (.call (.builtin "BaseException.__getattribute__") ⟨[.ref a, .str "__class__" tk], []⟩) R ⟨h, g, d, t, os⟩ :=
  codeAny_call_builtin PySem.F.attr_ValueError.ga.plain F.entry_bexc_ga (xc_check X k hx hc (xc_entry X k hx hc hq))
theorem xc_by {tk : Tok} {Q : Value → Shared → Prop} (X : K.In h) (k : ExK K C) (hx : h.get? a = some o) (hc : o.cls = .ref C) (hq : Q (.ref C) ⟨h, g, d, t, os⟩) :
    wpAny (model prog w) A (getAttrBy (.ref a) (.str "__class__" tk) false) Q E ⟨h, g, d, t, os⟩ := by
  have l1 := PySem.W.looks_findIn (M := model prog w) X k.ga
  have l2 := PySem.W.looks_findIn (M := model prog w) X k.gg
  have f3 := PySem.F.attr_ValueError.ga.bind (.ref a)
  have hx2 : (Value.builtin "BaseException.__getattribute__" == Value.builtin "object.__getattribute__") = false := by decide +kernel
  have hx1 : (onTheHeap (Value.ref C) && Value.builtin "BaseException.__getattribute__" == Value.builtin "object.__getattribute__") = false := by rw [hx2]; rfl
  repeat (any_goals (first | assumption | (with_reducible refine wpAny_loadPart_at hx ?_; rw [hc]) | with_reducible refine PySem.W.Looks.at l1 ?_ | with_reducible refine PySem.W.Looks.at l2 ?_ | wp_step))
  refine xc_call X k hx hc ?_
  repeat (any_goals (first | assumption | wp_step))
theorem xc_attr {Q : Option Value → Shared → Prop} (X : K.In h) (k : ExK K C) (hx : h.get? a = some o) (hc : o.cls = .ref C) (hq : Q (some (.ref C)) ⟨h, g, d, t + 1, os⟩) :
    wpAny (model prog w) A (getAttr? (.ref a) "__class__") Q E ⟨h, g, d, t, os⟩ := by
  unfold getAttr? getAttrBy?
  repeat (any_goals (first | assumption | with_reducible apply xc_by X k hx hc | wp_step))
theorem kitx_exc {mg : Str → Option Value} {x : Str} (c : ExC K mg x C) (k : ExK K C) : PySem.W.KitX K (.ref a) (.ref C) (fun h => ∃ o, h.get? a = some o ∧ o.cls = .ref C) where
  ty := fun M h _ p => by
    obtain ⟨o, h1, h2⟩ := p
    exact h2 ▸ (PySem.W.Looks.ld h1).andThen .now
  it := fun M h X _ => (PySem.W.kit_cls X k.se).2.1
  ne := fun h tp dd its n sl X htp => Bool.eq_false_iff.mpr fun q => by
    have e : C = tp := Value.ref.inj (beq_iff_eq.mp q)
    subst e
    obtain ⟨_, _, _, _, _, _, _, _, _, _, _, _, _, _, _, _, _, hC, _⟩ := (c.own X).obj
    rw [htp] at hC
    injection hC with z
    injection z with z1
    exact absurd z1 (by decide)
  ca := fun {_ _ _ _ _ s} X p q => by
    obtain ⟨o, h1, h2⟩ := p
    obtain ⟨hh, gg, dd, tt, oo⟩ := s
    exact xc_attr X k h1 h2 q
end
section
variable {X : Cx} {K : PySem.W.Frag}
/-- isinstance(e, C) of an exception that lies pinned -/
def rIsX (K : PySem.W.Frag) (ea C : Addr) : List V → Hp → VK → Prop := fun xs H Q => ∃ T b, xs = [.ref ea, T] ∧ ((∃ D, T = .ref D ∧ PySem.W.kitOne K (.ref C) (.ref D) = some b) ∨ (∃ n, T = .ty n ∧ PySem.W.kitOne K (.ref C) (.type n) = some b)) ∧ Q (.bl b) H
theorem call_isX {ea C : Addr} {oe : Obj} {x : Str} (hK : X.K = K) (hp : (ea, oe) ∈ X.pn) (hc : oe.cls = .ref C) (c : ExC K X.mg x C) (k : ExK K C) : CallR X (.builtin "isinstance") (rIsX K ea C) := by
  subst hK
  intro pins s σ H xs us Q I r h
  obtain ⟨T, b, rfl, hT, q⟩ := h
  obtain ⟨u, v, rfl, r1, r2⟩ := vals2 r
  cases r1
  have he := (I.pin (ea, oe) (List.mem_append_left _ hp)).1
  rcases hT with ⟨D, rfl, e⟩ | ⟨n, rfl, e⟩
  · cases r2
    exact PySem.W.kia_one (kitx_exc c k) I.kIn ⟨oe, he, hc⟩ e (fun z => nomatch z) fun tk => ⟨.bl b, H, I.tok _, rfl, q⟩
  · cases r2
    exact PySem.W.kia_one (kitx_exc c k) I.kIn ⟨oe, he, hc⟩ e (fun z => nomatch z) fun tk => ⟨.bl b, H, I.tok _, rfl, q⟩
/-- isinstance(e, (C, D, ..)) -/
def rIsXT (K : PySem.W.Frag) (ea C : Addr) : List V → Hp → VK → Prop := fun xs H Q => ∃ (tp : Addr) (Ds : List Addr) (b : Bool), xs = [.ref ea, .ref tp] ∧ H tp = some (.tup (Ds.map V.ref)) ∧ PySem.W.kitAny K (.ref C) (Ds.map Value.ref) = some b ∧ Q (.bl b) H
theorem vals_refs {Ds : List Addr} : ∀ {us : List Value}, Vals (Ds.map V.ref) us → us = Ds.map Value.ref := by
  induction Ds with
  | nil => intro us h; cases h; rfl
  | cons b r ih =>
    intro us h
    cases h with
    | cons h1 h2 => cases h1; rw [ih h2]; rfl
theorem call_isXT {ea C : Addr} {oe : Obj} {x : Str} (hK : X.K = K) (hp : (ea, oe) ∈ X.pn) (hc : oe.cls = .ref C) (c : ExC K X.mg x C) (k : ExK K C) : CallR X (.builtin "isinstance") (rIsXT K ea C) := by
  subst hK
  intro pins s σ H xs us Q I r h
  obtain ⟨tp, Ds, b, rfl, ht, e, q⟩ := h
  obtain ⟨u, v, rfl, r1, r2⟩ := vals2 r
  cases r1
  cases r2
  have he := (I.pin (ea, oe) (List.mem_append_left _ hp)).1
  obtain ⟨_, its, rv, ot, h1, h2, n, h3⟩ := (show ObjOk X.prog X.w H s.heap tp (.tup (Ds.map V.ref)) from I.hok tp _ ht)
  cases vals_refs rv
  obtain ⟨c1, d1, dt, sl⟩ := ot
  cases h2
  cases h3
  exact PySem.W.kia_tup (kitx_exc c k) I.kIn ⟨oe, he, hc⟩ h1 e (fun z => nomatch z) fun tk => ⟨.bl b, H, I.tok _, rfl, q⟩
end
end L2

namespace L2
open PySem PySem.Spec PyProof.Rows
section
variable {X : Cx} {pins : List (Addr × Obj)} {σ : St} {H : Hp} {s : Shared}
/-- a name of this frame goes: nothing is known of the names any more -/
theorem Inv.lost {h' : Heap} {m' : Str → Option Value} {t' : Nat} (I : Inv X pins σ H s) (hn : h'.Ns X.env.locals m') (sb : Heap.SameBut X.env.locals s.heap h') : Inv X pins (List.replicate X.N.length none) H { s with heap := h', toks := t' } := by
  have neL : ∀ b o, X.s₀.heap.get? b = some o → b ≠ X.env.locals := fun b o e => Nat.ne_of_lt (Nat.lt_of_lt_of_le (Heap.lt_size e) I.ok.above)
  refine ⟨I.ok, I.os, I.bare, ⟨fun b o e n hb hx => (sb.2 b (neL b o e)).trans (I.base.keep b o e n hb hx), fun b o e n hb hx => ?_, I.base.free, fun b o e hx => ?_, I.base.tups, I.base.frzs, I.base.tbls⟩, ⟨m', hn, fun j y v e1 e2 e3 => ?_⟩, fun y c e => ?_, I.free, I.freeC, fun p hp => ?_, fun b u e => ?_, List.length_replicate⟩
  · obtain ⟨sl, e1⟩ := I.base.slot b o e n hb hx
    exact ⟨sl, (sb.2 b (neL b o e)).trans e1⟩
  · obtain ⟨o', e1⟩ := I.base.there b o e hx
    exact ⟨o', (sb.2 b (neL b o e)).trans e1⟩
  · rw [List.getElem?_replicate] at e2
    split at e2 <;> cases e2
  · obtain ⟨w', z⟩ := I.cell y c e
    exact ⟨w', z.sameBut sb (I.cne y c e)⟩
  · obtain ⟨e, n, ne, nf, d⟩ := I.pin p hp
    exact ⟨(sb.2 p.1 ne).trans e, n, ne, nf, d⟩
  · refine (I.hok b u e).stay (fun c v hc q => (sb.2 c ?_).trans q) (fun _ q => q) fun _ _ q => q
    intro z
    rcases hc with hc | hc
    · rw [← hc, z, I.free] at e; cases e
    · rw [z, I.free] at hc; cases hc
end
abbrev onlyRet (D : Ends) : Ends := { nx := fun _ _ => False, rt := D.rt, bk := fun _ _ => False, ct := fun _ _ => False }
section
variable {X : Cx} {pins : List (Addr × Obj)} {σ : St} {H : Hp} {s : Shared} {ea C R : Addr} {B : Heap} {a0 : Value} {x n : Str} {i : Nat} {np pos : Pos} {b0 : Stmt} {suite : List Stmt} {rest : List ExceptHandler} {ts : TS} {D : Ends}
theorem caughtN (I : Inv X pins σ H s) (F : Flat X) (hN : X.N.Nodup) (hi : X.N[i]? = some n) (hln : X.env.kindOf n = some .local) (hln2 : X.env.scope.names.lookup n = some .local) (hb : X.base.StaysIn B) (fl : Heap.FlyingW B X.stack ea (.ref C) a0 s.heap) (pr : Priv X pins B H s.heap) (hg : Gl X x) (hm : X.mg x = some (.ref R)) (k : Fits X.K C R)
    (hs : ∀ oe, oe.cls = .ref C → PSs (X.within ea oe) (b0 :: suite) ts) (h : H ea = none → ts (onlyRet D) (σ.set i (some (.ref ea))) H) (hdb : (x == ("__debug__" : Str)) = false) :
    wpAny (model X.prog X.w) X.A (noteFrame (.ref ea) X.env) (fun _ s2 => wpAny (model X.prog X.w) X.A (setFlight (.ref ea) none) (fun _ s3 => wpAny (model X.prog X.w) X.A (handleBy (.ref ea) X.env (.ExceptHandler (some (.Name x np)) (some n) (b0 :: suite) pos :: rest)) (SP X pins D) X.xe s3) X.xe s2) X.xe s := by
  have hfr : X.A.frames = some (X.env :: X.outer) := by rw [I.ok.frames, F.st]
  have fl0 := fl
  rw [F.st] at fl
  refine wpAny_looks_onW hfr F.fr fl fun h4 held up4 => wpAny_landsW held fun h5 fl5 up5 => ?_
  rw [← F.st] at fl5
  have I5 := I.fly F hb fl0.1 fl5 (up4.trans up5) pr
  have pr5 : Priv X pins B H h5 := Priv.fly I F pr
  obtain ⟨oe, ws, e1, e2, e3, e4, e5, e6⟩ := fly_own F fl5 pr5
  have IY := I5.within e1 e3 e4 e5 e6
  refine wpAny_handleBy_cons (codeAny_handlers_test ?_) (by intro q; cases q)
  refine ld_glob (X := X.within ea oe) IY hg hm (exc_matches (K := X.K) IY.kIn e1 e2 k ?_) hdb
  refine codeAny_handlers_suite_as (lands_againW fl5 fun h6 fl6 up6 => ?_)
  have I6 := I5.fly F hb fl5.1 fl6 up6 pr5
  have pr6 : Priv X pins B H h6 := Priv.fly I5 F pr5
  obtain ⟨of, wf, f1, f2, f3, f4, f5, f6⟩ := fly_own F fl6 pr6
  have IZ := I6.within f1 f3 f4 f5 f6
  refine store_ok (X := X.within ea of) (v := .ref ea) IZ hN hi (.inl hln2) rfl (fun s2 I2 => ?_) (.inr hln2)
  refine wpAny_mono (hs of f2 pins s2 _ H (onlyRet D) I2 (h f4)) (fun f s' q => ?_) (fun _ _ z => z.elim)
  cases f with
  | next => obtain ⟨_, _, _, z⟩ := q; exact z.elim
  | brk => obtain ⟨_, _, _, z⟩ := q; exact z.elim
  | cont => obtain ⟨_, _, _, z⟩ := q; exact z.elim
  | ret u =>
    obtain ⟨v, σ', H', I', r, q⟩ := q
    have I'' := I'.without I.ok
    obtain ⟨m, hn, _⟩ := I''.loc
    have hcls : (X.env.scope.kind == .class || (X.env.scope.kind == .module && X.env.locals != X.env.globals)) = false := by rw [I.ok.kind]; rfl
    exact wpAny_nameGoes hln hn hcls fun h' m' hn' sb => ⟨v, _, H', I''.lost hn' sb, r, q⟩
end
section
variable {X : Cx}
/-- try: .. except X as n: .. (a suite that returns) -/
def tTryN (R : Addr) (i : Nat) (tb : TSX) (ts : Addr → Addr → TS) (K : PySem.W.Frag) (mg : Str → Option Value) : TS := fun D σ H =>
  tb D (fun σ' cls _ H' => ∃ C x, cls = .ref C ∧ Fits K C R ∧ ExC K mg x C ∧ ExK K C ∧ ∀ ea, H' ea = none → ts ea C (onlyRet D) (σ'.set i (some (.ref ea))) H') σ H
theorem ps_tryN {x n : Str} {R : Addr} {i : Nat} {b0 : Stmt} {body suite : List Stmt} {tb : TSX} {ts : Addr → Addr → TS} {np hpos pos : Pos} (F : Flat X) (hN : X.N.Nodup) (hg : Gl X x) (hm : X.mg x = some (.ref R)) (hb : PSXs X body tb)
    (hs : ∀ ea oe C y, oe.cls = .ref C → ExC X.K X.mg y C → ExK X.K C → PSs (X.within ea oe) (b0 :: suite) (ts ea C)) (hi : X.N[i]? = some n) (hln : X.env.kindOf n = some .local) (hln2 : X.env.scope.names.lookup n = some .local) (hdb : (x == ("__debug__" : Str)) = false) :
    PS X (.Try body [.ExceptHandler (some (.Name x np)) (some n) (b0 :: suite) hpos] [] [] pos) (tTryN R i tb ts X.K X.mg) := by
  intro pins s σ H D I h
  refine wpAny_Try_except (wpAny_mono (hb.h pins s σ H D _ I h) (fun f s1 q => ?_) (fun e s1 q => ?_))
  · cases f with
    | next =>
      obtain ⟨σ', H', I', q⟩ := q
      exact wpAny_execs_nil ⟨σ', H', I', q⟩
    | ret v => exact q
    | brk => exact q
    | cont => exact q
  · obtain ⟨σ', ea, cls, H', B, a0, rfl, I', hb', fl, pr, C, y, rfl, k, c, kk, q⟩ := q
    exact caughtN I' F hN hi hln hln2 hb' fl pr hg hm k (fun oe ho => hs ea oe C y ho c kk) (q ea) hdb
theorem qps_tryN (i : Nat) {x n : Str} {R : Addr} {b0 : Stmt} {body suite : List Stmt} {tb : TSX} {ts : Addr → Addr → TS} {np hpos pos : Pos} (K : PySem.W.Frag) (hK : X.K = K) (mg : Str → Option Value) (hmg : X.mg = mg) (F : Flat X) (hN : X.N.Nodup) (hg : Gl X x) (hm : mg x = some (.ref R)) (hb : PSXs X body tb)
    (hs : ∀ ea oe C y, oe.cls = .ref C → ExC K mg y C → ExK K C → QSs (X.within ea oe) (b0 :: suite) (ts ea C)) (hi : X.N[i]? = some n := by rfl) (hln : X.env.kindOf n = some .local := by rfl) (hln2 : X.env.scope.names.lookup n = some .local := by rfl) (hdb : (x == ("__debug__" : Str)) = false := by decide) :
    QS X (.Try body [.ExceptHandler (some (.Name x np)) (some n) (b0 :: suite) hpos] [] [] pos) (tTryN R i tb ts K mg) := ⟨by
  subst hK hmg
  exact ps_tryN F hN hg hm hb (fun ea oe C y h1 h2 h3 => (hs ea oe C y h1 h2 h3).h) hi hln hln2 hdb⟩
/-- an own class as a value -/
theorem qpe_cls {x : Str} {C : Addr} {pos : Pos} (hg : Gl X x) (hm : X.mg x = some (.ref C)) (hd : (x == ("__debug__" : Str)) = false := by decide) : QE X (.Name x pos) (tC (.ref C)) := ⟨pe_glob hg hm rfl hd⟩
end
end L2

namespace L2
open PySem PySem.Spec PyProof.Rows M36
/-- a list of lists of ints that may be written: its rows stand apart -/
structure Grid (H : Hp) (a : Addr) (rs : List Addr) (g : List (List Int)) : Prop where
  tp : H a = some (.lst (rs.map V.ref))
  row : ∀ (i : Nat) (r : Addr), rs[i]? = some r → ∃ ns : List Int, g[i]? = some ns ∧ H r = some (.lst (ns.map V.int))
  len : rs.length = g.length
  nd : rs.Nodup
  na : a ∉ rs
theorem Grid.same {H H' : Hp} {a : Addr} {rs : List Addr} {g : List (List Int)} (G : Grid H a rs g) (e : Same H H') : Grid H' a rs g :=
  ⟨e _ _ G.tp, fun i r h => let ⟨ns, h1, h2⟩ := G.row i r h; ⟨ns, h1, e _ _ h2⟩, G.len, G.nd, G.na⟩
theorem Grid.at {H : Hp} {a : Addr} {rs : List Addr} {g : List (List Int)} (G : Grid H a rs g) {i : Nat} {ns : List Int} (h : g[i]? = some ns) : ∃ r, rs[i]? = some r ∧ H r = some (.lst (ns.map V.int)) ∧ r ≠ a := by
  have hi : i < rs.length := by rw [G.len]; exact (List.getElem?_eq_some_iff.mp h).1
  obtain ⟨ms, h1, h2⟩ := G.row i rs[i] (by simp [hi])
  rw [h] at h1; cases h1
  exact ⟨rs[i], by simp [hi], h2, fun e => G.na (e ▸ List.getElem_mem hi)⟩
/-- a row is written -/
theorem Grid.put {H : Hp} {a r : Addr} {rs : List Addr} {g : List (List Int)} (G : Grid H a rs g) {i : Nat} {ms : List Int} (hr : rs[i]? = some r) : Grid (upd H r (.lst (ms.map V.int))) a rs (g.set i ms) := by
  have hra : a ≠ r := fun e => G.na (e ▸ List.mem_of_getElem? hr)
  have hi : i < rs.length := (List.getElem?_eq_some_iff.mp hr).1
  refine ⟨by rw [upd_ne hra]; exact G.tp, fun j r' h => ?_, by rw [List.length_set]; exact G.len, G.nd, G.na⟩
  by_cases hj : j = i
  · subst hj
    rw [hr] at h; cases h
    exact ⟨ms, by rw [List.getElem?_set_self (by rw [← G.len]; exact hi)], upd_same⟩
  · obtain ⟨ns, h1, h2⟩ := G.row j r' h
    refine ⟨ns, by rw [List.getElem?_set_ne (Ne.symm hj)]; exact h1, ?_⟩
    have : r' ≠ r := by
      rintro rfl
      obtain ⟨a1, b1⟩ := List.getElem?_eq_some_iff.mp h
      obtain ⟨a2, b2⟩ := List.getElem?_eq_some_iff.mp hr
      exact hj ((List.getElem_inj G.nd).mp (b1.trans b2.symm))
    rw [upd_ne this]; exact h2
def dI (ns : List Int) : List PyData := ns.map PyData.int
def dG (g : List (List Int)) : PyData := .list (g.map fun ns => .list (dI ns))
theorem dens_ints {K : PySem.W.Frag} {H : Hp} : ∀ (ns : List Int), Dens K H (ns.map V.int) (dI ns)
  | [] => .nil
  | o :: r => .cons (.int _) (dens_ints r)
theorem lay_ints : ∀ (ns : List Int), PyData.canLayAll0 (dI ns) = true
  | [] => rfl
  | o :: r => by
    show (PyData.canLay0 (.int _) && PyData.canLayAll0 (dI r)) = true
    rw [lay_ints r]; rfl
theorem depth_ints : ∀ (ns : List Int), PyData.depthAll (dI ns) = 0
  | [] => rfl
  | o :: r => by
    show max (PyData.depth (.int _)) (PyData.depthAll (dI r)) = 0
    rw [depth_ints r]; rfl
theorem dens_rows {K : PySem.W.Frag} {H : Hp} : ∀ (rs : List Addr) (g : List (List Int)), rs.length = g.length → (∀ (i : Nat) (r : Addr), rs[i]? = some r → ∃ ns : List Int, g[i]? = some ns ∧ H r = some (.lst (ns.map V.int))) → Dens K H (rs.map V.ref) (g.map fun ns => .list (dI ns))
  | [], [], _, _ => .nil
  | r :: rs, ns :: g, hl, h => by
    obtain ⟨ms, e1, e2⟩ := h 0 r rfl
    cases e1
    exact .cons (.lst (SqL.of e2) (dens_ints ns)) (dens_rows rs g (by simpa using hl) fun i r' hr => h (i + 1) r' hr)
theorem Grid.den {K : PySem.W.Frag} {H : Hp} {a : Addr} {rs : List Addr} {g : List (List Int)} (G : Grid H a rs g) : Den K H (.ref a) (dG g) := .lst (SqL.of G.tp) (dens_rows rs g G.len G.row)
theorem lay_rows : ∀ (g : List (List Int)), PyData.canLayAll0 (g.map fun ns => .list (dI ns)) = true
  | [] => rfl
  | o :: r => by
    show (PyData.canLayAll0 (dI o) && PyData.canLayAll0 _) = true
    rw [lay_rows r, lay_ints]; rfl
theorem depth_rows : ∀ (g : List (List Int)), PyData.depthAll (g.map fun ns => .list (dI ns)) ≤ 1
  | [] => by show 0 ≤ 1; decide
  | o :: r => by
    show max (PyData.depthAll (dI o) + 1) (PyData.depthAll _) ≤ 1
    have := depth_rows r
    rw [depth_ints]; omega
theorem lay_dG (g : List (List Int)) : (dG g).canLay0 = true := lay_rows g
theorem depth_dG (g : List (List Int)) : (dG g).depth ≤ 32 := by
  show PyData.depthAll _ + 1 ≤ 32
  have := depth_rows g
  omega

theorem iteI {c : Prop} [Decidable c] {A B : Prop} (h1 : c → A) (h2 : ¬ c → B) : if c then A else B := by
  by_cases h : c
  · rw [if_pos h]; exact h1 h
  · rw [if_neg h]; exact h2 h
/-- n rows of c numbers below 2^b either way -/
def Rect (n c b : Nat) (g : List (List Int)) : Prop := g.length = n ∧ ∀ ns ∈ g, ns.length = c ∧ ∀ x ∈ ns, -(2 ^ b) < x ∧ x < 2 ^ b
def gM (g : List (List Int)) (i j : Nat) : Int := (g.getD i []).getD j 0
/-- n rows of c ints, to be read -/
structure Mx2 (H : Hp) (a : Addr) (n c : Nat) (M : Nat → Nat → Int) : Prop where
  ex : ∃ rs : List Addr, rs.length = n ∧ H a = some (.lst (rs.map V.ref)) ∧ ∀ (i : Nat) (r : Addr), rs[i]? = some r → H r = some (.lst ((rowN c (M i)).map V.int))
theorem Mx2.same {H H' : Hp} {a : Addr} {n c : Nat} {M : Nat → Nat → Int} (h : Mx2 H a n c M) (e : Same H H') : Mx2 H' a n c M := by
  obtain ⟨rs, h1, h2, h3⟩ := h
  exact ⟨rs, h1, e _ _ h2, fun i r hi => e _ _ (h3 i r hi)⟩
theorem RowsAcc.mx2 {H H1 : Hp} {acc : Addr} {n c : Nat} {M : Nat → Nat → Int} (A : RowsAcc H H1 acc n fun i => rowN c (M i)) : Mx2 H1 acc n c M := by
  obtain ⟨⟨ts, h1, h3, h4, h5⟩, sm1, no⟩ := A
  exact ⟨ts, h1, h3, fun i r hi => (h4 i r hi).1⟩
theorem rowN_of {c : Nat} {ns : List Int} (hl : ns.length = c) : rowN c (fun j => ns.getD j 0) = ns := by
  apply List.ext_getElem?
  intro j
  unfold rowN
  by_cases hj : j < c
  · rw [List.getElem?_map, List.getElem?_range hj]
    show some (ns.getD j 0) = _
    rw [List.getD_eq_getElem?_getD, List.getElem?_eq_getElem (by omega)]; rfl
  · rw [List.getElem?_eq_none (by rw [List.length_map, List.length_range]; omega), List.getElem?_eq_none (by omega)]
theorem gM_row {g : List (List Int)} {i : Nat} {ns : List Int} (h : g[i]? = some ns) : gM g i = fun j => ns.getD j 0 := by
  funext j
  unfold gM
  rw [List.getD_eq_getElem?_getD (l := g), h]; rfl
theorem Grid.mx2 {H : Hp} {a : Addr} {rs : List Addr} {g : List (List Int)} {n c b : Nat} (G : Grid H a rs g) (hG : Rect n c b g) : Mx2 H a n c (gM g) := by
  refine ⟨rs, by rw [G.len, hG.1], G.tp, fun i r hi => ?_⟩
  obtain ⟨ns, h1, h2⟩ := G.row i r hi
  rw [gM_row h1, rowN_of (hG.2 ns (List.mem_of_getElem? h1)).1]; exact h2
/-- the list of lists of a function -/
def gOf (n c : Nat) (M : Nat → Nat → Int) : List (List Int) := (List.range n).map fun i => rowN c (M i)
theorem Mx2.den {K : PySem.W.Frag} {H : Hp} {a : Addr} {n c : Nat} {M : Nat → Nat → Int} (h : Mx2 H a n c M) : Den K H (.ref a) (dG (gOf n c M)) := by
  obtain ⟨rs, h1, h2, h3⟩ := h
  refine .lst (SqL.of h2) (dens_rows rs (gOf n c M) (by unfold gOf; rw [List.length_map, List.length_range, h1]) fun i r hi => ?_)
  have hin : i < n := by rw [← h1]; exact (List.getElem?_eq_some_iff.mp hi).1
  exact ⟨rowN c (M i), by unfold gOf; rw [List.getElem?_map, List.getElem?_range hin]; rfl, h3 i r hi⟩
/-- a new list of n rows of c ints -/
structure New2 (H0 H : Hp) (a : Addr) (n c : Nat) (M : Nat → Nat → Int) : Prop where
  ex : ∃ rs : List Addr, rs.length = n ∧ H a = some (.lst (rs.map V.ref)) ∧ ∀ (i : Nat) (r : Addr), rs[i]? = some r → H r = some (.lst ((rowN c (M i)).map V.int)) ∧ H0 r = none
  no : H0 a = none
theorem New2.mx {H0 H : Hp} {a : Addr} {n c : Nat} {M : Nat → Nat → Int} (h : New2 H0 H a n c M) : Mx2 H a n c M := by
  obtain ⟨⟨rs, h1, h2, h3⟩, _⟩ := h
  exact ⟨rs, h1, h2, fun i r hi => (h3 i r hi).1⟩
theorem New2.same {H0 H H' : Hp} {a : Addr} {n c : Nat} {M : Nat → Nat → Int} (h : New2 H0 H a n c M) (e : Same H H') : New2 H0 H' a n c M := by
  obtain ⟨⟨rs, h1, h2, h3⟩, h4⟩ := h
  exact ⟨⟨rs, h1, e _ _ h2, fun i r hi => ⟨e _ _ (h3 i r hi).1, (h3 i r hi).2⟩⟩, h4⟩
theorem New2.old {H0 H1 H : Hp} {a : Addr} {n c : Nat} {M : Nat → Nat → Int} (h : New2 H1 H a n c M) (e : Same H0 H1) : New2 H0 H a n c M := by
  obtain ⟨⟨rs, h1, h2, h3⟩, h4⟩ := h
  exact ⟨⟨rs, h1, h2, fun i r hi => ⟨(h3 i r hi).1, e.gone (h3 i r hi).2⟩⟩, e.gone h4⟩
theorem New2.congr {H0 H : Hp} {a : Addr} {n c : Nat} {M M' : Nat → Nat → Int} (h : New2 H0 H a n c M) (e : ∀ i j, i < n → j < c → M i j = M' i j) : New2 H0 H a n c M' := by
  obtain ⟨⟨rs, h1, h2, h3⟩, h4⟩ := h
  refine ⟨⟨rs, h1, h2, fun i r hi => ?_⟩, h4⟩
  have hin : i < n := by rw [← h1]; exact (List.getElem?_eq_some_iff.mp hi).1
  rw [← rowN_congr fun j hj => e i j hin hj]
  exact h3 i r hi
/-! floor division by great numbers -/
end L2

namespace L2
open PySem PySem.Spec PyProof.Rows
/-! ### a dict while a loop walks it -/
section
variable {X : Cx} {pins : List (Addr × Obj)} {σ : St} {H : Hp} {s : Shared} {d : Addr} {kvs : List (Key × V)}
end
section
variable {X : Cx}
end
end L2

namespace L2
open PySem PySem.Spec PyProof.Rows
/-! ### a list turned about: xs[::-1] -/
section
variable {X : Cx} {e k : Expr} {te tk : TE} {p2 pos : Pos}
end
end L2

namespace L2
open PySem PySem.Spec PyProof.Rows
/-! ### for k, v in d.items() -/
section
variable {X : Cx}
/-! ### {i: j} of two numbers -/
end
end L2

namespace L2
open PySem PySem.Spec PyProof.Rows
section
variable {X : Cx}
/-! ### xs.insert(k, y) -/
def rInsert : V → List V → Hp → VK → Prop := fun x vs H Q => ∃ l xs k y, x = .ref l ∧ vs = [.int k, y] ∧ H l = some (.lst xs) ∧ 0 ≤ k ∧ k ≤ xs.length ∧ xs.length < sizeLine ∧ Q .non (upd H l (.lst (xs.take k.toNat ++ [y] ++ xs.drop k.toNat)))
theorem mt_insert : MtM X "list.insert" rInsert := by
  intro pins s σ H x vs v us Q I rx rv h
  obtain ⟨l, xs, k, y, rfl, rfl, hH, h0, h1, hz, q⟩ := h
  cases rx
  obtain ⟨u, w', rfl, ru, rw'⟩ := rv.two
  obtain ⟨t, rfl⟩ := ru
  obtain ⟨z, its, n, r, hl, e⟩ := I.lstM hH
  have h2 : k < 2 ^ 63 := by
    have : (sizeLine : Int) < 2 ^ 63 := by decide
    omega
  have hfit : ¬ (!Builtin.List.listFitsIndex k) = true := by
    rw [fitsIndex_both (by omega) h2]
    exact Bool.false_ne_true
  refine call_meets F.slot_list_insert ⟨_, e, rfl⟩ F.entry_list_insert (F.args_list_insert_3 _ _ _) (AutoSeq1.list_insert_list_int_val_1 l its.toArray n k t w' hfit (by rw [List.size_toArray]; omega)) ⟨e, ?_⟩
  refine ⟨.non, _, I.lset (its' := its.take k.toNat ++ [w'] ++ its.drop k.toNat) (ys := xs.take k.toNat ++ [y] ++ xs.drop k.toNat) hH e ?_ (((r.take _).append (.cons rw' .nil)).append (r.drop _)) ?_, rfl, q⟩
  · show (have k' := if k < 0 then (k + (its.toArray.size : Int)).toNat else min k.toNat its.toArray.size; (its.toArray.extract 0 k').push w' ++ its.toArray.extract k') = _
    have hk : (if k < 0 then (k + (its.toArray.size : Int)).toNat else min k.toNat its.toArray.size) = k.toNat := by
      rw [if_neg (by omega), List.size_toArray]; omega
    simp only [hk]
    apply Array.toList_inj.mp
    simp
    rw [List.take_of_length_le (by rw [List.length_drop]; omega)]
  · rw [List.length_append, List.length_append, List.length_take, List.length_drop, List.length_singleton]; omega
theorem pm_insertK (K : PySem.W.Frag) (hK : X.K = K) {o e1 e2 : Expr} {to t1 t2 : TE} {apos cpos : Pos} (ho : PE X o to) (h1 : PE X e1 t1) (h2 : PE X e2 t2) (hs : starEach [e1, e2] X.env = [(false, eval e1 X.env), (false, eval e2 X.env)]) (hs2 : starEach [e2] X.env = [(false, eval e2 X.env)]) (hbase : attributeBase o "insert" X.env (eval o X.env) = eval o X.env)
    (hfew : ((backTo cpos (starEach [e1, e2] X.env)).all (fun x => !x.1) && (backToKw cpos (keywordEach [] X.env)).all (fun x => x.1.isSome)
      && decide ([e1, e2].length + ([] : List Keyword).length + (if ([] : List Keyword).isEmpty then 0 else 1) < 30)) = true)
    (hline : (apos.endLine == cpos.line) = true) : PE X (.Call (.Attribute o "insert" apos) [e1, e2] [] cpos) (tBM K "list" rInsert to (tCons t1 (tCons t2 tNil))) := by
  subst hK
  exact pe_bm PySem.F.plainAttrs_list PySem.F.slot_list_insert PySem.F.type_list_insert mt_insert ho (pa_cons h1 (pa_cons h2 pa_nil (by rw [hs2]; rfl)) (by rw [hs, hs2])) hbase hfew hline (by rw [hs, hs2]) (by rw [hs2]; rfl)
theorem qpm_insertK (K : PySem.W.Frag) (hK : X.K = K) {o e1 e2 : Expr} {to t1 t2 : TE} {apos cpos : Pos} (ho : QE X o to) (h1 : QE X e1 t1) (h2 : QE X e2 t2) (hs : starEach [e1, e2] X.env = [(false, eval e1 X.env), (false, eval e2 X.env)]) (hs2 : starEach [e2] X.env = [(false, eval e2 X.env)]) (hbase : attributeBase o "insert" X.env (eval o X.env) = eval o X.env)
    (hfew : ((backTo cpos (starEach [e1, e2] X.env)).all (fun x => !x.1) && (backToKw cpos (keywordEach [] X.env)).all (fun x => x.1.isSome)
      && decide ([e1, e2].length + ([] : List Keyword).length + (if ([] : List Keyword).isEmpty then 0 else 1) < 30)) = true)
    (hline : (apos.endLine == cpos.line) = true) : QE X (.Call (.Attribute o "insert" apos) [e1, e2] [] cpos) (tBM K "list" rInsert to (tCons t1 (tCons t2 tNil))) := ⟨pm_insertK K hK ho.h h1.h h2.h hs hs2 hbase hfew hline⟩
end
/-! ### rows without a place, with one more -/
/-- the places of the longer row that stand in the shorter one -/
def up (p i : Nat) : Nat := if i < p then i else i + 1
def dn (p i : Nat) : Nat := if i < p then i else i - 1
theorem cut_lo {xs : List V} {p : Nat} (h : p ≤ xs.length) : cutV xs none (some (p : Int)) = xs.take p := by
  unfold cutV
  have : HT.sIx xs.length xs.length (some (p : Int)) = p := by
    show (if (p : Int) < 0 then ((p : Int) + (xs.length : Int)).toNat else min ((p : Int)).toNat xs.length) = p
    rw [if_neg (by omega)]; omega
  rw [this]
  show List.take (p - 0) (xs.drop 0) = _
  simp
theorem cut_hi {xs : List V} {p : Int} (h0 : 0 ≤ p) (h : p ≤ xs.length) : cutV xs (some p) none = xs.drop p.toNat := by
  unfold cutV
  have : HT.sIx xs.length 0 (some p) = p.toNat := by
    show (if p < 0 then (p + (xs.length : Int)).toNat else min p.toNat xs.length) = p.toNat
    rw [if_neg (by omega)]; omega
  rw [this]
  show List.take (xs.length - p.toNat) (xs.drop p.toNat) = _
  rw [List.take_of_length_le (by rw [List.length_drop]; omega)]
theorem less_map {α : Type} {f : Nat → α} {n p : Nat} (h : p < n + 1) : ((List.range (n + 1)).map f).take p ++ ((List.range (n + 1)).map f).drop (p + 1) = (List.range n).map fun i => f (up p i) := by
  apply List.ext_getElem
  · simp; omega
  · intro i h1 h2
    have hi : i < n := by simpa using h2
    rw [List.getElem_map, List.getElem_range]
    unfold up
    by_cases hip : i < p
    · rw [List.getElem_append_left (by simp; omega), if_pos hip]
      simp
    · rw [List.getElem_append_right (by simp; omega), if_neg hip]
      simp
      congr 1
      omega
theorem more_map {α : Type} {f : Nat → α} {x : α} {n p : Nat} (h : p ≤ n) : ((List.range n).map f).take p ++ [x] ++ ((List.range n).map f).drop p = (List.range (n + 1)).map fun i => if i = p then x else f (dn p i) := by
  apply List.ext_getElem
  · simp; omega
  · intro i h1 h2
    have hi : i < n + 1 := by simpa using h2
    rw [List.getElem_map, List.getElem_range]
    unfold dn
    by_cases hip : i < p
    · rw [List.getElem_append_left (by simp; omega), List.getElem_append_left (by simp; omega), if_neg (by omega), if_pos hip]
      simp
    · by_cases hie : i = p
      · subst hie
        rw [List.getElem_append_left (by simp; omega), List.getElem_append_right (by simp; omega), if_pos rfl]
        simp
      · rw [List.getElem_append_right (by simp; omega), if_neg hie, if_neg hip]
        simp
        congr 1
        omega
theorem dn_up {p i : Nat} : dn p (up p i) = i := by
  unfold dn up
  by_cases h : i < p
  · rw [if_pos h, if_pos h]
  · rw [if_neg h, if_neg (by omega)]; omega
theorem up_ne {p i : Nat} : up p i ≠ p := by unfold up; split <;> omega
theorem up_lt {p i n : Nat} (h : i < n) : up p i < n + 1 := by unfold up; split <;> omega
theorem dn_lt {p i n : Nat} (h : i < n + 1) (hp : p ≤ n) (hi : i ≠ p) : dn p i < n := by unfold dn; split <;> omega
end L2

namespace L2
open PySem PySem.Spec PyProof.Rows
/-! ### min and max of a list of ints -/
def rMinL (K : PySem.W.Frag) : List V → Hp → VK → Prop := fun xs H Q => ∃ (a : Addr) (ns : List Int), xs = [.ref a] ∧ SqL K H a (ns.map V.int) ∧ ns ≠ [] ∧ ∀ M, M ∈ ns → (∀ x ∈ ns, M ≤ x) → Q (.int M) H
def rMaxL (K : PySem.W.Frag) : List V → Hp → VK → Prop := fun xs H Q => ∃ (a : Addr) (ns : List Int), xs = [.ref a] ∧ SqL K H a (ns.map V.int) ∧ ns ≠ [] ∧ ∀ M, M ∈ ns → (∀ x ∈ ns, x ≤ M) → Q (.int M) H
section
variable {X : Cx}
theorem call_minLK (K : PySem.W.Frag) (hK : X.K = K) (hc : X.calm = true) : CallR X (.builtin "min") (rMinL K) := by
  subst hK
  intro pins s σ H xs us Q I r h
  obtain ⟨a, ns, rfl, hq, hne, q⟩ := h
  obtain ⟨u, rfl, r1⟩ := vals1 r
  cases r1
  obtain ⟨its, rv, p, hz⟩ := I.list hq
  have hi := intsAre_of rv
  obtain ⟨zs, ez⟩ := hi.allInts.items
  have hl := p.isList
  rw [ez] at hl
  have e3 : ns = zs.toList.map (fun x => x.1) := by
    have e2 := hi.numsOf
    have e3 := nums_intItems (xs := zs)
    rw [← ez] at e3
    exact e2.symm.trans e3
  have hsz : 0 < zs.size := by
    have : 0 < ns.length := List.length_pos_iff.mpr hne
    rw [e3, List.length_map, Array.length_toList] at this; exact this
  refine min_intList (I.ok.hd hc) hl hsz fun v h' tk hv hk => ?_
  obtain ⟨t, rfl⟩ := intItems_at hv
  obtain ⟨h1, h2⟩ := argBest_lt (numAt zs) (zs.size - 1)
  refine ⟨.int _, H, I.kept hk, ⟨_, rfl⟩, q _ ?_ fun x hx => ?_⟩
  · rw [e3, numAt_eq]; exact getD_mem (by rw [List.length_map, Array.length_toList]; omega)
  · rw [e3] at hx
    obtain ⟨j, hj, rfl⟩ := mem_getD hx
    rw [List.length_map, Array.length_toList] at hj
    rw [← numAt_eq]; exact h2 j (by omega)
theorem call_maxLK (K : PySem.W.Frag) (hK : X.K = K) (hc : X.calm = true) : CallR X (.builtin "max") (rMaxL K) := by
  subst hK
  intro pins s σ H xs us Q I r h
  obtain ⟨a, ns, rfl, hq, hne, q⟩ := h
  obtain ⟨u, rfl, r1⟩ := vals1 r
  cases r1
  obtain ⟨its, rv, p, hz⟩ := I.list hq
  have hi := intsAre_of rv
  obtain ⟨zs, ez⟩ := hi.allInts.items
  have hl := p.isList
  rw [ez] at hl
  have e3 : ns = zs.toList.map (fun x => x.1) := by
    have e2 := hi.numsOf
    have e3 := nums_intItems (xs := zs)
    rw [← ez] at e3
    exact e2.symm.trans e3
  have hsz : 0 < zs.size := by
    have : 0 < ns.length := List.length_pos_iff.mpr hne
    rw [e3, List.length_map, Array.length_toList] at this; exact this
  refine max_intList (I.ok.hd hc) hl hsz fun v h' tk hv hk => ?_
  obtain ⟨t, rfl⟩ := intItems_at hv
  obtain ⟨h1, h2⟩ := argBest_gt (numAt zs) (zs.size - 1)
  refine ⟨.int _, H, I.kept hk, ⟨_, rfl⟩, q _ ?_ fun x hx => ?_⟩
  · rw [e3, numAt_eq]; exact getD_mem (by rw [List.length_map, Array.length_toList]; omega)
  · rw [e3] at hx
    obtain ⟨j, hj, rfl⟩ := mem_getD hx
    rw [List.length_map, Array.length_toList] at hj
    rw [← numAt_eq]; exact h2 j (by omega)
end
end L2

local macro_rules | `(tactic| walk_at "rd") => `(tactic| simp only [L2.tFor_eq, L2.tSeq, L2.tNext, L2.tIfS, L2.tRet, L2.tRetN, L2.tDrop, L2.tAsg, L2.gName, L2.gTup, L2.gCons, L2.gNil, L2.gSub, L2.tVar, L2.tC, L2.tOp, L2.tUn, L2.tTest, L2.tB, L2.tCB, L2.tCall, L2.tCons, L2.tNil, L2.tTup, L2.tLst, L2.tIf, L2.tAnd, L2.tOr, L2.tNot, L2.tAndV, L2.tOrV, L2.tNotV, L2.tAug, L2.tAugS, L2.ipI, L2.tLC, L2.tIfB, L2.tEmit, L2.tLR,
  L2.rI, L2.rI0, L2.rU, L2.rEq, L2.rNe, L2.scal, L2.iRng1, L2.iRng2, L2.iList, L2.iTup, L2.iEnum, L2.tChain, L2.rInsert, L2.tSl, L2.tPart, L2.tNoPart, L2.rSlL, L2.rIn, L2.rMinL, L2.rMaxL, L2.tRaise, L2.tTry0, L2.tTryN, L2.rIsX, L2.rIsXT, L2.xE, L2.xCall, L2.xTup2, L2.xIsT, L2.xS, L2.xRet, L2.xSet, L2.xDrop, L2.xIf, L2.xNext, L2.xSeq, L2.iZip, L2.rLen, L2.rAll, L2.rAny, L2.rSum, L2.rIsi, L2.rListOf, L2.rIxL, L2.rIxT, L2.rGetL, L2.rSetL, L2.rEqD, L2.rAppend, L2.rPopAt, L2.rReverse, L2.rCat, L2.tBM, L2.tBM0, L2.capS, L2.capN, id,
  List.map_cons, List.map_nil, List.append_nil, List.nil_append, List.cons_append, List.getElem?_cons_zero, List.getElem?_cons_succ, List.set_cons_zero, List.set_cons_succ, Option.some.injEq, L2.V.int.injEq, L2.V.ref.injEq, L2.V.bl.injEq, L2.V.str.injEq, List.cons.injEq, and_true, true_and, exists_eq_left', exists_eq_left, exists_and_left, decide_eq_true_eq, Option.join_some, if_true, if_false])
namespace K57
open PySem PySem.Spec PyProof.Rows L2
def top (i : Nat) : Stmt := PySem.Challenge.pw_foreverrows_k57_laid.main.body.getD i (.Pass ⟨0, 0, 0, 0⟩)
theorem ifT {c A B : Prop} [Decidable c] (h : c) (a : A) : if c then A else B := by rw [if_pos h]; exact a
theorem ifF {c A B : Prop} [Decidable c] (h : ¬ c) (b : B) : if c then A else B := by rw [if_neg h]; exact b
structure Blt (mg : Str → Option Value) : Prop where
  len : mg "len" = none
  range : mg "range" = none
  enumerate : mg "enumerate" = none
  list : mg "list" = none
  tuple : mg "tuple" = none
  min : mg "min" = none
  int : mg "int" = none
  bool : mg "bool" = none
  isinstance : mg "isinstance" = none
  all : mg "all" = none
  any : mg "any" = none
  sum : mg "sum" = none
  zip : mg "zip" = none
  max : mg "max" = none
section
variable {P : Program} {w : World} {K : PySem.W.Frag} {mg : Str → Option Value} {base : Heap}
-- _law_cell_at  N = [(0, '_law_script'), (1, '_law_k')]  cells = []
abbrev s_l_cell_at : Stmt := top 16
theorem sc_l_cell_at : FnScope ["_law_script", "_law_k"] ["_law_script", "_law_k"] (defScope s_l_cell_at) := ⟨rfl, rfl, rfl, by decide +kernel, rfl, by decide +kernel, by decide +kernel⟩
def sp_cell (K : PySem.W.Frag) : Sp := fun vs H Q _ => ∃ (a : Addr) (ns : List Int) (k : Int), vs = [.ref a, .int k] ∧ SqL K H a (ns.map V.int) ∧ 0 ≤ k ∧ ∀ z : Int, Q (.int z) H
theorem ok_l_cell_at {f : Addr} {fd : FuncData} (F : Fun K "_law_cell_at" "_law_cell_at" s_l_cell_at f fd) (T : Blt mg) : FnOk P w K mg base CX0 1 f fd ["_law_script", "_law_k"] (sp_cell K) := by
  refine F.ok sc_l_cell_at (fun vs H Q E h => ?_) (fun cdv A outer s H vs Q E hr h => ?_)
  · obtain ⟨a, ns, k, rfl, _⟩ := h; rfl
  obtain ⟨a, ns, k, rfl, hS, hk, q⟩ := h
  refine qmk (qpss_cons (qps_if (qpt_cmpR op_lt (qpv 1) (qpe_callB (call_lenK K (by rfl)) (by rfl) (by exact T.len) (by decide +kernel) (qpa_cons (qpv 0) qpa_nil)) (nomark _)) (qpss_one (qps_ret (qpe_ix (ix_listK K (by rfl)) (qpv 0) (qpv 1) (fun _ _ => rfl)))) qpss_nil)
      (qpss_one (qps_ret qpe_int))) ?_
  show (_ : TS) _ [some (.ref a), some (.int k)] H
  walk_at "rd"
  refine ⟨_, .inl hS, ?_⟩
  refine ite2 (fun h1 => ?_) fun _ => q _
  have hlt : k.toNat < ns.length := by simp at h1; omega
  refine ⟨_, hS, _, ?_, q (ns[k.toNat])⟩
  have := atI_nat (xs := ns.map V.int) (j := k.toNat) (v := V.int ns[k.toNat]) (by simp [hlt])
  rw [show ((k.toNat : Nat) : Int) = k from Int.toNat_of_nonneg hk] at this
  exact this
-- _law_big  N = [(0, '_law_script'), (1, '_law_at'), (2, '_law_cell'), (3, '_law_primes'), (4, '_law_big_here'), (5, '_law_k'), (6, '_law_one')]  cells = []
abbrev s_l_big : Stmt := top 17
theorem sc_l_big : FnScope ["_law_script", "_law_at", "_law_cell", "_law_primes", "_law_big_here", "_law_k", "_law_one"] ["_law_script", "_law_at"] (defScope s_l_big) := ⟨rfl, rfl, rfl, by decide +kernel, rfl, by decide +kernel, by decide +kernel⟩
def sp_big (K : PySem.W.Frag) : Sp := fun vs H Q _ => ∃ (a : Addr) (ns : List Int) (k : Int), vs = [.ref a, .int k] ∧ SqL K H a (ns.map V.int) ∧ 0 ≤ k ∧ ∀ (z : Int) (H' : Hp), 0 ≤ z → Same H H' → Q (.int z) H'
theorem ok_l_big {f : Addr} {fd : FuncData} (F : Fun K "_law_big" "_law_big" s_l_big f fd) (T : Blt mg) (D_l_cell_at : Df P w K mg base "_law_cell_at" ["_law_script", "_law_k"] 1 (sp_cell K)) : FnOk P w K mg base CX0 2 f fd ["_law_script", "_law_at"] (sp_big K) := by
  refine F.ok sc_l_big (fun vs H Q E h => ?_) (fun cdv A outer s H vs Q E hr h => ?_)
  · obtain ⟨a, ns, k, rfl, _⟩ := h; rfl
  obtain ⟨a, ns, k, rfl, hS, hk, q⟩ := h
  refine qmk (qpss_cons (qpset 2 sc_l_big.nd (qpe_df (by exact D_l_cell_at) (by exact hr.mono (by decide)) (qpa_cons (qpv 0) (qpa_cons (qpv 1) qpa_nil))))
      (qpss_cons (qps_if (qpt_cmpR op_ge (qpv 2) (qpe_op op_pow qpe_int qpe_int) (nomark _)) (qpss_one (qps_ret (qpv 2))) qpss_nil)
      (qpss_cons (qpset 3 sc_l_big.nd (qpe_tup (qpa_ints (by rfl))))
      (qpss_cons (qpset 4 sc_l_big.nd qpe_int)
      (qpss_cons (qps_for PassesOwn.never rfl (qpi_range1 (by rfl) (by exact T.range) (qpa_cons qpe_int qpa_nil)) (qpgn 5 sc_l_big.nd) (qpss_cons (qpset 6 sc_l_big.nd (qpe_op op_add (qpe_op op_add (qpe_op op_mod (qpe_df (by exact D_l_cell_at) (by exact hr.mono (by decide)) (qpa_cons (qpv 0) (qpa_cons (qpe_op op_add (qpv 1) (qpe_op op_mod (qpv 5) qpe_int)) qpa_nil))) (qpe_op op_pow qpe_int qpe_int)) (qpe_op op_mul qpe_int (qpv 5))) qpe_int))
      (qpss_one (qpset 4 sc_l_big.nd (qpe_op op_add (qpe_op op_mul (qpv 4) qpe_int) (qpe_op op_mod (qpe_op op_mul (qpe_op op_mod (qpe_op op_add (qpe_op op_mul (qpv 6) (qpv 6)) (qpe_op op_mul qpe_int (qpv 5))) (qpe_ix (ix_tupK K (by rfl)) (qpv 3) (qpe_op op_mod (qpv 5) qpe_int) (fun _ _ => rfl))) (qpe_op op_add (qpv 5) qpe_int)) qpe_int))))))
      (qpss_one (qps_ret (qpv 4)))))))) ?_
  show (_ : TS) _ [some (.ref a), some (.int k), none, none, none, none, none] H
  walk_at "rd"
  refine ⟨a, ns, k, rfl, hS, hk, fun z => ?_⟩
  walk_at "rd"
  refine ⟨⟨by decide, by decide, by decide⟩, ite2 (fun hz => ?_) fun hz => ⟨by decide, fun p hp => ⟨by decide, by decide, ?_⟩⟩⟩
  · refine q z H ?_ (Same.refl H)
    have : (0 : Int) ≤ 10 ^ Int.toNat 18 := by decide
    omega
  refine loop_range (fun i σ H' => ∃ (b : Int) (x y : Option V), σ = [some (.ref a), some (.int k), some (.int z), some (.ref p), some (.int b), x, y] ∧ 0 ≤ b ∧ Same (upd H p (HO.tup [V.int 99989, V.int 99971, V.int 99961, V.int 99929, V.int 99923, V.int 99907, V.int 99901, V.int 99881, V.int 99877])) H')
    ⟨0, none, none, rfl, by decide, Same.refl _⟩ ?_ ?_
  · rintro i σ H' hi ⟨b, x, y, rfl, hb, sm⟩
    have sm0 : Same H H' := (Same.new hp).trans sm
    walk_at "rd"
    refine ⟨by decide, a, ns, _, rfl, sm0.seq hS, ?_, fun c => ?_⟩
    · have := Int.emod_nonneg (0 + (i : Int)) (show (9 : Int) ≠ 0 by decide); omega
    walk_at "rd"
    have hi' : i < 64 := hi
    have c1 : (10 : Int) ^ Int.toNat 18 = 1000000000000000000 := by decide
    rw [c1]
    have h0 := Int.emod_nonneg c (show (1000000000000000000 : Int) ≠ 0 by decide)
    have h1 := Int.emod_lt_of_pos c (show (0 : Int) < 1000000000000000000 by decide)
    have h9 := Int.emod_nonneg (0 + (i : Int)) (show (9 : Int) ≠ 0 by decide)
    have h9' := Int.emod_lt_of_pos (0 + (i : Int)) (show (0 : Int) < 9 by decide)
    refine ⟨⟨by decide, by decide, by decide⟩, by decide, .inl ⟨by decide, by decide⟩, .inr ⟨by decide, by decide⟩, .inl ⟨by omega, by omega⟩, .inl ⟨by decide, by decide⟩, by decide, ?_⟩
    have hT : SqT K H' p [V.int 99989, V.int 99971, V.int 99961, V.int 99929, V.int 99923, V.int 99907, V.int 99901, V.int 99881, V.int 99877] := SqT.of (sm p _ upd_same)
    obtain ⟨m, hm, em⟩ : ∃ m : Nat, m < 9 ∧ (0 + (i : Int)) % 9 = (m : Int) := ⟨((0 + (i : Int)) % 9).toNat, by omega, by omega⟩
    rw [em]
    obtain ⟨pr, hpr, hpp⟩ : ∃ pr : Int, [V.int 99989, V.int 99971, V.int 99961, V.int 99929, V.int 99923, V.int 99907, V.int 99901, V.int 99881, V.int 99877][m]? = some (V.int pr) ∧ 0 < pr ∧ pr < 100000 := by
      match m, hm with
      | 0, _ => exact ⟨_, rfl, by decide, by decide⟩
      | 1, _ => exact ⟨_, rfl, by decide, by decide⟩
      | 2, _ => exact ⟨_, rfl, by decide, by decide⟩
      | 3, _ => exact ⟨_, rfl, by decide, by decide⟩
      | 4, _ => exact ⟨_, rfl, by decide, by decide⟩
      | 5, _ => exact ⟨_, rfl, by decide, by decide⟩
      | 6, _ => exact ⟨_, rfl, by decide, by decide⟩
      | 7, _ => exact ⟨_, rfl, by decide, by decide⟩
      | 8, _ => exact ⟨_, rfl, by decide, by decide⟩
    refine ⟨_, hT, _, atI_nat hpr, pr, rfl, hpp.1, .inr ⟨by omega, by omega⟩, by decide, ?_⟩
    refine ⟨_, _, _, ⟨rfl, rfl, rfl⟩, ?_, sm⟩
    have := Int.emod_nonneg (((c % 1000000000000000000 + 7 * (0 + (i : Int)) + 1) * (c % 1000000000000000000 + 7 * (0 + (i : Int)) + 1) + 31 * (0 + (i : Int))) % pr * (0 + (i : Int) + 3)) (show (8191 : Int) ≠ 0 by decide)
    omega
  · rintro σ H' ⟨b, x, y, rfl, hb, sm⟩
    walk_at "rd"
    exact q b H' hb ((Same.new hp).trans sm)
-- _law_entry  N = [(0, '_law_big_here'), (1, '_law_way'), (2, '_law_left')]  cells = []
abbrev s_l_entry : Stmt := top 19
theorem sc_l_entry : FnScope ["_law_big_here", "_law_way", "_law_left"] ["_law_big_here", "_law_way", "_law_left"] (defScope s_l_entry) := ⟨rfl, rfl, rfl, by decide +kernel, rfl, by decide +kernel, by decide +kernel⟩
def sp_entry (K : PySem.W.Frag) : Sp := fun vs H Q _ => ∃ (b wy l : Int), vs = [.int b, .int wy, .int l] ∧ 0 ≤ b ∧ 0 ≤ l ∧ ∀ (x b' : Int) (p : Addr) (H' : Hp), 0 ≤ x → x ≤ l → 0 ≤ b' → Same H H' → SqT K H' p [.int x, .int b'] → Q (.ref p) H'
theorem ok_l_entry {f : Addr} {fd : FuncData} (F : Fun K "_law_entry" "_law_entry" s_l_entry f fd) (T : Blt mg) : FnOk P w K mg base CX0 1 f fd ["_law_big_here", "_law_way", "_law_left"] (sp_entry K) := by
  refine F.ok sc_l_entry (fun vs H Q E h => ?_) (fun cdv A outer s H vs Q E hr h => ?_)
  · obtain ⟨b, wy, l, rfl, _⟩ := h; rfl
  obtain ⟨b, wy, l, rfl, hb, hl, q⟩ := h
  refine qmk (qpss_cons (qps_if (qpt_cmpR op_eq (qpv 1) qpe_int (nomark _)) (qpss_one (qps_ret (qpe_tup (qpa_cons (qpe_callB (call_min2 (by rfl)) (by rfl) (by exact T.min) (by decide +kernel) (qpa_cons (qpe_op op_mod (qpv 0) qpe_int) (qpa_cons (qpv 2) qpa_nil))) (qpa_cons (qpe_op op_fdiv (qpv 0) qpe_int) qpa_nil))))) qpss_nil)
      (qpss_cons (qps_if (qpt_cmpR op_eq (qpv 1) qpe_int (nomark _)) (qpss_one (qps_ret (qpe_tup (qpa_cons (qpe_callB (call_min2 (by rfl)) (by rfl) (by exact T.min) (by decide +kernel) (qpa_cons (qpe_callTy call_int1 (by rfl) (by exact T.int) (by decide +kernel) (qpa_cons (qpe_cmpR op_eq (qpe_op op_mod (qpv 0) qpe_int) qpe_int (nomark _)) qpa_nil)) (qpa_cons (qpv 2) qpa_nil))) (qpa_cons (qpe_op op_fdiv (qpv 0) qpe_int) qpa_nil))))) qpss_nil)
      (qpss_cons (qps_if (qpt_cmpR op_eq (qpv 1) qpe_int (nomark _)) (qpss_one (qps_ret (qpe_tup (qpa_cons (qpe_callB (call_min2 (by rfl)) (by rfl) (by exact T.min) (by decide +kernel) (qpa_cons (qpe_ix (ix_tupK K (by rfl)) (qpe_tup (qpa_ints (by rfl))) (qpe_op op_mod (qpv 0) qpe_int) (fun _ _ => rfl)) (qpa_cons (qpv 2) qpa_nil))) (qpa_cons (qpe_op op_fdiv (qpv 0) qpe_int) qpa_nil))))) qpss_nil)
      (qpss_one (qps_ret (qpe_tup (qpa_cons (qpe_callB (call_min2 (by rfl)) (by rfl) (by exact T.min) (by decide +kernel) (qpa_cons (qpe_callTy call_int1 (by rfl) (by exact T.int) (by decide +kernel) (qpa_cons (qpe_cmpR op_eq (qpe_op op_mod (qpv 0) qpe_int) qpe_int (nomark _)) qpa_nil)) (qpa_cons (qpv 2) qpa_nil))) (qpa_cons (qpe_op op_fdiv (qpv 0) qpe_int) qpa_nil)))))))) ?_
  show (_ : TS) _ [some (.int b), some (.int wy), some (.int l)] H
  walk_at "rd"
  have fin : ∀ (y b' : Int) (H1 : Hp), 0 ≤ y → 0 ≤ b' → Same H H1 → ∀ p, H1 p = none → Q (.ref p) (upd H1 p (.tup [.int (if l < y then l else y), .int b'])) := by
    intro y b' H1 hy hb' sm p hp
    exact q _ b' p _ (by split <;> omega) (by split <;> omega) hb' (sm.put (sm.gone hp)) (SqT.of upd_same)
  have d41 : 0 ≤ b / 41 := Int.ediv_nonneg hb (by decide)
  have d3 : 0 ≤ b / 3 := Int.ediv_nonneg hb (by decide)
  have d8 : 0 ≤ b / 8 := Int.ediv_nonneg hb (by decide)
  have d7 : 0 ≤ b / 7 := Int.ediv_nonneg hb (by decide)
  refine ite2 (fun _ => ?_) fun _ => ite2 (fun _ => ?_) fun _ => ite2 (fun _ => ?_) fun _ => ?_
  · exact ⟨by decide, _, _, ⟨rfl, rfl⟩, ⟨by decide, by decide⟩, (by show 2 ≤ sizeLine; decide), fin _ _ H (Int.emod_nonneg _ (by decide)) d41 (Same.refl H)⟩
  · exact ⟨by decide, .inr ⟨_, _, ⟨rfl, rfl⟩, ⟨by decide, by decide⟩, (by show 2 ≤ sizeLine; decide), fin _ _ H (by split <;> decide) d3 (Same.refl H)⟩⟩
  · refine ⟨by decide, fun p hp => ⟨by decide, _, SqT.of upd_same, ?_⟩⟩
    obtain ⟨m, hm, em⟩ : ∃ m : Nat, m < 8 ∧ b % 8 = (m : Int) := ⟨(b % 8).toNat, by omega, by omega⟩
    rw [em]
    obtain ⟨pr, hpr, hpp⟩ : ∃ pr : Int, [V.int 0, V.int 1, V.int 0, V.int 2, V.int 0, V.int 0, V.int 1, V.int 3][m]? = some (V.int pr) ∧ 0 ≤ pr := by
      match m, hm with
      | 0, _ => exact ⟨_, rfl, by decide⟩
      | 1, _ => exact ⟨_, rfl, by decide⟩
      | 2, _ => exact ⟨_, rfl, by decide⟩
      | 3, _ => exact ⟨_, rfl, by decide⟩
      | 4, _ => exact ⟨_, rfl, by decide⟩
      | 5, _ => exact ⟨_, rfl, by decide⟩
      | 6, _ => exact ⟨_, rfl, by decide⟩
      | 7, _ => exact ⟨_, rfl, by decide⟩
    exact ⟨_, atI_nat hpr, _, _, ⟨rfl, rfl⟩, ⟨by decide, by decide⟩, (by show 2 ≤ sizeLine; decide), fin _ _ _ hpp d8 (Same.new hp)⟩
  · exact ⟨by decide, .inr ⟨_, _, ⟨rfl, rfl⟩, ⟨by decide, by decide⟩, (by show 2 ≤ sizeLine; decide), fin _ _ H (by split <;> decide) d7 (Same.refl H)⟩⟩
-- _law_order  N = [(0, '_law_many'), (1, '_law_big_here'), (2, '_law_rest'), (3, '_law_order_here')]  cells = []
abbrev s_l_order : Stmt := top 18
theorem sc_l_order : FnScope ["_law_many", "_law_big_here", "_law_rest", "_law_order_here"] ["_law_many", "_law_big_here"] (defScope s_l_order) := ⟨rfl, rfl, rfl, by decide +kernel, rfl, by decide +kernel, by decide +kernel⟩
def sp_order (K : PySem.W.Frag) : Sp := fun vs H Q _ => ∃ (n : Nat) (b : Int), vs = [.int n, .int b] ∧ n ≤ 100 ∧ 0 ≤ b ∧ ∀ (os : List Nat) (l : Addr) (H' : Hp), os.length = n → (∀ o ∈ os, o < n) → H l = none → Same H H' → H' l = some (.lst (os.map fun (o : Nat) => V.int (o : Int))) → Q (.ref l) H'
theorem map_erase {α β : Type} (f : α → β) : ∀ (l : List α) (j : Nat), (l.map f).eraseIdx j = (l.eraseIdx j).map f
  | [], _ => rfl
  | _ :: _, 0 => rfl
  | a :: l, j + 1 => by
    show f a :: (l.map f).eraseIdx j = f a :: (l.eraseIdx j).map f
    rw [map_erase f l j]
theorem den_nats {K : PySem.W.Frag} {H : Hp} : ∀ (os : List Nat), Dens K H (os.map fun (o : Nat) => V.int (o : Int)) (os.map fun (o : Nat) => PyData.int (o : Int))
  | [] => .nil
  | o :: r => .cons (.int _) (den_nats r)
theorem lay_nats : ∀ (os : List Nat), PyData.canLayAll0 (os.map fun (o : Nat) => PyData.int (o : Int)) = true
  | [] => rfl
  | o :: r => by
    show (PyData.canLay0 (.int _) && PyData.canLayAll0 _) = true
    rw [lay_nats r]; rfl
theorem depth_nats : ∀ (os : List Nat), PyData.depthAll (os.map fun (o : Nat) => PyData.int (o : Int)) = 0
  | [] => rfl
  | o :: r => by
    show max (PyData.depth (.int _)) (PyData.depthAll _) = 0
    rw [depth_nats r]; rfl
theorem ok_l_order {f : Addr} {fd : FuncData} (F : Fun K "_law_order" "_law_order" s_l_order f fd) (T : Blt mg) : FnOk P w K mg base CX0 1 f fd ["_law_many", "_law_big_here"] (sp_order K) := by
  refine F.ok sc_l_order (fun vs H Q E h => ?_) (fun cdv A outer s H vs Q E hr h => ?_)
  · obtain ⟨n, b, rfl, _⟩ := h; rfl
  obtain ⟨n, b, rfl, hn, hb, q⟩ := h
  refine qmk (qpss_cons (qpset 2 sc_l_order.nd (qpe_listrange (by rfl) (by rfl) (by exact T.list) (by rfl) (by exact T.range) (qpa_cons (qpv 0) qpa_nil)))
      (qpss_cons (qpset 3 sc_l_order.nd (qpe_lst qpa_nil))
      (qpss_cons (qps_while PassesOwn.never (qpt_cmpR (op_neK K (by rfl) (by exact hr.units)) (qpv 2) (qpe_lst qpa_nil) (nomark _)) (qpss_cons (qps_expr (qpm_appendK K (by rfl) (qpv 3) (qpm_popAtK K (by rfl) (qpv 2) (qpe_op op_mod (qpv 1) (qpe_callB (call_lenK K (by rfl)) (by rfl) (by exact T.len) (by decide +kernel) (qpa_cons (qpv 2) qpa_nil))) (by rfl) (by rfl) (by rfl)) (by rfl) (by rfl) (by rfl)))
      (qpss_one (qpset 1 sc_l_order.nd (qpe_op op_fdiv (qpv 1) (qpe_op op_add (qpe_callB (call_lenK K (by rfl)) (by rfl) (by exact T.len) (by decide +kernel) (qpa_cons (qpv 2) qpa_nil)) qpe_int))))))
      (qpss_one (qps_ret (qpv 3)))))) ?_
  show (_ : TS) _ [some (.int n), some (.int b), none, none] H
  walk_at "rd"
  refine ⟨n, rfl, by omega, fun r hr1 => ⟨by decide, fun l hl => ?_⟩⟩
  have hrl : r ≠ l := ne_of_none upd_same hl
  have hl0 : H l = none := by rw [upd_ne hrl.symm] at hl; exact hl
  refine ⟨fun m σ H' => ∃ (bb : Int) (rs os : List Nat), σ = [some (.int n), some (.int bb), some (.ref r), some (.ref l)] ∧ m = rs.length ∧ 0 ≤ bb ∧ Same H H' ∧ H' r = some (.lst (rs.map fun (o : Nat) => V.int (o : Int))) ∧ H' l = some (.lst (os.map fun (o : Nat) => V.int (o : Int))) ∧
    rs.length + os.length = n ∧ (∀ o ∈ rs, o < n) ∧ (∀ o ∈ os, o < n), ⟨_, b, List.range n, [], rfl, rfl, hb, (Same.new hr1).put hl0, ?_, upd_same, by simp, fun o ho => List.mem_range.mp ho, by simp⟩, ?_⟩
  · rw [upd_ne hrl, upd_same]
  rintro m σ H' ⟨bb, rs, os, rfl, rfl, hbb, sm, h1, h2, h3, h4, h5⟩
  walk_at "rd"
  refine ⟨by decide, fun e he => ?_⟩
  have her : r ≠ e := ne_of_none h1 he
  have hel : l ≠ e := ne_of_none h2 he
  have h1e : upd H' e (.lst []) r = some (.lst (rs.map fun (o : Nat) => V.int (o : Int))) := by rw [upd_ne her]; exact h1
  have h2e : upd H' e (.lst []) l = some (.lst (os.map fun (o : Nat) => V.int (o : Int))) := by rw [upd_ne hel]; exact h2
  have sme : Same H (upd H' e (.lst [])) := sm.put (sm.gone he)
  refine ⟨_, .lst (SqL.of h1e) (den_nats rs), _, .lst (SqL.of upd_same) .nil, lay_nats rs, rfl, ?_, ?_⟩
  · show PyData.depthAll _ + 1 ≤ 32
    rw [depth_nats]; decide
  cases rs with
  | nil =>
    refine iteF ?_
    exact q os l _ (by simpa using h3) h5 hl0 sme h2e
  | cons x rs =>
    refine iteT ?_
    obtain ⟨j, hj, ej⟩ : ∃ j : Nat, j < (x :: rs).length ∧ bb % (((x :: rs).length : Nat) : Int) = (j : Int) := by
      have h0 : (0 : Int) < (((x :: rs).length : Nat) : Int) := by rw [List.length_cons]; omega
      have := Int.emod_nonneg bb (Int.ne_of_gt h0)
      have := Int.emod_lt_of_pos bb h0
      exact ⟨(bb % (((x :: rs).length : Nat) : Int)).toNat, by omega, by omega⟩
    have hlm : ((x :: rs).map fun (o : Nat) => V.int (o : Int)).length = (x :: rs).length := List.length_map _
    have hl2 : (os.map fun (o : Nat) => V.int (o : Int)).length = os.length := List.length_map _
    refine ⟨_, fun σ' H' h => h, tyl (SqL.of h2e), tyl (SqL.of h1e), _, .inl (SqL.of h1e), ?_, _, h1e, ?_, ?_, j, ?_, _, List.getElem?_eq_getElem (by rw [hlm]; exact hj), _, (by rw [upd_ne hrl.symm]; exact h2e), ?_, _, .inl (SqL.of (by rw [upd_ne hrl]; exact upd_same)), ?_, ?_⟩
    · rw [hlm, List.length_cons]; omega
    · rw [hlm, ej]; omega
    · rw [hlm, ej]
      have : j ≤ 100 := by omega
      omega
    · rw [hlm, ej]; exact ixs hj
    · rw [hl2]; exact Nat.lt_of_le_of_lt (show os.length ≤ 100 by omega) (by decide)
    · refine ⟨by omega, ?_⟩
      have := len_erase ((x :: rs).map fun (o : Nat) => V.int (o : Int)) j
      omega
    · have e1 : ((x :: rs).map fun (o : Nat) => V.int (o : Int)).eraseIdx j = ((x :: rs).eraseIdx j).map fun (o : Nat) => V.int (o : Int) := map_erase _ _ _
      have e2 : ((x :: rs).eraseIdx j).length + 1 = (x :: rs).length := by rw [List.length_eraseIdx_of_lt hj]; omega
      refine ⟨((x :: rs).eraseIdx j).length, by omega, _, rfl, (x :: rs).eraseIdx j, rfl, ?_, (sme.put hr1).put hl0, ?_, os ++ [(x :: rs)[j]], ?_, ?_, ?_, ?_⟩
      · refine Int.ediv_nonneg hbb (by omega)
      · rw [upd_ne hrl, upd_same, e1]
      · rw [upd_same, List.map_append, List.getElem_map]; rfl
      · rw [List.length_append, List.length_singleton]; omega
      · intro o ho
        exact h4 o (List.mem_of_mem_eraseIdx ho)
      · intro o ho
        rcases List.mem_append.mp ho with ho | ho
        · exact h5 o ho
        · have : o = (x :: rs)[j] := by simpa using ho
          rw [this]
          exact h4 _ (List.getElem_mem hj)
end
end K57

namespace K57
open PySem PySem.Spec PyProof.Rows L2
/-- a list of lists of ints that may be written: its rows stand apart -/
structure Grid (H : Hp) (a : Addr) (rs : List Addr) (g : List (List Int)) : Prop where
  tp : H a = some (.lst (rs.map V.ref))
  row : ∀ (i : Nat) (r : Addr), rs[i]? = some r → ∃ ns : List Int, g[i]? = some ns ∧ H r = some (.lst (ns.map V.int))
  len : rs.length = g.length
  nd : rs.Nodup
  na : a ∉ rs
theorem Grid.same {H H' : Hp} {a : Addr} {rs : List Addr} {g : List (List Int)} (G : Grid H a rs g) (e : Same H H') : Grid H' a rs g :=
  ⟨e _ _ G.tp, fun i r h => let ⟨ns, h1, h2⟩ := G.row i r h; ⟨ns, h1, e _ _ h2⟩, G.len, G.nd, G.na⟩
theorem Grid.at {H : Hp} {a : Addr} {rs : List Addr} {g : List (List Int)} (G : Grid H a rs g) {i : Nat} {ns : List Int} (h : g[i]? = some ns) : ∃ r, rs[i]? = some r ∧ H r = some (.lst (ns.map V.int)) ∧ r ≠ a := by
  have hi : i < rs.length := by rw [G.len]; exact (List.getElem?_eq_some_iff.mp h).1
  obtain ⟨ms, h1, h2⟩ := G.row i rs[i] (by simp [hi])
  rw [h] at h1; cases h1
  exact ⟨rs[i], by simp [hi], h2, fun e => G.na (e ▸ List.getElem_mem hi)⟩
/-- a row is written -/
theorem Grid.put {H : Hp} {a r : Addr} {rs : List Addr} {g : List (List Int)} (G : Grid H a rs g) {i : Nat} {ms : List Int} (hr : rs[i]? = some r) : Grid (upd H r (.lst (ms.map V.int))) a rs (g.set i ms) := by
  have hra : a ≠ r := fun e => G.na (e ▸ List.mem_of_getElem? hr)
  have hi : i < rs.length := (List.getElem?_eq_some_iff.mp hr).1
  refine ⟨by rw [upd_ne hra]; exact G.tp, fun j r' h => ?_, by rw [List.length_set]; exact G.len, G.nd, G.na⟩
  by_cases hj : j = i
  · subst hj
    rw [hr] at h; cases h
    exact ⟨ms, by rw [List.getElem?_set_self (by rw [← G.len]; exact hi)], upd_same⟩
  · obtain ⟨ns, h1, h2⟩ := G.row j r' h
    refine ⟨ns, by rw [List.getElem?_set_ne (Ne.symm hj)]; exact h1, ?_⟩
    have : r' ≠ r := by
      rintro rfl
      obtain ⟨a1, b1⟩ := List.getElem?_eq_some_iff.mp h
      obtain ⟨a2, b2⟩ := List.getElem?_eq_some_iff.mp hr
      exact hj ((List.getElem_inj G.nd).mp (b1.trans b2.symm))
    rw [upd_ne this]; exact h2
/-- n rows of n numbers from 0 to m -/
def Good (n : Nat) (m : Int) (g : List (List Int)) : Prop := g.length = n ∧ ∀ ns ∈ g, ns.length = n ∧ ∀ x ∈ ns, 0 ≤ x ∧ x ≤ m
theorem Good.mono {n : Nat} {m m' : Int} {g : List (List Int)} (h : Good n m g) (hm : m ≤ m') : Good n m' g :=
  ⟨h.1, fun ns hn => ⟨(h.2 ns hn).1, fun x hx => ⟨((h.2 ns hn).2 x hx).1, Int.le_trans ((h.2 ns hn).2 x hx).2 hm⟩⟩⟩
theorem Good.set {n : Nat} {m : Int} {g : List (List Int)} (h : Good n m g) {i j : Nat} {ns : List Int} {x : Int} (hi : g[i]? = some ns) (h0 : 0 ≤ x) (h1 : x ≤ m) : Good n m (g.set i (ns.set j x)) := by
  refine ⟨by rw [List.length_set]; exact h.1, fun ms hm => ?_⟩
  rcases List.mem_or_eq_of_mem_set hm with hm | rfl
  · exact h.2 ms hm
  · have hn := h.2 ns (List.mem_of_getElem? hi)
    refine ⟨by rw [List.length_set]; exact hn.1, fun y hy => ?_⟩
    rcases List.mem_or_eq_of_mem_set hy with hy | rfl
    · exact hn.2 y hy
    · exact ⟨h0, h1⟩
theorem Good.get {n : Nat} {m : Int} {g : List (List Int)} (h : Good n m g) {i j : Nat} (hi : i < n) (hj : j < n) : ∃ (ns : List Int) (x : Int), g[i]? = some ns ∧ ns[j]? = some x ∧ 0 ≤ x ∧ x ≤ m ∧ ns.length = n := by
  have hi' : i < g.length := by rw [h.1]; exact hi
  have hn := h.2 g[i] (List.getElem_mem hi')
  have hj' : j < g[i].length := by rw [hn.1]; exact hj
  exact ⟨g[i], g[i][j], by simp [hi'], by simp [hj'], (hn.2 _ (List.getElem_mem hj')).1, (hn.2 _ (List.getElem_mem hj')).2, hn.1⟩
section
variable {P : Program} {w : World} {K : PySem.W.Frag} {mg : Str → Option Value} {base : Heap}
-- _law_table  N = [(0, '_law_big_here'), (1, '_law_places'), (2, '_law_way'), (3, '_law_left'), (4, '_law_table_here'), (5, '_law_order_here'), (6, '_law_k'), (7, '_law_i'), (8, '_law_j'), (9, '_law_many')]  cells = ['_law_places']
abbrev s_l_table : Stmt := top 20
theorem sc_l_table : FnScope ["_law_big_here", "_law_places", "_law_way", "_law_left", "_law_table_here", "_law_order_here", "_law_k", "_law_i", "_law_j", "_law_many"] ["_law_big_here"] (defScope s_l_table) := ⟨rfl, rfl, rfl, by decide +kernel, rfl, by decide +kernel, by decide +kernel⟩
def sp_table (K : PySem.W.Frag) : Sp := fun vs H Q _ => ∃ b : Int, vs = [.int b] ∧ 0 ≤ b ∧ ∀ (a : Addr) (rs : List Addr) (g : List (List Int)) (n : Nat) (H' : Hp), 1 ≤ n → n ≤ 6 → Good n 46 g → Grid H' a rs g → Same H H' → H a = none → (∀ r ∈ rs, H r = none) → Q (.ref a) H'
theorem ok_l_table {f : Addr} {fd : FuncData} (F : Fun K "_law_table" "_law_table" s_l_table f fd) (T : Blt mg) (D_l_order : Df P w K mg base "_law_order" ["_law_many", "_law_big_here"] 1 (sp_order K)) (D_l_entry : Df P w K mg base "_law_entry" ["_law_big_here", "_law_way", "_law_left"] 1 (sp_entry K)) : FnOk P w K mg base CX0 2 f fd ["_law_big_here"] (sp_table K) := by
  refine F.ok sc_l_table (fun vs H Q E h => ?_) (fun cdv A outer s H vs Q E hr h => ?_)
  · obtain ⟨b, rfl, _⟩ := h; rfl
  obtain ⟨b, rfl, hb, q⟩ := h
  refine qmk (qpss_cons (qpset 1 sc_l_table.nd (qpe_op op_add qpe_int (qpe_op op_mod (qpv 0) qpe_int)))
      (qpss_cons (qpset 2 sc_l_table.nd (qpe_op op_mod (qpe_op op_fdiv (qpv 0) qpe_int) qpe_int))
      (qpss_cons (qpset 0 sc_l_table.nd (qpe_op op_fdiv (qpv 0) qpe_int))
      (qpss_cons (qpset 3 sc_l_table.nd qpe_int)
      (qpss_cons (qps_setlc (i := 4) (hN := sc_l_table.nd) (hyi := rfl) (hy := rfl) (hc := rfl) (own := ["_law_i"]) (cap := [("_law_places", 1)]) (L := LcScope.of (by kernel_rfl)) (hi := (qpi_range1 (by rfl) (by exact T.range) (qpa_cons (qpv 1) qpa_nil))) (hin := (fun _ _ _ _ => ⟨(qpgn 0 (nd_of (by kernel_rfl))), qpts_nil, (qpb_emit (by rfl) (by rfl) (qpe_lc ["_law_j"] [] rfl (LcScope.of (by kernel_rfl)) (qpi_range1 (by rfl) (by exact T.range) (qpa_cons (qpv 1) qpa_nil)) (fun _ _ _ _ => ⟨(qpgn 0 (nd_of (by kernel_rfl))), qpts_nil, (qpb_emit (by rfl) (by rfl) qpe_int)⟩)))⟩)))
      (qpss_cons (qps_if (qpt_cmpR op_eq (qpv 2) qpe_int (nomark _)) (qpss_cons (qpset 5 sc_l_table.nd (qpe_df (by exact D_l_order) (by exact hr.mono (by decide)) (qpa_cons (qpv 1) (qpa_cons (qpv 0) qpa_nil))))
      (qpss_cons (qpset 0 sc_l_table.nd (qpe_op op_fdiv (qpv 0) qpe_int))
      (qpss_cons (qps_for PassesOwn.never rfl (qpi_range1 (by rfl) (by exact T.range) (qpa_cons (qpv 1) qpa_nil)) (qpgn 6 sc_l_table.nd) (qpss_one (qps_augS (qpe_ix (ix_listK K (by rfl)) (qpv 4) (qpe_ix (ix_listK K (by rfl)) (qpv 5) (qpe_op op_sub (qpv 6) qpe_int) (fun _ _ => rfl)) (fun _ _ => rfl)) (qpe_ix (ix_listK K (by rfl)) (qpv 5) (qpv 6) (fun _ _ => rfl)) (get_listK K (by rfl)) qpe_int ip_add set_list)))
      (qpss_one (qpset 3 sc_l_table.nd (qpe_op op_sub (qpv 3) (qpv 1))))))) qpss_nil)
      (qpss_cons (qps_for PassesOwn.never rfl (qpi_range1 (by rfl) (by exact T.range) (qpa_cons (qpv 1) qpa_nil)) (qpgn 7 sc_l_table.nd) (qpss_one (qps_for PassesOwn.never rfl (qpi_range1 (by rfl) (by exact T.range) (qpa_cons (qpv 1) qpa_nil)) (qpgn 8 sc_l_table.nd) (qpss_cons (qps_asg (qpe_df (by exact D_l_entry) (by exact hr.mono (by decide)) (qpa_cons (qpv 0) (qpa_cons (qpv 2) (qpa_cons (qpv 3) qpa_nil)))) (qpg_tupK K 2 (by rfl) (by rfl) (qpgs_cons (qpgn 9 sc_l_table.nd) (qpgs_cons (qpgn 0 sc_l_table.nd) qpgs_nil)) (by rfl) (by rfl)))
      (qpss_cons (qps_augS (qpe_ix (ix_listK K (by rfl)) (qpv 4) (qpv 7) (fun _ _ => rfl)) (qpv 8) (get_listK K (by rfl)) (qpv 9) ip_add set_list)
      (qpss_one (qpset 3 sc_l_table.nd (qpe_op op_sub (qpv 3) (qpv 9)))))))))
      (qpss_one (qps_ret (qpv 4)))))))))) ?_
  show (_ : TS) _ [some (.int b), none, none, none, none, none, none, none, none, none] H
  walk_at "rd"
  obtain ⟨n, hn1, hn6, en⟩ : ∃ n : Nat, 1 ≤ n ∧ n ≤ 6 ∧ 1 + b % 6 = (n : Int) := ⟨(1 + b % 6).toNat, by omega, by omega, by omega⟩
  simp only [en, Int.toNat_natCast]
  have b24 : 0 ≤ b / 24 := Int.ediv_nonneg hb (by decide)
  -- the two loops at the end
  have tail : ∀ (bb wy left : Int) (acc : Addr) (rs : List Addr) (g : List (List Int)) (x5 x6 : Option V) (H' : Hp), 0 ≤ bb → 0 ≤ left → Good n (46 - left) g → Grid H' acc rs g → Same H H' → H acc = none → (∀ r ∈ rs, H r = none) →
      loopT (Itr 0 n) (gName 7) (tFor (iRng1 (tCons (tVar 1) tNil)) (gName 8) (tSeq (tAsg (tCall (sp_entry K) [] E0 (tCons (tVar 0) (tCons (tVar 2) (tCons (tVar 3) tNil)))) (gTup K 2 (gCons (gName 9) (gCons (gName 0) gNil))))
        (tSeq (tAugS (tOp (rIxL K) (tVar 4) (tVar 7)) (tVar 8) (tVar 9) (rGetL K) (ipI fun i j => i + j) rSetL) (tAsg (tOp (rI0 fun i j => V.int (i - j)) (tVar 3) (tVar 9)) (gName 3)))))
        { nx := tRet (tVar 4) { nx := fun x H' => Q V.non H', rt := Q }, rt := Q } [some (V.int bb), some (V.int n), some (V.int wy), some (V.int left), some (V.ref acc), x5, x6, none, none, none] H' := by
    intro bb wy left acc rs g x5 x6 H' hbb hleft hG G sm ha hrs
    have inv : ∃ Pv : L2.St → Hp → Prop, Pv = fun σ H1 => ∃ (bb left : Int) (g : List (List Int)) (x7 x8 x9 : Option V), σ = [some (V.int bb), some (V.int n), some (V.int wy), some (V.int left), some (V.ref acc), x5, x6, x7, x8, x9] ∧ 0 ≤ bb ∧ 0 ≤ left ∧ Good n (46 - left) g ∧ Grid H1 acc rs g ∧ Same H H1 := ⟨_, rfl⟩
    obtain ⟨Pv, hPv⟩ := inv
    refine loop_range (fun _ σ H1 => Pv σ H1) (by rw [hPv]; exact ⟨bb, left, g, none, none, none, rfl, hbb, hleft, hG, G, sm⟩) ?_ ?_
    · intro i σ H1 hi h
      rw [hPv] at h
      obtain ⟨bb, left, g, x7, x8, x9, rfl, hbb, hleft, hG, G, sm⟩ := h
      walk_at "rd"
      simp only [Int.toNat_natCast]
      refine ⟨by omega, by omega, ?_⟩
      have inv2 : ∃ Pw : L2.St → Hp → Prop, Pw = fun σ H1 => ∃ (bb left : Int) (g : List (List Int)) (x8 x9 : Option V), σ = [some (V.int bb), some (V.int n), some (V.int wy), some (V.int left), some (V.ref acc), x5, x6, some (V.int (0 + (i : Int))), x8, x9] ∧ 0 ≤ bb ∧ 0 ≤ left ∧ Good n (46 - left) g ∧ Grid H1 acc rs g ∧ Same H H1 := ⟨_, rfl⟩
      obtain ⟨Pw, hPw⟩ := inv2
      refine loop_range (fun _ σ H1 => Pw σ H1) (by rw [hPw]; exact ⟨bb, left, g, _, _, rfl, hbb, hleft, hG, G, sm⟩) ?_ ?_
      · intro j σ H1 hj h
        rw [hPw] at h
        obtain ⟨bb, left, g, x8, x9, rfl, hbb, hleft, hG, G, sm⟩ := h
        walk_at "rd"
        refine ⟨bb, wy, left, rfl, hbb, hleft, fun x b' p H2 hx0 hx1 hb' sm2 hT => ?_⟩
        walk_at "rd"
        obtain ⟨ns, y, e1, e2, y0, y1, e3⟩ := hG.get hi hj
        have G2 := G.same sm2
        obtain ⟨r, er, hr2, hra⟩ := G2.at e1
        have hat : atI (rs.map V.ref) (0 + (i : Int)) = some (.ref r) := by
          rw [show (0 + (i : Int)) = ((i : Nat) : Int) by omega]
          exact atI_nat (by rw [List.getElem?_map, er]; rfl)
        have hix : ixN (ns.map V.int).length (0 + (j : Int)) = some j := by
          unfold ixN
          rw [List.length_map, e3, if_pos (by omega), if_pos (by omega)]
          congr 1; omega
        refine ⟨_, hT, rfl, _, _, rfl, _, _, rfl, rfl, _, SqL.of G2.tp, _, hat, ?_⟩
        walk_at "rd"
        refine ⟨_, j, by omega, SqL.of hr2, _, (by rw [List.getElem?_map, e2]; rfl), _, rfl, _, hr2, _, hix, ?_⟩
        rw [hPw]
        refine ⟨b', left - x, g.set i (ns.set j (y + x)), _, _, rfl, hb', by omega, ?_, ?_, ?_⟩
        · exact (hG.mono (by omega)).set e1 (by omega) (by omega)
        · have := G2.put (ms := ns.set j (y + x)) er
          rw [List.map_set] at this
          exact this
        · exact (sm.trans sm2).put (hrs r (List.mem_of_getElem? er))
      · intro σ H1 h
        rw [hPw] at h
        obtain ⟨bb, left, g, x8, x9, rfl, hbb, hleft, hG, G, sm⟩ := h
        show Pv _ _
        rw [hPv]
        exact ⟨bb, left, g, _, _, _, rfl, hbb, hleft, hG, G, sm⟩
    · intro σ H1 h
      rw [hPv] at h
      obtain ⟨bb, left, g, x7, x8, x9, rfl, hbb, hleft, hG, G, sm⟩ := h
      walk_at "rd"
      exact q acc rs g n H1 hn1 hn6 (hG.mono (by omega)) G sm ha hrs
  refine ⟨by decide, ⟨by decide, by decide⟩, by decide, ⟨by decide, by decide⟩, by omega, by omega, fun acc hacc => ?_⟩
  -- the empty table
  have inv3 : ∃ Pv : Nat → L2.St → Hp → Prop, Pv = fun i σ H1 => ∃ (rs : List Addr) (x0 : Option V), σ = [x0, some (.int n)] ∧ rs.length = i ∧ H1 acc = some (.lst (rs.map V.ref)) ∧ (∀ r ∈ rs, H1 r = some (.lst ((List.replicate n (0 : Int)).map V.int))) ∧ rs.Nodup ∧ (∀ r ∈ rs, H r = none ∧ r ≠ acc) ∧ Same H H1 := ⟨_, rfl⟩
  obtain ⟨Pv, hPv⟩ := inv3
  refine loop_range Pv (by rw [hPv]; exact ⟨[], none, rfl, rfl, upd_same, by simp, List.nodup_nil, by simp, Same.new hacc⟩) ?_ ?_
  · intro i σ H1 hi h
    rw [hPv] at h
    obtain ⟨rs, x0, rfl, hl, h1, h2, h3, h4, sm⟩ := h
    walk_at "rd"
    simp only [Int.toNat_natCast]
    refine ⟨by omega, by omega, fun r hr1 => ?_⟩
    have hra : acc ≠ r := ne_of_none h1 hr1
    have inv4 : ∃ Pw : Nat → L2.St → Hp → Prop, Pw = fun j σ H2 => H2 = upd H1 r (.lst ((List.replicate j (0 : Int)).map V.int)) ∧ ∃ x, σ = [x] := ⟨_, rfl⟩
    obtain ⟨Pw, hPw⟩ := inv4
    refine loop_range Pw (by rw [hPw]; exact ⟨rfl, none, rfl⟩) ?_ ?_
    · intro j σ H2 hj h
      rw [hPw] at h
      obtain ⟨rfl, x, rfl⟩ := h
      walk_at "rd"
      refine ⟨_, upd_same, ?_, ?_⟩
      · rw [List.length_map, List.length_replicate]; exact Nat.lt_of_lt_of_le hj (Nat.le_trans hn6 (by decide))
      · rw [hPw]
        refine ⟨?_, _, rfl⟩
        rw [upd_upd]
        congr 2
        rw [List.replicate_succ', List.map_append]; rfl
    · intro σ H2 h
      rw [hPw] at h
      obtain ⟨rfl, x, rfl⟩ := h
      refine ⟨_, (by rw [upd_ne hra]; exact h1), ?_, ?_⟩
      · rw [List.length_map, hl]; exact Nat.lt_of_lt_of_le hi (Nat.le_trans hn6 (by decide))
      rw [hPv]
      have hr0 : H r = none := sm.gone hr1
      refine ⟨rs ++ [r], _, rfl, by rw [List.length_append, List.length_singleton, hl], ?_, ?_, ?_, ?_, (sm.put hr0).put hacc⟩
      · rw [upd_same, List.map_append]; rfl
      · intro r' hr'
        rcases List.mem_append.mp hr' with z | z
        · rw [upd_ne (h4 r' z).2, upd_ne (ne_of_none (h2 r' z) hr1)]; exact h2 r' z
        · have : r' = r := by simpa using z
          subst this
          rw [upd_ne hra.symm, upd_same]
      · rw [List.nodup_append]
        refine ⟨h3, by simp, fun a ha b hb => ?_⟩
        have : b = r := by simpa using hb
        subst this
        exact ne_of_none (h2 a ha) hr1
      · intro r' hr'
        rcases List.mem_append.mp hr' with z | z
        · exact h4 r' z
        · have : r' = r := by simpa using z
          subst this
          exact ⟨hr0, hra.symm⟩
  · intro σ H1 h
    rw [hPv] at h
    obtain ⟨rs, x0, rfl, hl, h1, h2, h3, h4, sm⟩ := h
    have G0 : Grid H1 acc rs (List.replicate n (List.replicate n (0 : Int))) := by
      refine ⟨h1, fun i r h => ⟨List.replicate n 0, ?_, h2 r (List.mem_of_getElem? h)⟩, by rw [List.length_replicate]; exact hl, h3, fun z => (h4 acc z).2 rfl⟩
      rw [List.getElem?_replicate, if_pos]
      rw [← hl]; exact (List.getElem?_eq_some_iff.mp h).1
    have g0 : Good n 0 (List.replicate n (List.replicate n (0 : Int))) := ⟨List.length_replicate, fun ns hns => by
      rw [List.eq_of_mem_replicate hns]
      exact ⟨List.length_replicate, fun x hx => by rw [List.eq_of_mem_replicate hx]; exact ⟨by decide, by decide⟩⟩⟩
    have hrs : ∀ r ∈ rs, H r = none := fun r hr => (h4 r hr).1
    refine ite2 (fun _ => ?_) fun _ => ⟨by omega, by omega, tail (b / 24) _ 40 acc rs _ none none H1 b24 (by decide) (g0.mono (by decide)) G0 sm hacc hrs⟩
    refine ⟨n, b / 24, rfl, by omega, b24, fun os l H2 ho1 ho2 hl2 sm2 hlo => ⟨⟨by decide, by decide⟩, by omega, by omega, ?_⟩⟩
    have hlacc : l ≠ acc := fun e => by rw [e, h1] at hl2; cases hl2
    have hlr : ∀ r ∈ rs, l ≠ r := fun r hr e => by rw [e, h2 r hr] at hl2; cases hl2
    have inv5 : ∃ Pz : Nat → L2.St → Hp → Prop, Pz = fun (i : Nat) σ H3 => ∃ (g : List (List Int)) (x6 : Option V), σ = [some (V.int (b / 24 / 720)), some (V.int n), some (V.int (b / 6 % 4)), some (V.int 40), some (V.ref acc), some (V.ref l), x6, none, none, none] ∧ Good n i g ∧ Grid H3 acc rs g ∧ Same H H3 ∧ H3 l = some (.lst (os.map fun (o : Nat) => V.int (o : Int))) := ⟨_, rfl⟩
    obtain ⟨Pz, hPz⟩ := inv5
    refine loop_range Pz (by rw [hPz]; exact ⟨_, none, rfl, g0, G0.same sm2, sm.trans sm2, hlo⟩) ?_ ?_
    · intro i σ H3 hi h
      rw [hPz] at h
      obtain ⟨g, x6, rfl, hG, G, sm3, hlo3⟩ := h
      walk_at "rd"
      have hat : ∀ (j : Nat) (h : j < n), atI (os.map fun (o : Nat) => V.int (o : Int)) (j : Int) = some (V.int ((os[j]'(by omega) : Nat) : Int)) := fun j h => atI_nat (by rw [List.getElem?_map, List.getElem?_eq_getElem (by omega)]; rfl)
      obtain ⟨i1, hi1, ei1⟩ : ∃ i1 : Nat, i1 < n ∧ atI (os.map fun (o : Nat) => V.int (o : Int)) (0 + (i : Int) - 1) = some (V.int (i1 : Int)) := by
        by_cases hz : i = 0
        · subst hz
          have hne : os ≠ [] := by intro e; rw [e] at ho1; simp at ho1; omega
          refine ⟨os.getLast hne, ho2 _ (List.getLast_mem hne), ?_⟩
          have := atI_last (os.dropLast.map fun (o : Nat) => V.int (o : Int)) (V.int ((os.getLast hne : Nat) : Int))
          rw [show (os.map fun (o : Nat) => V.int (o : Int)) = (os.dropLast.map fun (o : Nat) => V.int (o : Int)) ++ [V.int ((os.getLast hne : Nat) : Int)] by
            conv => lhs; rw [← List.dropLast_concat_getLast hne]
            rw [List.map_append]; rfl]
          exact this
        · refine ⟨os[i - 1]'(by omega), ho2 _ (List.getElem_mem _), ?_⟩
          have := hat (i - 1) (by omega)
          rw [show (0 + (i : Int) - 1) = (((i - 1 : Nat)) : Int) by omega]
          exact this
      obtain ⟨j1, hj1, ej1⟩ : ∃ j1 : Nat, j1 < n ∧ atI (os.map fun (o : Nat) => V.int (o : Int)) (0 + (i : Int)) = some (V.int (j1 : Int)) := by
        refine ⟨os[i]'(by omega), ho2 _ (List.getElem_mem _), ?_⟩
        rw [show (0 + (i : Int)) = ((i : Nat) : Int) by omega]
        exact hat i hi
      obtain ⟨ns, y, e1, e2, y0, y1, e3⟩ := hG.get hi1 hj1
      obtain ⟨r, er, hr2, hra⟩ := G.at e1
      have hix : ixN (ns.map V.int).length (j1 : Int) = some j1 := by
        unfold ixN
        rw [List.length_map, e3, if_pos (by omega), if_pos (by omega)]
        congr 1
      have hrow : atI (rs.map V.ref) (i1 : Int) = some (.ref r) := atI_nat (by rw [List.getElem?_map, er]; rfl)
      refine ⟨_, SqL.of hlo3, _, ei1, _, _, rfl, SqL.of G.tp, _, hrow, _, SqL.of hlo3, _, ej1, _, rfl, _, j1, rfl, SqL.of hr2, _, (by rw [List.getElem?_map, e2]; rfl), _, rfl, _, rfl, _, _, rfl, hr2, _, hix, ?_⟩
      rw [hPz]
      refine ⟨g.set i1 (ns.set j1 (y + 1)), _, rfl, ?_, ?_, ?_, ?_⟩
      · exact (hG.mono (by omega)).set e1 (by omega) (by push_cast; omega)
      · have := G.put (ms := ns.set j1 (y + 1)) er
        rw [List.map_set] at this
        exact this
      · exact sm3.put (hrs r (List.mem_of_getElem? er))
      · rw [upd_ne (hlr r (List.mem_of_getElem? er))]; exact hlo3
    · intro σ H3 h
      rw [hPz] at h
      obtain ⟨g, x6, rfl, hG, G, sm3, hlo3⟩ := h
      walk_at "rd"
      simp only [Int.toNat_natCast]
      exact ⟨by omega, by omega, tail _ _ _ acc rs g _ _ H3 (Int.ediv_nonneg b24 (by decide)) (by omega) (hG.mono (by omega)) G sm3 hacc hrs⟩
end
end K57

namespace K57
open PySem PySem.Spec PyProof.Rows L2
section
variable {P : Program} {w : World} {K : PySem.W.Frag} {mg : Str → Option Value} {base : Heap}
-- without  N = [(0, 'numbers'), (1, 'p')]  cells = []
abbrev s_without : Stmt := top 12
theorem sc_without : FnScope ["numbers", "p"] ["numbers", "p"] (defScope s_without) := ⟨rfl, rfl, rfl, by decide +kernel, rfl, by decide +kernel, by decide +kernel⟩
def sp_without (K : PySem.W.Frag) : Sp := fun vs H Q _ => ∃ (a : Addr) (xs : List V) (p : Nat), vs = [.ref a, .int p] ∧ H a = some (.lst xs) ∧ p < xs.length ∧ xs.length ≤ 1000 ∧ ∀ (l : Addr) (H' : Hp), H' l = some (.lst (xs.take p ++ xs.drop (p + 1))) → H l = none → Same H H' → Q (.ref l) H'
theorem ok_without {f : Addr} {fd : FuncData} (F : Fun K "without" "without" s_without f fd) (T : Blt mg) : FnOk P w K mg base CX0 1 f fd ["numbers", "p"] (sp_without K) := by
  refine F.ok sc_without (fun vs H Q E h => ?_) (fun cdv A outer s H vs Q E hr h => ?_)
  · obtain ⟨a, xs, p, rfl, _⟩ := h; rfl
  obtain ⟨a, xs, p, rfl, ha, hp, hx, q⟩ := h
  refine qmk (qpss_one (qps_ret (qpe_op op_cat (qpe_slice (sl_listK K (by rfl)) (qpv 0) qpo_none (qpo_some (qpv 1))) (qpe_slice (sl_listK K (by rfl)) (qpv 0) (qpo_some (qpe_op op_add (qpv 1) qpe_int)) qpo_none)))) ?_
  show (_ : TS) _ [some (.ref a), some (.int p)] H
  walk_at "rd"
  refine ⟨_, SqL.of ha, fun p1 hp1 => ?_⟩
  have ha1 : a ≠ p1 := ne_of_none ha hp1
  refine ⟨_, SqL.of (by rw [upd_ne ha1]; exact ha), fun p2 hp2 => ?_⟩
  have h12 : p1 ≠ p2 := ne_of_none upd_same hp2
  have hp2' : H p2 = none := by rw [upd_ne h12.symm] at hp2; exact hp2
  rw [cut_lo (by omega), cut_hi (by omega) (by omega), show ((p : Int) + 1).toNat = p + 1 by omega]
  refine ⟨_, by rw [upd_ne h12]; exact upd_same, _, upd_same, ?_, fun p3 hp3 => ?_⟩
  · rw [List.length_take, List.length_drop]; exact Nat.le_trans (show _ ≤ 1000 by omega) (by decide)
  have sm2 : Same H (upd (upd H p1 (.lst (xs.take p))) p2 (.lst (xs.drop (p + 1)))) := (Same.new hp1).put hp2'
  exact q p3 _ upd_same (sm2.gone hp3) (sm2.put (sm2.gone hp3))
theorem refs_map (rs : List Addr) : rs.map V.ref = (List.range rs.length).map fun i => V.ref (rs.getD i 0) := by
  apply List.ext_getElem
  · simp
  · intro i h1 h2
    have hi : i < rs.length := by simpa using h1
    simp [List.getD_eq_getElem?_getD, hi]
theorem getD_some {rs : List Addr} {i : Nat} (h : i < rs.length) : rs[i]? = some (rs.getD i 0) := by
  rw [List.getD_eq_getElem?_getD, List.getElem?_eq_getElem h]; rfl
/-- the numbers of a table are within the line of one factor -/
def Bnd (n : Nat) (M : Nat → Nat → Int) : Prop := ∀ i j, i < n → j < n → -(2 ^ 64) < M i j ∧ M i j < 2 ^ 64
-- drawn  N = [(0, 'table'), (1, 'p'), (2, 'made'), (3, 'row'), (4, 'more')]  cells = ['p', 'row']
abbrev s_drawn : Stmt := top 13
theorem sc_drawn : FnScope ["table", "p", "made", "row", "more"] ["table", "p"] (defScope s_drawn) := ⟨rfl, rfl, rfl, by decide +kernel, rfl, by decide +kernel, by decide +kernel⟩
def dM (p : Nat) (M : Nat → Nat → Int) (i k : Nat) : Int := M (up p i) (up p k) + M (up p i) p * M p (up p k)
def sp_drawn (K : PySem.W.Frag) : Sp := fun vs H Q _ => ∃ (a : Addr) (n p : Nat) (M : Nat → Nat → Int), vs = [.ref a, .int p] ∧ Mx2 H a (n + 1) (n + 1) M ∧ p < n + 1 ∧ n ≤ 100 ∧ Bnd (n + 1) M ∧ ∀ (l : Addr) (H' : Hp), RowsAcc H H' l n (fun i => rowN n (dM p M i)) → Q (.ref l) H'
theorem ok_drawn {f : Addr} {fd : FuncData} (F : Fun K "drawn" "drawn" s_drawn f fd) (T : Blt mg) (D_without : Df P w K mg base "without" ["numbers", "p"] 1 (sp_without K)) : FnOk P w K mg base CX0 2 f fd ["table", "p"] (sp_drawn K) := by
  refine F.ok sc_drawn (fun vs H Q E h => ?_) (fun cdv A outer s H vs Q E hr h => ?_)
  · obtain ⟨a, n, p, M, rfl, _⟩ := h; rfl
  obtain ⟨a, n, p, M, rfl, hM, hp, hn, hB, q⟩ := h
  refine qmk (qpss_cons (qpset 2 sc_drawn.nd (qpe_lst qpa_nil))
      (qpss_cons (qps_for PassesOwn.never rfl (qpi_listK K (by rfl) (qpe_df (by exact D_without) (by exact hr.mono (by decide)) (qpa_cons (qpv 0) (qpa_cons (qpv 1) qpa_nil)))) (qpgn 3 sc_drawn.nd) (qpss_cons (qps_setlc (i := 4) (hN := sc_drawn.nd) (hyi := rfl) (hy := rfl) (hc := rfl) (own := ["entry", "going"]) (cap := [("row", 3), ("p", 1)]) (L := LcScope.of (by kernel_rfl)) (hi := (qpi_zipK K (by rfl) (by rfl) (by exact T.zip) (qpa_cons (qpv 3) (qpa_cons (qpe_ix (ix_listK K (by rfl)) (qpv 0) (qpv 1) (fun _ _ => rfl)) qpa_nil)))) (hin := (fun _ _ _ _ => ⟨(qpg_tupK K 2 (by rfl) (by rfl) (qpgs_cons (qpgn 0 (nd_of (by kernel_rfl))) (qpgs_cons (qpgn 1 (nd_of (by kernel_rfl))) qpgs_nil)) (by rfl) (by rfl)), qpts_nil, (qpb_emit (by rfl) (by rfl) (qpe_op op_add (qpv 0) (qpe_op op_mul (qpe_ix (ix_listK K (by rfl)) (qpv 2) (qpv 3) (fun _ _ => rfl)) (qpv 1))))⟩)))
      (qpss_one (qps_expr (qpm_appendK K (by rfl) (qpv 2) (qpe_df (by exact D_without) (by exact hr.mono (by decide)) (qpa_cons (qpv 4) (qpa_cons (qpv 1) qpa_nil))) (by rfl) (by rfl) (by rfl))))))
      (qpss_one (qps_ret (qpv 2))))) ?_
  show (_ : TS) _ [some (.ref a), some (.int p), none, none, none] H
  walk_at "rd"
  obtain ⟨rs, hrl, htp, hrow⟩ := id hM
  refine ⟨by show 0 ≤ sizeLine; decide, fun acc hacc => ?_⟩
  have smA : Same H (upd H acc (.lst [])) := Same.new hacc
  refine ⟨a, _, p, rfl, smA _ _ htp, by rw [List.length_map, hrl]; exact hp, by rw [List.length_map, hrl]; omega, fun l H1 hl hl0 sm1 => ?_⟩
  walk_at "rd"
  rw [refs_map, hrl, less_map hp] at hl
  refine ⟨⟨_, SqL.of hl⟩, ?_⟩
  have A0 : RowsAcc H H1 acc 0 (fun i => rowN n (dM p M i)) := ⟨⟨[], rfl, sm1 _ _ upd_same, by simp, List.nodup_nil⟩, smA.trans sm1, hacc⟩
  have hla : l ≠ acc := fun e => by rw [e, upd_same] at hl0; cases hl0
  obtain ⟨Pv, hPv⟩ : ∃ Pv : Nat → L2.St → Hp → Prop, Pv = fun (i : Nat) σ H2 => ∃ (x3 x4 : Option V), σ = [some (.ref a), some (.int p), some (.ref acc), x3, x4] ∧ RowsAcc H H2 acc i (fun i => rowN n (dM p M i)) ∧ H2 l = some (.lst ((List.range n).map fun i => V.ref (rs.getD (up p i) 0))) := ⟨_, rfl⟩
  refine loop_list ((List.range n).map fun i => V.ref (rs.getD (up p i) 0)) Pv (by rw [hPv]; exact ⟨_, _, rfl, A0, hl⟩) (fun i σ H2 _ h => ?_) ?_ ?_
  · rw [hPv] at h
    obtain ⟨_, _, _, _, h⟩ := h
    exact SqL.of h
  · intro i v σ H2 hv h
    rw [hPv] at h
    obtain ⟨x3, x4, rfl, A, hl2⟩ := h
    have hin : i < n := by have := (List.getElem?_eq_some_iff.mp hv).1; rw [List.length_map, List.length_range] at this; exact this
    rw [List.getElem?_map, List.getElem?_range hin] at hv
    cases hv
    have hui : up p i < n + 1 := up_lt hin
    have er := getD_some (rs := rs) (i := up p i) (by rw [hrl]; exact hui)
    have ep := getD_some (rs := rs) (i := p) (by rw [hrl]; exact hp)
    have hr1 := A.sm _ _ (hrow _ _ er)
    have hrp := A.sm _ _ (hrow _ _ ep)
    walk_at "rd"
    refine ⟨_, SqL.of (A.sm _ _ htp), _, atF ep, _, _, ⟨rfl, rfl⟩, ⟨_, SqL.of hr1⟩, ⟨_, SqL.of hrp⟩, fun ac hac => ?_⟩
    obtain ⟨Pw, hPw⟩ : ∃ Pw : Nat → L2.St → Hp → Prop, Pw = fun (k : Nat) σ H3 => ∃ (x0 x1 : Option V), σ = [x0, x1, some (.ref (rs.getD (up p i) 0)), some (.int p)] ∧ IntsAcc H2 H3 ac k (fun k => M (up p i) k + M (up p i) p * M p k) := ⟨_, rfl⟩
    refine loop_zip ((rowN (n + 1) (M (up p i))).map V.int) ((rowN (n + 1) (M p)).map V.int) (by rw [rowN_len, rowN_len]) Pw (by rw [hPw]; exact ⟨_, _, rfl, IntsAcc.start _ hac⟩) (fun k σ H3 _ h => ?_) ?_ ?_
    · rw [hPw] at h
      obtain ⟨_, _, _, B⟩ := h
      exact ⟨SqL.of (B.sm _ _ hr1), SqL.of (B.sm _ _ hrp)⟩
    · intro k x y pp σ H3 hx hy h hpp
      rw [hPw] at h
      obtain ⟨x0, x1, rfl, B⟩ := h
      have hk : k < n + 1 := by have := (List.getElem?_eq_some_iff.mp hx).1; rw [rowN_len] at this; exact this
      rw [rowN_get hk] at hx hy
      cases hx
      cases hy
      have smt : Same H3 (upd H3 pp (.tup [.int (M (up p i) k), .int (M p k)])) := Same.new hpp
      walk_at "rd"
      refine ⟨_, SqT.of upd_same, rfl, _, _, rfl, _, _, rfl, rfl, ?_⟩
      walk_at "rd"
      obtain ⟨xs, e1, e2, B2⟩ := B.emit (x := M (up p i) k + M (up p i) p * M p k) (by omega) smt rfl
      refine ⟨_, SqL.of (smt _ _ (B.sm _ _ hr1)), _, atR hp, _, rfl, .inr (hB p k hp hk), xs, e1, e2, ?_⟩
      rw [hPw]
      exact ⟨_, _, rfl, B2⟩
    · intro σ H3 h
      rw [rowN_len, hPw] at h
      obtain ⟨x0, x1, rfl, B⟩ := h
      obtain ⟨ts, hts, hac3, _, _⟩ := A.ex
      have sm13 : Same H2 H3 := B.sm
      refine ⟨tyl (SqL.of (sm13 _ _ hac3)), ac, _, p, rfl, B.at_, by rw [List.length_map, List.length_range]; exact hp, by rw [List.length_map, List.length_range]; omega, fun m H4 hm hm0 sm4 => ?_⟩
      rw [less_map hp] at hm
      obtain ⟨xs, e1, e2, A2⟩ := A.emit (H2 := H4) (l := m) (by omega) (sm13.trans sm4) (sm13.gone hm0) (by rw [hm, rowN_map]; rfl)
      refine ⟨xs, e1, e2, ?_⟩
      rw [hPv]
      have hl4 := (sm13.trans sm4) _ _ hl2
      exact ⟨_, _, rfl, A2, by rw [upd_ne hla]; exact hl4⟩
  · intro σ H2 h
    rw [hPv] at h
    obtain ⟨x3, x4, rfl, A, hl2⟩ := h
    rw [List.length_map, List.length_range] at A
    walk_at "rd"
    exact q acc H2 A
-- require_drawn  N = [(0, 'table'), (1, 'p')]  cells = ['p']
abbrev s_require_drawn : Stmt := top 10
theorem sc_require_drawn : FnScope ["table", "p"] ["table", "p"] (defScope s_require_drawn) := ⟨rfl, rfl, rfl, by decide +kernel, rfl, by decide +kernel, by decide +kernel⟩
def okD (n : Nat) (M : Nat → Nat → Int) (p : Int) : Prop := 0 ≤ p ∧ p < n ∧ M p.toNat p.toNat = 0 ∧ M36.sumN n (M p.toNat) ≠ 0 ∧ M36.sumN n (fun i => M i p.toNat) ≠ 0
def sp_reqD (cM : Addr) (K : PySem.W.Frag) : Sp := fun vs H Q E => ∃ (a : Addr) (n : Nat) (p : Int) (M : Nat → Nat → Int), vs = [.ref a, .int p] ∧ Mx2 H a n n M ∧ n ≤ 100 ∧ ∀ (H' : Hp), Same H H' → (okD n M p → Q .non H') ∧ (¬ okD n M p → E (.ref cM) none H')
theorem ok_require_drawn {f cM : Addr} {fd : FuncData} (F : Fun K "require_drawn" "require_drawn" s_require_drawn f fd) (T : Blt mg) (C_NoMove : ExC K mg "NoMove" cM) : FnOk P w K mg base (CXE P w base) 1 f fd ["table", "p"] (sp_reqD cM K) := by
  refine F.okE sc_require_drawn (fun vs H Q E h => ?_) (fun cdv A outer s H vs Q E hr h => ?_)
  · obtain ⟨a, n, p, M, rfl, _⟩ := h; rfl
  obtain ⟨a, n, p, M, rfl, hM, hn, q⟩ := h
  refine qmk (qpss_cons (qps_if (qnT (qpt_not (qpt_chain op_le op_lt qpe_int (qpv 1) (qpe_callB (call_lenK K (by rfl)) (by rfl) (by exact T.len) (by decide +kernel) (qpa_cons (qpv 0) qpa_nil))))) (qpss_one (qps_raise raiseOk_cx (by rfl) (by exact C_NoMove) (by rfl) (qpa_cons qpe_str qpa_nil))) qpss_nil)
      (qpss_cons (qps_if (qnT (qpt_cmpR op_ne (qpe_ix (ix_listK K (by rfl)) (qpe_ix (ix_listK K (by rfl)) (qpv 0) (qpv 1) (fun _ _ => rfl)) (qpv 1) (fun _ _ => rfl)) qpe_int (nomark _))) (qpss_one (qps_raise raiseOk_cx (by rfl) (by exact C_NoMove) (by rfl) (qpa_cons qpe_str qpa_nil))) qpss_nil)
      (qpss_one (qps_if (qnT (qPWpt (qpw_or (qpt_cmpR op_eq (qpe_callB (call_sumK K (by rfl) (by rfl)) (by rfl) (by exact T.sum) (by decide +kernel) (qpa_cons (qpe_ix (ix_listK K (by rfl)) (qpv 0) (qpv 1) (fun _ _ => rfl)) qpa_nil)) qpe_int (nomark _)) (qpw_or1 (qpt_cmpR op_eq (qpe_callB (call_sumK K (by rfl) (by rfl)) (by rfl) (by exact T.sum) (by decide +kernel) (qpa_cons (qpe_lc ["row"] [("p", 1)] rfl (LcScope.of (by kernel_rfl)) (qpi_listK K (by rfl) (qpv 0)) (fun _ _ _ _ => ⟨(qpgn 0 (nd_of (by kernel_rfl))), qpts_nil, (qpb_emit (by rfl) (by rfl) (qpe_ix (ix_listK K (by rfl)) (qpv 0) (qpv 1) (fun _ _ => rfl)))⟩)) qpa_nil)) qpe_int (nomark _)))))) (qpss_one (qps_raise raiseOk_cx (by rfl) (by exact C_NoMove) (by rfl) (qpa_cons qpe_str qpa_nil))) qpss_nil)))) ?_
  show (_ : TS) _ [some (.ref a), some (.int p)] H
  walk_at "rd"
  obtain ⟨rs, hrl, htp, hrow⟩ := id hM
  have hln : (rs.map V.ref).length = n := by rw [List.length_map, hrl]
  by_cases h0 : 0 ≤ p
  · rw [if_pos h0]
    refine ⟨_, .inl (SqL.of htp), ?_⟩
    rw [hln]
    by_cases h1 : p < n
    · rw [if_neg (by simp [h1])]
      obtain ⟨k, rfl⟩ : ∃ k : Nat, p = (k : Int) := ⟨p.toNat, by omega⟩
      have hk : k < n := by omega
      have ek := getD_some (rs := rs) (i := k) (by rw [hrl]; exact hk)
      have hrk := hrow _ _ ek
      refine ⟨_, SqL.of htp, _, atF ek, _, rfl, _, SqL.of hrk, _, atR hk, rfl, ?_⟩
      by_cases h2 : M k k = 0
      · rw [h2, if_neg (by simp)]
        refine ⟨_, SqL.of htp, _, atF ek, _, rfl, rowN n (M k), SqL.of hrk, ?_⟩
        rw [sum_rowN]
        by_cases h3 : M36.sumN n (M k) = 0
        · rw [if_pos h3]
          exact ⟨by show 1 ≤ sizeLine; decide, (q H (Same.refl H)).2 fun z => z.2.2.2.1 (by simpa using h3)⟩
        · rw [if_neg h3]
          refine ⟨⟨_, SqL.of htp⟩, fun acc hacc => ?_⟩
          obtain ⟨Pv, hPv⟩ : ∃ Pv : Nat → L2.St → Hp → Prop, Pv = fun (i : Nat) σ H1 => ∃ (x0 : Option V), σ = [x0, some (.int (k : Int))] ∧ IntsAcc H H1 acc i (fun i => M i k) := ⟨_, rfl⟩
          refine loop_list (rs.map V.ref) Pv (by rw [hPv]; exact ⟨none, rfl, IntsAcc.start _ hacc⟩) (fun j σ H2 _ h => ?_) ?_ ?_
          · rw [hPv] at h
            obtain ⟨_, _, B⟩ := h
            exact SqL.of (B.sm _ _ htp)
          · intro i x σ H1 hi h
            rw [hPv] at h
            obtain ⟨x0, rfl, B⟩ := h
            obtain ⟨r, hr1, rfl⟩ := ref_at hi
            have hin : i < n := by rw [← hrl]; exact (List.getElem?_eq_some_iff.mp hr1).1
            walk_at "rd"
            obtain ⟨xs, e1, e2, B2⟩ := B.emit (x := M i k) (by omega) (Same.refl H1) rfl
            refine ⟨_, SqL.of (B.sm _ _ (hrow i r hr1)), _, atR hk, xs, e1, e2, ?_⟩
            rw [hPv]
            exact ⟨_, rfl, B2⟩
          · intro σ H1 h
            rw [hln, hPv] at h
            obtain ⟨x0, rfl, B⟩ := h
            have e1 := B.at_
            rw [← rowN_map] at e1
            refine ⟨rowN n (fun i => M i k), SqL.of e1, ?_⟩
            rw [sum_rowN]
            by_cases h4 : M36.sumN n (fun i => M i k) = 0
            · rw [if_pos h4]
              exact ⟨by show 1 ≤ sizeLine; decide, (q H1 B.sm).2 fun z => z.2.2.2.2 (by simpa using h4)⟩
            · rw [if_neg h4]
              exact (q H1 B.sm).1 ⟨h0, h1, by simpa using h2, by simpa using h3, by simpa using h4⟩
      · rw [if_pos (by simp [h2])]
        exact ⟨by show 1 ≤ sizeLine; decide, (q H (Same.refl H)).2 fun z => h2 (by simpa using z.2.2.1)⟩
    · rw [if_pos (by simp; omega)]
      exact ⟨by show 1 ≤ sizeLine; decide, (q H (Same.refl H)).2 fun z => h1 z.2.1⟩
  · rw [if_neg h0]
    exact ⟨by show 1 ≤ sizeLine; decide, (q H (Same.refl H)).2 fun z => h0 z.1⟩
-- require_laid  N = [(0, 'table'), (1, 'p'), (2, 'ins'), (3, 'outs'), (4, 'numbers'), (5, 'row'), (6, 'coming')]  cells = ['coming']
abbrev s_require_laid : Stmt := top 11
theorem sc_require_laid : FnScope ["table", "p", "ins", "outs", "numbers", "row", "coming"] ["table", "p", "ins", "outs"] (defScope s_require_laid) := ⟨rfl, rfl, rfl, by decide +kernel, rfl, by decide +kernel, by decide +kernel⟩
/-- numbers that fit a table: as many, from 0 on, one above 0 -/
def Fine (n : Nat) (ns : List Int) : Prop := ns.length = n ∧ (∀ x ∈ ns, 0 ≤ x) ∧ ns.sum ≠ 0
structure OkL (n : Nat) (p : Int) (M : Nat → Nat → Int) (us vs : List Int) : Prop where
  p0 : 0 ≤ p
  p1 : p ≤ n
  u : Fine n us
  v : Fine n vs
  le : ∀ i k, i < n → k < n → us.getD i 0 * vs.getD k 0 ≤ M i k
def sp_reqL (cM : Addr) (K : PySem.W.Frag) : Sp := fun xs H Q E => ∃ (a b c : Addr) (n : Nat) (p : Int) (M : Nat → Nat → Int) (us vs : List Int), xs = [.ref a, .int p, .ref b, .ref c] ∧ Mx2 H a n n M ∧ n ≤ 100 ∧ H b = some (.lst (us.map V.int)) ∧ H c = some (.lst (vs.map V.int)) ∧ us.length ≤ 100 ∧ vs.length ≤ 100 ∧ (∀ x ∈ us, -(2 ^ 64) < x ∧ x < 2 ^ 64) ∧ ∀ (H' : Hp), Same H H' → (OkL n p M us vs → Q .non H') ∧ (¬ OkL n p M us vs → E (.ref cM) none H')
theorem any_neg {ns : List Int} : ((List.range ns.length).map fun k => decide (ns.getD k 0 < 0)).any id = true ↔ ∃ x ∈ ns, x < 0 := by
  rw [List.any_eq_true]
  constructor
  · rintro ⟨b, hb, e⟩
    obtain ⟨i, hi, rfl⟩ := List.mem_map.mp hb
    have hi' := List.mem_range.mp hi
    have e' : ns.getD i 0 < 0 := by simpa using e
    rw [List.getD_eq_getElem?_getD, List.getElem?_eq_getElem hi'] at e'
    exact ⟨ns[i], List.getElem_mem hi', e'⟩
  · rintro ⟨x, hx, h⟩
    obtain ⟨i, hi, rfl⟩ := List.mem_iff_getElem.mp hx
    refine ⟨_, List.mem_map.mpr ⟨i, List.mem_range.mpr hi, rfl⟩, ?_⟩
    rw [List.getD_eq_getElem?_getD, List.getElem?_eq_getElem hi]
    simpa using h
theorem getD_at {ns : List Int} {k : Nat} (h : k < ns.length) : (ns.map V.int)[k]? = some (V.int (ns.getD k 0)) := by
  rw [List.getElem?_map, List.getElem?_eq_getElem h, List.getD_eq_getElem?_getD, List.getElem?_eq_getElem h]; rfl
theorem ok_require_laid {f cM : Addr} {fd : FuncData} (F : Fun K "require_laid" "require_laid" s_require_laid f fd) (T : Blt mg) (C_NoMove : ExC K mg "NoMove" cM) : FnOk P w K mg base (CXE P w base) 1 f fd ["table", "p", "ins", "outs"] (sp_reqL cM K) := by
  refine F.okE sc_require_laid (fun vs H Q E h => ?_) (fun cdv A outer s H vs Q E hr h => ?_)
  · obtain ⟨a, b, c, n, p, M, us, vs, rfl, _⟩ := h; rfl
  obtain ⟨a, b, c, n, p, M, us, vs, rfl, hM, hn, hb, hc, hul, hvl, hub, q⟩ := h
  refine qmk (qpss_cons (qps_if (qnT (qpt_not (qpt_chain op_le op_le qpe_int (qpv 1) (qpe_callB (call_lenK K (by rfl)) (by rfl) (by exact T.len) (by decide +kernel) (qpa_cons (qpv 0) qpa_nil))))) (qpss_one (qps_raise raiseOk_cx (by rfl) (by exact C_NoMove) (by rfl) (qpa_cons qpe_str qpa_nil))) qpss_nil)
      (qpss_cons (qps_for PassesOwn.leaving rfl (qpi_tupK K (by rfl) (qpe_tup (qpa_cons (qpv 2) (qpa_cons (qpv 3) qpa_nil)))) (qpgn 4 sc_require_laid.nd) (qpss_one (qps_if (qnT (qPWpt (qpw_or (qpt_cmpR op_ne (qpe_callB (call_lenK K (by rfl)) (by rfl) (by exact T.len) (by decide +kernel) (qpa_cons (qpv 4) qpa_nil)) (qpe_callB (call_lenK K (by rfl)) (by rfl) (by exact T.len) (by decide +kernel) (qpa_cons (qpv 0) qpa_nil)) (nomark _)) (qpw_or (qpt_val (qpe_callB (call_anyK K (by rfl) (by rfl)) (by rfl) (by exact T.any) (by decide +kernel) (qpa_cons (qpe_lc ["number"] [] rfl (LcScope.of (by kernel_rfl)) (qpi_listK K (by rfl) (qpv 4)) (fun _ _ _ _ => ⟨(qpgn 0 (nd_of (by kernel_rfl))), qpts_nil, (qpb_emit (by rfl) (by rfl) (qpe_cmpR op_lt (qpv 0) qpe_int (nomark _)))⟩)) qpa_nil))) (qpw_or1 (qpt_cmpR op_eq (qpe_callB (call_sumK K (by rfl) (by rfl)) (by rfl) (by exact T.sum) (by decide +kernel) (qpa_cons (qpv 4) qpa_nil)) qpe_int (nomark _))))))) (qpss_one (qps_raise raiseOk_cx (by rfl) (by exact C_NoMove) (by rfl) (qpa_cons qpe_str qpa_nil))) qpss_nil)))
      (qpss_one (qps_for PassesOwn.leaving rfl (qpi_zipK K (by rfl) (by rfl) (by exact T.zip) (qpa_cons (qpv 0) (qpa_cons (qpv 2) qpa_nil))) (qpg_tupK K 2 (by rfl) (by rfl) (qpgs_cons (qpgn 5 sc_require_laid.nd) (qpgs_cons (qpgn 6 sc_require_laid.nd) qpgs_nil)) (by rfl) (by rfl)) (qpss_one (qps_if (qnT (qpt_val (qpe_callB (call_anyK K (by rfl) (by rfl)) (by rfl) (by exact T.any) (by decide +kernel) (qpa_cons (qpe_lc ["entry", "going"] [("coming", 6)] rfl (LcScope.of (by kernel_rfl)) (qpi_zipK K (by rfl) (by rfl) (by exact T.zip) (qpa_cons (qpv 5) (qpa_cons (qpv 3) qpa_nil))) (fun _ _ _ _ => ⟨(qpg_tupK K 2 (by rfl) (by rfl) (qpgs_cons (qpgn 0 (nd_of (by kernel_rfl))) (qpgs_cons (qpgn 1 (nd_of (by kernel_rfl))) qpgs_nil)) (by rfl) (by rfl)), qpts_nil, (qpb_emit (by rfl) (by rfl) (qpe_cmpR op_lt (qpv 0) (qpe_op op_mul (qpv 2) (qpv 1)) (nomark _)))⟩)) qpa_nil)))) (qpss_one (qps_raise raiseOk_cx (by rfl) (by exact C_NoMove) (by rfl) (qpa_cons qpe_str qpa_nil))) qpss_nil)))))) ?_
  show (_ : TS) _ [some (.ref a), some (.int p), some (.ref b), some (.ref c), none, none, none] H
  walk_at "rd"
  obtain ⟨rs, hrl, htp, hrow⟩ := id hM
  have hln : (rs.map V.ref).length = n := by rw [List.length_map, hrl]
  have no : ∀ {H'}, Same H H' → ¬ OkL n p M us vs → E (.ref cM) none H' := fun {H'} sm h => (q H' sm).2 h
  by_cases h0 : 0 ≤ p
  case neg =>
    rw [if_neg h0]
    exact ⟨by show 1 ≤ sizeLine; decide, no (Same.refl H) fun z => h0 z.p0⟩
  rw [if_pos h0]
  refine ⟨_, .inl (SqL.of htp), ?_⟩
  rw [hln]
  by_cases h1 : p ≤ n
  case neg =>
    rw [if_pos (by simp; omega)]
    exact ⟨by show 1 ≤ sizeLine; decide, no (Same.refl H) fun z => h1 z.p1⟩
  rw [if_neg (by simp [h1])]
  refine ⟨by show 2 ≤ sizeLine; decide, fun t ht => ?_⟩
  have smt : Same H (upd H t (.tup [.ref b, .ref c])) := Same.new ht
  have htt : upd H t (.tup [.ref b, .ref c]) t = some (.tup [.ref b, .ref c]) := upd_same
  generalize upd H t (.tup [.ref b, .ref c]) = Ht at smt htt ⊢
  refine ⟨⟨_, SqT.of htt⟩, ?_⟩
  obtain ⟨Pv, hPv⟩ : ∃ Pv : Nat → L2.St → Hp → Prop, Pv = fun (i : Nat) σ H1 => ∃ (x4 : Option V), σ = [some (.ref a), some (.int p), some (.ref b), some (.ref c), x4, none, none] ∧ (1 ≤ i → Fine n us) ∧ (2 ≤ i → Fine n vs) ∧ Same Ht H1 := ⟨_, rfl⟩
  refine loop_tup [.ref b, .ref c] Pv (by rw [hPv]; exact ⟨_, rfl, fun h => by omega, fun h => by omega, Same.refl _⟩) (fun j σ H2 _ h => ?_) ?_ ?_
  · rw [hPv] at h
    obtain ⟨_, _, _, _, sm1⟩ := h
    exact SqT.of (sm1 _ _ htt)
  · intro i x σ H1 hx h
    rw [hPv] at h
    obtain ⟨x4, rfl, hf1, hf2, sm1⟩ := h
    obtain ⟨l, ns, rfl, hl, hnl, hno, hyes⟩ : ∃ (l : Addr) (ns : List Int), x = .ref l ∧ H l = some (.lst (ns.map V.int)) ∧ ns.length ≤ 100 ∧ (¬ Fine n ns → ¬ OkL n p M us vs) ∧ (Fine n ns → (1 ≤ i + 1 → Fine n us) ∧ (2 ≤ i + 1 → Fine n vs)) := by
      match i, hx with
      | 0, hx => cases hx; exact ⟨b, us, rfl, hb, hul, fun h z => h z.u, fun h => ⟨fun _ => h, fun h => by omega⟩⟩
      | 1, hx => cases hx; exact ⟨c, vs, rfl, hc, hvl, fun h z => h z.v, fun h => ⟨fun _ => hf1 (by omega), fun _ => h⟩⟩
      | i + 2, hx => simp at hx
    have smH1 : Same H H1 := smt.trans sm1
    walk_at "rd"
    refine ⟨_, .inl (SqL.of (smH1 _ _ hl)), _, .inl (SqL.of (smH1 _ _ htp)), ?_⟩
    rw [List.length_map, hln]
    by_cases g1 : ns.length = n
    case neg =>
      rw [if_pos (by simp; omega)]
      exact ⟨by show 1 ≤ sizeLine; decide, no smH1 (hno fun z => g1 z.1)⟩
    rw [if_neg (by simp [g1])]
    refine ⟨⟨_, SqL.of (smH1 _ _ hl)⟩, fun ac hac => ?_⟩
    obtain ⟨Pw, hPw⟩ : ∃ Pw : Nat → L2.St → Hp → Prop, Pw = fun (k : Nat) σ H3 => ∃ (x0 : Option V), σ = [x0] ∧ BlsAcc H1 H3 ac k (fun k => decide (ns.getD k 0 < 0)) := ⟨_, rfl⟩
    refine loop_list (ns.map V.int) Pw (by rw [hPw]; exact ⟨_, rfl, BlsAcc.start _ hac⟩) (fun k σ H3 _ h => ?_) ?_ ?_
    · rw [hPw] at h
      obtain ⟨_, _, B⟩ := h
      exact SqL.of (B.sm _ _ (smH1 _ _ hl))
    · intro k x σ H3 hx h
      rw [hPw] at h
      obtain ⟨x0, rfl, B⟩ := h
      have hk : k < ns.length := by have := (List.getElem?_eq_some_iff.mp hx).1; rw [List.length_map] at this; exact this
      rw [getD_at hk] at hx
      cases hx
      walk_at "rd"
      obtain ⟨xs, e1, e2, B2⟩ := B.emit (x := decide (ns.getD k 0 < 0)) (by omega) (Same.refl H3) rfl
      refine ⟨xs, e1, e2, ?_⟩
      rw [hPw]
      exact ⟨_, rfl, B2⟩
    · intro σ H3 h
      rw [List.length_map, hPw] at h
      obtain ⟨x0, rfl, B⟩ := h
      have smH3 : Same H H3 := smH1.trans B.sm
      refine ⟨_, SqL.of B.at_, ?_⟩
      by_cases g2 : ∃ x ∈ ns, x < 0
      · rw [any_neg.mpr g2]
        refine iteT ⟨by show 1 ≤ sizeLine; decide, no smH3 (hno fun z => ?_)⟩
        obtain ⟨x, hx, hx0⟩ := g2
        have := z.2.1 x hx
        omega
      · rw [Bool.eq_false_iff.mpr fun z => g2 (any_neg.mp z)]
        refine iteF ⟨ns, SqL.of (smH3 _ _ hl), ?_⟩
        by_cases g3 : ns.sum = 0
        · rw [if_pos g3]
          exact ⟨by show 1 ≤ sizeLine; decide, no smH3 (hno fun z => z.2.2 g3)⟩
        · rw [if_neg g3, hPv]
          have hF : Fine n ns := ⟨g1, fun x hx => by
            by_cases hx0 : 0 ≤ x
            · exact hx0
            · exact absurd ⟨x, hx, by omega⟩ g2, g3⟩
          exact ⟨_, rfl, (hyes hF).1, (hyes hF).2, sm1.trans B.sm⟩
  · intro σ H1 h
    rw [hPv] at h
    obtain ⟨x4, rfl, hf1, hf2, sm1⟩ := h
    have fu := hf1 (by show 1 ≤ 2; decide)
    have fv := hf2 (by show 2 ≤ 2; decide)
    have smH1 : Same H H1 := smt.trans sm1
    clear hPv Pv
    walk_at "rd"
    refine ⟨_, _, ⟨rfl, rfl⟩, ⟨_, SqL.of (smH1 _ _ htp)⟩, ⟨_, SqL.of (smH1 _ _ hb)⟩, ?_⟩
    obtain ⟨Pv, hPv⟩ : ∃ Pv : Nat → L2.St → Hp → Prop, Pv = fun (i : Nat) σ H2 => ∃ (x4 x5 x6 : Option V), σ = [some (.ref a), some (.int p), some (.ref b), some (.ref c), x4, x5, x6] ∧ (∀ j k, j < i → k < n → us.getD j 0 * vs.getD k 0 ≤ M j k) ∧ Same H1 H2 := ⟨_, rfl⟩
    refine loop_zip (rs.map V.ref) (us.map V.int) (by rw [hln, List.length_map, fu.1]) Pv (by rw [hPv]; exact ⟨_, _, _, rfl, fun j k h => absurd h (Nat.not_lt_zero _), Same.refl _⟩) (fun k σ H3 _ h => ?_) ?_ ?_
    · rw [hPv] at h
      obtain ⟨_, _, _, _, _, sm2⟩ := h
      exact ⟨SqL.of (sm2 _ _ (smH1 _ _ htp)), SqL.of (sm2 _ _ (smH1 _ _ hb))⟩
    · intro i x y pp σ H2 hx hy h hpp
      rw [hPv] at h
      obtain ⟨x4, x5, x6, rfl, hle, sm2⟩ := h
      obtain ⟨r, hr1, rfl⟩ := ref_at hx
      have hin : i < n := by rw [← hrl]; exact (List.getElem?_eq_some_iff.mp hr1).1
      rw [getD_at (by rw [fu.1]; exact hin)] at hy
      cases hy
      have sm2p : Same H1 (upd H2 pp (.tup [.ref r, .int (us.getD i 0)])) := sm2.put (sm2.gone hpp)
      have htp' : upd H2 pp (.tup [.ref r, .int (us.getD i 0)]) pp = some (.tup [.ref r, .int (us.getD i 0)]) := upd_same
      generalize upd H2 pp (.tup [.ref r, .int (us.getD i 0)]) = H3 at sm2p htp' ⊢
      have smH3 : Same H H3 := smH1.trans sm2p
      have hui : -(2 ^ 64) < us.getD i 0 ∧ us.getD i 0 < 2 ^ 64 := by
        have hi' : i < us.length := by rw [fu.1]; exact hin
        rw [List.getD_eq_getElem?_getD, List.getElem?_eq_getElem hi']
        exact hub _ (List.getElem_mem hi')
      walk_at "rd"
      refine ⟨_, SqT.of htp', rfl, _, _, rfl, _, _, rfl, rfl, ?_⟩
      walk_at "rd"
      refine ⟨_, _, ⟨rfl, rfl⟩, ⟨_, SqL.of (smH3 _ _ (hrow i r hr1))⟩, ⟨_, SqL.of (smH3 _ _ hc)⟩, fun ac hac => ?_⟩
      obtain ⟨Pw, hPw⟩ : ∃ Pw : Nat → L2.St → Hp → Prop, Pw = fun (k : Nat) σ H4 => ∃ (x0 x1 : Option V), σ = [x0, x1, some (.int (us.getD i 0))] ∧ BlsAcc H3 H4 ac k (fun k => decide (M i k < us.getD i 0 * vs.getD k 0)) := ⟨_, rfl⟩
      refine loop_zip ((rowN n (M i)).map V.int) (vs.map V.int) (by rw [rowN_len, List.length_map, fv.1]) Pw (by rw [hPw]; exact ⟨_, _, rfl, BlsAcc.start _ hac⟩) (fun k σ H4 _ h => ?_) ?_ ?_
      · rw [hPw] at h
        obtain ⟨_, _, _, B⟩ := h
        exact ⟨SqL.of (B.sm _ _ (smH3 _ _ (hrow i r hr1))), SqL.of (B.sm _ _ (smH3 _ _ hc))⟩
      · intro k x y p2 σ H4 hx hy h hp2
        rw [hPw] at h
        obtain ⟨x0, x1, rfl, B⟩ := h
        have hk : k < n := by have := (List.getElem?_eq_some_iff.mp hx).1; rw [rowN_len] at this; exact this
        rw [rowN_get hk] at hx
        rw [getD_at (by rw [fv.1]; exact hk)] at hy
        cases hx
        cases hy
        have smt2 : Same H4 (upd H4 p2 (.tup [.int (M i k), .int (vs.getD k 0)])) := Same.new hp2
        walk_at "rd"
        refine ⟨_, SqT.of upd_same, rfl, _, _, rfl, _, _, rfl, rfl, ?_⟩
        walk_at "rd"
        obtain ⟨xs, e1, e2, B2⟩ := B.emit (x := decide (M i k < us.getD i 0 * vs.getD k 0)) (by omega) smt2 rfl
        refine ⟨.inl hui, xs, e1, e2, ?_⟩
        rw [hPw]
        exact ⟨_, _, rfl, B2⟩
      · intro σ H4 h
        rw [rowN_len, hPw] at h
        obtain ⟨x0, x1, rfl, B⟩ := h
        have smH4 : Same H H4 := smH3.trans B.sm
        refine ⟨_, SqL.of B.at_, ?_⟩
        by_cases g4 : ∃ k, k < n ∧ M i k < us.getD i 0 * vs.getD k 0
        · have : ((List.range n).map fun k => decide (M i k < us.getD i 0 * vs.getD k 0)).any id = true := by
            obtain ⟨k, hk, hlt⟩ := g4
            exact List.any_eq_true.mpr ⟨_, List.mem_map.mpr ⟨k, List.mem_range.mpr hk, rfl⟩, by simpa using hlt⟩
          rw [this]
          refine iteT ⟨by show 1 ≤ sizeLine; decide, no smH4 fun z => ?_⟩
          obtain ⟨k, hk, hlt⟩ := g4
          have := z.le i k hin hk
          omega
        · have : ((List.range n).map fun k => decide (M i k < us.getD i 0 * vs.getD k 0)).any id = false := by
            rw [Bool.eq_false_iff]
            intro z
            obtain ⟨b, hb, e⟩ := List.any_eq_true.mp z
            obtain ⟨k, hk, rfl⟩ := List.mem_map.mp hb
            exact g4 ⟨k, List.mem_range.mp hk, by simpa using e⟩
          rw [this]
          refine iteF ?_
          rw [hPv]
          refine ⟨_, _, _, rfl, fun j k hj hk => ?_, sm2p.trans B.sm⟩
          by_cases hji : j < i
          · exact hle j k hji hk
          · have : j = i := by omega
            subst this
            by_cases hlt : M j k < us.getD j 0 * vs.getD k 0
            · exact absurd ⟨k, hk, hlt⟩ g4
            · omega
    · intro σ H2 h
      rw [hln, hPv] at h
      obtain ⟨x4, x5, x6, rfl, hle, sm2⟩ := h
      walk_at "rd"
      exact (q H2 (smH1.trans sm2)).1 ⟨h0, h1, fu, fv, hle⟩
end
end K57

namespace K57
open PySem PySem.Spec PyProof.Rows L2
/-- a new row is put between -/
theorem _root_.L2.RowsAcc.insert {H H1 H2 : Hp} {acc l : Addr} {n p : Nat} {F : Nat → List Int} {g : List Int} (A : RowsAcc H H1 acc n F) (hp : p ≤ n) (hn : n < 1000000) (sm : Same H1 H2) (hl : H1 l = none) (h2 : H2 l = some (.lst (g.map V.int))) :
    ∃ xs, H2 acc = some (.lst xs) ∧ xs.length = n ∧ xs.length < sizeLine ∧ RowsAcc H (upd H2 acc (.lst (xs.take p ++ [.ref l] ++ xs.drop p))) acc (n + 1) (fun i => if i = p then g else F (dn p i)) := by
  obtain ⟨⟨ts, h1, h3, h4, h5⟩, sm1, no⟩ := A
  have hne : l ≠ acc := fun e => by rw [e, h3] at hl; cases hl
  refine ⟨_, sm _ _ h3, by rw [List.length_map, h1], by rw [List.length_map, h1]; exact small_line hn, ⟨ts.take p ++ [l] ++ ts.drop p, ?_, ?_, fun j r hj => ?_, ?_⟩, (sm1.trans sm).put no, no⟩
  · simp; omega
  · rw [upd_same]; simp
  · by_cases hjp : j < p
    · rw [List.append_assoc, List.getElem?_append_left (by simp; omega), List.getElem?_take, if_pos hjp] at hj
      obtain ⟨a1, a2, a3⟩ := h4 j r hj
      refine ⟨?_, a2, a3⟩
      rw [upd_ne a3, if_neg (by omega)]
      unfold dn
      rw [if_pos hjp]
      exact sm _ _ a1
    · by_cases hje : j = p
      · subst hje
        rw [List.append_assoc, List.getElem?_append_right (by simp; omega)] at hj
        have : r = l := by
          have hz : j - (ts.take j).length = 0 := by rw [List.length_take]; omega
          rw [hz] at hj; simpa using hj.symm
        subst this
        exact ⟨by rw [upd_ne hne, if_pos rfl]; exact h2, sm1.gone hl, hne⟩
      · rw [List.getElem?_append_right (by simp; omega), List.getElem?_drop] at hj
        have hz : p + (j - (ts.take p ++ [l]).length) = j - 1 := by simp; omega
        rw [hz] at hj
        obtain ⟨a1, a2, a3⟩ := h4 (j - 1) r hj
        refine ⟨?_, a2, a3⟩
        rw [upd_ne a3, if_neg hje]
        unfold dn
        rw [if_neg hjp]
        exact sm _ _ a1
  · have hlt : l ∉ ts := fun z => by
      obtain ⟨j, hj, ej⟩ := List.mem_iff_getElem.mp z
      have := (h4 j l (List.getElem?_eq_some_iff.mpr ⟨hj, ej⟩)).1
      rw [hl] at this; cases this
    have hnd : (ts.take p ++ ts.drop p).Nodup := by rw [List.take_append_drop]; exact h5
    rw [List.append_assoc]
    have : (ts.take p ++ ([l] ++ ts.drop p)).Perm (l :: (ts.take p ++ ts.drop p)) := by
      exact List.perm_middle (l₁ := ts.take p) (a := l) (l₂ := ts.drop p)
    rw [this.nodup_iff, List.nodup_cons]
    exact ⟨by rw [List.take_append_drop]; exact hlt, hnd⟩
/-- xs[:p] + [y] + xs[p:] -/
theorem mid {K : PySem.W.Frag} {H : Hp} {a : Addr} {xs : List V} {p : Nat} {y : V} (R : Addr → Hp → Prop) (ha : H a = some (.lst xs)) (hp : p ≤ xs.length) (hl : xs.length ≤ 1000) (h : ∀ l H', H' l = some (.lst (xs.take p ++ [y] ++ xs.drop p)) → H l = none → Same H H' → R l H') :
    ∃ x, SqL K H a x ∧ ∀ p1, H p1 = none → [y].length ≤ sizeLine ∧ (∀ p2, (upd H p1 (.lst (cutV x none (some (p : Int))))) p2 = none → ∃ x1, upd (upd H p1 (.lst (cutV x none (some (p : Int))))) p2 (.lst [y]) p1 = some (.lst x1) ∧ ∃ x2, upd (upd H p1 (.lst (cutV x none (some (p : Int))))) p2 (.lst [y]) p2 = some (.lst x2) ∧ x1.length + x2.length ≤ sizeLine ∧
      ∀ p3, upd (upd H p1 (.lst (cutV x none (some (p : Int))))) p2 (.lst [y]) p3 = none → ∃ x3, SqL K (upd (upd (upd H p1 (.lst (cutV x none (some (p : Int))))) p2 (.lst [y])) p3 (.lst (x1 ++ x2))) a x3 ∧
      ∀ p4, upd (upd (upd H p1 (.lst (cutV x none (some (p : Int))))) p2 (.lst [y])) p3 (.lst (x1 ++ x2)) p4 = none →
        ∃ x4, upd (upd (upd (upd H p1 (.lst (cutV x none (some (p : Int))))) p2 (.lst [y])) p3 (.lst (x1 ++ x2))) p4 (.lst (cutV x3 (some (p : Int)) none)) p3 = some (.lst x4) ∧ ∃ x5, upd (upd (upd (upd H p1 (.lst (cutV x none (some (p : Int))))) p2 (.lst [y])) p3 (.lst (x1 ++ x2))) p4 (.lst (cutV x3 (some (p : Int)) none)) p4 = some (.lst x5) ∧ x4.length + x5.length ≤ sizeLine ∧
      ∀ p5, upd (upd (upd (upd H p1 (.lst (cutV x none (some (p : Int))))) p2 (.lst [y])) p3 (.lst (x1 ++ x2))) p4 (.lst (cutV x3 (some (p : Int)) none)) p5 = none →
        R p5 (upd (upd (upd (upd (upd H p1 (.lst (cutV x none (some (p : Int))))) p2 (.lst [y])) p3 (.lst (x1 ++ x2))) p4 (.lst (cutV x3 (some (p : Int)) none))) p5 (.lst (x4 ++ x5)))) := by
  refine ⟨xs, SqL.of ha, fun p1 hp1 => ⟨by show 1 ≤ sizeLine; decide, fun p2 hp2 => ?_⟩⟩
  have s1 : Same H (upd H p1 (.lst (cutV xs none (some (p : Int))))) := Same.new hp1
  have s2 : Same H (upd (upd H p1 (.lst (cutV xs none (some (p : Int))))) p2 (.lst [y])) := s1.put (s1.gone hp2)
  have h12 : p1 ≠ p2 := ne_of_none upd_same hp2
  refine ⟨_, by rw [upd_ne h12]; exact upd_same, _, upd_same, ?_, fun p3 hp3 => ?_⟩
  · rw [cut_lo hp, List.length_take]; exact Nat.le_trans (show _ ≤ 2000 by simp; omega) (by decide)
  have s3 : Same H (upd (upd (upd H p1 (.lst (cutV xs none (some (p : Int))))) p2 (.lst [y])) p3 (.lst (cutV xs none (some (p : Int)) ++ [y]))) := s2.put (s2.gone hp3)
  refine ⟨xs, SqL.of (s3 _ _ ha), fun p4 hp4 => ?_⟩
  have h34 : p3 ≠ p4 := ne_of_none upd_same hp4
  have s4 := s3.put (o := .lst (cutV xs (some (p : Int)) none)) (s3.gone hp4)
  refine ⟨_, by rw [upd_ne h34]; exact upd_same, _, upd_same, ?_, fun p5 hp5 => ?_⟩
  · rw [cut_lo hp, cut_hi (by omega) (by omega), List.length_append, List.length_take, List.length_drop]; exact Nat.le_trans (show _ ≤ 5000 by simp; omega) (by decide)
  refine h p5 _ ?_ (s4.gone hp5) (s4.put (s4.gone hp5))
  rw [upd_same, cut_lo hp, cut_hi (by omega) (by omega), Int.toNat_natCast]
section
variable {P : Program} {w : World} {K : PySem.W.Frag} {mg : Str → Option Value} {base : Heap}
-- laid  N = [(0, 'table'), (1, 'p'), (2, 'ins'), (3, 'outs'), (4, 'made'), (5, 'row'), (6, 'coming'), (7, 'less')]  cells = ['coming']
abbrev s_laid : Stmt := top 14
theorem sc_laid : FnScope ["table", "p", "ins", "outs", "made", "row", "coming", "less"] ["table", "p", "ins", "outs"] (defScope s_laid) := ⟨rfl, rfl, rfl, by decide +kernel, rfl, by decide +kernel, by decide +kernel⟩
def lM (p : Nat) (M : Nat → Nat → Int) (u v : Nat → Int) (i k : Nat) : Int := if i = p then (if k = p then 0 else v (dn p k)) else if k = p then u (dn p i) else M (dn p i) (dn p k) - u (dn p i) * v (dn p k)
def sp_laid (K : PySem.W.Frag) : Sp := fun vs H Q _ => ∃ (a b c : Addr) (n p : Nat) (M : Nat → Nat → Int) (u v : Nat → Int), vs = [.ref a, .int p, .ref b, .ref c] ∧ Mx2 H a n n M ∧ n ≤ 100 ∧ p ≤ n ∧ H b = some (.lst ((rowN n u).map V.int)) ∧ H c = some (.lst ((rowN n v).map V.int)) ∧ (∀ i, i < n → -(2 ^ 64) < u i ∧ u i < 2 ^ 64) ∧ ∀ (l : Addr) (H' : Hp), RowsAcc H H' l (n + 1) (fun i => rowN (n + 1) (lM p M u v i)) → Q (.ref l) H'
theorem more_row {n p : Nat} {f : Nat → Int} {x : Int} (h : p ≤ n) : ((rowN n f).map V.int).take p ++ [V.int x] ++ ((rowN n f).map V.int).drop p = (rowN (n + 1) fun k => if k = p then x else f (dn p k)).map V.int := by
  rw [rowN_map, rowN_map, more_map h]
  apply List.map_congr_left
  intro k _
  by_cases e : k = p
  · rw [if_pos e, if_pos e]
  · rw [if_neg e, if_neg e]
theorem ok_laid {f : Addr} {fd : FuncData} (F : Fun K "laid" "laid" s_laid f fd) (T : Blt mg) : FnOk P w K mg base CX0 1 f fd ["table", "p", "ins", "outs"] (sp_laid K) := by
  refine F.ok sc_laid (fun vs H Q E h => ?_) (fun cdv A outer s H vs Q E hr h => ?_)
  · obtain ⟨a, b, c, n, p, M, u, v, rfl, _⟩ := h; rfl
  obtain ⟨a, b, c, n, p, M, u, v, rfl, hM, hn, hp, hb, hc, hu, q⟩ := h
  refine qmk (qpss_cons (qpset 4 sc_laid.nd (qpe_lst qpa_nil))
      (qpss_cons (qps_for PassesOwn.never rfl (qpi_zipK K (by rfl) (by rfl) (by exact T.zip) (qpa_cons (qpv 0) (qpa_cons (qpv 2) qpa_nil))) (qpg_tupK K 2 (by rfl) (by rfl) (qpgs_cons (qpgn 5 sc_laid.nd) (qpgs_cons (qpgn 6 sc_laid.nd) qpgs_nil)) (by rfl) (by rfl)) (qpss_cons (qps_setlc (i := 7) (hN := sc_laid.nd) (hyi := rfl) (hy := rfl) (hc := rfl) (own := ["entry", "going"]) (cap := [("coming", 6)]) (L := LcScope.of (by kernel_rfl)) (hi := (qpi_zipK K (by rfl) (by rfl) (by exact T.zip) (qpa_cons (qpv 5) (qpa_cons (qpv 3) qpa_nil)))) (hin := (fun _ _ _ _ => ⟨(qpg_tupK K 2 (by rfl) (by rfl) (qpgs_cons (qpgn 0 (nd_of (by kernel_rfl))) (qpgs_cons (qpgn 1 (nd_of (by kernel_rfl))) qpgs_nil)) (by rfl) (by rfl)), qpts_nil, (qpb_emit (by rfl) (by rfl) (qpe_op op_sub (qpv 0) (qpe_op op_mul (qpv 2) (qpv 1))))⟩)))
      (qpss_one (qps_expr (qpm_appendK K (by rfl) (qpv 4) (qpe_op op_cat (qpe_op op_cat (qpe_slice (sl_listK K (by rfl)) (qpv 7) qpo_none (qpo_some (qpv 1))) (qpe_lst (qpa_cons (qpv 6) qpa_nil))) (qpe_slice (sl_listK K (by rfl)) (qpv 7) (qpo_some (qpv 1)) qpo_none)) (by rfl) (by rfl) (by rfl))))))
      (qpss_cons (qps_expr (qpm_insertK K (by rfl) (qpv 4) (qpv 1) (qpe_op op_cat (qpe_op op_cat (qpe_slice (sl_listK K (by rfl)) (qpv 3) qpo_none (qpo_some (qpv 1))) (qpe_lst (qpa_cons qpe_int qpa_nil))) (qpe_slice (sl_listK K (by rfl)) (qpv 3) (qpo_some (qpv 1)) qpo_none)) (by rfl) (by rfl) (by rfl) (by rfl) (by rfl)))
      (qpss_one (qps_ret (qpv 4)))))) ?_
  show (_ : TS) _ [some (.ref a), some (.int p), some (.ref b), some (.ref c), none, none, none, none] H
  walk_at "rd"
  obtain ⟨rs, hrl, htp, hrow⟩ := id hM
  have hln : (rs.map V.ref).length = n := by rw [List.length_map, hrl]
  refine ⟨by show 0 ≤ sizeLine; decide, fun acc hacc => ?_⟩
  have smA : Same H (upd H acc (.lst [])) := Same.new hacc
  refine ⟨_, _, ⟨rfl, rfl⟩, ⟨_, SqL.of (smA _ _ htp)⟩, ⟨_, SqL.of (smA _ _ hb)⟩, ?_⟩
  obtain ⟨Pv, hPv⟩ : ∃ Pv : Nat → L2.St → Hp → Prop, Pv = fun (i : Nat) σ H1 => ∃ (x5 x6 x7 : Option V), σ = [some (.ref a), some (.int p), some (.ref b), some (.ref c), some (.ref acc), x5, x6, x7] ∧ RowsAcc H H1 acc i (fun i => rowN (n + 1) fun k => if k = p then u i else M i (dn p k) - u i * v (dn p k)) := ⟨_, rfl⟩
  refine loop_zip (rs.map V.ref) ((rowN n u).map V.int) (by rw [hln, rowN_len]) Pv (by rw [hPv]; exact ⟨_, _, _, rfl, RowsAcc.start _ hacc⟩) (fun k σ H3 _ h => ?_) ?_ ?_
  · rw [hPv] at h
    obtain ⟨_, _, _, _, A⟩ := h
    exact ⟨SqL.of (A.sm _ _ htp), SqL.of (A.sm _ _ hb)⟩
  · intro i x y pp σ H1 hx hy h hpp
    rw [hPv] at h
    obtain ⟨x5, x6, x7, rfl, A⟩ := h
    obtain ⟨r, hr1, rfl⟩ := ref_at hx
    have hin : i < n := by rw [← hrl]; exact (List.getElem?_eq_some_iff.mp hr1).1
    rw [rowN_get hin] at hy
    cases hy
    have smp : Same H1 (upd H1 pp (.tup [.ref r, .int (u i)])) := Same.new hpp
    have htp' : upd H1 pp (.tup [.ref r, .int (u i)]) pp = some (.tup [.ref r, .int (u i)]) := upd_same
    generalize upd H1 pp (.tup [.ref r, .int (u i)]) = H2 at smp htp' ⊢
    have smH2 : Same H H2 := A.sm.trans smp
    walk_at "rd"
    refine ⟨_, SqT.of htp', rfl, _, _, rfl, _, _, rfl, rfl, ?_⟩
    walk_at "rd"
    refine ⟨_, _, ⟨rfl, rfl⟩, ⟨_, SqL.of (smH2 _ _ (hrow i r hr1))⟩, ⟨_, SqL.of (smH2 _ _ hc)⟩, fun ac hac => ?_⟩
    obtain ⟨Pw, hPw⟩ : ∃ Pw : Nat → L2.St → Hp → Prop, Pw = fun (k : Nat) σ H3 => ∃ (x0 x1 : Option V), σ = [x0, x1, some (.int (u i))] ∧ IntsAcc H2 H3 ac k (fun k => M i k - u i * v k) := ⟨_, rfl⟩
    refine loop_zip ((rowN n (M i)).map V.int) ((rowN n v).map V.int) (by rw [rowN_len, rowN_len]) Pw (by rw [hPw]; exact ⟨_, _, rfl, IntsAcc.start _ hac⟩) (fun k σ H4 _ h => ?_) ?_ ?_
    · rw [hPw] at h
      obtain ⟨_, _, _, B⟩ := h
      exact ⟨SqL.of (B.sm _ _ (smH2 _ _ (hrow i r hr1))), SqL.of (B.sm _ _ (smH2 _ _ hc))⟩
    · intro k x y p2 σ H4 hx hy h hp2
      rw [hPw] at h
      obtain ⟨x0, x1, rfl, B⟩ := h
      have hk : k < n := by have := (List.getElem?_eq_some_iff.mp hx).1; rw [rowN_len] at this; exact this
      rw [rowN_get hk] at hx hy
      cases hx
      cases hy
      have smt2 : Same H4 (upd H4 p2 (.tup [.int (M i k), .int (v k)])) := Same.new hp2
      walk_at "rd"
      refine ⟨_, SqT.of upd_same, rfl, _, _, rfl, _, _, rfl, rfl, ?_⟩
      walk_at "rd"
      obtain ⟨xs, e1, e2, B2⟩ := B.emit (x := M i k - u i * v k) (by omega) smt2 rfl
      refine ⟨.inl (hu i hin), xs, e1, e2, ?_⟩
      rw [hPw]
      exact ⟨_, _, rfl, B2⟩
    · intro σ H3 h
      rw [rowN_len, hPw] at h
      obtain ⟨x0, x1, rfl, B⟩ := h
      have hac3 := B.at_
      rw [← rowN_map] at hac3
      obtain ⟨ts, hts, hac1, _, _⟩ := A.ex
      have sm13 : Same H1 H3 := smp.trans B.sm
      refine ⟨tyl (SqL.of (sm13 _ _ hac1)), mid (fun l H' => ∃ x6, H' acc = some (.lst x6) ∧ x6.length < sizeLine ∧ Pv (i + 1) [some (V.ref a), some (V.int p), some (V.ref b), some (V.ref c), some (V.ref acc), some (V.ref r), some (V.int (u i)), some (V.ref ac)] (upd H' acc (.lst (x6 ++ [.ref l])))) hac3 (by rw [rowN_len]; exact hp) (by rw [rowN_len]; omega) fun l H4 hl hl0 sm4 => ?_⟩
      rw [more_row hp] at hl
      obtain ⟨xs, e1, e2, A2⟩ := A.emit (H2 := H4) (l := l) (by omega) (sm13.trans sm4) (sm13.gone hl0) hl
      refine ⟨xs, e1, e2, ?_⟩
      rw [hPv]
      exact ⟨_, _, _, rfl, A2⟩
  · intro σ H1 h
    rw [hln, hPv] at h
    obtain ⟨x5, x6, x7, rfl, A⟩ := h
    walk_at "rd"
    obtain ⟨ts, hts, hac1, _, _⟩ := A.ex
    have hc1 := A.sm _ _ hc
    refine ⟨tyl (SqL.of hac1), mid (fun l H' => ∃ x6 x7 x8, ((p : Int) = x7 ∧ V.ref l = x8) ∧ H' acc = some (.lst x6) ∧ 0 ≤ x7 ∧ x7 ≤ x6.length ∧ x6.length < sizeLine ∧ Q (V.ref acc) (upd H' acc (.lst (x6.take x7.toNat ++ [x8] ++ x6.drop x7.toNat)))) hc1 (by rw [rowN_len]; exact hp) (by rw [rowN_len]; omega) fun l H4 hl hl0 sm4 => ?_⟩
    rw [more_row hp] at hl
    obtain ⟨xs, e1, e2, e3, A2⟩ := A.insert (H2 := H4) (l := l) hp (by omega) sm4 hl0 hl
    refine ⟨xs, _, _, ⟨rfl, rfl⟩, e1, by omega, by omega, e3, ?_⟩
    rw [Int.toNat_natCast]
    refine q acc _ ?_
    have e : (fun i => if i = p then (rowN (n + 1) fun k => if k = p then 0 else v (dn p k)) else rowN (n + 1) fun k => if k = p then u (dn p i) else M (dn p i) (dn p k) - u (dn p i) * v (dn p k)) = fun i => rowN (n + 1) (lM p M u v i) := by
      funext i
      by_cases hi : i = p
      · rw [if_pos hi]
        apply rowN_congr
        intro k _
        unfold lM
        rw [if_pos hi]
      · rw [if_neg hi]
        apply rowN_congr
        intro k _
        unfold lM
        rw [if_neg hi]
    rw [← e]
    exact A2
end
end K57

namespace K57
open PySem PySem.Spec PyProof.Rows L2
/-- a move that stands at m: a drawing or a laying -/
inductive Move (H : Hp) (m : Addr) (n : Nat) (M : Nat → Nat → Int) : Type where
  | draw (p : Int) (h : H m = some (.tup [.str "draw", .int p]))
  | lay (p : Int) (b c : Addr) (us vs : List Int) (h : H m = some (.tup [.str "lay", .int p, .ref b, .ref c])) (hb : H b = some (.lst (us.map V.int))) (hc : H c = some (.lst (vs.map V.int))) (hul : us.length ≤ 100) (hvl : vs.length ≤ 100) (hub : ∀ x ∈ us, -(2 ^ 64) < x ∧ x < 2 ^ 64)
theorem _root_.L2.RowsAcc.old {H0 H H' : Hp} {l : Addr} {n : Nat} {F : Nat → List Int} (A : RowsAcc H H' l n F) (e : Same H0 H) : RowsAcc H0 H' l n F := by
  obtain ⟨⟨ts, h1, h3, h4, h5⟩, sm1, no⟩ := A
  exact ⟨⟨ts, h1, h3, fun j r hj => ⟨(h4 j r hj).1, e.gone (h4 j r hj).2.1, (h4 j r hj).2.2⟩, h5⟩, e.trans sm1, e.gone no⟩
section
variable {P : Program} {w : World} {K : PySem.W.Frag} {mg : Str → Option Value} {base : Heap}
-- require_move  N = [(0, 'table'), (1, 'move'), (2, 'word'), (3, 'p'), (4, 'ins'), (5, 'outs')]  cells = []
abbrev s_require_move : Stmt := top 9
theorem sc_require_move : FnScope ["table", "move", "word", "p", "ins", "outs"] ["table", "move"] (defScope s_require_move) := ⟨rfl, rfl, rfl, by decide +kernel, rfl, by decide +kernel, by decide +kernel⟩
def sp_reqM (cM : Addr) (K : PySem.W.Frag) : Sp := fun vs H Q E => ∃ (a m : Addr) (n : Nat) (M : Nat → Nat → Int), vs = [.ref a, .ref m] ∧ Mx2 H a n n M ∧ n ≤ 100 ∧ ∃ mv : Move H m n M, ∀ (H' : Hp), Same H H' → (match mv with
  | .draw p _ => (okD n M p → Q .non H') ∧ (¬ okD n M p → E (.ref cM) none H')
  | .lay p _ _ us vs _ _ _ _ _ _ => (OkL n p M us vs → Q .non H') ∧ (¬ OkL n p M us vs → E (.ref cM) none H'))
theorem ok_require_move {f cM : Addr} {fd : FuncData} (F : Fun K "require_move" "require_move" s_require_move f fd) (T : Blt mg) (C_NoMove : ExC K mg "NoMove" cM) (D_require_drawn : DfE P w K mg base "require_drawn" ["table", "p"] 1 (sp_reqD cM K)) (D_require_laid : DfE P w K mg base "require_laid" ["table", "p", "ins", "outs"] 1 (sp_reqL cM K)) : FnOk P w K mg base (CXE P w base) 2 f fd ["table", "move"] (sp_reqM cM K) := by
  refine F.okE sc_require_move (fun vs H Q E h => ?_) (fun cdv A outer s H vs Q E hr h => ?_)
  · obtain ⟨a, m, n, M, rfl, _⟩ := h; rfl
  obtain ⟨a, m, n, M, rfl, hM, hn, mv, q⟩ := h
  refine qmk (qpss_one (qps_if (qnT (qpt_cmpR op_eq (qpe_ix (ix_tupK K (by rfl)) (qpv 1) qpe_int (fun _ _ => rfl)) qpe_str (nomark _))) (qpss_one (qps_expr (qpe_dfE (by exact D_require_drawn) passE (by exact hr.mono (by decide)) (qpa_cons (qpv 0) (qpa_cons (qpe_ix (ix_tupK K (by rfl)) (qpv 1) qpe_int (fun _ _ => rfl)) qpa_nil))))) (qpss_one (qps_if (qnT (qpt_cmpR op_eq (qpe_ix (ix_tupK K (by rfl)) (qpv 1) qpe_int (fun _ _ => rfl)) qpe_str (nomark _))) (qpss_cons (qnS (qps_asg (qpv 1) (qpg_tupK K 4 (by rfl) (by rfl) (qpgs_cons (qpgn 2 sc_require_move.nd) (qpgs_cons (qpgn 3 sc_require_move.nd) (qpgs_cons (qpgn 4 sc_require_move.nd) (qpgs_cons (qpgn 5 sc_require_move.nd) qpgs_nil)))) (by rfl) (by rfl))))
      (qpss_one (qps_expr (qpe_dfE (by exact D_require_laid) passE (by exact hr.mono (by decide)) (qpa_cons (qpv 0) (qpa_cons (qpv 3) (qpa_cons (qpv 4) (qpa_cons (qpv 5) qpa_nil)))))))) (qpss_one (qps_raise raiseOk_cx (by rfl) (by exact C_NoMove) (by rfl) (qpa_cons qpe_str qpa_nil))))))) ?_
  show (_ : TS) _ [some (.ref a), some (.ref m), none, none, none, none] H
  walk_at "rd"
  cases mv with
  | draw p h =>
    refine ⟨_, SqT.of h, _, rfl, rfl, ?_⟩
    rw [if_pos rfl]
    refine ⟨_, SqT.of h, .int p, rfl, ?_⟩
    exact ⟨a, n, p, M, rfl, hM, hn, fun H' sm => q H' sm⟩
  | lay p b c us vs h hb hc hul hvl hub =>
    refine ⟨_, SqT.of h, _, rfl, rfl, ?_⟩
    rw [if_neg (by simp; decide +kernel)]
    refine ⟨_, SqT.of h, _, rfl, rfl, ?_⟩
    rw [if_pos rfl]
    refine ⟨_, SqT.of h, rfl, _, _, rfl, _, _, rfl, _, _, rfl, _, _, rfl, rfl, ?_⟩
    exact ⟨a, b, c, n, p, M, us, vs, rfl, hM, hn, hb, hc, hul, hvl, hub, fun H' sm => q H' sm⟩
/-- the numbers of a list, by places -/
def fL (ns : List Int) (i : Nat) : Int := ns.getD i 0
theorem fL_row {ns : List Int} {n : Nat} (h : ns.length = n) : (rowN n (fL ns)).map V.int = ns.map V.int := by
  have : rowN n (fL ns) = ns := rowN_of h
  rw [this]
-- draw_done  N = [(0, 'table'), (1, 'move'), (2, 'word'), (3, 'p'), (4, 'ins'), (5, 'outs')]  cells = []
abbrev s_draw_done : Stmt := top 7
theorem sc_draw_done : FnScope ["table", "move", "word", "p", "ins", "outs"] ["table", "move"] (defScope s_draw_done) := ⟨rfl, rfl, rfl, by decide +kernel, rfl, by decide +kernel, by decide +kernel⟩
def sp_done (cM : Addr) (K : PySem.W.Frag) : Sp := fun vs H Q E => ∃ (a m : Addr) (n : Nat) (M : Nat → Nat → Int), vs = [.ref a, .ref m] ∧ Mx2 H a n n M ∧ n ≤ 100 ∧ Bnd n M ∧ ∃ mv : Move H m n M, ∀ (H' : Hp), (match mv with
  | .draw p _ => (okD n M p → ∀ l n', n = n' + 1 → RowsAcc H H' l n' (fun i => rowN n' (dM p.toNat M i)) → Q (.ref l) H') ∧ (¬ okD n M p → Same H H' → E (.ref cM) none H')
  | .lay p _ _ us vs _ _ _ _ _ _ => (OkL n p M us vs → ∀ l, RowsAcc H H' l (n + 1) (fun i => rowN (n + 1) (lM p.toNat M (fL us) (fL vs) i)) → Q (.ref l) H') ∧ (¬ OkL n p M us vs → Same H H' → E (.ref cM) none H'))
theorem ok_draw_done {f cM : Addr} {fd : FuncData} (F : Fun K "draw_done" "draw_done" s_draw_done f fd) (T : Blt mg) (D_require_move : DfE P w K mg base "require_move" ["table", "move"] 2 (sp_reqM cM K)) (D_drawn : Df P w K mg base "drawn" ["table", "p"] 2 (sp_drawn K)) (D_laid : Df P w K mg base "laid" ["table", "p", "ins", "outs"] 1 (sp_laid K)) : FnOk P w K mg base (CXE P w base) 3 f fd ["table", "move"] (sp_done cM K) := by
  refine F.okE sc_draw_done (fun vs H Q E h => ?_) (fun cdv A outer s H vs Q E hr h => ?_)
  · obtain ⟨a, m, n, M, rfl, _⟩ := h; rfl
  obtain ⟨a, m, n, M, rfl, hM, hn, hB, mv, q⟩ := h
  refine qmk (qpss_cons (qps_expr (qpe_dfE (by exact D_require_move) passE (by exact hr.mono (by decide)) (qpa_cons (qpv 0) (qpa_cons (qpv 1) qpa_nil))))
      (qpss_cons (qnS (qps_if (qpt_cmpR op_eq (qpe_ix (ix_tupK K (by rfl)) (qpv 1) qpe_int (fun _ _ => rfl)) qpe_str (nomark _)) (qpss_one (qps_ret (qpe_df (by exact D_drawn) (by exact hr.mono (by decide)) (qpa_cons (qpv 0) (qpa_cons (qpe_ix (ix_tupK K (by rfl)) (qpv 1) qpe_int (fun _ _ => rfl)) qpa_nil))))) qpss_nil))
      (qpss_cons (qnS (qps_asg (qpv 1) (qpg_tupK K 4 (by rfl) (by rfl) (qpgs_cons (qpgn 2 sc_draw_done.nd) (qpgs_cons (qpgn 3 sc_draw_done.nd) (qpgs_cons (qpgn 4 sc_draw_done.nd) (qpgs_cons (qpgn 5 sc_draw_done.nd) qpgs_nil)))) (by rfl) (by rfl))))
      (qpss_one (qnS (qps_ret (qpe_df (by exact D_laid) (by exact hr.mono (by decide)) (qpa_cons (qpv 0) (qpa_cons (qpv 3) (qpa_cons (qpv 4) (qpa_cons (qpv 5) qpa_nil))))))))))) ?_
  show (_ : TS) _ [some (.ref a), some (.ref m), none, none, none, none] H
  walk_at "rd"
  refine ⟨a, m, n, M, rfl, hM, hn, mv, fun H1 sm1 => ?_⟩
  cases mv with
  | draw p h =>
    refine ⟨fun ok => ?_, fun no => (q H1).2 no sm1⟩
    have h' := sm1 _ _ h
    refine ⟨_, SqT.of h', _, rfl, rfl, ?_⟩
    rw [if_pos rfl]
    obtain ⟨k, rfl⟩ : ∃ k : Nat, p = (k : Int) := ⟨p.toNat, by have := ok.1; omega⟩
    have hk : k < n := by have := ok.2.1; omega
    obtain ⟨n', rfl⟩ : ∃ n', n = n' + 1 := ⟨n - 1, by omega⟩
    refine ⟨_, SqT.of h', .int (k : Int), rfl, a, n', k, M, rfl, hM.same sm1, hk, by omega, hB, fun l H2 A => ?_⟩
    refine (q H2).1 ok l n' rfl ?_
    rw [Int.toNat_natCast]
    exact A.old sm1
  | lay p b c us vs h hb hc hul hvl hub =>
    refine ⟨fun ok => ?_, fun no => (q H1).2 no sm1⟩
    have h' := sm1 _ _ h
    refine ⟨_, SqT.of h', _, rfl, rfl, ?_⟩
    rw [if_neg (by simp; decide +kernel)]
    refine ⟨_, SqT.of h', rfl, _, _, rfl, _, _, rfl, _, _, rfl, _, _, rfl, rfl, ?_⟩
    obtain ⟨k, rfl⟩ : ∃ k : Nat, p = (k : Int) := ⟨p.toNat, by have := ok.p0; omega⟩
    refine ⟨a, b, c, n, k, M, fL us, fL vs, rfl, hM.same sm1, hn, by have := ok.p1; omega, by rw [fL_row ok.u.1]; exact sm1 _ _ hb, by rw [fL_row ok.v.1]; exact sm1 _ _ hc, fun i hi => ?_, fun l H2 A => (q H2).1 ok l (by rw [Int.toNat_natCast]; exact A.old sm1)⟩
    have hi' : i < us.length := by rw [ok.u.1]; exact hi
    unfold fL
    rw [List.getD_eq_getElem?_getD, List.getElem?_eq_getElem hi']
    exact hub _ (List.getElem_mem hi')
-- draw_back  N = [(0, 'table'), (1, 'move'), (2, 'p')]  cells = ['p']
abbrev s_draw_back : Stmt := top 8
theorem sc_draw_back : FnScope ["table", "move", "p"] ["table", "move"] (defScope s_draw_back) := ⟨rfl, rfl, rfl, by decide +kernel, rfl, by decide +kernel, by decide +kernel⟩
def sp_back (cM : Addr) (K : PySem.W.Frag) : Sp := fun xs H Q E => ∃ (a m : Addr) (n : Nat) (M : Nat → Nat → Int), xs = [.ref a, .ref m] ∧ Mx2 H a n n M ∧ n ≤ 100 ∧
  ∃ (p : Int) (b c : Addr) (us vs : List Int), H m = some (.tup [.str "lay", .int p, .ref b, .ref c]) ∧ H b = some (.lst (us.map V.int)) ∧ H c = some (.lst (vs.map V.int)) ∧ us.length ≤ 100 ∧ vs.length ≤ 100 ∧ (∀ x ∈ us, -(2 ^ 64) < x ∧ x < 2 ^ 64) ∧
    ∀ (H' : Hp), Same H H' → (OkL n p M us vs → ∀ r, H r = none → H' r = some (.tup [.str "draw", .int p]) → Q (.ref r) H') ∧ (¬ OkL n p M us vs → E (.ref cM) none H')
theorem ok_draw_back {f cM : Addr} {fd : FuncData} (F : Fun K "draw_back" "draw_back" s_draw_back f fd) (T : Blt mg) (D_require_move : DfE P w K mg base "require_move" ["table", "move"] 2 (sp_reqM cM K)) (D_without : Df P w K mg base "without" ["numbers", "p"] 1 (sp_without K)) : FnOk P w K mg base (CXE P w base) 3 f fd ["table", "move"] (sp_back cM K) := by
  refine F.okE sc_draw_back (fun vs H Q E h => ?_) (fun cdv A outer s H vs Q E hr h => ?_)
  · obtain ⟨a, m, n, M, rfl, _⟩ := h; rfl
  obtain ⟨a, m, n, M, rfl, hM, hn, p, b, c, us, vs, h, hb, hc, hul, hvl, hub, q⟩ := h
  refine qmk (qpss_cons (qps_expr (qpe_dfE (by exact D_require_move) passE (by exact hr.mono (by decide)) (qpa_cons (qpv 0) (qpa_cons (qpv 1) qpa_nil))))
      (qpss_cons (qnS (qpset 2 sc_draw_back.nd (qpe_ix (ix_tupK K (by rfl)) (qpv 1) qpe_int (fun _ _ => rfl))))
      (qpss_cons (qnS (qps_if (qpt_cmpR op_eq (qpe_ix (ix_tupK K (by rfl)) (qpv 1) qpe_int (fun _ _ => rfl)) qpe_str (nomark _)) (qpss_one (qps_ret (qpe_tup (qpa_cons qpe_str (qpa_cons (qpv 2) qpa_nil))))) qpss_nil))
      (qpss_one (qnS (qps_ret (qpe_tup (qpa_cons qpe_str (qpa_cons (qpv 2) (qpa_cons (qpe_df (by exact D_without) (by exact hr.mono (by decide)) (qpa_cons (qpe_lc ["row"] [("p", 2)] rfl (LcScope.of (by kernel_rfl)) (qpi_listK K (by rfl) (qpv 0)) (fun _ _ _ _ => ⟨(qpgn 0 (nd_of (by kernel_rfl))), qpts_nil, (qpb_emit (by rfl) (by rfl) (qpe_ix (ix_listK K (by rfl)) (qpv 0) (qpv 1) (fun _ _ => rfl)))⟩)) (qpa_cons (qpv 2) qpa_nil))) (qpa_cons (qpe_df (by exact D_without) (by exact hr.mono (by decide)) (qpa_cons (qpe_ix (ix_listK K (by rfl)) (qpv 0) (qpv 2) (fun _ _ => rfl)) (qpa_cons (qpv 2) qpa_nil))) qpa_nil))))))))))) ?_
  show (_ : TS) _ [some (.ref a), some (.ref m), none] H
  walk_at "rd"
  refine ⟨a, m, n, M, rfl, hM, hn, .lay p b c us vs h hb hc hul hvl hub, fun H1 sm1 => ⟨fun ok => ?_, fun no => (q H1 sm1).2 no⟩⟩
  have h' := sm1 _ _ h
  refine ⟨_, SqT.of h', .int p, rfl, _, SqT.of h', _, rfl, rfl, ?_⟩
  rw [if_pos rfl]
  refine ⟨by show 2 ≤ sizeLine; decide, fun r hr0 => ?_⟩
  exact (q _ (sm1.put (sm1.gone hr0))).1 ok r (sm1.gone hr0) upd_same
end
end K57

namespace K57
open PySem PySem.Spec PyProof.Rows L2
theorem _root_.L2.RowsAcc.same {H H' H2 : Hp} {l : Addr} {n : Nat} {F : Nat → List Int} (A : RowsAcc H H' l n F) (e : Same H' H2) : RowsAcc H H2 l n F := by
  obtain ⟨⟨ts, h1, h3, h4, h5⟩, sm1, no⟩ := A
  exact ⟨⟨ts, h1, e _ _ h3, fun j r hj => ⟨e _ _ (h4 j r hj).1, (h4 j r hj).2⟩, h5⟩, sm1.trans e, no⟩
/-- a grid as rows of numbers -/
theorem Grid.mx {H : Hp} {a : Addr} {rs : List Addr} {g : List (List Int)} {n B : Nat} (G : Grid H a rs g) (hG : Good n B g) : Mx2 H a n n (gM g) := by
  refine ⟨rs, by rw [G.len, hG.1], G.tp, fun i r hi => ?_⟩
  obtain ⟨ns, h1, h2⟩ := G.row i r hi
  have hl := (hG.2 ns (List.mem_of_getElem? h1)).1
  have e : rowN n (gM g i) = ns := by
    have : gM g i = fun j => ns.getD j 0 := by
      funext j
      unfold gM
      rw [List.getD_eq_getElem?_getD (l := g), h1]; rfl
    rw [this]; exact rowN_of hl
  rw [e]; exact h2
theorem gM_bd {n B : Nat} {g : List (List Int)} (hG : Good n B g) {i j : Nat} (hi : i < n) (hj : j < n) : 0 ≤ gM g i j ∧ gM g i j ≤ B := by
  obtain ⟨ns, y, e1, e2, y0, y1, e3⟩ := hG.get hi hj
  have : gM g i j = y := by unfold gM; rw [List.getD_eq_getElem?_getD (l := g), e1]; show ns.getD j 0 = y; rw [List.getD_eq_getElem?_getD, e2]; rfl
  rw [this]; exact ⟨y0, y1⟩
theorem Grid.old {H : Hp} {a : Addr} {rs : List Addr} {g : List (List Int)} (G : Grid H a rs g) : L2.Grid H a rs g := ⟨G.tp, G.row, G.len, G.nd, G.na⟩
theorem _root_.L2.RowsAcc.grid {H H' : Hp} {l : Addr} {n : Nat} {F : Nat → List Int} (A : RowsAcc H H' l n F) : ∃ ts, Grid H' l ts ((List.range n).map F) ∧ ∀ r ∈ ts, H r = none := by
  obtain ⟨⟨ts, h1, h3, h4, h5⟩, sm1, no⟩ := A
  refine ⟨ts, ⟨h3, fun i r hi => ⟨F i, ?_, (h4 i r hi).1⟩, by simp [h1], h5, fun z => ?_⟩, fun r hr => ?_⟩
  · have : i < n := by rw [← h1]; exact (List.getElem?_eq_some_iff.mp hi).1
    rw [List.getElem?_map, List.getElem?_range this]; rfl
  · obtain ⟨j, hj, ej⟩ := List.mem_iff_getElem.mp z
    exact (h4 j l (List.getElem?_eq_some_iff.mpr ⟨hj, ej⟩)).2.2 rfl
  · obtain ⟨j, hj, ej⟩ := List.mem_iff_getElem.mp hr
    exact (h4 j r (List.getElem?_eq_some_iff.mpr ⟨hj, ej⟩)).2.1
theorem grid_of {n B : Nat} {g : List (List Int)} (hG : Good n B g) : (List.range n).map (fun i => rowN n (gM g i)) = g := by
  apply List.ext_getElem?
  intro i
  by_cases hi : i < n
  · rw [List.getElem?_map, List.getElem?_range hi]
    have hg : i < g.length := by rw [hG.1]; exact hi
    rw [List.getElem?_eq_getElem hg]
    have hl := (hG.2 _ (List.getElem_mem hg)).1
    have e : rowN n (gM g i) = g[i] := by
      have : gM g i = fun j => (g[i]).getD j 0 := by
        funext j
        unfold gM
        rw [List.getD_eq_getElem?_getD (l := g), List.getElem?_eq_getElem hg]; rfl
      rw [this]; exact rowN_of hl
    show some (rowN n (gM g i)) = _
    rw [e]
  · rw [List.getElem?_eq_none (by simp; omega), List.getElem?_eq_none (by rw [hG.1]; omega)]
theorem sum_less {n p : Nat} {f : Nat → Int} (h : p < n + 1) : M36.sumN (n + 1) f = f p + M36.sumN n (fun i => f (up p i)) := by
  show ((List.range (n + 1)).map f).sum = f p + ((List.range n).map fun i => f (up p i)).sum
  rw [← less_map h]
  have e : (List.range (n + 1)).map f = ((List.range (n + 1)).map f).take p ++ (f p :: ((List.range (n + 1)).map f).drop (p + 1)) := by
    conv => lhs; rw [← List.take_append_drop p ((List.range (n + 1)).map f)]
    congr 1
    rw [List.drop_eq_getElem_cons (by simpa using h)]
    simp
  conv => lhs; rw [e]
  rw [List.sum_append, List.sum_append, List.sum_cons]
  omega
section
variable {P : Program} {w : World} {K : PySem.W.Frag} {mg : Str → Option Value} {base : Heap}
-- _law_copy  N = [(0, '_law_grid')]  cells = []
abbrev s_l_copy : Stmt := top 21
theorem sc_l_copy : FnScope ["_law_grid"] ["_law_grid"] (defScope s_l_copy) := ⟨rfl, rfl, rfl, by decide +kernel, rfl, by decide +kernel, by decide +kernel⟩
/-- the copy of a grid: new rows -/
def sp_copy (K : PySem.W.Frag) : Sp := fun vs H Q _ => ∃ (a : Addr) (rs : List Addr) (g : List (List Int)), vs = [.ref a] ∧ Grid H a rs g ∧ g.length ≤ 100 ∧ ∀ (a' : Addr) (rs' : List Addr) (H' : Hp), Grid H' a' rs' g → Same H H' → H a' = none → (∀ r ∈ rs', H r = none) → Q (.ref a') H'
theorem ok_l_copy {f : Addr} {fd : FuncData} (F : Fun K "_law_copy" "_law_copy" s_l_copy f fd) (T : Blt mg) : FnOk P w K mg base CX0 1 f fd ["_law_grid"] (sp_copy K) := by
  refine F.ok sc_l_copy (fun vs H Q E h => ?_) (fun cdv A outer s H vs Q E hr h => ?_)
  · obtain ⟨a, rs, g, rfl, _⟩ := h; rfl
  obtain ⟨a, rs, g, rfl, G, hg, q⟩ := h
  refine qmk (qpss_one (qps_ret (qpe_lc ["_law_row"] [] rfl (LcScope.of (by kernel_rfl)) (qpi_listK K (by rfl) (qpv 0)) (fun _ _ _ _ => ⟨(qpgn 0 (nd_of (by kernel_rfl))), qpts_nil, (qpb_emit (by rfl) (by rfl) (qpe_callTy (call_listK K (by rfl)) (by rfl) (by exact T.list) (by decide +kernel) (qpa_cons (qpv 0) qpa_nil)))⟩)))) ?_
  show (_ : TS) _ [some (.ref a)] H
  walk_at "rd"
  refine ⟨⟨_, SqL.of G.tp⟩, fun acc hacc => ?_⟩
  have inv : ∃ Pv : Nat → L2.St → Hp → Prop, Pv = fun (i : Nat) σ H1 => ∃ (ts : List Addr) (x0 : Option V), σ = [x0] ∧ ts.length = i ∧ H1 acc = some (.lst (ts.map V.ref)) ∧ (∀ (j : Nat) (r : Addr), ts[j]? = some r → ∃ ns : List Int, g[j]? = some ns ∧ H1 r = some (.lst (ns.map V.int))) ∧ ts.Nodup ∧ (∀ r ∈ ts, H r = none ∧ r ≠ acc) ∧ Same H H1 := ⟨_, rfl⟩
  obtain ⟨Pv, hPv⟩ := inv
  refine loop_list (rs.map V.ref) Pv (by rw [hPv]; exact ⟨[], none, rfl, rfl, upd_same, by simp, List.nodup_nil, by simp, Same.new hacc⟩) (fun i σ H1 _ h => ?_) ?_ ?_
  · rw [hPv] at h
    obtain ⟨ts, x0, _, _, _, _, _, _, sm⟩ := h
    exact SqL.of (sm _ _ G.tp)
  · intro i x σ H1 hi h
    rw [hPv] at h
    obtain ⟨ts, x0, rfl, hl, h1, h2, h3, h4, sm⟩ := h
    rw [List.getElem?_map] at hi
    cases e : rs[i]? with
    | none => rw [e] at hi; cases hi
    | some r =>
      rw [e] at hi; cases hi
      obtain ⟨ns, g1, g2⟩ := G.row i r e
      walk_at "rd"
      have hlen : i < 100 := by
        have := (List.getElem?_eq_some_iff.mp e).1
        rw [G.len] at this; omega
      refine ⟨_, .inl (SqL.of (sm _ _ g2)), fun l hl1 => ⟨_, (by rw [upd_ne (ne_of_none h1 hl1)]; exact h1), ?_, ?_⟩⟩
      · rw [List.length_map, hl]; exact Nat.lt_of_lt_of_le hlen (by decide)
      rw [hPv]
      have hal : acc ≠ l := ne_of_none h1 hl1
      have hl0 : H l = none := sm.gone hl1
      refine ⟨ts ++ [l], _, rfl, by rw [List.length_append, List.length_singleton, hl], ?_, ?_, ?_, ?_, (sm.put hl0).put hacc⟩
      · rw [upd_same, List.map_append]; rfl
      · intro j r' hj
        by_cases hji : j < ts.length
        · rw [List.getElem?_append_left hji] at hj
          obtain ⟨ms, m1, m2⟩ := h2 j r' hj
          refine ⟨ms, m1, ?_⟩
          rw [upd_ne (h4 r' (List.mem_of_getElem? hj)).2, upd_ne (ne_of_none m2 hl1)]
          exact m2
        · rw [List.getElem?_append_right (by omega)] at hj
          have hj0 : j - ts.length = 0 := by
            cases q : j - ts.length with
            | zero => rfl
            | succ k => rw [q] at hj; simp at hj
          rw [hj0] at hj
          have : r' = l := by simpa using hj.symm
          subst this
          have : j = i := by omega
          subst this
          exact ⟨ns, g1, by rw [upd_ne hal.symm, upd_same]⟩
      · rw [List.nodup_append]
        refine ⟨h3, by simp, fun a ha b hb => ?_⟩
        have : b = l := by simpa using hb
        subst this
        obtain ⟨j, hj, ej⟩ := List.mem_iff_getElem.mp ha
        obtain ⟨ms, m1, m2⟩ := h2 j a (by rw [← ej]; simp [hj])
        exact ne_of_none m2 hl1
      · intro r' hr'
        rcases List.mem_append.mp hr' with z | z
        · exact h4 r' z
        · have : r' = l := by simpa using z
          subst this
          exact ⟨hl0, hal.symm⟩
  · intro σ H1 h
    rw [hPv] at h
    obtain ⟨ts, x0, rfl, hl, h1, h2, h3, h4, sm⟩ := h
    rw [List.length_map] at hl
    exact q acc ts H1 ⟨h1, h2, by rw [hl, G.len], h3, fun z => (h4 acc z).2 rfl⟩ sm hacc fun r hr => (h4 r hr).1

-- _law_whole  N = [(0, '_law_found')]  cells = []
abbrev s_l_whole : Stmt := top 22
theorem sc_l_whole : FnScope ["_law_found"] ["_law_found"] (defScope s_l_whole) := ⟨rfl, rfl, rfl, by decide +kernel, rfl, by decide +kernel, by decide +kernel⟩
def sp_whole (K : PySem.W.Frag) : Sp := fun vs H Q _ => ∃ i : Int, vs = [.int i] ∧ Q (.bl true) H
theorem ok_l_whole {f : Addr} {fd : FuncData} (F : Fun K "_law_whole" "_law_whole" s_l_whole f fd) (T : Blt mg) : FnOk P w K mg base CX0 1 f fd ["_law_found"] (sp_whole K) := by
  refine F.ok sc_l_whole (fun vs H Q E h => ?_) (fun cdv A outer s H vs Q E hr h => ?_)
  · obtain ⟨a, rfl, _⟩ := h; rfl
  obtain ⟨i, rfl, q⟩ := h
  refine qmk (qpss_one (qps_ret (qpe_and (qpe_callB (call_isiK K (by rfl)) (by rfl) (by exact T.isinstance) (by decide +kernel) (qpa_cons (qpv 0) (qpa_cons (qpe_bltn (v := .ty "int") (by rfl) (by exact T.int) (by decide +kernel) rfl) qpa_nil))) (qpe_one (qpe_not (qpe_callB (call_isiK K (by rfl)) (by rfl) (by exact T.isinstance) (by decide +kernel) (qpa_cons (qpv 0) (qpa_cons (qpe_bltn (v := .ty "bool") (by rfl) (by exact T.bool) (by decide +kernel) rfl) qpa_nil)))))))) ?_
  show (_ : TS) _ [some (.int i)] H
  walk_at "rd"
  exact ⟨_, _, ⟨rfl, rfl⟩, _, .int i, true, rfl, iteT ⟨_, _, ⟨rfl, rfl⟩, _, .int i, false, rfl, q⟩⟩
-- _law_is_table  N = [(0, '_law_told_here'), (1, '_law_row')]  cells = []
abbrev s_l_is_table : Stmt := top 23
theorem sc_l_is_table : FnScope ["_law_told_here", "_law_row"] ["_law_told_here"] (defScope s_l_is_table) := ⟨rfl, rfl, rfl, by decide +kernel, rfl, by decide +kernel, by decide +kernel⟩
def sp_istable (K : PySem.W.Frag) : Sp := fun vs H Q _ => ∃ (a : Addr) (n c : Nat) (M : Nat → Nat → Int), vs = [.ref a] ∧ Mx2 H a n c M ∧ n ≤ 1000 ∧ c ≤ 1000 ∧ ∀ H', Same H H' → Q (.bl true) H'
theorem ok_l_is_table {f : Addr} {fd : FuncData} (F : Fun K "_law_is_table" "_law_is_table" s_l_is_table f fd) (T : Blt mg) (D_l_whole : Df P w K mg base "_law_whole" ["_law_found"] 1 (sp_whole K)) : FnOk P w K mg base CX0 2 f fd ["_law_told_here"] (sp_istable K) := by
  refine F.ok sc_l_is_table (fun vs H Q E h => ?_) (fun cdv A outer s H vs Q E hr h => ?_)
  · obtain ⟨a, n, c, M, rfl, _⟩ := h; rfl
  obtain ⟨a, n, c, M, rfl, hM, hn, hc, q⟩ := h
  refine qmk (qpss_cons (qps_if (qpt_not (qpt_val (qpe_callB (call_isiK K (by rfl)) (by rfl) (by exact T.isinstance) (by decide +kernel) (qpa_cons (qpv 0) (qpa_cons (qpe_bltn (v := .ty "list") (by rfl) (by exact T.list) (by decide +kernel) rfl) qpa_nil))))) (qpss_one (qps_ret qpe_bl)) qpss_nil)
      (qpss_cons (qps_for PassesOwn.never rfl (qpi_listK K (by rfl) (qpv 0)) (qpgn 1 sc_l_is_table.nd) (qpss_one (qps_if (qPWpt (qpw_or (qpt_not (qpt_val (qpe_callB (call_isiK K (by rfl)) (by rfl) (by exact T.isinstance) (by decide +kernel) (qpa_cons (qpv 1) (qpa_cons (qpe_bltn (v := .ty "list") (by rfl) (by exact T.list) (by decide +kernel) rfl) qpa_nil))))) (qpw_or1 (qpt_not (qpt_val (qpe_callB (call_allK K (by rfl) (by rfl)) (by rfl) (by exact T.all) (by decide +kernel) (qpa_cons (qpe_lc ["_law_number"] [] rfl (LcScope.of (by kernel_rfl)) (qpi_listK K (by rfl) (qpv 1)) (fun _ _ _ _ => ⟨(qpgn 0 (nd_of (by kernel_rfl))), qpts_nil, (qpb_emit (by rfl) (by rfl) (qpe_df (by exact D_l_whole) (by exact hr.mono (by decide)) (qpa_cons (qpv 0) qpa_nil)))⟩)) qpa_nil))))))) (qpss_one (qps_ret qpe_bl)) qpss_nil)))
      (qpss_one (qps_ret qpe_bl)))) ?_
  show (_ : TS) _ [some (.ref a), none] H
  walk_at "rd"
  obtain ⟨rs, hrl, htp, hrow⟩ := id hM
  refine ⟨_, _, ⟨rfl, rfl⟩, _, .lst htp, true, rfl, iteF ⟨⟨_, SqL.of htp⟩, ?_⟩⟩
  obtain ⟨Pv, hPv⟩ : ∃ Pv : Nat → L2.St → Hp → Prop, Pv = fun (_ : Nat) σ H1 => ∃ (x1 : Option V), σ = [some (.ref a), x1] ∧ Same H H1 := ⟨_, rfl⟩
  refine loop_list (rs.map V.ref) Pv (by rw [hPv]; exact ⟨_, rfl, Same.refl _⟩) (fun j σ H2 _ h => ?_) ?_ ?_
  · rw [hPv] at h
    obtain ⟨_, _, sm⟩ := h
    exact SqL.of (sm _ _ htp)
  · intro i x σ H1 hi h
    rw [hPv] at h
    obtain ⟨x1, rfl, sm⟩ := h
    obtain ⟨r, hr1, rfl⟩ := ref_at hi
    have hr2 := sm _ _ (hrow i r hr1)
    walk_at "rd"
    refine ⟨_, _, ⟨rfl, rfl⟩, _, .lst hr2, true, rfl, iteF ⟨⟨_, SqL.of hr2⟩, fun ac hac => ?_⟩⟩
    obtain ⟨Pw, hPw⟩ : ∃ Pw : Nat → L2.St → Hp → Prop, Pw = fun (k : Nat) σ H3 => ∃ (x0 : Option V), σ = [x0] ∧ BlsAcc H1 H3 ac k (fun _ => true) := ⟨_, rfl⟩
    refine loop_list ((rowN c (M i)).map V.int) Pw (by rw [hPw]; exact ⟨_, rfl, BlsAcc.start _ hac⟩) (fun k σ H3 _ h => ?_) ?_ ?_
    · rw [hPw] at h
      obtain ⟨_, _, B⟩ := h
      exact SqL.of (B.sm _ _ hr2)
    · intro k x σ H3 hx h
      rw [hPw] at h
      obtain ⟨x0, rfl, B⟩ := h
      have hk : k < c := by have := (List.getElem?_eq_some_iff.mp hx).1; rw [rowN_len] at this; exact this
      rw [rowN_get hk] at hx
      cases hx
      walk_at "rd"
      obtain ⟨xs, e1, e2, B2⟩ := B.emit (x := true) (by omega) (Same.refl H3) rfl
      refine ⟨_, rfl, xs, e1, e2, ?_⟩
      rw [hPw]
      exact ⟨_, rfl, B2⟩
    · intro σ H3 h
      rw [rowN_len, hPw] at h
      obtain ⟨x0, rfl, B⟩ := h
      refine ⟨_, SqL.of B.at_, ?_⟩
      rw [show ((List.range c).map fun _ => true).all id = true by simp]
      refine iteF ?_
      rw [hPv]
      exact ⟨_, rfl, sm.trans B.sm⟩
  · intro σ H1 h
    rw [hPv] at h
    obtain ⟨x1, rfl, sm⟩ := h
    walk_at "rd"
    exact q H1 sm
-- _law_few  N = [(0, '_law_table_here')]  cells = []
abbrev s_l_few : Stmt := top 24
theorem sc_l_few : FnScope ["_law_table_here"] ["_law_table_here"] (defScope s_l_few) := ⟨rfl, rfl, rfl, by decide +kernel, rfl, by decide +kernel, by decide +kernel⟩
def sp_few (K : PySem.W.Frag) : Sp := fun vs H Q _ => ∃ (a : Addr) (rs : List Addr) (g : List (List Int)) (n : Nat), vs = [.ref a] ∧ Grid H a rs g ∧ Good n 46 g ∧ 1 ≤ n ∧ n ≤ 6 ∧ ∀ (a' : Addr) (rs' : List Addr) (g' : List (List Int)) (n' : Nat) (H' : Hp), Grid H' a' rs' g' → Good n' 46 g' → 1 ≤ n' → n' ≤ 5 → Same H H' → Q (.ref a') H'
theorem cut_five {xs : List V} : cutV xs none (some (5 : Int)) = xs.take 5 := by
  unfold cutV
  have : HT.sIx xs.length xs.length (some (5 : Int)) = min 5 xs.length := by
    show (if (5 : Int) < 0 then ((5 : Int) + (xs.length : Int)).toNat else min ((5 : Int)).toNat xs.length) = _
    rw [if_neg (by decide)]; rfl
  rw [this]
  show List.take (min 5 xs.length - 0) (xs.drop 0) = _
  rw [List.drop_zero, Nat.sub_zero]
  by_cases h : 5 ≤ xs.length
  · rw [Nat.min_eq_left h]
  · rw [Nat.min_eq_right (by omega), List.take_of_length_le (Nat.le_refl _), List.take_of_length_le (by omega)]
theorem ok_l_few {f : Addr} {fd : FuncData} (F : Fun K "_law_few" "_law_few" s_l_few f fd) (T : Blt mg) : FnOk P w K mg base CX0 1 f fd ["_law_table_here"] (sp_few K) := by
  refine F.ok sc_l_few (fun vs H Q E h => ?_) (fun cdv A outer s H vs Q E hr h => ?_)
  · obtain ⟨a, rs, g, n, rfl, _⟩ := h; rfl
  obtain ⟨a, rs, g, n, rfl, G, hG, hn1, hn, q⟩ := h
  refine qmk (qpss_one (qps_ret (qpe_lc ["_law_row"] [] rfl (LcScope.of (by kernel_rfl)) (qpi_listK K (by rfl) (qpe_slice (sl_listK K (by rfl)) (qpv 0) qpo_none (qpo_some qpe_int))) (fun _ _ _ _ => ⟨(qpgn 0 (nd_of (by kernel_rfl))), qpts_nil, (qpb_emit (by rfl) (by rfl) (qpe_slice (sl_listK K (by rfl)) (qpv 0) qpo_none (qpo_some qpe_int)))⟩)))) ?_
  show (_ : TS) _ [some (.ref a)] H
  walk_at "rd"
  refine ⟨_, SqL.of G.tp, fun l hl => ?_⟩
  rw [cut_five, ← List.map_take]
  have sml : Same H (upd H l (.lst ((rs.take 5).map V.ref))) := Same.new hl
  have hll : upd H l (.lst ((rs.take 5).map V.ref)) l = some (.lst ((rs.take 5).map V.ref)) := upd_same
  generalize upd H l (.lst ((rs.take 5).map V.ref)) = H1 at sml hll ⊢
  refine ⟨⟨_, SqL.of hll⟩, fun acc hacc => ?_⟩
  have hrl : rs.length = n := by rw [G.len, hG.1]
  have htl : (rs.take 5).length = min 5 n := by rw [List.length_take, hrl]
  obtain ⟨Pv, hPv⟩ : ∃ Pv : Nat → L2.St → Hp → Prop, Pv = fun (i : Nat) σ H2 => ∃ (x0 : Option V), σ = [x0] ∧ RowsAcc H1 H2 acc i (fun i => (g.getD i []).take 5) := ⟨_, rfl⟩
  refine loop_list ((rs.take 5).map V.ref) Pv (by rw [hPv]; exact ⟨none, rfl, RowsAcc.start _ hacc⟩) (fun i σ H2 _ h => ?_) ?_ ?_
  · rw [hPv] at h
    obtain ⟨_, _, A⟩ := h
    exact SqL.of (A.sm _ _ hll)
  · intro i x σ H2 hx h
    rw [hPv] at h
    obtain ⟨x0, rfl, A⟩ := h
    obtain ⟨r, hr1, rfl⟩ := ref_at hx
    have hi5 : i < 5 := by have := (List.getElem?_eq_some_iff.mp hr1).1; rw [htl] at this; omega
    rw [List.getElem?_take, if_pos hi5] at hr1
    obtain ⟨ns, e1, e2⟩ := G.row i r hr1
    have gd : g.getD i [] = ns := by rw [List.getD_eq_getElem?_getD, e1]; rfl
    walk_at "rd"
    refine ⟨_, SqL.of ((sml.trans A.sm) _ _ e2), fun c hc => ?_⟩
    rw [cut_five, ← List.map_take]
    obtain ⟨xs, e3, e4, A2⟩ := A.emit (H2 := upd H2 c (.lst ((ns.take 5).map V.int))) (l := c) (by omega) (Same.new hc) hc (by rw [upd_same, gd])
    refine ⟨xs, e3, e4, ?_⟩
    rw [hPv]
    exact ⟨_, rfl, A2⟩
  · intro σ H2 h
    rw [List.length_map, htl, hPv] at h
    obtain ⟨x0, rfl, A⟩ := h
    obtain ⟨ts, G2, _⟩ := A.grid
    refine q acc ts _ (min 5 n) H2 G2 ⟨by simp, fun ns hns => ?_⟩ (by omega) (by omega) (sml.trans A.sm)
    obtain ⟨i, hi, rfl⟩ := List.mem_map.mp hns
    have hin : i < min 5 n := List.mem_range.mp hi
    have hg : i < g.length := by rw [hG.1]; omega
    have e : g.getD i [] = g[i] := by rw [List.getD_eq_getElem?_getD, List.getElem?_eq_getElem hg]; rfl
    rw [e]
    have := hG.2 _ (List.getElem_mem hg)
    exact ⟨by rw [List.length_take, this.1], fun x hx => this.2 x (List.mem_of_mem_take hx)⟩
-- _law_numbers  N = [(0, '_law_table_here'), (1, '_law_big_here'), (2, '_law_most'), (3, '_law_found'), (4, '_law_place')]  cells = []
abbrev s_l_numbers : Stmt := top 25
theorem sc_l_numbers : FnScope ["_law_table_here", "_law_big_here", "_law_most", "_law_found", "_law_place"] ["_law_table_here", "_law_big_here", "_law_most"] (defScope s_l_numbers) := ⟨rfl, rfl, rfl, by decide +kernel, rfl, by decide +kernel, by decide +kernel⟩
/-- so many numbers from 0 to 9 -/
def Nums (n : Nat) (ns : List Int) : Prop := ns.length = n ∧ ∀ x ∈ ns, 0 ≤ x ∧ x ≤ 9
def sp_numbers (K : PySem.W.Frag) : Sp := fun vs H Q _ => ∃ (a : Addr) (rs : List Addr) (g : List (List Int)) (n : Nat) (b : Int), vs = [.ref a, .int b, .int 9] ∧ Grid H a rs g ∧ Good n 46 g ∧ n ≤ 6 ∧ ∀ (l : Addr) (ns : List Int) (H' : Hp), H' l = some (.lst (ns.map V.int)) → Nums n ns → Same H H' → Q (.ref l) H'
theorem ok_l_numbers {f : Addr} {fd : FuncData} (F : Fun K "_law_numbers" "_law_numbers" s_l_numbers f fd) (T : Blt mg) : FnOk P w K mg base CX0 1 f fd ["_law_table_here", "_law_big_here", "_law_most"] (sp_numbers K) := by
  refine F.ok sc_l_numbers (fun vs H Q E h => ?_) (fun cdv A outer s H vs Q E hr h => ?_)
  · obtain ⟨a, rs, g, n, b, rfl, _⟩ := h; rfl
  obtain ⟨a, rs, g, n, b, rfl, G, hG, hn, q⟩ := h
  refine qmk (qpss_cons (qpset 3 sc_l_numbers.nd (qpe_lst qpa_nil))
      (qpss_cons (qps_for PassesOwn.never rfl (qpi_listK K (by rfl) (qpv 0)) (qpgn 4 sc_l_numbers.nd) (qpss_cons (qps_expr (qpm_appendK K (by rfl) (qpv 3) (qpe_ix (ix_tupK K (by rfl)) (qpe_tup (qpa_cons qpe_int (qpa_cons qpe_int (qpa_cons qpe_int (qpa_cons qpe_int (qpa_cons qpe_int (qpa_cons qpe_int (qpa_cons qpe_int (qpa_cons (qpe_op op_mod (qpe_op op_fdiv (qpv 1) qpe_int) (qpe_op op_add (qpv 2) qpe_int)) qpa_nil))))))))) (qpe_op op_mod (qpv 1) qpe_int) (fun _ _ => rfl)) (by rfl) (by rfl) (by rfl)))
      (qpss_one (qpset 1 sc_l_numbers.nd (qpe_op op_fdiv (qpv 1) qpe_int)))))
      (qpss_one (qps_ret (qpv 3))))) ?_
  show (_ : TS) _ [some (.ref a), some (.int b), some (.int 9), none, none] H
  walk_at "rd"
  refine ⟨by show 0 ≤ sizeLine; decide, fun acc hacc => ?_⟩
  have smA : Same H (upd H acc (.lst [])) := Same.new hacc
  refine ⟨⟨_, SqL.of (smA _ _ G.tp)⟩, ?_⟩
  have hrl : (rs.map V.ref).length = n := by rw [List.length_map, G.len, hG.1]
  obtain ⟨Pv, hPv⟩ : ∃ Pv : Nat → L2.St → Hp → Prop, Pv = fun (i : Nat) σ H1 => ∃ (bb : Int) (ns : List Int) (x4 : Option V), σ = [some (.ref a), some (.int bb), some (.int 9), some (.ref acc), x4] ∧ H1 acc = some (.lst (ns.map V.int)) ∧ Nums i ns ∧ Same H H1 := ⟨_, rfl⟩
  refine loop_list (rs.map V.ref) Pv (by rw [hPv]; exact ⟨b, [], _, rfl, upd_same, ⟨rfl, by simp⟩, smA⟩) (fun i σ H1 _ h => ?_) ?_ ?_
  · rw [hPv] at h
    obtain ⟨_, _, _, _, _, _, sm⟩ := h
    exact SqL.of (sm _ _ G.tp)
  · intro i x σ H1 hx h
    rw [hPv] at h
    obtain ⟨bb, ns, x4, rfl, h1, h2, sm⟩ := h
    have hin : i < n := by have := (List.getElem?_eq_some_iff.mp hx).1; rw [hrl] at this; exact this
    walk_at "rd"
    refine ⟨tyl (SqL.of h1), ⟨by decide, by decide⟩, by decide, by show 8 ≤ sizeLine; decide, fun p hp => ⟨by decide, _, SqT.of upd_same, ?_⟩⟩
    have hap : acc ≠ p := ne_of_none h1 hp
    obtain ⟨z, ez, z0, z1⟩ : ∃ z : Int, atI [V.int 0, V.int 1, V.int 0, V.int 1, V.int 0, V.int 2, V.int 1, V.int (bb / 8 % (9 + 1))] (bb % 8) = some (.int z) ∧ 0 ≤ z ∧ z ≤ 9 := by
      obtain ⟨k, hk, ek⟩ : ∃ k : Nat, k < 8 ∧ bb % 8 = (k : Int) := ⟨(bb % 8).toNat, by omega, by omega⟩
      rw [ek]
      match k, hk with
      | 0, _ => exact ⟨_, atI_nat rfl, by decide, by decide⟩
      | 1, _ => exact ⟨_, atI_nat rfl, by decide, by decide⟩
      | 2, _ => exact ⟨_, atI_nat rfl, by decide, by decide⟩
      | 3, _ => exact ⟨_, atI_nat rfl, by decide, by decide⟩
      | 4, _ => exact ⟨_, atI_nat rfl, by decide, by decide⟩
      | 5, _ => exact ⟨_, atI_nat rfl, by decide, by decide⟩
      | 6, _ => exact ⟨_, atI_nat rfl, by decide, by decide⟩
      | 7, _ => exact ⟨_, atI_nat rfl, by omega, by omega⟩
    refine ⟨_, ez, _, (by rw [upd_ne hap]; exact h1), by rw [List.length_map, h2.1]; exact Nat.lt_of_le_of_lt (show _ ≤ 100 by omega) (by decide), ⟨by decide, by decide⟩, ?_⟩
    rw [hPv]
    refine ⟨_, ns ++ [z], _, rfl, by rw [upd_same, List.map_append]; rfl, ⟨by rw [List.length_append, h2.1]; rfl, fun x hx => ?_⟩, (sm.put (sm.gone hp)).put hacc⟩
    rcases List.mem_append.mp hx with y | y
    · exact h2.2 x y
    · have : x = z := by simpa using y
      rw [this]; exact ⟨z0, z1⟩
  · intro σ H1 h
    rw [hrl, hPv] at h
    obtain ⟨bb, ns, x4, rfl, h1, h2, sm⟩ := h
    walk_at "rd"
    exact q acc ns H1 h1 h2 sm
-- _law_fitting  N = [(0, '_law_table_here'), (1, '_law_ins'), (2, '_law_outs'), (3, '_law_kept'), (4, '_law_i'), (5, '_law_fits')]  cells = ['_law_i', '_law_ins', '_law_outs', '_law_table_here']
abbrev s_l_fitting : Stmt := top 26
theorem sc_l_fitting : FnScope ["_law_table_here", "_law_ins", "_law_outs", "_law_kept", "_law_i", "_law_fits"] ["_law_table_here", "_law_ins", "_law_outs"] (defScope s_l_fitting) := ⟨rfl, rfl, rfl, by decide +kernel, rfl, by decide +kernel, by decide +kernel⟩
def sp_fitting (K : PySem.W.Frag) : Sp := fun xs H Q _ => ∃ (a b c : Addr) (rs : List Addr) (g : List (List Int)) (n : Nat) (us vs : List Int), xs = [.ref a, .ref b, .ref c] ∧ Grid H a rs g ∧ Good n 46 g ∧ n ≤ 6 ∧ H b = some (.lst (us.map V.int)) ∧ H c = some (.lst (vs.map V.int)) ∧ Nums n us ∧ Nums n vs ∧ ∀ (l : Addr) (ns : List Int) (H' : Hp), H' l = some (.lst (ns.map V.int)) → Nums n ns → Same H H' → Q (.ref l) H'
theorem ok_l_fitting {f : Addr} {fd : FuncData} (F : Fun K "_law_fitting" "_law_fitting" s_l_fitting f fd) (T : Blt mg) : FnOk P w K mg base CX0 1 f fd ["_law_table_here", "_law_ins", "_law_outs"] (sp_fitting K) := by
  refine F.ok sc_l_fitting (fun vs H Q E h => ?_) (fun cdv A outer s H vs Q E hr h => ?_)
  · obtain ⟨a, b, c, rs, g, n, us, vs, rfl, _⟩ := h; rfl
  obtain ⟨a, b, c, rs, g, n, us, vs, rfl, G, hG, hn, hb, hc, hu, hv, q⟩ := h
  refine qmk (qpss_cons (qpset 3 sc_l_fitting.nd (qpe_lst qpa_nil))
      (qpss_cons (qps_for PassesOwn.never rfl (qpi_range1 (by rfl) (by exact T.range) (qpa_cons (qpe_callB (call_lenK K (by rfl)) (by rfl) (by exact T.len) (by decide +kernel) (qpa_cons (qpv 0) qpa_nil)) qpa_nil)) (qpgn 4 sc_l_fitting.nd) (qpss_cons (qpset 5 sc_l_fitting.nd (qpe_cmpR (op_eqK K (by rfl) (by exact hr.units)) (qpe_lc ["_law_k"] [("_law_table_here", 0), ("_law_i", 4), ("_law_ins", 1), ("_law_outs", 2)] rfl (LcScope.of (by kernel_rfl)) (qpi_range1 (by rfl) (by exact T.range) (qpa_cons (qpe_callB (call_lenK K (by rfl)) (by rfl) (by exact T.len) (by decide +kernel) (qpa_cons (qpv 0) qpa_nil)) qpa_nil)) (fun _ _ _ _ => ⟨(qpgn 0 (nd_of (by kernel_rfl))), (qpts_one (qpt_cmpR op_lt (qpe_ix (ix_listK K (by rfl)) (qpe_ix (ix_listK K (by rfl)) (qpv 1) (qpv 2) (fun _ _ => rfl)) (qpv 0) (fun _ _ => rfl)) (qpe_op op_mul (qpe_ix (ix_listK K (by rfl)) (qpv 3) (qpv 2) (fun _ _ => rfl)) (qpe_ix (ix_listK K (by rfl)) (qpv 4) (qpv 0) (fun _ _ => rfl))) (nomark _))), (qpb_emit (by rfl) (by rfl) (qpv 0))⟩)) (qpe_lst qpa_nil) (nomark _)))
      (qpss_one (qps_expr (qpm_appendK K (by rfl) (qpv 3) (qpe_ifExp (qpt_val (qpv 5)) (qpe_ix (ix_listK K (by rfl)) (qpv 1) (qpv 4) (fun _ _ => rfl)) qpe_int) (by rfl) (by rfl) (by rfl))))))
      (qpss_one (qps_ret (qpv 3))))) ?_
  show (_ : TS) _ [some (.ref a), some (.ref b), some (.ref c), none, none, none] H
  walk_at "rd"
  obtain ⟨rs0, hrl, htp, hrow⟩ := G.mx hG
  have hln : (rs0.map V.ref).length = n := by rw [List.length_map, hrl]
  refine ⟨by show 0 ≤ sizeLine; decide, fun acc hacc => ?_⟩
  have smA : Same H (upd H acc (.lst [])) := Same.new hacc
  refine ⟨_, .inl (SqL.of (smA _ _ htp)), ?_⟩
  rw [hln, Int.toNat_natCast]
  have nat : ∀ {ns : List Int} {k : Nat}, Nums n ns → k < n → atI (ns.map V.int) (0 + (k : Int)) = some (V.int (ns.getD k 0)) ∧ 0 ≤ ns.getD k 0 ∧ ns.getD k 0 ≤ 9 := fun {ns k} h hk => by
    have hk' : k < ns.length := by rw [h.1]; exact hk
    rw [at0]
    refine ⟨atI_nat (getD_at hk'), ?_⟩
    rw [List.getD_eq_getElem?_getD, List.getElem?_eq_getElem hk']
    exact h.2 _ (List.getElem_mem hk')
  obtain ⟨Pv, hPv⟩ : ∃ Pv : Nat → L2.St → Hp → Prop, Pv = fun (i : Nat) σ H1 => ∃ (ns : List Int) (x4 x5 : Option V), σ = [some (.ref a), some (.ref b), some (.ref c), some (.ref acc), x4, x5] ∧ H1 acc = some (.lst (ns.map V.int)) ∧ Nums i ns ∧ Same H H1 := ⟨_, rfl⟩
  refine ⟨by omega, by omega, loop_range Pv (by rw [hPv]; exact ⟨[], _, _, rfl, upd_same, ⟨rfl, by simp⟩, smA⟩) ?_ ?_⟩
  · intro i σ H1 hi h
    rw [hPv] at h
    obtain ⟨ns, x4, x5, rfl, h1, h2, sm⟩ := h
    walk_at "rd"
    refine ⟨_, .inl (SqL.of (sm _ _ htp)), ?_⟩
    rw [hln, Int.toNat_natCast]
    refine ⟨by omega, by omega, fun ac hac => ?_⟩
    have ei := getD_some (rs := rs0) (i := i) (by rw [hrl]; exact hi)
    obtain ⟨Pw, hPw⟩ : ∃ Pw : Nat → L2.St → Hp → Prop, Pw = fun (k : Nat) σ H2 => ∃ (ks : List Int) (x0 : Option V), σ = [x0, some (.ref a), some (.int (0 + (i : Int))), some (.ref b), some (.ref c)] ∧ ks.length ≤ k ∧ H2 = upd H1 ac (.lst (ks.map V.int)) := ⟨_, rfl⟩
    refine loop_range Pw (by rw [hPw]; exact ⟨[], none, rfl, Nat.le_refl _, rfl⟩) ?_ ?_
    · intro k σ H2 hk h
      rw [hPw] at h
      obtain ⟨ks, x0, rfl, hkl, rfl⟩ := h
      have smn : Same H (upd H1 ac (.lst (ks.map V.int))) := sm.put (sm.gone hac)
      walk_at "rd"
      refine ⟨_, SqL.of (smn _ _ htp), _, atF0 ei, _, rfl, _, SqL.of (smn _ _ (hrow _ _ ei)), _, atR0 hk, _, SqL.of (smn _ _ hb), _, (nat hu hi).1, _, SqL.of (smn _ _ hc), _, (nat hv hk).1, _, rfl, _, rfl, .inl (by have := (nat hu hi).2; omega), _, rfl, ite2 (fun _ => ⟨_, upd_same, ?_, ?_⟩) fun _ => ?_⟩
      · rw [List.length_map]; exact Nat.lt_of_le_of_lt (show _ ≤ 100 by omega) (by decide)
      · rw [hPw]
        exact ⟨ks ++ [0 + (k : Int)], _, rfl, by rw [List.length_append, List.length_singleton]; omega, by rw [upd_upd, List.map_append]; rfl⟩
      · rw [hPw]
        exact ⟨ks, _, rfl, by omega, rfl⟩
    · intro σ H2 h
      rw [hPw] at h
      obtain ⟨ks, x0, rfl, hkl, rfl⟩ := h
      refine ⟨by show 0 ≤ sizeLine; decide, fun e he => ?_⟩
      have hae : ac ≠ e := ne_of_none upd_same he
      have sm2 : Same H1 (upd (upd H1 ac (.lst (ks.map V.int))) e (.lst [])) := (Same.new hac).put (by rw [upd_ne hae.symm] at he; exact he)
      refine ⟨_, .lst (SqL.of (by rw [upd_ne hae]; exact upd_same)) (dens_ints ks), _, .lst (SqL.of upd_same) .nil, lay_ints ks, rfl, by show PyData.depthAll (dI ks) + 1 ≤ 32; rw [depth_ints]; decide, ?_⟩
      generalize upd (upd H1 ac (.lst (ks.map V.int))) e (.lst []) = H3 at sm2 ⊢
      have done : ∀ z : Int, 0 ≤ z → z ≤ 9 → ∀ x5, ∃ xs, H3 acc = some (.lst xs) ∧ xs.length < sizeLine ∧ Pv (i + 1) [some (.ref a), some (.ref b), some (.ref c), some (.ref acc), some (.int (0 + (i : Int))), x5] (upd H3 acc (.lst (xs ++ [.int z]))) := fun z z0 z1 x5 => by
        refine ⟨_, sm2 _ _ h1, by rw [List.length_map, h2.1]; exact Nat.lt_of_le_of_lt (show _ ≤ 100 by omega) (by decide), ?_⟩
        rw [hPv]
        refine ⟨ns ++ [z], _, _, rfl, by rw [upd_same, List.map_append]; rfl, ⟨by rw [List.length_append, h2.1]; rfl, fun x hx => ?_⟩, (sm.trans sm2).put hacc⟩
        rcases List.mem_append.mp hx with y | y
        · exact h2.2 x y
        · have : x = z := by simpa using y
          rw [this]; exact ⟨z0, z1⟩
      refine ⟨tyl (SqL.of (sm2 _ _ h1)), ite2 (fun _ => ⟨_, SqL.of ((sm.trans sm2) _ _ hb), _, (nat hu hi).1, done _ (nat hu hi).2.1 (nat hu hi).2.2 _⟩) fun _ => done 0 (by decide) (by decide) _⟩
  · intro σ H1 h
    rw [hPv] at h
    obtain ⟨ns, x4, x5, rfl, h1, h2, sm⟩ := h
    walk_at "rd"
    exact q acc ns H1 h1 h2 sm
-- _law_spoilt  N = [(0, '_law_ins'), (1, '_law_outs'), (2, '_law_big_here'), (3, '_law_way'), (4, '_law_at')]  cells = []
abbrev s_l_spoilt : Stmt := top 27
theorem sc_l_spoilt : FnScope ["_law_ins", "_law_outs", "_law_big_here", "_law_way", "_law_at"] ["_law_ins", "_law_outs", "_law_big_here"] (defScope s_l_spoilt) := ⟨rfl, rfl, rfl, by decide +kernel, rfl, by decide +kernel, by decide +kernel⟩
def Any57 (us vs : List Int) : Prop := us.length ≤ 100 ∧ vs.length ≤ 100 ∧ ∀ x ∈ us, -(2 ^ 64) < x ∧ x < 2 ^ 64
def sp_spoilt (K : PySem.W.Frag) : Sp := fun xs H Q _ => ∃ (b c : Addr) (n : Nat) (us vs : List Int) (bb : Int), xs = [.ref b, .ref c, .int bb] ∧ 1 ≤ n ∧ n ≤ 6 ∧ H b = some (.lst (us.map V.int)) ∧ H c = some (.lst (vs.map V.int)) ∧ Nums n us ∧ Nums n vs ∧ ∀ (r b' c' : Addr) (us' vs' : List Int) (H' : Hp), H' r = some (.tup [.ref b', .ref c']) → H' b' = some (.lst (us'.map V.int)) → H' c' = some (.lst (vs'.map V.int)) → Any57 us' vs' → Same H H' → Q (.ref r) H'
theorem ok_l_spoilt {f : Addr} {fd : FuncData} (F : Fun K "_law_spoilt" "_law_spoilt" s_l_spoilt f fd) (T : Blt mg) : FnOk P w K mg base CX0 1 f fd ["_law_ins", "_law_outs", "_law_big_here"] (sp_spoilt K) := by
  refine F.ok sc_l_spoilt (fun vs H Q E h => ?_) (fun cdv A outer s H vs Q E hr h => ?_)
  · obtain ⟨b, c, n, us, vs, bb, rfl, _⟩ := h; rfl
  obtain ⟨b, c, n, us, vs, bb, rfl, hn1, hn, hb, hc, hu, hv, q⟩ := h
  refine qmk (qpss_cons (qpset 3 sc_l_spoilt.nd (qpe_op op_mod (qpv 2) qpe_int))
      (qpss_cons (qps_if (qpt_cmpR op_eq (qpv 3) qpe_int (nomark _)) (qpss_one (qps_ret (qpe_tup (qpa_cons (qpe_op op_cat (qpv 0) (qpe_lst (qpa_cons qpe_int qpa_nil))) (qpa_cons (qpv 1) qpa_nil))))) qpss_nil)
      (qpss_cons (qps_if (qpt_cmpR op_eq (qpv 3) qpe_int (nomark _)) (qpss_one (qps_ret (qpe_tup (qpa_cons (qpv 0) (qpa_cons (qpe_slice (sl_listK K (by rfl)) (qpv 1) (qpo_some qpe_int) qpo_none) qpa_nil))))) qpss_nil)
      (qpss_cons (qps_if (qpt_cmpR op_eq (qpv 3) qpe_int (nomark _)) (qpss_one (qps_ret (qpe_tup (qpa_cons (qpe_lc ["_law_one"] [] rfl (LcScope.of (by kernel_rfl)) (qpi_listK K (by rfl) (qpv 0)) (fun _ _ _ _ => ⟨(qpgn 0 (nd_of (by kernel_rfl))), qpts_nil, (qpb_emit (by rfl) (by rfl) qpe_int)⟩)) (qpa_cons (qpv 1) qpa_nil))))) qpss_nil)
      (qpss_cons (qps_if (qpt_cmpR op_eq (qpv 3) qpe_int (nomark _)) (qpss_one (qps_ret (qpe_tup (qpa_cons (qpv 0) (qpa_cons (qpe_lc ["_law_one"] [] rfl (LcScope.of (by kernel_rfl)) (qpi_listK K (by rfl) (qpv 1)) (fun _ _ _ _ => ⟨(qpgn 0 (nd_of (by kernel_rfl))), qpts_nil, (qpb_emit (by rfl) (by rfl) qpe_int)⟩)) qpa_nil))))) qpss_nil)
      (qpss_cons (qpset 4 sc_l_spoilt.nd (qpe_op op_mod (qpe_op op_fdiv (qpv 2) qpe_int) (qpe_callB (call_lenK K (by rfl)) (by rfl) (by exact T.len) (by decide +kernel) (qpa_cons (qpv 0) qpa_nil))))
      (qpss_cons (qps_if (qpt_cmpR op_eq (qpv 3) qpe_int (nomark _)) (qpss_one (qps_ret (qpe_tup (qpa_cons (qpe_op op_cat (qpe_op op_cat (qpe_slice (sl_listK K (by rfl)) (qpv 0) qpo_none (qpo_some (qpv 4))) (qpe_lst (qpa_cons (qpe_op op_sub (qpe_un un_neg qpe_int) (qpe_op op_mod (qpe_op op_fdiv (qpv 2) qpe_int) qpe_int)) qpa_nil))) (qpe_slice (sl_listK K (by rfl)) (qpv 0) (qpo_some (qpe_op op_add (qpv 4) qpe_int)) qpo_none)) (qpa_cons (qpv 1) qpa_nil))))) qpss_nil)
      (qpss_one (qps_ret (qpe_tup (qpa_cons (qpv 0) (qpa_cons (qpe_op op_cat (qpe_op op_cat (qpe_slice (sl_listK K (by rfl)) (qpv 1) qpo_none (qpo_some (qpv 4))) (qpe_lst (qpa_cons (qpe_op op_add qpe_int (qpe_op op_mod (qpe_op op_fdiv (qpv 2) qpe_int) (qpe_op op_pow qpe_int qpe_int))) qpa_nil))) (qpe_slice (sl_listK K (by rfl)) (qpv 1) (qpo_some (qpe_op op_add (qpv 4) qpe_int)) qpo_none)) qpa_nil)))))))))))) ?_
  show (_ : TS) _ [some (.ref b), some (.ref c), some (.int bb), none, none] H
  walk_at "rd"
  have ub : ∀ x ∈ us, -(2 ^ 64) < x ∧ x < 2 ^ 64 := fun x hx => by have := hu.2 x hx; omega
  have done : ∀ {H1 : Hp} {b' c' : Addr} {us' vs' : List Int}, Same H H1 → H1 b' = some (.lst (us'.map V.int)) → H1 c' = some (.lst (vs'.map V.int)) → Any57 us' vs' → [V.ref b', V.ref c'].length ≤ sizeLine ∧ ∀ p, H1 p = none → Q (.ref p) (upd H1 p (.tup [.ref b', .ref c'])) := fun {H1 b' c' us' vs'} sm h1 h2 h3 => ⟨by show 2 ≤ sizeLine; decide, fun p hp => q p b' c' us' vs' _ upd_same (by rw [upd_ne (ne_of_none h1 hp)]; exact h1) (by rw [upd_ne (ne_of_none h2 hp)]; exact h2) h3 (sm.put (sm.gone hp))⟩
  have zeros : ∀ {l acc : Addr} {ns : List Int} {D : Ends}, H l = some (.lst (ns.map V.int)) → Nums n ns → H acc = none → (∀ σ H1, Same H H1 → H1 acc = some (.lst ((List.replicate n (0 : Int)).map V.int)) → D.nx σ H1) → loopT (Itl K l) (gName 0) (tIfB (fun x H Q => Q true H) (tEmit acc (tC (V.int 0)))) D [none] (upd H acc (.lst [])) := fun {l acc ns D} hl hns hacc h => by
    obtain ⟨Pv, hPv⟩ : ∃ Pv : Nat → L2.St → Hp → Prop, Pv = fun (i : Nat) σ H1 => ∃ (x0 : Option V), σ = [x0] ∧ H1 = upd H acc (.lst ((List.replicate i (0 : Int)).map V.int)) := ⟨_, rfl⟩
    refine loop_list (ns.map V.int) Pv (by rw [hPv]; exact ⟨none, rfl, rfl⟩) (fun i σ H1 _ hP => ?_) ?_ ?_
    · rw [hPv] at hP
      obtain ⟨_, _, rfl⟩ := hP
      exact SqL.of (by rw [upd_ne (ne_of_none hl hacc)]; exact hl)
    · intro i x σ H1 hx hP
      rw [hPv] at hP
      obtain ⟨x0, rfl, rfl⟩ := hP
      have hin : i < n := by have := (List.getElem?_eq_some_iff.mp hx).1; rw [List.length_map, hns.1] at this; exact this
      walk_at "rd"
      refine ⟨_, upd_same, by rw [List.length_map, List.length_replicate]; exact Nat.lt_of_lt_of_le hin (Nat.le_trans hn (by decide)), ?_⟩
      rw [hPv]
      exact ⟨_, rfl, by rw [upd_upd, List.replicate_succ', List.map_append]; rfl⟩
    · intro σ H1 hP
      rw [hPv] at hP
      obtain ⟨x0, rfl, rfl⟩ := hP
      rw [List.length_map, hns.1]
      exact h _ _ (Same.new hacc) upd_same
  have zz : ∀ x ∈ List.replicate n (0 : Int), -(2 ^ 64) < x ∧ x < 2 ^ 64 := fun x hx => by rw [List.eq_of_mem_replicate hx]; exact ⟨by decide, by decide⟩
  have al : (us.map V.int).length = n := by rw [List.length_map, hu.1]
  refine ⟨by decide, iteI (fun _ => ?_) fun _ => iteI (fun _ => ?_) fun _ => iteI (fun _ => ?_) fun _ => iteI (fun _ => ?_) fun _ => ?_⟩
  · refine ⟨by show 1 ≤ sizeLine; decide, fun p hp => ?_⟩
    have hbp : b ≠ p := ne_of_none hb hp
    have s1 : Same H (upd H p (.lst [V.int 0])) := Same.new hp
    refine ⟨_, s1 _ _ hb, _, upd_same, by rw [al]; exact Nat.le_trans (show _ ≤ 100 by simp; omega) (by decide), fun p1 hp1 => ?_⟩
    have s2 := s1.put (o := .lst (us.map V.int ++ [V.int 0])) (s1.gone hp1)
    exact done (us' := us ++ [0]) s2 (by rw [upd_same, List.map_append]; rfl) (s2 _ _ hc) ⟨by rw [List.length_append, hu.1]; simp; omega, by rw [hv.1]; omega, fun x hx => by
      rcases List.mem_append.mp hx with y | y
      · exact ub x y
      · have : x = 0 := by simpa using y
        rw [this]; exact ⟨by decide, by decide⟩⟩
  · refine ⟨_, SqL.of hc, fun p hp => ?_⟩
    have s1 : Same H (upd H p (.lst (cutV (vs.map V.int) (some 1) none))) := Same.new hp
    exact done (vs' := vs.drop 1) s1 (s1 _ _ hb) (by rw [upd_same, cut_hi (by decide) (by rw [List.length_map, hv.1]; omega), ← List.map_drop]; rfl) ⟨by rw [hu.1]; omega, by rw [List.length_drop, hv.1]; omega, ub⟩
  · exact ⟨⟨_, SqL.of hb⟩, fun acc hacc => zeros hb hu hacc fun σ H1 sm1 h1 => done sm1 h1 (sm1 _ _ hc) ⟨by rw [List.length_replicate]; omega, by rw [hv.1]; omega, zz⟩⟩
  · exact ⟨⟨_, SqL.of hc⟩, fun acc hacc => zeros hc hv hacc fun σ H1 sm1 h1 => done sm1 (sm1 _ _ hb) h1 ⟨by rw [hu.1]; omega, by rw [List.length_replicate]; omega, ub⟩⟩
  · refine ⟨⟨by decide, by decide⟩, _, .inl (SqL.of hb), by rw [al]; omega, ?_⟩
    rw [al]
    obtain ⟨k, hk, ek⟩ : ∃ k : Nat, k < n ∧ bb / 6 % (n : Int) = (k : Int) := by
      have h1 := Int.emod_nonneg (bb / 6) (show (n : Int) ≠ 0 by omega)
      have h2 := Int.emod_lt_of_pos (bb / 6) (show 0 < (n : Int) by omega)
      exact ⟨(bb / 6 % (n : Int)).toNat, by omega, by omega⟩
    rw [ek]
    have put : ∀ {l : Addr} {ns : List Int} {z : Int} (R : Addr → Hp → Prop), H l = some (.lst (ns.map V.int)) → ns.length = n → (∀ c' H1, Same H H1 → H1 c' = some (.lst ((ns.take k ++ [z] ++ ns.drop (k + 1)).map V.int)) → R c' H1) →
        ∀ (p : Addr), H p = none → ∀ (p1 : Addr), upd H p (.lst (cutV (ns.map V.int) none (some (k : Int)))) p1 = none → ∃ x1, upd (upd H p (.lst (cutV (ns.map V.int) none (some (k : Int))))) p1 (.lst [.int z]) p = some (.lst x1) ∧ ∃ x2, upd (upd H p (.lst (cutV (ns.map V.int) none (some (k : Int))))) p1 (.lst [.int z]) p1 = some (.lst x2) ∧ x1.length + x2.length ≤ sizeLine ∧
          ∀ p3, upd (upd H p (.lst (cutV (ns.map V.int) none (some (k : Int))))) p1 (.lst [.int z]) p3 = none → ∃ x3, SqL K (upd (upd (upd H p (.lst (cutV (ns.map V.int) none (some (k : Int))))) p1 (.lst [.int z])) p3 (.lst (x1 ++ x2))) l x3 ∧
          ∀ p4, upd (upd (upd H p (.lst (cutV (ns.map V.int) none (some (k : Int))))) p1 (.lst [.int z])) p3 (.lst (x1 ++ x2)) p4 = none →
            ∃ x4, upd (upd (upd (upd H p (.lst (cutV (ns.map V.int) none (some (k : Int))))) p1 (.lst [.int z])) p3 (.lst (x1 ++ x2))) p4 (.lst (cutV x3 (some ((k : Int) + 1)) none)) p3 = some (.lst x4) ∧ ∃ x5, upd (upd (upd (upd H p (.lst (cutV (ns.map V.int) none (some (k : Int))))) p1 (.lst [.int z])) p3 (.lst (x1 ++ x2))) p4 (.lst (cutV x3 (some ((k : Int) + 1)) none)) p4 = some (.lst x5) ∧ x4.length + x5.length ≤ sizeLine ∧
          ∀ p5, upd (upd (upd (upd H p (.lst (cutV (ns.map V.int) none (some (k : Int))))) p1 (.lst [.int z])) p3 (.lst (x1 ++ x2))) p4 (.lst (cutV x3 (some ((k : Int) + 1)) none)) p5 = none →
            R p5 (upd (upd (upd (upd (upd H p (.lst (cutV (ns.map V.int) none (some (k : Int))))) p1 (.lst [.int z])) p3 (.lst (x1 ++ x2))) p4 (.lst (cutV x3 (some ((k : Int) + 1)) none))) p5 (.lst (x4 ++ x5))) := fun {l ns z} R ha hns h p1 hp1 p2 hp2 => by
      have nl : (ns.map V.int).length = n := by rw [List.length_map, hns]
      have s1 : Same H (upd H p1 (.lst (cutV (ns.map V.int) none (some (k : Int))))) := Same.new hp1
      have s2 : Same H (upd (upd H p1 (.lst (cutV (ns.map V.int) none (some (k : Int))))) p2 (.lst [.int z])) := s1.put (s1.gone hp2)
      have h12 : p1 ≠ p2 := ne_of_none upd_same hp2
      refine ⟨_, by rw [upd_ne h12]; exact upd_same, _, upd_same, ?_, fun p3 hp3 => ?_⟩
      · rw [cut_lo (by rw [nl]; omega), List.length_take]; exact Nat.le_trans (show _ ≤ 2000 by simp; omega) (by decide)
      have s3 : Same H (upd (upd (upd H p1 (.lst (cutV (ns.map V.int) none (some (k : Int))))) p2 (.lst [.int z])) p3 (.lst (cutV (ns.map V.int) none (some (k : Int)) ++ [.int z]))) := s2.put (s2.gone hp3)
      refine ⟨ns.map V.int, SqL.of (s3 _ _ ha), fun p4 hp4 => ?_⟩
      have h34 : p3 ≠ p4 := ne_of_none upd_same hp4
      have s4 := s3.put (o := .lst (cutV (ns.map V.int) (some ((k : Int) + 1)) none)) (s3.gone hp4)
      refine ⟨_, by rw [upd_ne h34]; exact upd_same, _, upd_same, ?_, fun p5 hp5 => ?_⟩
      · rw [cut_lo (by rw [nl]; omega), cut_hi (by omega) (by rw [nl]; omega), List.length_append, List.length_take, List.length_drop, nl]; exact Nat.le_trans (show _ ≤ 5000 by simp; omega) (by decide)
      refine h p5 _ (s4.put (s4.gone hp5)) ?_
      rw [upd_same, cut_lo (by rw [nl]; omega), cut_hi (by omega) (by rw [nl]; omega), show ((k : Int) + 1).toNat = k + 1 by omega]
      simp
    refine iteI (fun _ => ⟨_, SqL.of hb, fun p hp => ⟨⟨by decide, by decide⟩, by decide, by show 1 ≤ sizeLine; decide, put (fun p5 H' => [V.ref p5, V.ref c].length ≤ sizeLine ∧ ∀ p, H' p = none → Q (.ref p) (upd H' p (.tup [.ref p5, .ref c]))) hb hu.1 (fun c' H1 sm1 h1 => done sm1 h1 (sm1 _ _ hc) ⟨?_, by rw [hv.1]; omega, fun x hx => ?_⟩) p hp⟩⟩) fun _ => ?_
    · simp; rw [hu.1]; omega
    · simp at hx
      rcases hx with y | rfl | y
      · exact ub x (List.mem_of_mem_take y)
      · omega
      · exact ub x (List.mem_of_mem_drop y)
    · refine ⟨_, SqL.of hc, fun p hp => ⟨⟨by decide, by decide⟩, ⟨by decide, by decide, by decide⟩, by decide, by show 1 ≤ sizeLine; decide, put (fun p5 H' => [V.ref b, V.ref p5].length ≤ sizeLine ∧ ∀ p, H' p = none → Q (.ref p) (upd H' p (.tup [.ref b, .ref p5]))) hc hv.1 (fun c' H1 sm1 h1 => done sm1 (sm1 _ _ hb) h1 ⟨by rw [hu.1]; omega, ?_, ub⟩) p hp⟩⟩
      simp; rw [hv.1]; omega
end
end K57

namespace K57
open PySem PySem.Spec PyProof.Rows L2
section
variable {P : Program} {w : World} {K : PySem.W.Frag} {mg : Str → Option Value} {base : Heap}
-- _law_told  N = [(0, '_law_table_here'), (1, '_law_move'), (2, 'e')]  cells = []
abbrev s_l_told : Stmt := top 29
theorem sc_l_told : FnScope ["_law_table_here", "_law_move", "e"] ["_law_table_here", "_law_move"] (defScope s_l_told) := ⟨rfl, rfl, rfl, by decide +kernel, rfl, by decide +kernel, by decide +kernel⟩
def sp_told (K : PySem.W.Frag) : Sp := fun vs H Q _ => ∃ (a m : Addr) (n : Nat) (M : Nat → Nat → Int), vs = [.ref a, .ref m] ∧ Mx2 H a n n M ∧ n ≤ 100 ∧ Bnd n M ∧ ∃ mv : Move H m n M, ∀ (r : Addr) (H' : Hp), H r = none → (match mv with
  | .draw p _ => (okD n M p → ∀ l n', n = n' + 1 → RowsAcc H H' l n' (fun i => rowN n' (dM p.toNat M i)) → H' r = some (.tup [.str "told", .ref l]) → Q (.ref r) H') ∧ (¬ okD n M p → Same H H' → H' r = some (.tup [.str "refused", .bl true]) → Q (.ref r) H')
  | .lay p _ _ us vs _ _ _ _ _ _ => (OkL n p M us vs → ∀ l, RowsAcc H H' l (n + 1) (fun i => rowN (n + 1) (lM p.toNat M (fL us) (fL vs) i)) → H' r = some (.tup [.str "told", .ref l]) → Q (.ref r) H') ∧ (¬ OkL n p M us vs → Same H H' → H' r = some (.tup [.str "refused", .bl true]) → Q (.ref r) H'))
theorem ok_l_told {f cM cT cS cW cE : Addr} {fd : FuncData} (F : Fun K "_law_told" "_law_told" s_l_told f fd) (T : Blt mg) (C_NoMove : ExC K mg "NoMove" cM) (C_NoTable : ExC K mg "NoTable" cT) (C_NoStep : ExC K mg "NoStep" cS) (C_NoWhole : ExC K mg "NoWhole" cW) (C_RowError : ExC K mg "RowError" cE) (fitM : Fits K cM cE) (fitK_NoMove : ExK K cM) (i_c : PySem.W.kitOne K (.ref cM) (.ref cM) = some true) (i_a : PySem.W.kitAny K (.ref cM) [.ref cT, .ref cS, .ref cW] = some false)
    (D_draw_done : DfE P w K mg base "draw_done" ["table", "move"] 3 (sp_done cM K)) : FnOk P w K mg base CX0 4 f fd ["_law_table_here", "_law_move"] (sp_told K) := by
  refine F.ok sc_l_told (fun vs H Q E h => ?_) (fun cdv A outer s H vs Q E hr h => ?_)
  · obtain ⟨a, m, n, M, rfl, _⟩ := h; rfl
  obtain ⟨a, m, n, M, rfl, hM, hn, hB, mv, q⟩ := h
  refine qmk (qpss_one (qps_tryN 2 K (by rfl) mg (by rfl) ⟨rfl, rfl, rfl⟩ sc_l_told.nd (by rfl) (by exact C_RowError.mgx) (psxs_one (psx_ret (pex_tup2 qpe_str (pex_call (by exact D_draw_done) ⟨rfl, rfl, rfl⟩ (by exact hr.mono (by decide)) (qpa_cons (qpv 0) (qpa_cons (qpv 1) qpa_nil)))))) (fun ea oe cE yE hoe hCE hKE => (qpss_one (qps_ret (qpe_tup (qpa_cons qpe_str (qpa_cons (qpe_and (qpe_callB (call_isX (K := K) (by rfl) (List.mem_append_right _ List.mem_cons_self) (by exact hoe) (by exact hCE) (by exact hKE)) (by rfl) (by exact T.isinstance) (by decide +kernel) (qpa_cons (qpv 2) (qpa_cons (qpe_cls (by rfl) (by exact C_NoMove.mgx)) qpa_nil))) (qpe_one (qpe_not (qpe_callB (call_isXT (K := K) (by rfl) (List.mem_append_right _ List.mem_cons_self) (by exact hoe) (by exact hCE) (by exact hKE)) (by rfl) (by exact T.isinstance) (by decide +kernel) (qpa_cons (qpv 2) (qpa_cons (qpe_tup (qpa_cons (qpe_cls (by rfl) (by exact C_NoTable.mgx)) (qpa_cons (qpe_cls (by rfl) (by exact C_NoStep.mgx)) (qpa_cons (qpe_cls (by rfl) (by exact C_NoWhole.mgx)) qpa_nil)))) qpa_nil)))))) qpa_nil)))))))) ?_
  show (_ : TS) _ [some (.ref a), some (.ref m), none] H
  walk_at "rd"
  have told : ∀ {H1 : Hp} {l : Addr} {k : Nat} {F : Nat → List Int}, RowsAcc H H1 l k F → ∀ p, H1 p = none → H p = none ∧ RowsAcc H (upd H1 p (.tup [.str "told", .ref l])) l k F := fun {H1 l k F} A p hp => ⟨A.sm.gone hp, A.same (Same.new hp)⟩
  refine ⟨a, m, n, M, rfl, hM, hn, hB, mv, fun H1 => ?_⟩
  cases mv with
  | draw p h =>
    refine ⟨fun ok l n' e A p1 hp1 => ?_, fun no sm1 => ?_⟩
    · exact ((q p1 _ (told A p1 hp1).1).1) ok l n' e (told A p1 hp1).2 upd_same
    · refine ⟨cM, rfl, fitM, _, C_NoMove, fitK_NoMove, fun ea _ => ⟨true, .inl i_c, iteT ⟨by show 3 ≤ sizeLine; decide, fun p2 hp2 => ⟨[cT, cS, cW], upd_same, false, i_a, by show 2 ≤ sizeLine; decide, fun p3 hp3 => ?_⟩⟩⟩⟩
      have smp := sm1.put (o := HO.tup [V.ref cT, V.ref cS, V.ref cW]) (sm1.gone hp2)
      exact (q p3 _ (smp.gone hp3)).2 no (smp.put (smp.gone hp3)) upd_same
  | lay p b c us vs h hb hc hul hvl hub =>
    refine ⟨fun ok l A p1 hp1 => ?_, fun no sm1 => ?_⟩
    · exact ((q p1 _ (told A p1 hp1).1).1) ok l (told A p1 hp1).2 upd_same
    · refine ⟨cM, rfl, fitM, _, C_NoMove, fitK_NoMove, fun ea _ => ⟨true, .inl i_c, iteT ⟨by show 3 ≤ sizeLine; decide, fun p2 hp2 => ⟨[cT, cS, cW], upd_same, false, i_a, by show 2 ≤ sizeLine; decide, fun p3 hp3 => ?_⟩⟩⟩⟩
      have smp := sm1.put (o := HO.tup [V.ref cT, V.ref cS, V.ref cW]) (sm1.gone hp2)
      exact (q p3 _ (smp.gone hp3)).2 no (smp.put (smp.gone hp3)) upd_same
-- _law_told_back  N = [(0, '_law_table_here'), (1, '_law_move'), (2, 'e')]  cells = []
abbrev s_l_told_back : Stmt := top 30
theorem sc_l_told_back : FnScope ["_law_table_here", "_law_move", "e"] ["_law_table_here", "_law_move"] (defScope s_l_told_back) := ⟨rfl, rfl, rfl, by decide +kernel, rfl, by decide +kernel, by decide +kernel⟩
def sp_toldb (K : PySem.W.Frag) : Sp := fun xs H Q _ => ∃ (a m : Addr) (n : Nat) (M : Nat → Nat → Int), xs = [.ref a, .ref m] ∧ Mx2 H a n n M ∧ n ≤ 100 ∧
  ∃ (p : Int) (b c : Addr) (us vs : List Int), H m = some (.tup [.str "lay", .int p, .ref b, .ref c]) ∧ H b = some (.lst (us.map V.int)) ∧ H c = some (.lst (vs.map V.int)) ∧ us.length ≤ 100 ∧ vs.length ≤ 100 ∧ (∀ x ∈ us, -(2 ^ 64) < x ∧ x < 2 ^ 64) ∧
    ∀ (r : Addr) (H' : Hp), H r = none → Same H H' → (OkL n p M us vs → ∀ l, H l = none → H' r = some (.tup [.str "told", .ref l]) → H' l = some (.tup [.str "draw", .int p]) → Q (.ref r) H') ∧ (¬ OkL n p M us vs → H' r = some (.tup [.str "refused", .bl true]) → Q (.ref r) H')
theorem ok_l_told_back {f cM cT cS cW cE : Addr} {fd : FuncData} (F : Fun K "_law_told_back" "_law_told_back" s_l_told_back f fd) (T : Blt mg) (C_NoMove : ExC K mg "NoMove" cM) (C_NoTable : ExC K mg "NoTable" cT) (C_NoStep : ExC K mg "NoStep" cS) (C_NoWhole : ExC K mg "NoWhole" cW) (C_RowError : ExC K mg "RowError" cE) (fitM : Fits K cM cE) (fitK_NoMove : ExK K cM) (i_c : PySem.W.kitOne K (.ref cM) (.ref cM) = some true) (i_a : PySem.W.kitAny K (.ref cM) [.ref cT, .ref cS, .ref cW] = some false)
    (D_draw_back : DfE P w K mg base "draw_back" ["table", "move"] 3 (sp_back cM K)) : FnOk P w K mg base CX0 4 f fd ["_law_table_here", "_law_move"] (sp_toldb K) := by
  refine F.ok sc_l_told_back (fun vs H Q E h => ?_) (fun cdv A outer s H vs Q E hr h => ?_)
  · obtain ⟨a, m, n, M, rfl, _⟩ := h; rfl
  obtain ⟨a, m, n, M, rfl, hM, hn, p, b, c, us, vs, h, hb, hc, hul, hvl, hub, q⟩ := h
  refine qmk (qpss_one (qps_tryN 2 K (by rfl) mg (by rfl) ⟨rfl, rfl, rfl⟩ sc_l_told_back.nd (by rfl) (by exact C_RowError.mgx) (psxs_one (psx_ret (pex_tup2 qpe_str (pex_call (by exact D_draw_back) ⟨rfl, rfl, rfl⟩ (by exact hr.mono (by decide)) (qpa_cons (qpv 0) (qpa_cons (qpv 1) qpa_nil)))))) (fun ea oe cE yE hoe hCE hKE => (qpss_one (qps_ret (qpe_tup (qpa_cons qpe_str (qpa_cons (qpe_and (qpe_callB (call_isX (K := K) (by rfl) (List.mem_append_right _ List.mem_cons_self) (by exact hoe) (by exact hCE) (by exact hKE)) (by rfl) (by exact T.isinstance) (by decide +kernel) (qpa_cons (qpv 2) (qpa_cons (qpe_cls (by rfl) (by exact C_NoMove.mgx)) qpa_nil))) (qpe_one (qpe_not (qpe_callB (call_isXT (K := K) (by rfl) (List.mem_append_right _ List.mem_cons_self) (by exact hoe) (by exact hCE) (by exact hKE)) (by rfl) (by exact T.isinstance) (by decide +kernel) (qpa_cons (qpv 2) (qpa_cons (qpe_tup (qpa_cons (qpe_cls (by rfl) (by exact C_NoTable.mgx)) (qpa_cons (qpe_cls (by rfl) (by exact C_NoStep.mgx)) (qpa_cons (qpe_cls (by rfl) (by exact C_NoWhole.mgx)) qpa_nil)))) qpa_nil)))))) qpa_nil)))))))) ?_
  show (_ : TS) _ [some (.ref a), some (.ref m), none] H
  walk_at "rd"
  refine ⟨a, m, n, M, rfl, hM, hn, p, b, c, us, vs, h, hb, hc, hul, hvl, hub, fun H1 sm1 => ⟨fun ok l hl0 hl p1 hp1 => ?_, fun no => ?_⟩⟩
  · have sp : Same H1 (upd H1 p1 (.tup [.str "told", .ref l])) := Same.new hp1
    exact (q p1 _ (sm1.gone hp1) (sm1.trans sp)).1 ok l hl0 upd_same (sp _ _ hl)
  · refine ⟨cM, rfl, fitM, _, C_NoMove, fitK_NoMove, fun ea _ => ⟨true, .inl i_c, iteT ⟨by show 3 ≤ sizeLine; decide, fun p2 hp2 => ⟨[cT, cS, cW], upd_same, false, i_a, by show 2 ≤ sizeLine; decide, fun p3 hp3 => ?_⟩⟩⟩⟩
    have smp := sm1.put (o := HO.tup [V.ref cT, V.ref cS, V.ref cW]) (sm1.gone hp2)
    exact (q p3 _ (smp.gone hp3) (smp.put (smp.gone hp3))).2 no upd_same
/-- .. into another list -/
theorem _root_.L2.RowsAcc.insert2 {H H1 H2 : Hp} {acc l c : Addr} {n p : Nat} {F : Nat → List Int} {g : List Int} {xs : List V} (A : RowsAcc H H1 acc n F) (hx : H1 acc = some (.lst xs)) (hp : p ≤ n) (sm : Same H1 H2) (hl : H1 l = none) (h2 : H2 l = some (.lst (g.map V.int))) (hc : H2 c = none) :
    RowsAcc H (upd H2 c (.lst (xs.take p ++ [.ref l] ++ xs.drop p))) c (n + 1) (fun i => if i = p then g else F (dn p i)) := by
  obtain ⟨⟨ts, h1, h3, h4, h5⟩, sm1, no⟩ := A
  rw [hx] at h3
  cases h3
  have sm02 := sm1.trans sm
  have hlc : l ≠ c := ne_of_none h2 hc
  refine ⟨⟨ts.take p ++ [l] ++ ts.drop p, ?_, ?_, fun j r hj => ?_, ?_⟩, sm02.put (sm02.gone hc), sm02.gone hc⟩
  · simp; omega
  · rw [upd_same]; simp
  · by_cases hjp : j < p
    · rw [List.append_assoc, List.getElem?_append_left (by simp; omega), List.getElem?_take, if_pos hjp] at hj
      obtain ⟨a1, a2, a3⟩ := h4 j r hj
      have hrc : r ≠ c := ne_of_none (sm _ _ a1) hc
      refine ⟨?_, a2, hrc⟩
      rw [upd_ne hrc, if_neg (by omega)]
      unfold dn
      rw [if_pos hjp]
      exact sm _ _ a1
    · by_cases hje : j = p
      · subst hje
        rw [List.append_assoc, List.getElem?_append_right (by simp; omega)] at hj
        have : r = l := by
          have hz : j - (ts.take j).length = 0 := by rw [List.length_take]; omega
          rw [hz] at hj; simpa using hj.symm
        subst this
        exact ⟨by rw [upd_ne hlc, if_pos rfl]; exact h2, sm1.gone hl, hlc⟩
      · rw [List.getElem?_append_right (by simp; omega), List.getElem?_drop] at hj
        have hz : p + (j - (ts.take p ++ [l]).length) = j - 1 := by simp; omega
        rw [hz] at hj
        obtain ⟨a1, a2, a3⟩ := h4 (j - 1) r hj
        have hrc : r ≠ c := ne_of_none (sm _ _ a1) hc
        refine ⟨?_, a2, hrc⟩
        rw [upd_ne hrc, if_neg hje]
        unfold dn
        rw [if_neg hjp]
        exact sm _ _ a1
  · have hlt : l ∉ ts := fun z => by
      obtain ⟨j, hj, ej⟩ := List.mem_iff_getElem.mp z
      have := (h4 j l (List.getElem?_eq_some_iff.mpr ⟨hj, ej⟩)).1
      rw [hl] at this; cases this
    have hnd : (ts.take p ++ ts.drop p).Nodup := by rw [List.take_append_drop]; exact h5
    rw [List.append_assoc]
    have : (ts.take p ++ ([l] ++ ts.drop p)).Perm (l :: (ts.take p ++ ts.drop p)) := by
      exact List.perm_middle (l₁ := ts.take p) (a := l) (l₂ := ts.drop p)
    rw [this.nodup_iff, List.nodup_cons]
    exact ⟨by rw [List.take_append_drop]; exact hlt, hnd⟩
theorem pos_sum : ∀ {ns : List Int}, (∀ x ∈ ns, 0 ≤ x) → (0 ≤ ns.sum) ∧ (ns.sum = 0 ↔ ∀ x ∈ ns, x = 0)
  | [], _ => by simp
  | a :: ns, h => by
    have h1 := pos_sum (ns := ns) fun x hx => h x (List.mem_cons_of_mem _ hx)
    have h2 := h a List.mem_cons_self
    rw [List.sum_cons]
    refine ⟨by omega, fun e => ?_, fun e => ?_⟩
    · have e1 : a = 0 := by omega
      have e2 : ns.sum = 0 := by omega
      intro x hx
      rcases List.mem_cons.mp hx with rfl | hx
      · exact e1
      · exact h1.2.mp e2 x hx
    · have e1 := e a List.mem_cons_self
      have e2 := h1.2.mpr fun x hx => e x (List.mem_cons_of_mem _ hx)
      omega
-- _law_due  N = [(0, '_law_table_here'), (1, '_law_p'), (2, '_law_ins'), (3, '_law_outs'), (4, '_law_many'), (5, '_law_made')]  cells = ['_law_ins', '_law_made', '_law_many', '_law_outs', '_law_p', '_law_table_here']
abbrev s_l_due : Stmt := top 28
theorem sc_l_due : FnScope ["_law_table_here", "_law_p", "_law_ins", "_law_outs", "_law_many", "_law_made"] ["_law_table_here", "_law_p", "_law_ins", "_law_outs"] (defScope s_l_due) := ⟨rfl, rfl, rfl, by decide +kernel, rfl, by decide +kernel, by decide +kernel⟩
def sp_due (K : PySem.W.Frag) : Sp := fun xs H Q _ => ∃ (a b c : Addr) (rs : List Addr) (g : List (List Int)) (n : Nat) (p : Int) (us vs : List Int), xs = [.ref a, .int p, .ref b, .ref c] ∧ Grid H a rs g ∧ Good n 46 g ∧ 1 ≤ n ∧ n ≤ 6 ∧ H b = some (.lst (us.map V.int)) ∧ H c = some (.lst (vs.map V.int)) ∧ Any57 us vs ∧
  ∀ (H' : Hp), (¬ OkL n p (gM g) us vs → Same H H' → Q .non H') ∧ (OkL n p (gM g) us vs → ∀ l, RowsAcc H H' l (n + 1) (fun i => rowN (n + 1) (lM p.toNat (gM g) (fL us) (fL vs) i)) → Q (.ref l) H')
theorem ok_l_due {f : Addr} {fd : FuncData} (F : Fun K "_law_due" "_law_due" s_l_due f fd) (T : Blt mg) : FnOk P w K mg base CX0 1 f fd ["_law_table_here", "_law_p", "_law_ins", "_law_outs"] (sp_due K) := by
  refine F.ok sc_l_due (fun vs H Q E h => ?_) (fun cdv A outer s H vs Q E hr h => ?_)
  · obtain ⟨a, b, c, rs, g, n, p, us, vs, rfl, _⟩ := h; rfl
  obtain ⟨a, b, c, rs, g, n, p, us, vs, rfl, G, hG, hn1, hn, hb, hc, hA, q⟩ := h
  refine qmk (qpss_cons (qpset 4 sc_l_due.nd (qpe_callB (call_lenK K (by rfl)) (by rfl) (by exact T.len) (by decide +kernel) (qpa_cons (qpv 0) qpa_nil)))
      (qpss_cons (qps_if (qPWpt (qpw_or (qpt_not (qpt_chain op_le op_le qpe_int (qpv 1) (qpv 4))) (qpw_or (qpt_cmpR op_ne (qpe_callB (call_lenK K (by rfl)) (by rfl) (by exact T.len) (by decide +kernel) (qpa_cons (qpv 2) qpa_nil)) (qpv 4) (nomark _)) (qpw_or (qpt_cmpR op_ne (qpe_callB (call_lenK K (by rfl)) (by rfl) (by exact T.len) (by decide +kernel) (qpa_cons (qpv 3) qpa_nil)) (qpv 4) (nomark _)) (qpw_or1 (qpt_cmpR op_lt (qpe_callB (call_minLK K (by rfl) (by rfl)) (by rfl) (by exact T.min) (by decide +kernel) (qpa_cons (qpe_op op_cat (qpv 2) (qpv 3)) qpa_nil)) qpe_int (nomark _))))))) (qpss_one (qps_ret qpe_non)) qpss_nil)
      (qpss_cons (qps_if (qPWpt (qpw_or (qpt_cmpR op_eq (qpe_callB (call_maxLK K (by rfl) (by rfl)) (by rfl) (by exact T.max) (by decide +kernel) (qpa_cons (qpv 2) qpa_nil)) qpe_int (nomark _)) (qpw_or1 (qpt_cmpR op_eq (qpe_callB (call_maxLK K (by rfl) (by rfl)) (by rfl) (by exact T.max) (by decide +kernel) (qpa_cons (qpv 3) qpa_nil)) qpe_int (nomark _))))) (qpss_one (qps_ret qpe_non)) qpss_nil)
      (qpss_cons (qpset 5 sc_l_due.nd (qpe_lc ["_law_i"] [("_law_many", 4), ("_law_table_here", 0), ("_law_ins", 2), ("_law_outs", 3)] rfl (LcScope.of (by kernel_rfl)) (qpi_range1 (by rfl) (by exact T.range) (qpa_cons (qpv 4) qpa_nil)) (fun _ _ _ _ => ⟨(qpgn 0 (nd_of (by kernel_rfl))), qpts_nil, (qpb_emit (by rfl) (by rfl) (qpe_lc ["_law_k"] [("_law_table_here", 2), ("_law_i", 0), ("_law_ins", 3), ("_law_outs", 4)] rfl (LcScope.of (by kernel_rfl)) (qpi_range1 (by rfl) (by exact T.range) (qpa_cons (qpv 1) qpa_nil)) (fun _ _ _ _ => ⟨(qpgn 0 (nd_of (by kernel_rfl))), qpts_nil, (qpb_emit (by rfl) (by rfl) (qpe_op op_sub (qpe_ix (ix_listK K (by rfl)) (qpe_ix (ix_listK K (by rfl)) (qpv 1) (qpv 2) (fun _ _ => rfl)) (qpv 0) (fun _ _ => rfl)) (qpe_op op_mul (qpe_ix (ix_listK K (by rfl)) (qpv 3) (qpv 2) (fun _ _ => rfl)) (qpe_ix (ix_listK K (by rfl)) (qpv 4) (qpv 0) (fun _ _ => rfl)))))⟩)))⟩)))
      (qpss_cons (qps_if (qpt_cmpR op_lt (qpe_callB (call_minLK K (by rfl) (by rfl)) (by rfl) (by exact T.min) (by decide +kernel) (qpa_cons (qpe_lc ["_law_row"] [] rfl (LcScope.of (by kernel_rfl)) (qpi_listK K (by rfl) (qpv 5)) (fun _ _ _ _ => ⟨(qpgn 0 (nd_of (by kernel_rfl))), qpts_nil, (qpb_emit (by rfl) (by rfl) (qpe_callB (call_minLK K (by rfl) (by rfl)) (by rfl) (by exact T.min) (by decide +kernel) (qpa_cons (qpv 0) qpa_nil)))⟩)) qpa_nil)) qpe_int (nomark _)) (qpss_one (qps_ret qpe_non)) qpss_nil)
      (qpss_cons (qpset 5 sc_l_due.nd (qpe_lc ["_law_i"] [("_law_made", 5), ("_law_p", 1), ("_law_ins", 2)] rfl (LcScope.of (by kernel_rfl)) (qpi_range1 (by rfl) (by exact T.range) (qpa_cons (qpv 4) qpa_nil)) (fun _ _ _ _ => ⟨(qpgn 0 (nd_of (by kernel_rfl))), qpts_nil, (qpb_emit (by rfl) (by rfl) (qpe_op op_cat (qpe_op op_cat (qpe_slice (sl_listK K (by rfl)) (qpe_ix (ix_listK K (by rfl)) (qpv 1) (qpv 0) (fun _ _ => rfl)) qpo_none (qpo_some (qpv 2))) (qpe_lst (qpa_cons (qpe_ix (ix_listK K (by rfl)) (qpv 3) (qpv 0) (fun _ _ => rfl)) qpa_nil))) (qpe_slice (sl_listK K (by rfl)) (qpe_ix (ix_listK K (by rfl)) (qpv 1) (qpv 0) (fun _ _ => rfl)) (qpo_some (qpv 2)) qpo_none)))⟩)))
      (qpss_one (qps_ret (qpe_op op_cat (qpe_op op_cat (qpe_slice (sl_listK K (by rfl)) (qpv 5) qpo_none (qpo_some (qpv 1))) (qpe_lst (qpa_cons (qpe_op op_cat (qpe_op op_cat (qpe_slice (sl_listK K (by rfl)) (qpv 3) qpo_none (qpo_some (qpv 1))) (qpe_lst (qpa_cons qpe_int qpa_nil))) (qpe_slice (sl_listK K (by rfl)) (qpv 3) (qpo_some (qpv 1)) qpo_none)) qpa_nil))) (qpe_slice (sl_listK K (by rfl)) (qpv 5) (qpo_some (qpv 1)) qpo_none)))))))))) ?_
  show (_ : TS) _ [some (.ref a), some (.int p), some (.ref b), some (.ref c), none, none] H
  walk_at "rd"
  obtain ⟨rs0, hrl, htp, hrow⟩ := G.mx hG
  obtain ⟨M, hMM⟩ : ∃ M : Nat → Nat → Int, M = gM g := ⟨_, rfl⟩
  rw [← hMM] at hrow q
  clear hMM
  have hln : (rs0.map V.ref).length = n := by rw [List.length_map, hrl]
  have no : ∀ {H'}, Same H H' → ¬ OkL n p M us vs → Q .non H' := fun {H'} sm h => (q H').1 h sm
  refine ⟨_, .inl (SqL.of htp), ?_⟩
  rw [hln]
  by_cases h0 : 0 ≤ p
  case neg =>
    refine ifF h0 ?_
    exact no (Same.refl H) fun z => h0 z.p0
  refine ifT h0 ?_
  by_cases h1 : p ≤ n
  case neg =>
    refine ifT (by simp; omega) ?_
    exact no (Same.refl H) fun z => h1 z.p1
  refine ifF (by simp [h1]) ?_
  refine ⟨_, .inl (SqL.of hb), ?_⟩
  rw [List.length_map]
  by_cases g1 : us.length = n
  case neg =>
    refine ifT (by simp; omega) ?_
    exact no (Same.refl H) fun z => g1 z.u.1
  refine ifF (by simp [g1]) ?_
  refine ⟨_, .inl (SqL.of hc), ?_⟩
  rw [List.length_map]
  by_cases g2 : vs.length = n
  case neg =>
    refine ifT (by simp; omega) ?_
    exact no (Same.refl H) fun z => g2 z.v.1
  refine ifF (by simp [g2]) ?_
  refine ⟨_, hb, _, hc, by rw [List.length_map, List.length_map]; exact Nat.le_trans (show _ ≤ 200 by omega) (by decide), fun ct hct => ?_⟩
  have smc : Same H (upd H ct (.lst (us.map V.int ++ vs.map V.int))) := Same.new hct
  have hcc : upd H ct (.lst (us.map V.int ++ vs.map V.int)) ct = some (.lst ((us ++ vs).map V.int)) := by rw [upd_same, List.map_append]
  generalize upd H ct (.lst (us.map V.int ++ vs.map V.int)) = H1 at smc hcc ⊢
  refine ⟨us ++ vs, SqL.of hcc, by intro e; have := congrArg List.length e; rw [List.length_append, List.length_nil] at this; omega, fun m hm hmin => ?_⟩
  by_cases g3 : m < 0
  · rw [if_pos g3]
    refine no smc fun z => ?_
    rcases List.mem_append.mp hm with y | y
    · have := z.u.2.1 m y; omega
    · have := z.v.2.1 m y; omega
  rw [if_neg g3]
  have u0 : ∀ x ∈ us, 0 ≤ x := fun x hx => by have := hmin x (List.mem_append_left _ hx); omega
  have v0 : ∀ x ∈ vs, 0 ≤ x := fun x hx => by have := hmin x (List.mem_append_right _ hx); omega
  have top : ∀ {ns : List Int} {m : Int}, (∀ x ∈ ns, 0 ≤ x) → m ∈ ns → (∀ x ∈ ns, x ≤ m) → (m = 0 ↔ ns.sum = 0) := fun {ns m} h hm hmx => by
    rw [(pos_sum h).2]
    exact ⟨fun e x hx => by have := hmx x hx; have := h x hx; omega, fun e => e m hm⟩
  refine ⟨us, SqL.of (smc _ _ hb), by intro e; rw [e] at g1; simp at g1; omega, fun m1 hm1 hx1 => ?_⟩
  by_cases g4 : m1 = 0
  · rw [if_pos g4]
    exact no smc fun z => z.u.2.2 ((top u0 hm1 hx1).mp g4)
  rw [if_neg g4]
  refine ⟨vs, SqL.of (smc _ _ hc), by intro e; rw [e] at g2; simp at g2; omega, fun m2 hm2 hx2 => ?_⟩
  by_cases g5 : m2 = 0
  · rw [if_pos g5]
    exact no smc fun z => z.v.2.2 ((top v0 hm2 hx2).mp g5)
  rw [if_neg g5]
  have fu : Fine n us := ⟨g1, u0, fun e => g4 ((top u0 hm1 hx1).mpr e)⟩
  have fv : Fine n vs := ⟨g2, v0, fun e => g5 ((top v0 hm2 hx2).mpr e)⟩
  refine ⟨by omega, by omega, fun ma hma => ?_⟩
  have at' : ∀ {ns : List Int} {k : Nat}, ns.length = n → k < n → atI (ns.map V.int) (0 + (k : Int)) = some (V.int (fL ns k)) := fun {ns k} h hk => by
    rw [at0]; exact atI_nat (getD_at (by rw [h]; exact hk))
  have ub : ∀ k, k < n → -(2 ^ 64) < fL us k ∧ fL us k < 2 ^ 64 := fun k hk => by
    have hk' : k < us.length := by rw [g1]; exact hk
    unfold fL
    rw [List.getD_eq_getElem?_getD, List.getElem?_eq_getElem hk']
    exact hA.2.2 _ (List.getElem_mem hk')
  obtain ⟨Pv, hPv⟩ : ∃ Pv : Nat → L2.St → Hp → Prop, Pv = fun (i : Nat) σ H2 => ∃ (x0 : Option V), σ = [x0, some (.int (n : Int)), some (.ref a), some (.ref b), some (.ref c)] ∧ RowsAcc H1 H2 ma i (fun i => rowN n fun k => M i k - fL us i * fL vs k) := ⟨_, rfl⟩
  rw [Int.toNat_natCast]
  refine loop_range Pv (by rw [hPv]; exact ⟨_, rfl, RowsAcc.start _ hma⟩) ?_ ?_
  · intro i σ H2 hi h
    rw [hPv] at h
    obtain ⟨x0, rfl, A⟩ := h
    have ei := getD_some (rs := rs0) (i := i) (by rw [hrl]; exact hi)
    have sm2 : Same H H2 := smc.trans A.sm
    walk_at "rd"
    rw [Int.toNat_natCast]
    refine ⟨by omega, by omega, fun mr hmr => ?_⟩
    obtain ⟨Pw, hPw⟩ : ∃ Pw : Nat → L2.St → Hp → Prop, Pw = fun (k : Nat) σ H3 => ∃ (x0 : Option V), σ = [x0, some (.ref a), some (.int (0 + (i : Int))), some (.ref b), some (.ref c)] ∧ IntsAcc H2 H3 mr k (fun k => M i k - fL us i * fL vs k) := ⟨_, rfl⟩
    refine loop_range Pw (by rw [hPw]; exact ⟨_, rfl, IntsAcc.start _ hmr⟩) ?_ ?_
    · intro k σ H3 hk h
      rw [hPw] at h
      obtain ⟨x0, rfl, B⟩ := h
      have sm3 : Same H H3 := sm2.trans B.sm
      walk_at "rd"
      obtain ⟨xs, e1, e2, B2⟩ := B.emit (x := M i k - fL us i * fL vs k) (by omega) (Same.refl H3) rfl
      refine ⟨_, SqL.of (sm3 _ _ htp), _, atF0 ei, _, rfl, _, SqL.of (sm3 _ _ (hrow _ _ ei)), _, atR0 hk, _, SqL.of (sm3 _ _ hb), _, at' g1 hi, _, SqL.of (sm3 _ _ hc), _, at' g2 hk, _, rfl, _, rfl, .inl (ub i hi), _, rfl, xs, e1, e2, ?_⟩
      rw [hPw]
      exact ⟨_, rfl, B2⟩
    · intro σ H3 h
      rw [hPw] at h
      obtain ⟨x0, rfl, B⟩ := h
      have e1 := B.at_
      rw [← rowN_map] at e1
      obtain ⟨xs, e3, e4, A2⟩ := A.emit (H2 := H3) (l := mr) (by omega) B.sm hmr e1
      refine ⟨xs, e3, e4, ?_⟩
      rw [hPv]
      exact ⟨_, rfl, A2⟩
  intro σ H2 h
  rw [hPv] at h
  obtain ⟨x0, rfl, A⟩ := h
  clear hPv Pv
  obtain ⟨D, hD⟩ : ∃ D : Nat → Nat → Int, D = fun i k => M i k - fL us i * fL vs k := ⟨_, rfl⟩
  have A : RowsAcc H1 H2 ma n (fun i => rowN n (D i)) := by rw [hD]; exact A
  obtain ⟨ts, hts, hma2, hrows, hnd⟩ := A.ex
  have sm2 : Same H H2 := smc.trans A.sm
  have htl : (ts.map V.ref).length = n := by rw [List.length_map, hts]
  refine ⟨⟨_, SqL.of hma2⟩, fun mm hmm => ?_⟩
  obtain ⟨Pv, hPv⟩ : ∃ Pv : Nat → L2.St → Hp → Prop, Pv = fun (i : Nat) σ H3 => ∃ (ms : List Int) (x0 : Option V), σ = [x0] ∧ H3 mm = some (.lst (ms.map V.int)) ∧ ms.length = i ∧ (∀ x ∈ ms, ∃ j k, j < n ∧ k < n ∧ x = D j k) ∧ (∀ j k, j < i → k < n → ∃ x ∈ ms, x ≤ D j k) ∧ Same H2 H3 := ⟨_, rfl⟩
  refine loop_list (ts.map V.ref) Pv (by rw [hPv]; exact ⟨[], _, rfl, upd_same, rfl, by simp, fun j k h => absurd h (Nat.not_lt_zero _), Same.new hmm⟩) (fun i σ H3 _ h => ?_) ?_ ?_
  · rw [hPv] at h
    obtain ⟨_, _, _, _, _, _, _, sm3⟩ := h
    exact SqL.of (sm3 _ _ hma2)
  · intro i x σ H3 hx h
    rw [hPv] at h
    obtain ⟨ms, x0, rfl, k1, k2, k3, k4, sm3⟩ := h
    obtain ⟨r, hr1, rfl⟩ := ref_at hx
    have hin : i < n := by rw [← hts]; exact (List.getElem?_eq_some_iff.mp hr1).1
    walk_at "rd"
    refine ⟨rowN n (D i), SqL.of (sm3 _ _ (hrows i r hr1).1), by intro e; have := congrArg List.length e; unfold rowN at this; simp at this; omega, fun z hz hzm => ?_⟩
    refine ⟨_, k1, by rw [List.length_map, k2]; exact Nat.lt_of_le_of_lt (show _ ≤ 100 by omega) (by decide), ?_⟩
    rw [hPv]
    refine ⟨ms ++ [z], _, rfl, by rw [upd_same, List.map_append]; rfl, by rw [List.length_append, k2]; rfl, fun x hx => ?_, fun j k hj hk => ?_, sm3.put hmm⟩
    · rcases List.mem_append.mp hx with y | y
      · exact k3 x y
      · have : x = z := by simpa using y
        subst this
        obtain ⟨k, hk, rfl⟩ := List.mem_map.mp hz
        exact ⟨i, k, hin, List.mem_range.mp hk, rfl⟩
    · by_cases hji : j < i
      · obtain ⟨x, hx, hxl⟩ := k4 j k hji hk
        exact ⟨x, List.mem_append_left _ hx, hxl⟩
      · have : j = i := by omega
        subst this
        exact ⟨z, List.mem_append_right _ (by simp), hzm _ (List.mem_map.mpr ⟨k, List.mem_range.mpr hk, rfl⟩)⟩
  intro σ H3 h
  rw [htl, hPv] at h
  obtain ⟨ms, x0, rfl, k1, k2, k3, k4, sm3⟩ := h
  clear hPv Pv
  refine ⟨ms, SqL.of k1, by intro e; rw [e] at k2; simp at k2; omega, fun z hz hzm => ?_⟩
  have sm03 : Same H H3 := sm2.trans sm3
  by_cases g6 : z < 0
  · rw [if_pos g6]
    refine no sm03 fun ok => ?_
    obtain ⟨j, k, hj, hk, e⟩ := k3 z hz
    have := ok.le j k hj hk
    rw [hD] at e
    have e' : z = M j k - us.getD j 0 * vs.getD k 0 := e
    omega
  rw [if_neg g6]
  have ok : OkL n p M us vs := ⟨h0, h1, fu, fv, fun j k hj hk => by
    obtain ⟨x, hx, hxl⟩ := k4 j k hj hk
    have := hzm x hx
    rw [hD] at hxl
    have hxl' : x ≤ M j k - us.getD j 0 * vs.getD k 0 := hxl
    omega⟩
  obtain ⟨pn, rfl⟩ : ∃ pn : Nat, p = (pn : Int) := ⟨p.toNat, by omega⟩
  have hpn : pn ≤ n := by omega
  refine ⟨by omega, by omega, fun mb hmb => ?_⟩
  obtain ⟨Pv, hPv⟩ : ∃ Pv : Nat → L2.St → Hp → Prop, Pv = fun (i : Nat) σ H4 => ∃ (x0 : Option V), σ = [x0, some (.ref ma), some (.int (pn : Int)), some (.ref b)] ∧ RowsAcc H3 H4 mb i (fun i => rowN (n + 1) fun k => if k = pn then fL us i else D i (dn pn k)) := ⟨_, rfl⟩
  refine loop_range Pv (by rw [hPv]; exact ⟨_, rfl, RowsAcc.start _ hmb⟩) ?_ ?_
  · intro i σ H4 hi h
    rw [hPv] at h
    obtain ⟨x0, rfl, B⟩ := h
    walk_at "rd"
    have eti := getD_some (rs := ts) (i := i) (by rw [hts]; exact hi)
    have hr4 := B.sm _ _ (sm3 _ _ (hrows _ _ eti).1)
    have hma4 := B.sm _ _ (sm3 _ _ hma2)
    have hb4 := B.sm _ _ (sm03 _ _ hb)
    have rl : ((rowN n (D i)).map V.int).length = n := rowN_len
    refine ⟨_, SqL.of hma4, _, atF0 eti, _, rfl, _, SqL.of hr4, fun p1 hp1 => ?_⟩
    rw [cut_lo (by rw [rl]; exact hpn)]
    have s5 : Same H4 (upd H4 p1 (.lst (((rowN n (D i)).map V.int).take pn))) := Same.new hp1
    have h5 : upd H4 p1 (.lst (((rowN n (D i)).map V.int).take pn)) p1 = some (.lst (((rowN n (D i)).map V.int).take pn)) := upd_same
    generalize upd H4 p1 (.lst (((rowN n (D i)).map V.int).take pn)) = H5 at s5 h5 ⊢
    refine ⟨_, SqL.of (s5 _ _ hb4), _, at' g1 hi, by show 1 ≤ sizeLine; decide, fun p2 hp2 => ?_⟩
    have s6 : Same H5 (upd H5 p2 (.lst [.int (fL us i)])) := Same.new hp2
    have h6 : upd H5 p2 (.lst [.int (fL us i)]) p2 = some (.lst [.int (fL us i)]) := upd_same
    generalize upd H5 p2 (.lst [.int (fL us i)]) = H6 at s6 h6 ⊢
    have s46 := s5.trans s6
    refine ⟨_, s6 _ _ h5, _, h6, by rw [List.length_take, rl]; exact Nat.le_trans (show _ ≤ 100 by simp; omega) (by decide), fun p3 hp3 => ?_⟩
    have s7 : Same H6 (upd H6 p3 (.lst (((rowN n (D i)).map V.int).take pn ++ [.int (fL us i)]))) := Same.new hp3
    have h7 : upd H6 p3 (.lst (((rowN n (D i)).map V.int).take pn ++ [.int (fL us i)])) p3 = some (.lst (((rowN n (D i)).map V.int).take pn ++ [.int (fL us i)])) := upd_same
    generalize upd H6 p3 (.lst (((rowN n (D i)).map V.int).take pn ++ [.int (fL us i)])) = H7 at s7 h7 ⊢
    have s47 := s46.trans s7
    refine ⟨_, SqL.of (s47 _ _ hma4), _, atF0 eti, _, rfl, _, SqL.of (s47 _ _ hr4), fun p4 hp4 => ?_⟩
    rw [cut_hi (by omega) (by rw [rl]; omega), Int.toNat_natCast]
    have s8 : Same H7 (upd H7 p4 (.lst (((rowN n (D i)).map V.int).drop pn))) := Same.new hp4
    have h8 : upd H7 p4 (.lst (((rowN n (D i)).map V.int).drop pn)) p4 = some (.lst (((rowN n (D i)).map V.int).drop pn)) := upd_same
    generalize upd H7 p4 (.lst (((rowN n (D i)).map V.int).drop pn)) = H8 at s8 h8 ⊢
    have s48 := s47.trans s8
    refine ⟨_, s8 _ _ h7, _, h8, by rw [List.length_append, List.length_take, List.length_drop, rl]; exact Nat.le_trans (show _ ≤ 200 by simp; omega) (by decide), fun p5 hp5 => ?_⟩
    have s9 : Same H8 (upd H8 p5 (.lst (((rowN n (D i)).map V.int).take pn ++ [.int (fL us i)] ++ ((rowN n (D i)).map V.int).drop pn))) := Same.new hp5
    have h9 : upd H8 p5 (.lst (((rowN n (D i)).map V.int).take pn ++ [.int (fL us i)] ++ ((rowN n (D i)).map V.int).drop pn)) p5 = some (.lst ((rowN (n + 1) fun k => if k = pn then fL us i else D i (dn pn k)).map V.int)) := by rw [upd_same, more_row hpn]
    generalize upd H8 p5 (.lst (((rowN n (D i)).map V.int).take pn ++ [.int (fL us i)] ++ ((rowN n (D i)).map V.int).drop pn)) = H9 at s9 h9 ⊢
    obtain ⟨xs, e3, e4, B2⟩ := B.emit (H2 := H9) (l := p5) (by omega) (s48.trans s9) (s48.gone hp5) h9
    refine ⟨xs, e3, e4, ?_⟩
    rw [hPv]
    exact ⟨_, rfl, B2⟩
  intro σ H4 h
  rw [hPv] at h
  obtain ⟨x0, rfl, B⟩ := h
  clear hPv Pv
  obtain ⟨us2, hus2, hmb4, _, _⟩ := B.ex
  have hc4 := B.sm _ _ (sm03 _ _ hc)
  have vl : (vs.map V.int).length = n := by rw [List.length_map, g2]
  have ul : (us2.map V.ref).length = n := by rw [List.length_map, hus2]
  refine ⟨_, SqL.of hmb4, fun p1 hp1 => ?_⟩
  rw [cut_lo (by rw [ul]; exact hpn)]
  have s5 : Same H4 (upd H4 p1 (.lst ((us2.map V.ref).take pn))) := Same.new hp1
  have h5 : upd H4 p1 (.lst ((us2.map V.ref).take pn)) p1 = some (.lst ((us2.map V.ref).take pn)) := upd_same
  generalize upd H4 p1 (.lst ((us2.map V.ref).take pn)) = H5 at s5 h5 ⊢
  refine mid (fun q6 H6 => [V.ref q6].length ≤ sizeLine ∧ ∀ p7, H6 p7 = none → ∃ x8, upd H6 p7 (.lst [.ref q6]) p1 = some (.lst x8) ∧ ∃ x9, upd H6 p7 (.lst [.ref q6]) p7 = some (.lst x9) ∧ x8.length + x9.length ≤ sizeLine ∧ ∀ p8, upd H6 p7 (.lst [.ref q6]) p8 = none → ∃ x10, SqL K (upd (upd H6 p7 (.lst [.ref q6])) p8 (.lst (x8 ++ x9))) mb x10 ∧ ∀ p9, upd (upd H6 p7 (.lst [.ref q6])) p8 (.lst (x8 ++ x9)) p9 = none → ∃ x11, upd (upd (upd H6 p7 (.lst [.ref q6])) p8 (.lst (x8 ++ x9))) p9 (.lst (cutV x10 (some (pn : Int)) none)) p8 = some (.lst x11) ∧ ∃ x12, upd (upd (upd H6 p7 (.lst [.ref q6])) p8 (.lst (x8 ++ x9))) p9 (.lst (cutV x10 (some (pn : Int)) none)) p9 = some (.lst x12) ∧ x11.length + x12.length ≤ sizeLine ∧ ∀ p10, upd (upd (upd H6 p7 (.lst [.ref q6])) p8 (.lst (x8 ++ x9))) p9 (.lst (cutV x10 (some (pn : Int)) none)) p10 = none → Q (.ref p10) (upd (upd (upd (upd H6 p7 (.lst [.ref q6])) p8 (.lst (x8 ++ x9))) p9 (.lst (cutV x10 (some (pn : Int)) none))) p10 (.lst (x11 ++ x12)))) (s5 _ _ hc4) (by rw [vl]; exact hpn) (by rw [vl]; omega) fun q6 H6 hq6 hq60 s56 => ?_
  have s46 := s5.trans s56
  refine ⟨by show 1 ≤ sizeLine; decide, fun p7 hp7 => ?_⟩
  have s7 : Same H6 (upd H6 p7 (.lst [.ref q6])) := Same.new hp7
  have h7 : upd H6 p7 (.lst [.ref q6]) p7 = some (.lst [.ref q6]) := upd_same
  generalize upd H6 p7 (.lst [.ref q6]) = H7 at s7 h7 ⊢
  refine ⟨_, (s56.trans s7) _ _ h5, _, h7, by rw [List.length_take, ul]; exact Nat.le_trans (show _ ≤ 100 by simp; omega) (by decide), fun p8 hp8 => ?_⟩
  have s8 : Same H7 (upd H7 p8 (.lst ((us2.map V.ref).take pn ++ [.ref q6]))) := Same.new hp8
  have h8 : upd H7 p8 (.lst ((us2.map V.ref).take pn ++ [.ref q6])) p8 = some (.lst ((us2.map V.ref).take pn ++ [.ref q6])) := upd_same
  generalize upd H7 p8 (.lst ((us2.map V.ref).take pn ++ [.ref q6])) = H8 at s8 h8 ⊢
  have s48 := (s46.trans s7).trans s8
  refine ⟨_, SqL.of (s48 _ _ hmb4), fun p9 hp9 => ?_⟩
  rw [cut_hi (by omega) (by rw [ul]; omega), Int.toNat_natCast]
  have s9 : Same H8 (upd H8 p9 (.lst ((us2.map V.ref).drop pn))) := Same.new hp9
  have h9 : upd H8 p9 (.lst ((us2.map V.ref).drop pn)) p9 = some (.lst ((us2.map V.ref).drop pn)) := upd_same
  generalize upd H8 p9 (.lst ((us2.map V.ref).drop pn)) = H9 at s9 h9 ⊢
  have s49 := s48.trans s9
  refine ⟨_, s9 _ _ h8, _, h9, by rw [List.length_append, List.length_take, List.length_drop, ul]; exact Nat.le_trans (show _ ≤ 200 by simp; omega) (by decide), fun p10 hp10 => ?_⟩
  have hq6' : H6 q6 = some (.lst ((rowN (n + 1) fun k => if k = pn then 0 else fL vs (dn pn k)).map V.int)) := by
    rw [hq6, ← fL_row g2, more_row hpn]
  have R := B.insert2 (c := p10) hmb4 hpn s49 (s5.gone hq60) ((s7.trans (s8.trans s9)) _ _ hq6') hp10
  refine (q _).2 ok p10 ?_
  rw [Int.toNat_natCast]
  have e : (fun i => if i = pn then (rowN (n + 1) fun k => if k = pn then 0 else fL vs (dn pn k)) else rowN (n + 1) fun k => if k = pn then fL us (dn pn i) else D (dn pn i) (dn pn k)) = fun i => rowN (n + 1) (lM pn M (fL us) (fL vs) i) := by
    funext i
    by_cases hi : i = pn
    · rw [if_pos hi]
      apply rowN_congr
      intro k _
      unfold lM
      rw [if_pos hi]
    · rw [if_neg hi]
      apply rowN_congr
      intro k _
      unfold lM
      rw [if_neg hi, hD]
  rw [← e]
  exact R.old sm03
end
end K57

namespace K57
open PySem PySem.Spec PyProof.Rows L2
/-- what was laid, drawn together again -/
theorem drawn_back {n p : Nat} {M : Nat → Nat → Int} {u v : Nat → Int} : ∀ i k, i < n → k < n → dM p (lM p M u v) i k = M i k := by
  intro i k hi hk
  unfold dM lM
  rw [if_neg up_ne, if_neg up_ne, if_neg up_ne, if_pos rfl, if_pos rfl, if_neg up_ne, dn_up, dn_up]
  omega
theorem Grid.mxF {H : Hp} {a : Addr} {rs : List Addr} {n : Nat} {M : Nat → Nat → Int} (G : Grid H a rs ((List.range n).map fun i => rowN n (M i))) : Mx2 H a n n M := by
  refine ⟨rs, by rw [G.len]; simp, G.tp, fun i r hi => ?_⟩
  obtain ⟨ns, h1, h2⟩ := G.row i r hi
  have hin : i < n := by have := (List.getElem?_eq_some_iff.mp hi).1; rw [G.len] at this; simpa using this
  rw [List.getElem?_map, List.getElem?_range hin] at h1
  cases h1
  exact h2
theorem sum_fL {ns : List Int} {n : Nat} (h : ns.length = n) : M36.sumN n (fL ns) = ns.sum := by
  show (rowN n (fL ns)).sum = _
  have : rowN n (fL ns) = ns := rowN_of h
  rw [this]
/-- the laid table can be drawn at its place -/
theorem okD_laid {n pn : Nat} {M : Nat → Nat → Int} {us vs : List Int} (ok : OkL n (pn : Int) M us vs) : okD (n + 1) (lM pn M (fL us) (fL vs)) (pn : Int) := by
  have hp : pn ≤ n := by have := ok.p1; omega
  have e0 : lM pn M (fL us) (fL vs) pn pn = 0 := by unfold lM; rw [if_pos rfl, if_pos rfl]
  refine ⟨by omega, by omega, by simpa using e0, ?_, ?_⟩
  · rw [Int.toNat_natCast, sum_less (p := pn) (by omega), e0]
    have : (fun i => lM pn M (fL us) (fL vs) pn (up pn i)) = fL vs := by
      funext i
      unfold lM
      rw [if_pos rfl, if_neg up_ne, dn_up]
    rw [this, sum_fL ok.v.1]
    have := ok.v.2.2
    omega
  · rw [Int.toNat_natCast, sum_less (p := pn) (by omega), e0]
    have : (fun i => lM pn M (fL us) (fL vs) (up pn i) pn) = fL us := by
      funext i
      unfold lM
      rw [if_neg up_ne, if_pos rfl, dn_up]
    rw [this, sum_fL ok.u.1]
    have := ok.u.2.2
    omega
theorem fL_mem {ns : List Int} {k : Nat} (h : k < ns.length) : fL ns k ∈ ns := by
  unfold fL
  rw [List.getD_eq_getElem?_getD, List.getElem?_eq_getElem h]
  exact List.getElem_mem h
theorem bnd_laid {n pn : Nat} {M : Nat → Nat → Int} {us vs : List Int} (ok : OkL n (pn : Int) M us vs) (hM : ∀ i j, i < n → j < n → 0 ≤ M i j ∧ M i j ≤ 46) (hu : ∀ x ∈ us, -(2 ^ 64) < x ∧ x < 2 ^ 64) : Bnd (n + 1) (lM pn M (fL us) (fL vs)) := by
  have hp : pn ≤ n := by have := ok.p1; omega
  have u0 : ∀ i, i < n → 0 ≤ fL us i ∧ fL us i < 2 ^ 64 := fun i hi => by
    have hm := fL_mem (ns := us) (k := i) (by rw [ok.u.1]; exact hi)
    exact ⟨ok.u.2.1 _ hm, (hu _ hm).2⟩
  have v0 : ∀ k, k < n → 0 ≤ fL vs k := fun k hk => ok.v.2.1 _ (fL_mem (by rw [ok.v.1]; exact hk))
  obtain ⟨i0, hi0, hpos⟩ : ∃ i0, i0 < n ∧ 1 ≤ fL us i0 := by
    by_cases h : ∃ i0, i0 < n ∧ 1 ≤ fL us i0
    · exact h
    · refine absurd ((pos_sum ok.u.2.1).2.mpr fun x hx => ?_) ok.u.2.2
      obtain ⟨i, hi, rfl⟩ := List.mem_iff_getElem.mp hx
      have hin : i < n := by rw [← ok.u.1]; exact hi
      have e : fL us i = us[i] := by unfold fL; rw [List.getD_eq_getElem?_getD, List.getElem?_eq_getElem hi]; rfl
      have := u0 i hin
      rw [← e]
      by_cases hz : fL us i = 0
      · exact hz
      · exact absurd ⟨i, hin, by omega⟩ h
  have vb : ∀ k, k < n → fL vs k ≤ 46 := fun k hk => by
    have h1 : fL us i0 * fL vs k ≤ M i0 k := ok.le i0 k hi0 hk
    have h2 := (hM i0 k hi0 hk).2
    have h3 : fL vs k ≤ fL us i0 * fL vs k := by
      have := Int.mul_le_mul_of_nonneg_right hpos (v0 k hk)
      simpa using this
    omega
  intro i j hi hj
  unfold lM
  by_cases h1 : i = pn
  · rw [if_pos h1]
    by_cases h2 : j = pn
    · rw [if_pos h2]; exact ⟨by decide, by decide⟩
    · rw [if_neg h2]
      have a1 := vb _ (dn_lt hj hp h2)
      have a2 := v0 _ (dn_lt hj hp h2)
      omega
  · rw [if_neg h1]
    by_cases h2 : j = pn
    · rw [if_pos h2]
      have := u0 _ (dn_lt hi hp h1)
      omega
    · rw [if_neg h2]
      have a0 : fL us (dn pn i) * fL vs (dn pn j) ≤ M (dn pn i) (dn pn j) := ok.le _ _ (dn_lt hi hp h1) (dn_lt hj hp h2)
      have a1 := hM _ _ (dn_lt hi hp h1) (dn_lt hj hp h2)
      have a2 : 0 ≤ fL us (dn pn i) * fL vs (dn pn j) := Int.mul_nonneg (u0 _ (dn_lt hi hp h1)).1 (v0 _ (dn_lt hj hp h2))
      omega
section
variable {P : Program} {w : World} {K : PySem.W.Frag} {mg : Str → Option Value} {base : Heap}
-- _law_good  N = [(0, '_law_table_here'), (1, '_law_p'), (2, '_law_ins'), (3, '_law_outs'), (4, '_law_due_here'), (5, '_law_handed'), (6, '_law_move'), (7, '_law_turn'), (8, '_law_told_here'), (9, '_law_back'), (10, '_law_row')]  cells = []
abbrev s_l_good : Stmt := top 31
theorem sc_l_good : FnScope ["_law_table_here", "_law_p", "_law_ins", "_law_outs", "_law_due_here", "_law_handed", "_law_move", "_law_turn", "_law_told_here", "_law_back", "_law_row"] ["_law_table_here", "_law_p", "_law_ins", "_law_outs"] (defScope s_l_good) := ⟨rfl, rfl, rfl, by decide +kernel, rfl, by decide +kernel, by decide +kernel⟩
def sp_good (K : PySem.W.Frag) : Sp := fun xs H Q _ => ∃ (a b c : Addr) (rs : List Addr) (g : List (List Int)) (n : Nat) (p : Int) (us vs : List Int), xs = [.ref a, .int p, .ref b, .ref c] ∧ Grid H a rs g ∧ Good n 46 g ∧ 1 ≤ n ∧ n ≤ 6 ∧ H b = some (.lst (us.map V.int)) ∧ H c = some (.lst (vs.map V.int)) ∧ Any57 us vs ∧ ∀ (H' : Hp), Same H H' → Q (.bl true) H'
theorem ok_l_good {f : Addr} {fd : FuncData} (F : Fun K "_law_good" "_law_good" s_l_good f fd) (T : Blt mg) (D_l_due : Df P w K mg base "_law_due" ["_law_table_here", "_law_p", "_law_ins", "_law_outs"] 1 (sp_due K)) (D_l_copy : Df P w K mg base "_law_copy" ["_law_grid"] 1 (sp_copy K)) (D_l_told : Df P w K mg base "_law_told" ["_law_table_here", "_law_move"] 4 (sp_told K)) (D_l_told_back : Df P w K mg base "_law_told_back" ["_law_table_here", "_law_move"] 4 (sp_toldb K)) (D_l_is_table : Df P w K mg base "_law_is_table" ["_law_told_here"] 2 (sp_istable K)) : FnOk P w K mg base CX0 6 f fd ["_law_table_here", "_law_p", "_law_ins", "_law_outs"] (sp_good K) := by
  refine F.ok sc_l_good (fun vs H Q E h => ?_) (fun cdv A outer s H vs Q E hr h => ?_)
  · obtain ⟨a, b, c, rs, g, n, p, us, vs, rfl, _⟩ := h; rfl
  obtain ⟨a, b, c, rs, g, n, p, us, vs, rfl, G, hG, hn1, hn, hb, hc, hA, q⟩ := h
  refine qmk (qpss_cons (qpset 4 sc_l_good.nd (qpe_df (by exact D_l_due) (by exact hr.mono (by decide)) (qpa_cons (qpv 0) (qpa_cons (qpv 1) (qpa_cons (qpv 2) (qpa_cons (qpv 3) qpa_nil))))))
      (qpss_cons (qpset 5 sc_l_good.nd (qpe_df (by exact D_l_copy) (by exact hr.mono (by decide)) (qpa_cons (qpv 0) qpa_nil)))
      (qpss_cons (qpset 6 sc_l_good.nd (qpe_tup (qpa_cons qpe_str (qpa_cons (qpv 1) (qpa_cons (qpe_callTy (call_listK K (by rfl)) (by rfl) (by exact T.list) (by decide +kernel) (qpa_cons (qpv 2) qpa_nil)) (qpa_cons (qpe_callTy (call_listK K (by rfl)) (by rfl) (by exact T.list) (by decide +kernel) (qpa_cons (qpv 3) qpa_nil)) qpa_nil))))))
      (qpss_cons (qps_for PassesOwn.never rfl (qpi_range1 (by rfl) (by exact T.range) (qpa_cons qpe_int qpa_nil)) (qpgn 7 sc_l_good.nd) (qpss_cons (qpset 8 sc_l_good.nd (qpe_df (by exact D_l_told) (by exact hr.mono (by decide)) (qpa_cons (qpv 5) (qpa_cons (qpv 6) qpa_nil))))
      (qpss_cons (qpset 9 sc_l_good.nd (qpe_df (by exact D_l_told_back) (by exact hr.mono (by decide)) (qpa_cons (qpv 5) (qpa_cons (qpv 6) qpa_nil))))
      (qpss_cons (qps_if (qPWpt (qpw_or (qpt_cmpR (op_neK K (by rfl) (by exact hr.units)) (qpv 5) (qpv 0) (nomark _)) (qpw_or1 (qpt_cmpR (op_neK K (by rfl) (by exact hr.units)) (qpv 6) (qpe_tup (qpa_cons qpe_str (qpa_cons (qpv 1) (qpa_cons (qpv 2) (qpa_cons (qpv 3) qpa_nil))))) (nomark _))))) (qpss_one (qps_ret qpe_bl)) qpss_nil)
      (qpss_one (qps_if (qpt_cmpR op_isN (qpv 4) qpe_non (nomark _)) (qpss_one (qps_if (qPWpt (qpw_or (qpt_cmpR (op_neK K (by rfl) (by exact hr.units)) (qpv 8) (qpe_tup (qpa_cons qpe_str (qpa_cons qpe_bl qpa_nil))) (nomark _)) (qpw_or1 (qpt_cmpR (op_neK K (by rfl) (by exact hr.units)) (qpv 9) (qpe_tup (qpa_cons qpe_str (qpa_cons qpe_bl qpa_nil))) (nomark _))))) (qpss_one (qps_ret qpe_bl)) qpss_nil)) (qpss_cons (qps_if (qPWpt (qpw_or (qpt_cmpR op_ne (qpe_ix (ix_tupK K (by rfl)) (qpv 8) qpe_int (fun _ _ => rfl)) qpe_str (nomark _)) (qpw_or (qpt_not (qpt_val (qpe_df (by exact D_l_is_table) (by exact hr.mono (by decide)) (qpa_cons (qpe_ix (ix_tupK K (by rfl)) (qpv 8) qpe_int (fun _ _ => rfl)) qpa_nil)))) (qpw_or1 (qpt_cmpR (op_neK K (by rfl) (by exact hr.units)) (qpe_ix (ix_tupK K (by rfl)) (qpv 8) qpe_int (fun _ _ => rfl)) (qpv 4) (nomark _)))))) (qpss_one (qps_ret qpe_bl)) qpss_nil)
      (qpss_cons (qps_if (qPWpt (qpw_or (qpt_cmpR (op_neK K (by rfl) (by exact hr.units)) (qpv 9) (qpe_tup (qpa_cons qpe_str (qpa_cons (qpe_tup (qpa_cons qpe_str (qpa_cons (qpv 1) qpa_nil))) qpa_nil))) (nomark _)) (qpw_or1 (qpt_cmpR (op_neK K (by rfl) (by exact hr.units)) (qpe_df (by exact D_l_told) (by exact hr.mono (by decide)) (qpa_cons (qpe_df (by exact D_l_copy) (by exact hr.mono (by decide)) (qpa_cons (qpv 4) qpa_nil)) (qpa_cons (qpe_ix (ix_tupK K (by rfl)) (qpv 9) qpe_int (fun _ _ => rfl)) qpa_nil))) (qpe_tup (qpa_cons qpe_str (qpa_cons (qpv 0) qpa_nil))) (nomark _))))) (qpss_one (qps_ret qpe_bl)) qpss_nil)
      (qpss_cons (qps_for PassesOwn.never rfl (qpi_listK K (by rfl) (qpe_ix (ix_tupK K (by rfl)) (qpv 8) qpe_int (fun _ _ => rfl))) (qpgn 10 sc_l_good.nd) (qpss_one (qps_expr (qpm_appendK K (by rfl) (qpv 10) qpe_int (by rfl) (by rfl) (by rfl)))))
      (qpss_one (qps_expr (qpm_appendK K (by rfl) (qpe_ix (ix_tupK K (by rfl)) (qpv 8) qpe_int (fun _ _ => rfl)) (qpe_lst qpa_nil) (by rfl) (by rfl) (by rfl)))))))))))))
      (qpss_one (qps_ret qpe_bl)))))) ?_
  show (_ : TS) _ [some (.ref a), some (.int p), some (.ref b), some (.ref c), none, none, none, none, none, none, none] H
  walk_at "rd"
  have hbd : ∀ i j, i < n → j < n → 0 ≤ gM g i j ∧ gM g i j ≤ 46 := fun i j hi hj => gM_bd hG hi hj
  have hB : Bnd n (gM g) := fun i j hi hj => by have := hbd i j hi hj; omega
  have lay1 : (PyData.tuple [.str "lay", .int p, .list (dI us), .list (dI vs)]).canLay0 = true := by
    show (PyData.canLay0 (.str "lay") && (PyData.canLay0 (.int p) && (PyData.canLayAll0 (dI us) && (PyData.canLayAll0 (dI vs) && true)))) = true
    rw [lay_ints, lay_ints, show (PyData.int p).canLay0 = true from rfl]
    decide +kernel
  have dep1 : (PyData.tuple [.str "lay", .int p, .list (dI us), .list (dI vs)]).depth ≤ 32 := by
    show max 0 (max 0 (max (PyData.depthAll (dI us) + 1) (max (PyData.depthAll (dI vs) + 1) 0))) + 1 ≤ 32
    rw [depth_ints, depth_ints]; decide
  refine ⟨a, b, c, rs, g, n, p, us, vs, rfl, G, hG, hn1, hn, hb, hc, hA, fun H1 => ⟨fun no sm1 => ?_, fun ok dl A => ?_⟩⟩
  · walk_at "rd"
    refine ⟨a, rs, g, rfl, G.same sm1, by rw [hG.1]; omega, fun h hs H2 Gh sm2 _ _ => ?_⟩
    walk_at "rd"
    have smB : Same H H2 := sm1.trans sm2
    refine ⟨_, .inl (SqL.of (smB _ _ hb)), fun l1 hl1 => ?_⟩
    have s3 : Same H2 (upd H2 l1 (.lst (us.map V.int))) := Same.new hl1
    have h3 : upd H2 l1 (.lst (us.map V.int)) l1 = some (.lst (us.map V.int)) := upd_same
    generalize upd H2 l1 (.lst (us.map V.int)) = H3 at s3 h3 ⊢
    refine ⟨_, .inl (SqL.of (s3 _ _ (smB _ _ hc))), fun l2 hl2 => ?_⟩
    have s4 : Same H3 (upd H3 l2 (.lst (vs.map V.int))) := Same.new hl2
    have h4 : upd H3 l2 (.lst (vs.map V.int)) l2 = some (.lst (vs.map V.int)) := upd_same
    generalize upd H3 l2 (.lst (vs.map V.int)) = H4 at s4 h4 ⊢
    refine ⟨by show 4 ≤ sizeLine; decide, fun mv hmv => ⟨by decide, by decide, ?_⟩⟩
    have s5 : Same H4 (upd H4 mv (.tup [.str "lay", .int p, .ref l1, .ref l2])) := Same.new hmv
    have h5 : upd H4 mv (.tup [.str "lay", .int p, .ref l1, .ref l2]) mv = some (.tup [.str "lay", .int p, .ref l1, .ref l2]) := upd_same
    generalize upd H4 mv (.tup [.str "lay", .int p, .ref l1, .ref l2]) = H5 at s5 h5 ⊢
    have h35 := (s4.trans s5) _ _ h3
    have h45 := s5 _ _ h4
    have s25 : Same H2 H5 := s3.trans (s4.trans s5)
    have s05 : Same H H5 := smB.trans s25
    obtain ⟨Pv, hPv⟩ : ∃ Pv : Nat → L2.St → Hp → Prop, Pv = fun (_ : Nat) σ H6 => ∃ (x7 x8 x9 x10 : Option V), σ = [some (.ref a), some (.int p), some (.ref b), some (.ref c), some .non, some (.ref h), some (.ref mv), x7, x8, x9, x10] ∧ Same H5 H6 := ⟨_, rfl⟩
    refine loop_range Pv (by rw [hPv]; exact ⟨_, _, _, _, rfl, Same.refl _⟩) ?_ ?_
    · intro uu σ H6 huu hP
      rw [hPv] at hP
      obtain ⟨x7, x8, x9, x10, rfl, s6⟩ := hP
      have s26 := s25.trans s6
      have s06 := s05.trans s6
      walk_at "rd"
      refine ⟨h, mv, n, gM g, rfl, (Gh.same s26).mx hG, by omega, hB, .lay p l1 l2 us vs (s6 _ _ h5) (s6 _ _ h35) (s6 _ _ h45) hA.1 hA.2.1 hA.2.2, fun r H7 hr0 => ⟨fun ok => absurd ok no, fun _ s7 hr7 => ?_⟩⟩
      refine ⟨h, mv, n, gM g, rfl, (Gh.same (s26.trans s7)).mx hG, by omega, p, l1, l2, us, vs, (s6.trans s7) _ _ h5, (s6.trans s7) _ _ h35, (s6.trans s7) _ _ h45, hA.1, hA.2.1, hA.2.2, fun r2 H8 hr20 s8 => ⟨fun ok => absurd ok no, fun _ hr8 => ?_⟩⟩
      have s78 : Same H6 H8 := s7.trans s8
      refine ⟨_, (Gh.same (s26.trans s78)).old.den, _, (G.same (s06.trans s78)).old.den, lay_dG _, lay_dG _, depth_dG _, ?_⟩
      rw [SeqAt.eqv_refl _ (lay_dG _)]
      refine iteF ⟨by show 4 ≤ sizeLine; decide, fun tm htm => ?_⟩
      have s9 : Same H8 (upd H8 tm (.tup [.str "lay", .int p, .ref b, .ref c])) := Same.new htm
      have h9 : upd H8 tm (.tup [.str "lay", .int p, .ref b, .ref c]) tm = some (.tup [.str "lay", .int p, .ref b, .ref c]) := upd_same
      generalize upd H8 tm (.tup [.str "lay", .int p, .ref b, .ref c]) = H9 at s9 h9 ⊢
      have s69 : Same H6 H9 := s78.trans s9
      have denM : ∀ {b c l : Addr}, H9 b = some (.lst (us.map V.int)) → H9 c = some (.lst (vs.map V.int)) → H9 l = some (.tup [.str "lay", .int p, .ref b, .ref c]) → Den K H9 (.ref l) (.tuple [.str "lay", .int p, .list (dI us), .list (dI vs)]) := fun {b c l} h1 h2 h3 => .tup (SqT.of h3) (.cons (.str _) (.cons (.int _) (.cons (.lst (SqL.of h1) (dens_ints _)) (.cons (.lst (SqL.of h2) (dens_ints _)) .nil))))
      refine ⟨_, denM ((s6.trans s69) _ _ h35) ((s6.trans s69) _ _ h45) ((s6.trans s69) _ _ h5), _, denM ((s06.trans s69) _ _ hb) ((s06.trans s69) _ _ hc) h9, lay1, lay1, dep1, ?_⟩
      rw [SeqAt.eqv_refl _ lay1]
      have hr9 := (s8.trans s9) _ _ hr7
      have hr29 := s9 _ _ hr8
      refine iteF ⟨by show 2 ≤ sizeLine; decide, fun t1 ht1 => ?_⟩
      have hrt1 : r ≠ t1 := ne_of_none hr9 ht1
      refine ⟨_, .tup (SqT.of (by rw [upd_ne hrt1]; exact hr9)) (.cons (.str _) (.cons (.bl _) .nil)), _, .tup (SqT.of upd_same) (.cons (.str _) (.cons (.bl _) .nil)), by decide +kernel, by decide +kernel, by decide +kernel, ?_⟩
      rw [SeqAt.eqv_refl _ (by decide +kernel)]
      have s10 : Same H9 (upd H9 t1 (.tup [.str "refused", .bl true])) := Same.new ht1
      generalize upd H9 t1 (.tup [.str "refused", .bl true]) = H10 at s10 ⊢
      refine iteF ⟨by show 2 ≤ sizeLine; decide, fun t2 ht2 => ?_⟩
      have hr210 := s10 _ _ hr29
      have hrt2 : r2 ≠ t2 := ne_of_none hr210 ht2
      refine ⟨_, .tup (SqT.of (by rw [upd_ne hrt2]; exact hr210)) (.cons (.str _) (.cons (.bl _) .nil)), _, .tup (SqT.of upd_same) (.cons (.str _) (.cons (.bl _) .nil)), by decide +kernel, by decide +kernel, by decide +kernel, ?_⟩
      rw [SeqAt.eqv_refl _ (by decide +kernel)]
      refine iteF ?_
      rw [hPv]
      have sE := s6.trans (s69.trans s10)
      exact ⟨_, _, _, _, rfl, sE.put (sE.gone ht2)⟩
    · intro σ H6 hP
      rw [hPv] at hP
      obtain ⟨x7, x8, x9, x10, rfl, s6⟩ := hP
      walk_at "rd"
      exact q H6 (s05.trans s6)
  · walk_at "rd"
    refine ⟨a, rs, g, rfl, G.same A.sm, by rw [hG.1]; omega, fun h hs H2 Gh sm2 _ _ => ?_⟩
    walk_at "rd"
    have smB : Same H H2 := A.sm.trans sm2
    refine ⟨_, .inl (SqL.of (smB _ _ hb)), fun l1 hl1 => ?_⟩
    have s3 : Same H2 (upd H2 l1 (.lst (us.map V.int))) := Same.new hl1
    have h3 : upd H2 l1 (.lst (us.map V.int)) l1 = some (.lst (us.map V.int)) := upd_same
    generalize upd H2 l1 (.lst (us.map V.int)) = H3 at s3 h3 ⊢
    refine ⟨_, .inl (SqL.of (s3 _ _ (smB _ _ hc))), fun l2 hl2 => ?_⟩
    have s4 : Same H3 (upd H3 l2 (.lst (vs.map V.int))) := Same.new hl2
    have h4 : upd H3 l2 (.lst (vs.map V.int)) l2 = some (.lst (vs.map V.int)) := upd_same
    generalize upd H3 l2 (.lst (vs.map V.int)) = H4 at s4 h4 ⊢
    refine ⟨by show 4 ≤ sizeLine; decide, fun mv hmv => ⟨by decide, by decide, ?_⟩⟩
    have s5 : Same H4 (upd H4 mv (.tup [.str "lay", .int p, .ref l1, .ref l2])) := Same.new hmv
    have h5 : upd H4 mv (.tup [.str "lay", .int p, .ref l1, .ref l2]) mv = some (.tup [.str "lay", .int p, .ref l1, .ref l2]) := upd_same
    generalize upd H4 mv (.tup [.str "lay", .int p, .ref l1, .ref l2]) = H5 at s5 h5 ⊢
    have h35 := (s4.trans s5) _ _ h3
    have h45 := s5 _ _ h4
    have s25 : Same H2 H5 := s3.trans (s4.trans s5)
    have s05 : Same H H5 := smB.trans s25
    obtain ⟨Pv, hPv⟩ : ∃ Pv : Nat → L2.St → Hp → Prop, Pv = fun (_ : Nat) σ H6 => ∃ (x7 x8 x9 x10 : Option V), σ = [some (.ref a), some (.int p), some (.ref b), some (.ref c), some (.ref dl), some (.ref h), some (.ref mv), x7, x8, x9, x10] ∧ Same H5 H6 := ⟨_, rfl⟩
    refine loop_range Pv (by rw [hPv]; exact ⟨_, _, _, _, rfl, Same.refl _⟩) ?_ ?_
    · intro uu σ H6 huu hP
      rw [hPv] at hP
      obtain ⟨x7, x8, x9, x10, rfl, s6⟩ := hP
      have s26 := s25.trans s6
      have s06 := s05.trans s6
      walk_at "rd"
      refine ⟨h, mv, n, gM g, rfl, (Gh.same s26).mx hG, by omega, hB, .lay p l1 l2 us vs (s6 _ _ h5) (s6 _ _ h35) (s6 _ _ h45) hA.1 hA.2.1 hA.2.2, fun r H7 hr0 => ⟨fun _ l A2 hr7 => ?_, fun no => absurd ok no⟩⟩
      have s7 := A2.sm
      refine ⟨h, mv, n, gM g, rfl, (Gh.same (s26.trans s7)).mx hG, by omega, p, l1, l2, us, vs, (s6.trans s7) _ _ h5, (s6.trans s7) _ _ h35, (s6.trans s7) _ _ h45, hA.1, hA.2.1, hA.2.2, fun r2 H8 hr20 s8 => ⟨fun _ ld hld0 hr8 hld => ?_, fun no => absurd ok no⟩⟩
      have s78 : Same H6 H8 := s7.trans s8
      refine ⟨_, (Gh.same (s26.trans s78)).old.den, _, (G.same (s06.trans s78)).old.den, lay_dG _, lay_dG _, depth_dG _, ?_⟩
      rw [SeqAt.eqv_refl _ (lay_dG _)]
      refine iteF ⟨by show 4 ≤ sizeLine; decide, fun tm htm => ?_⟩
      have s9 : Same H8 (upd H8 tm (.tup [.str "lay", .int p, .ref b, .ref c])) := Same.new htm
      have h9 : upd H8 tm (.tup [.str "lay", .int p, .ref b, .ref c]) tm = some (.tup [.str "lay", .int p, .ref b, .ref c]) := upd_same
      generalize upd H8 tm (.tup [.str "lay", .int p, .ref b, .ref c]) = H9 at s9 h9 ⊢
      have s69 : Same H6 H9 := s78.trans s9
      have denM : ∀ {b c l : Addr}, H9 b = some (.lst (us.map V.int)) → H9 c = some (.lst (vs.map V.int)) → H9 l = some (.tup [.str "lay", .int p, .ref b, .ref c]) → Den K H9 (.ref l) (.tuple [.str "lay", .int p, .list (dI us), .list (dI vs)]) := fun {b c l} h1 h2 h3 => .tup (SqT.of h3) (.cons (.str _) (.cons (.int _) (.cons (.lst (SqL.of h1) (dens_ints _)) (.cons (.lst (SqL.of h2) (dens_ints _)) .nil))))
      refine ⟨_, denM ((s6.trans s69) _ _ h35) ((s6.trans s69) _ _ h45) ((s6.trans s69) _ _ h5), _, denM ((s06.trans s69) _ _ hb) ((s06.trans s69) _ _ hc) h9, lay1, lay1, dep1, ?_⟩
      rw [SeqAt.eqv_refl _ lay1]
      have hr9 := (s8.trans s9) _ _ hr7
      have hr29 := s9 _ _ hr8
      refine iteF ?_
      rw [if_neg (by simp)]
      obtain ⟨pn, rfl⟩ : ∃ pn : Nat, p = (pn : Int) := ⟨p.toNat, by have := ok.p0; omega⟩
      rw [Int.toNat_natCast] at A A2
      have A9 := A2.same (s8.trans s9)
      refine ⟨r, rfl, _, SqT.of hr9, _, rfl, rfl, ?_⟩
      rw [if_neg (by simp)]
      refine ⟨r, rfl, _, SqT.of hr9, .ref l, rfl, l, n + 1, n + 1, _, rfl, A9.mx2, by omega, by omega, fun H10 s10 => ⟨true, rfl, iteF ?_⟩⟩
      have hr10 := s10 _ _ hr9
      have hr210 := s10 _ _ hr29
      have hld10 := (s9.trans s10) _ _ hld
      have A10 := A9.same s10
      have s610 : Same H6 H10 := s69.trans s10
      have s210 : Same H2 H10 := s26.trans s610
      have AD := A.same (sm2.trans s210)
      obtain ⟨ts, hts, htp, hrows, hnd⟩ := A10.ex
      obtain ⟨_, GA2, _⟩ := A10.grid
      obtain ⟨ds, GA, _⟩ := AD.grid
      refine ⟨r, rfl, _, SqT.of hr10, .ref l, rfl, _, GA2.old.den, _, GA.old.den, lay_dG _, lay_dG _, depth_dG _, ?_⟩
      rw [SeqAt.eqv_refl _ (lay_dG _)]
      refine iteF ⟨by show 2 ≤ sizeLine; decide, fun t1 ht1 => ⟨by show 2 ≤ sizeLine; decide, fun t2 ht2 => ?_⟩⟩
      have h12 : t1 ≠ t2 := ne_of_none upd_same ht2
      have sA : Same H10 (upd H10 t1 (.tup [.str "draw", .int (pn : Int)])) := Same.new ht1
      have sB : Same H10 (upd (upd H10 t1 (.tup [.str "draw", .int (pn : Int)])) t2 (.tup [.str "told", .ref t1])) := sA.put (sA.gone ht2)
      have hB1 : upd (upd H10 t1 (.tup [.str "draw", .int (pn : Int)])) t2 (.tup [.str "told", .ref t1]) t1 = some (.tup [.str "draw", .int (pn : Int)]) := by rw [upd_ne h12]; exact upd_same
      have hB2 : upd (upd H10 t1 (.tup [.str "draw", .int (pn : Int)])) t2 (.tup [.str "told", .ref t1]) t2 = some (.tup [.str "told", .ref t1]) := upd_same
      generalize upd (upd H10 t1 (.tup [.str "draw", .int (pn : Int)])) t2 (.tup [.str "told", .ref t1]) = H11 at sB hB1 hB2 ⊢
      have lay2 : (PyData.tuple [.str "told", .tuple [.str "draw", .int (pn : Int)]]).canLay0 = true := by
        show (PyData.canLay0 (.str "told") && ((PyData.canLay0 (.str "draw") && (PyData.canLay0 (.int (pn : Int)) && true)) && true)) = true
        rw [show (PyData.int (pn : Int)).canLay0 = true from rfl]
        decide +kernel
      have hr211 := sB _ _ hr210
      have hld11 := sB _ _ hld10
      refine ⟨_, .tup (SqT.of hr211) (.cons (.str _) (.cons (.tup (SqT.of hld11) (.cons (.str _) (.cons (.int _) .nil))) .nil)), _, .tup (SqT.of hB2) (.cons (.str _) (.cons (.tup (SqT.of hB1) (.cons (.str _) (.cons (.int _) .nil))) .nil)), lay2, lay2, by show max 0 (max (max 0 (max 0 0) + 1) 0) + 1 ≤ 32; decide, ?_⟩
      rw [SeqAt.eqv_refl _ lay2]
      refine iteF ⟨dl, ds, _, rfl, GA.same sB, by simp; omega, fun cd cds H12 Gcd s12 _ _ => ?_⟩
      have s1012 := sB.trans s12
      refine ⟨r2, rfl, _, SqT.of (s12 _ _ hr211), .ref ld, rfl, ?_⟩
      refine ⟨cd, ld, n + 1, _, rfl, Gcd.mxF, by omega, bnd_laid ok hbd hA.2.2, .draw (pn : Int) (s12 _ _ hld11), fun r3 H13 hr30 => ⟨fun _ l3 n3 en3 A3 hr33 => ?_, fun no => absurd (okD_laid ok) no⟩⟩
      have e3 : n3 = n := by omega
      subst e3
      rw [Int.toNat_natCast] at A3
      have s13 := A3.sm
      obtain ⟨_, GA3, _⟩ := A3.grid
      have eG : (List.range n3).map (fun i => rowN n3 (dM pn (lM pn (gM g) (fL us) (fL vs)) i)) = g := by
        rw [← grid_of hG]
        apply List.map_congr_left
        intro i hi
        apply rowN_congr
        intro k hk
        rw [grid_of hG]
        exact drawn_back i k (List.mem_range.mp hi) hk
      rw [eG] at GA3
      have lay3 : (PyData.tuple [.str "told", dG g]).canLay0 = true := by
        show (PyData.canLay0 (.str "told") && ((dG g).canLay0 && true)) = true
        rw [lay_dG]
        decide +kernel
      refine ⟨by show 2 ≤ sizeLine; decide, fun t3 ht3 => ?_⟩
      have s14 : Same H13 (upd H13 t3 (.tup [.str "told", .ref a])) := Same.new ht3
      have h14 : upd H13 t3 (.tup [.str "told", .ref a]) t3 = some (.tup [.str "told", .ref a]) := upd_same
      generalize upd H13 t3 (.tup [.str "told", .ref a]) = H14 at s14 h14 ⊢
      have s1014 : Same H10 H14 := s1012.trans (s13.trans s14)
      refine ⟨_, .tup (SqT.of (s14 _ _ hr33)) (.cons (.str _) (.cons (GA3.old.den.same s14) .nil)), _, .tup (SqT.of h14) (.cons (.str _) (.cons (G.old.den.same ((s06.trans s610).trans s1014)) .nil)), lay3, lay3, ?_, ?_⟩
      · show max 0 (max (dG g).depth 0) + 1 ≤ 32
        have : (dG g).depth ≤ 2 := by
          show PyData.depthAll _ + 1 ≤ 2
          have := depth_rows g
          omega
        omega
      rw [SeqAt.eqv_refl _ lay3]
      have hr14 := s1014 _ _ hr10
      have htp14 := s1014 _ _ htp
      refine iteF ⟨r, rfl, _, SqT.of hr14, .ref l, rfl, l, rfl, ⟨_, SqL.of htp14⟩, ?_⟩
      have s614 : Same H6 H14 := s610.trans s1014
      have s514 : Same H5 H14 := s6.trans s614
      have hl5 : H5 l = none := s6.gone A2.no
      have hts5 : ∀ (j : Nat) (x : Addr), ts[j]? = some x → H5 x = none := fun j x hj => s6.gone (hrows j x hj).2.1
      obtain ⟨Pw, hPw⟩ : ∃ Pw : Nat → L2.St → Hp → Prop, Pw = fun (i : Nat) σ H15 => ∃ (x7 x9 x10 : Option V), σ = [some (.ref a), some (.int (pn : Int)), some (.ref b), some (.ref c), some (.ref dl), some (.ref h), some (.ref mv), x7, some (.ref r), x9, x10] ∧ Same H5 H15 ∧ H15 l = some (.lst (ts.map V.ref)) ∧ H15 r = some (.tup [.str "told", .ref l]) ∧ ∀ (j : Nat) (x : Addr), i ≤ j → ts[j]? = some x → H15 x = some (.lst ((rowN (n3 + 1) (lM pn (gM g) (fL us) (fL vs) j)).map V.int)) := ⟨_, rfl⟩
      refine loop_list (ts.map V.ref) Pw (by rw [hPw]; exact ⟨_, _, _, rfl, s514, htp14, hr14, fun j x _ hj => s1014 _ _ (hrows j x hj).1⟩) (fun i σ H15 _ hP => ?_) ?_ ?_
      · rw [hPw] at hP
        obtain ⟨_, _, _, _, _, hl6, _⟩ := hP
        exact SqL.of hl6
      · intro i x σ H15 hx hP
        rw [hPw] at hP
        obtain ⟨x7, x9, x10, rfl, s15, hl6, hr6, hj6⟩ := hP
        obtain ⟨rr, hrr, rfl⟩ := ref_at hx
        have hrr6 := hj6 i rr (Nat.le_refl _) hrr
        walk_at "rd"
        refine ⟨tyl (SqL.of hrr6), _, hrr6, by rw [rowN_len]; exact Nat.lt_of_le_of_lt (show _ ≤ 100 by omega) (by decide), ?_⟩
        rw [hPw]
        have hlr : l ≠ rr := (hrows i rr hrr).2.2.symm
        have hr_rr : r ≠ rr := fun e => by rw [e, hrr6] at hr6; cases hr6
        refine ⟨_, _, _, rfl, s15.put (hts5 i rr hrr), by rw [upd_ne hlr]; exact hl6, by rw [upd_ne hr_rr]; exact hr6, fun j x hij hj => ?_⟩
        have hne : x ≠ rr := by
          rintro rfl
          obtain ⟨a1, b1⟩ := List.getElem?_eq_some_iff.mp hj
          obtain ⟨a2, b2⟩ := List.getElem?_eq_some_iff.mp hrr
          have := (List.getElem_inj hnd).mp (b1.trans b2.symm)
          omega
        rw [upd_ne hne]
        exact hj6 j x (by omega) hj
      · intro σ H15 hP
        rw [hPw] at hP
        obtain ⟨x7, x9, x10, rfl, s15, hl6, hr6, _⟩ := hP
        walk_at "rd"
        refine ⟨_, SqT.of hr6, .ref l, rfl, tyl (SqL.of hl6), by show 0 ≤ sizeLine; decide, fun e he => ?_⟩
        have hle : l ≠ e := ne_of_none hl6 he
        refine ⟨l, rfl, _, (by rw [upd_ne hle]; exact hl6), ?_, ?_⟩
        · rw [List.length_map, hts]; exact Nat.lt_of_le_of_lt (show _ ≤ 100 by omega) (by decide)
        rw [hPv]
        exact ⟨_, _, _, _, rfl, (s15.put (s15.gone he)).put hl5⟩
    · intro σ H6 hP
      rw [hPv] at hP
      obtain ⟨x7, x8, x9, x10, rfl, s6⟩ := hP
      walk_at "rd"
      exact q H6 (s05.trans s6)
-- law  N = [(0, '_law_script'), (1, '_law_table_here'), (2, '_law_many'), (3, '_law_big_here'), (4, '_law_p'), (5, '_law_ins'), (6, '_law_outs'), (7, '_law_fitting_here'), (8, '_law_more'), (9, '_law_wrong'), (10, '_law_place')]  cells = []
abbrev s_law : Stmt := top 32
theorem sc_law : FnScope ["_law_script", "_law_table_here", "_law_many", "_law_big_here", "_law_p", "_law_ins", "_law_outs", "_law_fitting_here", "_law_more", "_law_wrong", "_law_place"] ["_law_script"] (defScope s_law) := ⟨rfl, rfl, rfl, by decide +kernel, rfl, by decide +kernel, by decide +kernel⟩
def sp_law (K : PySem.W.Frag) : Sp := fun vs H Q _ => ∃ (a : Addr) (ns : List Int), vs = [.ref a] ∧ SqL K H a (ns.map V.int) ∧ ∀ H', Q (.bl true) H'
theorem ok_law {f : Addr} {fd : FuncData} (F : Fun K "law" "law" s_law f fd) (T : Blt mg) (D_l_big : Df P w K mg base "_law_big" ["_law_script", "_law_at"] 2 (sp_big K)) (D_l_table : Df P w K mg base "_law_table" ["_law_big_here"] 2 (sp_table K)) (D_l_few : Df P w K mg base "_law_few" ["_law_table_here"] 1 (sp_few K)) (D_l_numbers : Df P w K mg base "_law_numbers" ["_law_table_here", "_law_big_here", "_law_most"] 1 (sp_numbers K)) (D_l_fitting : Df P w K mg base "_law_fitting" ["_law_table_here", "_law_ins", "_law_outs"] 1 (sp_fitting K)) (D_l_spoilt : Df P w K mg base "_law_spoilt" ["_law_ins", "_law_outs", "_law_big_here"] 1 (sp_spoilt K)) (D_l_good : Df P w K mg base "_law_good" ["_law_table_here", "_law_p", "_law_ins", "_law_outs"] 6 (sp_good K)) : FnOk P w K mg base CX0 7 f fd ["_law_script"] (sp_law K) := by
  refine F.ok sc_law (fun vs H Q E h => ?_) (fun cdv A outer s H vs Q E hr h => ?_)
  · obtain ⟨a, ns, rfl, _⟩ := h; rfl
  obtain ⟨a, ns, rfl, hS, q⟩ := h
  refine qmk (qpss_cons (qpset 1 sc_law.nd (qpe_df (by exact D_l_few) (by exact hr.mono (by decide)) (qpa_cons (qpe_df (by exact D_l_table) (by exact hr.mono (by decide)) (qpa_cons (qpe_df (by exact D_l_big) (by exact hr.mono (by decide)) (qpa_cons (qpv 0) (qpa_cons qpe_int qpa_nil))) qpa_nil)) qpa_nil)))
      (qpss_cons (qpset 2 sc_law.nd (qpe_callB (call_lenK K (by rfl)) (by rfl) (by exact T.len) (by decide +kernel) (qpa_cons (qpv 1) qpa_nil)))
      (qpss_cons (qpset 3 sc_law.nd (qpe_df (by exact D_l_big) (by exact hr.mono (by decide)) (qpa_cons (qpv 0) (qpa_cons qpe_int qpa_nil))))
      (qpss_cons (qpset 4 sc_law.nd (qpe_op op_mod (qpv 3) (qpe_op op_add (qpv 2) qpe_int)))
      (qpss_cons (qpset 5 sc_law.nd (qpe_df (by exact D_l_numbers) (by exact hr.mono (by decide)) (qpa_cons (qpv 1) (qpa_cons (qpe_op op_fdiv (qpv 3) qpe_int) (qpa_cons qpe_int qpa_nil)))))
      (qpss_cons (qpset 6 sc_law.nd (qpe_df (by exact D_l_numbers) (by exact hr.mono (by decide)) (qpa_cons (qpv 1) (qpa_cons (qpe_df (by exact D_l_big) (by exact hr.mono (by decide)) (qpa_cons (qpv 0) (qpa_cons qpe_int qpa_nil))) (qpa_cons qpe_int qpa_nil)))))
      (qpss_cons (qpset 7 sc_law.nd (qpe_df (by exact D_l_fitting) (by exact hr.mono (by decide)) (qpa_cons (qpv 1) (qpa_cons (qpv 5) (qpa_cons (qpv 6) qpa_nil)))))
      (qpss_cons (qpset 8 sc_law.nd (qpe_df (by exact D_l_big) (by exact hr.mono (by decide)) (qpa_cons (qpv 0) (qpa_cons qpe_int qpa_nil))))
      (qpss_cons (qps_if (qPWpt (qpw_or (qpt_not (qpt_val (qpe_df (by exact D_l_good) (by exact hr.mono (by decide)) (qpa_cons (qpv 1) (qpa_cons (qpv 4) (qpa_cons (qpv 5) (qpa_cons (qpv 6) qpa_nil))))))) (qpw_or1 (qpt_not (qpt_val (qpe_df (by exact D_l_good) (by exact hr.mono (by decide)) (qpa_cons (qpv 1) (qpa_cons (qpv 4) (qpa_cons (qpv 7) (qpa_cons (qpv 6) qpa_nil)))))))))) (qpss_one (qps_ret qpe_bl)) qpss_nil)
      (qpss_cons (qpset 9 sc_law.nd (qpe_df (by exact D_l_spoilt) (by exact hr.mono (by decide)) (qpa_cons (qpv 7) (qpa_cons (qpv 6) (qpa_cons (qpv 8) qpa_nil)))))
      (qpss_cons (qpset 10 sc_law.nd (qpe_ix (ix_tupK K (by rfl)) (qpe_tup (qpa_cons (qpe_op op_add (qpe_op op_add (qpv 2) qpe_int) (qpe_op op_mod (qpe_op op_fdiv (qpv 8) qpe_int) qpe_int)) (qpa_cons (qpe_op op_sub (qpe_un un_neg qpe_int) (qpe_op op_mod (qpe_op op_fdiv (qpv 8) qpe_int) qpe_int)) qpa_nil))) (qpe_op op_mod (qpe_op op_fdiv (qpv 8) qpe_int) qpe_int) (fun _ _ => rfl)))
      (qpss_one (qps_ret (qpe_and (qpe_df (by exact D_l_good) (by exact hr.mono (by decide)) (qpa_cons (qpv 1) (qpa_cons (qpv 4) (qpa_cons (qpe_ix (ix_tupK K (by rfl)) (qpv 9) qpe_int (fun _ _ => rfl)) (qpa_cons (qpe_ix (ix_tupK K (by rfl)) (qpv 9) qpe_int (fun _ _ => rfl)) qpa_nil))))) (qpe_one (qpe_df (by exact D_l_good) (by exact hr.mono (by decide)) (qpa_cons (qpv 1) (qpa_cons (qpv 10) (qpa_cons (qpv 7) (qpa_cons (qpv 6) qpa_nil)))))))))))))))))))) ?_
  show (_ : TS) _ [some (.ref a), none, none, none, none, none, none, none, none, none, none] H
  walk_at "rd"
  refine ⟨a, ns, 0, rfl, hS, by decide, fun b1 H1 hb1 sm1 => ?_⟩
  refine ⟨b1, rfl, hb1, fun t0 r0 g0 n0 H2 hn0 hn0' hg0 G0 sm2 _ _ => ?_⟩
  refine ⟨t0, r0, g0, n0, rfl, G0, hg0, hn0, hn0', fun t ts g n H3 G hG hn1 hn5 sm3 => ?_⟩
  walk_at "rd"
  have htl : (ts.map V.ref).length = n := by rw [List.length_map, G.len, hG.1]
  refine ⟨_, .inl (SqL.of G.tp), ?_⟩
  rw [htl]
  have sS := (sm1.trans sm2).trans sm3
  refine ⟨a, ns, 1, rfl, sS.seq hS, by decide, fun b2 H4 hb2 sm4 => ?_⟩
  walk_at "rd"
  have hn6 : n ≤ 6 := by omega
  refine ⟨by omega, ⟨by decide, by decide⟩, t, ts, g, n, b2 / 6, rfl, G.same sm4, hG, hn6, fun bi us H5 hbi hu sm5 => ?_⟩
  have sS5 := sS.trans (sm4.trans sm5)
  refine ⟨a, ns, 2, rfl, sS5.seq hS, by decide, fun b3 H6 hb3 sm6 => ?_⟩
  have G6 := G.same (sm4.trans (sm5.trans sm6))
  refine ⟨t, ts, g, n, b3, rfl, G6, hG, hn6, fun bo vs H7 hbo hv sm7 => ?_⟩
  have hbi7 := (sm6.trans sm7) _ _ hbi
  refine ⟨t, bi, bo, ts, g, n, us, vs, rfl, G6.same sm7, hG, hn6, hbi7, hbo, hu, hv, fun bf fs H8 hbf hf sm8 => ?_⟩
  refine ⟨a, ns, 3, rfl, (sS5.trans (sm6.trans (sm7.trans sm8))).seq hS, by decide, fun b4 H9 hb4 sm9 => ?_⟩
  have sm79 := sm8.trans sm9
  have any : ∀ {us vs : List Int}, Nums n us → Nums n vs → Any57 us vs := fun {us vs} h1 h2 => ⟨by rw [h1.1]; omega, by rw [h2.1]; omega, fun x hx => by have := h1.2 x hx; omega⟩
  have G9 := (G6.same sm7).same sm79
  refine ⟨t, bi, bo, ts, g, n, _, us, vs, rfl, G9, hG, hn1, hn6, sm79 _ _ hbi7, sm79 _ _ hbo, any hu hv, fun H10 sm10 => ⟨true, rfl, iteF ?_⟩⟩
  refine ⟨t, bf, bo, ts, g, n, _, fs, vs, rfl, G9.same sm10, hG, hn1, hn6, (sm9.trans sm10) _ _ hbf, (sm79.trans sm10) _ _ hbo, any hf hv, fun H11 sm11 => ⟨true, rfl, iteF ?_⟩⟩
  have s911 := sm10.trans sm11
  refine ⟨bf, bo, n, fs, vs, b4, rfl, hn1, hn6, (sm9.trans s911) _ _ hbf, (sm79.trans s911) _ _ hbo, hf, hv, fun rw' b' c' us' vs' H12 hrw hb' hc' hany sm12 => ?_⟩
  refine ⟨_, rfl, ⟨by decide, by decide⟩, by decide, _, rfl, ⟨by decide, by decide⟩, by decide, by show 2 ≤ sizeLine; decide, fun pt hpt => ⟨_, rfl, ⟨by decide, by decide⟩, by decide, _, SqT.of upd_same, ?_⟩⟩
  obtain ⟨z, ez⟩ : ∃ z : Int, atI [V.int ((n : Int) + 1 + b4 / 1000 % 3), V.int (-1 - b4 / 1000 % 3)] (b4 / 3000 % 2) = some (.int z) := by
    obtain ⟨k, hk, ek⟩ : ∃ k : Nat, k < 2 ∧ b4 / 3000 % 2 = (k : Int) := ⟨(b4 / 3000 % 2).toNat, by omega, by omega⟩
    rw [ek]
    match k, hk with
    | 0, _ => exact ⟨_, atI_nat rfl⟩
    | 1, _ => exact ⟨_, atI_nat rfl⟩
  have sp : Same H12 (upd H12 pt (.tup [V.int ((n : Int) + 1 + b4 / 1000 % 3), V.int (-1 - b4 / 1000 % 3)])) := Same.new hpt
  generalize upd H12 pt (.tup [V.int ((n : Int) + 1 + b4 / 1000 % 3), V.int (-1 - b4 / 1000 % 3)]) = H13 at sp ⊢
  have s913 := s911.trans (sm12.trans sp)
  refine ⟨_, ez, rw', rfl, _, SqT.of (sp _ _ hrw), .ref b', rfl, rw', rfl, _, SqT.of (sp _ _ hrw), .ref c', rfl, ?_⟩
  refine ⟨t, b', c', ts, g, n, _, us', vs', rfl, G9.same s913, hG, hn1, hn6, sp _ _ hb', sp _ _ hc', hany, fun H14 sm14 => ⟨true, rfl, iteT ?_⟩⟩
  exact ⟨t, bf, bo, ts, g, n, z, fs, vs, rfl, (G9.same s913).same sm14, hG, hn1, hn6, (sm9.trans (s913.trans sm14)) _ _ hbf, (sm79.trans (s913.trans sm14)) _ _ hbo, any hf hv, fun H15 _ => q H15⟩
end
end K57

namespace K57
open PySem PySem.Spec PyProof.Rows L2
theorem all_mk {l : PySem.W.OpenLaw} {w : World} {K : PySem.W.Frag} {h : Heap} {mg : Str → Option Value} {fa : Addr} (X : K.In h) (G : h.Ns mainGlobals mg) (hfa : mg "law" = some (.ref fa))
    {od1 an1 : Option Addr} {sl1 : Array (Option Value)} {oc1 kV1 dc1 pm1 cd1 ct1 : Value} {f1 : Addr}
    {od2 an2 : Option Addr} {sl2 : Array (Option Value)} {oc2 kV2 dc2 pm2 cd2 ct2 : Value} {f2 : Addr}
    {od3 an3 : Option Addr} {sl3 : Array (Option Value)} {oc3 kV3 dc3 pm3 cd3 ct3 : Value} {f3 : Addr}
    {od4 an4 : Option Addr} {sl4 : Array (Option Value)} {oc4 kV4 dc4 pm4 cd4 ct4 : Value} {f4 : Addr}
    {od5 an5 : Option Addr} {sl5 : Array (Option Value)} {oc5 kV5 dc5 pm5 cd5 ct5 : Value} {f5 : Addr}
    {od6 an6 : Option Addr} {sl6 : Array (Option Value)} {oc6 kV6 dc6 pm6 cd6 ct6 : Value} {f6 : Addr}
    {od7 an7 : Option Addr} {sl7 : Array (Option Value)} {oc7 kV7 dc7 pm7 cd7 ct7 : Value} {f7 : Addr}
    {od8 an8 : Option Addr} {sl8 : Array (Option Value)} {oc8 kV8 dc8 pm8 cd8 ct8 : Value} {f8 : Addr}
    {od9 an9 : Option Addr} {sl9 : Array (Option Value)} {oc9 kV9 dc9 pm9 cd9 ct9 : Value} {f9 : Addr}
    {od10 an10 : Option Addr} {sl10 : Array (Option Value)} {oc10 kV10 dc10 pm10 cd10 ct10 : Value} {f10 : Addr}
    {od11 an11 : Option Addr} {sl11 : Array (Option Value)} {oc11 kV11 dc11 pm11 cd11 ct11 : Value} {f11 : Addr}
    {od12 an12 : Option Addr} {sl12 : Array (Option Value)} {oc12 kV12 dc12 pm12 cd12 ct12 : Value} {f12 : Addr}
    {od13 an13 : Option Addr} {sl13 : Array (Option Value)} {oc13 kV13 dc13 pm13 cd13 ct13 : Value} {f13 : Addr}
    {od14 an14 : Option Addr} {sl14 : Array (Option Value)} {oc14 kV14 dc14 pm14 cd14 ct14 : Value} {f14 : Addr}
    {od15 an15 : Option Addr} {sl15 : Array (Option Value)} {oc15 kV15 dc15 pm15 cd15 ct15 : Value} {f15 : Addr}
    {od16 an16 : Option Addr} {sl16 : Array (Option Value)} {oc16 kV16 dc16 pm16 cd16 ct16 : Value} {f16 : Addr}
    {od17 an17 : Option Addr} {sl17 : Array (Option Value)} {oc17 kV17 dc17 pm17 cd17 ct17 : Value} {f17 : Addr}
    {od18 an18 : Option Addr} {sl18 : Array (Option Value)} {oc18 kV18 dc18 pm18 cd18 ct18 : Value} {f18 : Addr}
    {od19 an19 : Option Addr} {sl19 : Array (Option Value)} {oc19 kV19 dc19 pm19 cd19 ct19 : Value} {f19 : Addr}
    {od20 an20 : Option Addr} {sl20 : Array (Option Value)} {oc20 kV20 dc20 pm20 cd20 ct20 : Value} {f20 : Addr}
    {od21 an21 : Option Addr} {sl21 : Array (Option Value)} {oc21 kV21 dc21 pm21 cd21 ct21 : Value} {f21 : Addr}
    {od22 an22 : Option Addr} {sl22 : Array (Option Value)} {oc22 kV22 dc22 pm22 cd22 ct22 : Value} {f22 : Addr}
    {od23 an23 : Option Addr} {sl23 : Array (Option Value)} {oc23 kV23 dc23 pm23 cd23 ct23 : Value} {f23 : Addr}
    {od24 an24 : Option Addr} {sl24 : Array (Option Value)} {oc24 kV24 dc24 pm24 cd24 ct24 : Value} {f24 : Addr}
    {od25 an25 : Option Addr} {sl25 : Array (Option Value)} {oc25 kV25 dc25 pm25 cd25 ct25 : Value} {f25 : Addr}
    (a1 : PySem.W.nsIn K mainGlobals "_law_cell_at" = some (some (.ref f1))) (l1 : K.lookup f1 = some ⟨oc1, od1, .func (PySem.W.fnOf "_law_cell_at" "_law_cell_at" (defArgs s_l_cell_at) (defBody s_l_cell_at) (defScope s_l_cell_at) .none kV1 dc1 pm1 an1 cd1 ct1), sl1⟩) (c1 : PySem.W.codeIn K cd1 "_law_cell_at" = true) (k1 : PySem.W.keepIn K (.ref f1) = true)
    (a2 : PySem.W.nsIn K mainGlobals "_law_big" = some (some (.ref f2))) (l2 : K.lookup f2 = some ⟨oc2, od2, .func (PySem.W.fnOf "_law_big" "_law_big" (defArgs s_l_big) (defBody s_l_big) (defScope s_l_big) .none kV2 dc2 pm2 an2 cd2 ct2), sl2⟩) (c2 : PySem.W.codeIn K cd2 "_law_big" = true) (k2 : PySem.W.keepIn K (.ref f2) = true)
    (a3 : PySem.W.nsIn K mainGlobals "_law_order" = some (some (.ref f3))) (l3 : K.lookup f3 = some ⟨oc3, od3, .func (PySem.W.fnOf "_law_order" "_law_order" (defArgs s_l_order) (defBody s_l_order) (defScope s_l_order) .none kV3 dc3 pm3 an3 cd3 ct3), sl3⟩) (c3 : PySem.W.codeIn K cd3 "_law_order" = true) (k3 : PySem.W.keepIn K (.ref f3) = true)
    (a4 : PySem.W.nsIn K mainGlobals "_law_entry" = some (some (.ref f4))) (l4 : K.lookup f4 = some ⟨oc4, od4, .func (PySem.W.fnOf "_law_entry" "_law_entry" (defArgs s_l_entry) (defBody s_l_entry) (defScope s_l_entry) .none kV4 dc4 pm4 an4 cd4 ct4), sl4⟩) (c4 : PySem.W.codeIn K cd4 "_law_entry" = true) (k4 : PySem.W.keepIn K (.ref f4) = true)
    (a5 : PySem.W.nsIn K mainGlobals "_law_table" = some (some (.ref f5))) (l5 : K.lookup f5 = some ⟨oc5, od5, .func (PySem.W.fnOf "_law_table" "_law_table" (defArgs s_l_table) (defBody s_l_table) (defScope s_l_table) .none kV5 dc5 pm5 an5 cd5 ct5), sl5⟩) (c5 : PySem.W.codeIn K cd5 "_law_table" = true) (k5 : PySem.W.keepIn K (.ref f5) = true)
    (a6 : PySem.W.nsIn K mainGlobals "_law_copy" = some (some (.ref f6))) (l6 : K.lookup f6 = some ⟨oc6, od6, .func (PySem.W.fnOf "_law_copy" "_law_copy" (defArgs s_l_copy) (defBody s_l_copy) (defScope s_l_copy) .none kV6 dc6 pm6 an6 cd6 ct6), sl6⟩) (c6 : PySem.W.codeIn K cd6 "_law_copy" = true) (k6 : PySem.W.keepIn K (.ref f6) = true)
    (a7 : PySem.W.nsIn K mainGlobals "without" = some (some (.ref f7))) (l7 : K.lookup f7 = some ⟨oc7, od7, .func (PySem.W.fnOf "without" "without" (defArgs s_without) (defBody s_without) (defScope s_without) .none kV7 dc7 pm7 an7 cd7 ct7), sl7⟩) (c7 : PySem.W.codeIn K cd7 "without" = true) (k7 : PySem.W.keepIn K (.ref f7) = true)
    (a8 : PySem.W.nsIn K mainGlobals "drawn" = some (some (.ref f8))) (l8 : K.lookup f8 = some ⟨oc8, od8, .func (PySem.W.fnOf "drawn" "drawn" (defArgs s_drawn) (defBody s_drawn) (defScope s_drawn) .none kV8 dc8 pm8 an8 cd8 ct8), sl8⟩) (c8 : PySem.W.codeIn K cd8 "drawn" = true) (k8 : PySem.W.keepIn K (.ref f8) = true)
    (a9 : PySem.W.nsIn K mainGlobals "require_drawn" = some (some (.ref f9))) (l9 : K.lookup f9 = some ⟨oc9, od9, .func (PySem.W.fnOf "require_drawn" "require_drawn" (defArgs s_require_drawn) (defBody s_require_drawn) (defScope s_require_drawn) .none kV9 dc9 pm9 an9 cd9 ct9), sl9⟩) (c9 : PySem.W.codeIn K cd9 "require_drawn" = true) (k9 : PySem.W.keepIn K (.ref f9) = true)
    (a10 : PySem.W.nsIn K mainGlobals "require_laid" = some (some (.ref f10))) (l10 : K.lookup f10 = some ⟨oc10, od10, .func (PySem.W.fnOf "require_laid" "require_laid" (defArgs s_require_laid) (defBody s_require_laid) (defScope s_require_laid) .none kV10 dc10 pm10 an10 cd10 ct10), sl10⟩) (c10 : PySem.W.codeIn K cd10 "require_laid" = true) (k10 : PySem.W.keepIn K (.ref f10) = true)
    (a11 : PySem.W.nsIn K mainGlobals "laid" = some (some (.ref f11))) (l11 : K.lookup f11 = some ⟨oc11, od11, .func (PySem.W.fnOf "laid" "laid" (defArgs s_laid) (defBody s_laid) (defScope s_laid) .none kV11 dc11 pm11 an11 cd11 ct11), sl11⟩) (c11 : PySem.W.codeIn K cd11 "laid" = true) (k11 : PySem.W.keepIn K (.ref f11) = true)
    (a12 : PySem.W.nsIn K mainGlobals "require_move" = some (some (.ref f12))) (l12 : K.lookup f12 = some ⟨oc12, od12, .func (PySem.W.fnOf "require_move" "require_move" (defArgs s_require_move) (defBody s_require_move) (defScope s_require_move) .none kV12 dc12 pm12 an12 cd12 ct12), sl12⟩) (c12 : PySem.W.codeIn K cd12 "require_move" = true) (k12 : PySem.W.keepIn K (.ref f12) = true)
    (a13 : PySem.W.nsIn K mainGlobals "draw_done" = some (some (.ref f13))) (l13 : K.lookup f13 = some ⟨oc13, od13, .func (PySem.W.fnOf "draw_done" "draw_done" (defArgs s_draw_done) (defBody s_draw_done) (defScope s_draw_done) .none kV13 dc13 pm13 an13 cd13 ct13), sl13⟩) (c13 : PySem.W.codeIn K cd13 "draw_done" = true) (k13 : PySem.W.keepIn K (.ref f13) = true)
    (a14 : PySem.W.nsIn K mainGlobals "draw_back" = some (some (.ref f14))) (l14 : K.lookup f14 = some ⟨oc14, od14, .func (PySem.W.fnOf "draw_back" "draw_back" (defArgs s_draw_back) (defBody s_draw_back) (defScope s_draw_back) .none kV14 dc14 pm14 an14 cd14 ct14), sl14⟩) (c14 : PySem.W.codeIn K cd14 "draw_back" = true) (k14 : PySem.W.keepIn K (.ref f14) = true)
    (a15 : PySem.W.nsIn K mainGlobals "_law_whole" = some (some (.ref f15))) (l15 : K.lookup f15 = some ⟨oc15, od15, .func (PySem.W.fnOf "_law_whole" "_law_whole" (defArgs s_l_whole) (defBody s_l_whole) (defScope s_l_whole) .none kV15 dc15 pm15 an15 cd15 ct15), sl15⟩) (c15 : PySem.W.codeIn K cd15 "_law_whole" = true) (k15 : PySem.W.keepIn K (.ref f15) = true)
    (a16 : PySem.W.nsIn K mainGlobals "_law_is_table" = some (some (.ref f16))) (l16 : K.lookup f16 = some ⟨oc16, od16, .func (PySem.W.fnOf "_law_is_table" "_law_is_table" (defArgs s_l_is_table) (defBody s_l_is_table) (defScope s_l_is_table) .none kV16 dc16 pm16 an16 cd16 ct16), sl16⟩) (c16 : PySem.W.codeIn K cd16 "_law_is_table" = true) (k16 : PySem.W.keepIn K (.ref f16) = true)
    (a17 : PySem.W.nsIn K mainGlobals "_law_few" = some (some (.ref f17))) (l17 : K.lookup f17 = some ⟨oc17, od17, .func (PySem.W.fnOf "_law_few" "_law_few" (defArgs s_l_few) (defBody s_l_few) (defScope s_l_few) .none kV17 dc17 pm17 an17 cd17 ct17), sl17⟩) (c17 : PySem.W.codeIn K cd17 "_law_few" = true) (k17 : PySem.W.keepIn K (.ref f17) = true)
    (a18 : PySem.W.nsIn K mainGlobals "_law_numbers" = some (some (.ref f18))) (l18 : K.lookup f18 = some ⟨oc18, od18, .func (PySem.W.fnOf "_law_numbers" "_law_numbers" (defArgs s_l_numbers) (defBody s_l_numbers) (defScope s_l_numbers) .none kV18 dc18 pm18 an18 cd18 ct18), sl18⟩) (c18 : PySem.W.codeIn K cd18 "_law_numbers" = true) (k18 : PySem.W.keepIn K (.ref f18) = true)
    (a19 : PySem.W.nsIn K mainGlobals "_law_fitting" = some (some (.ref f19))) (l19 : K.lookup f19 = some ⟨oc19, od19, .func (PySem.W.fnOf "_law_fitting" "_law_fitting" (defArgs s_l_fitting) (defBody s_l_fitting) (defScope s_l_fitting) .none kV19 dc19 pm19 an19 cd19 ct19), sl19⟩) (c19 : PySem.W.codeIn K cd19 "_law_fitting" = true) (k19 : PySem.W.keepIn K (.ref f19) = true)
    (a20 : PySem.W.nsIn K mainGlobals "_law_spoilt" = some (some (.ref f20))) (l20 : K.lookup f20 = some ⟨oc20, od20, .func (PySem.W.fnOf "_law_spoilt" "_law_spoilt" (defArgs s_l_spoilt) (defBody s_l_spoilt) (defScope s_l_spoilt) .none kV20 dc20 pm20 an20 cd20 ct20), sl20⟩) (c20 : PySem.W.codeIn K cd20 "_law_spoilt" = true) (k20 : PySem.W.keepIn K (.ref f20) = true)
    (a21 : PySem.W.nsIn K mainGlobals "_law_due" = some (some (.ref f21))) (l21 : K.lookup f21 = some ⟨oc21, od21, .func (PySem.W.fnOf "_law_due" "_law_due" (defArgs s_l_due) (defBody s_l_due) (defScope s_l_due) .none kV21 dc21 pm21 an21 cd21 ct21), sl21⟩) (c21 : PySem.W.codeIn K cd21 "_law_due" = true) (k21 : PySem.W.keepIn K (.ref f21) = true)
    (a22 : PySem.W.nsIn K mainGlobals "_law_told" = some (some (.ref f22))) (l22 : K.lookup f22 = some ⟨oc22, od22, .func (PySem.W.fnOf "_law_told" "_law_told" (defArgs s_l_told) (defBody s_l_told) (defScope s_l_told) .none kV22 dc22 pm22 an22 cd22 ct22), sl22⟩) (c22 : PySem.W.codeIn K cd22 "_law_told" = true) (k22 : PySem.W.keepIn K (.ref f22) = true)
    (a23 : PySem.W.nsIn K mainGlobals "_law_told_back" = some (some (.ref f23))) (l23 : K.lookup f23 = some ⟨oc23, od23, .func (PySem.W.fnOf "_law_told_back" "_law_told_back" (defArgs s_l_told_back) (defBody s_l_told_back) (defScope s_l_told_back) .none kV23 dc23 pm23 an23 cd23 ct23), sl23⟩) (c23 : PySem.W.codeIn K cd23 "_law_told_back" = true) (k23 : PySem.W.keepIn K (.ref f23) = true)
    (a24 : PySem.W.nsIn K mainGlobals "_law_good" = some (some (.ref f24))) (l24 : K.lookup f24 = some ⟨oc24, od24, .func (PySem.W.fnOf "_law_good" "_law_good" (defArgs s_l_good) (defBody s_l_good) (defScope s_l_good) .none kV24 dc24 pm24 an24 cd24 ct24), sl24⟩) (c24 : PySem.W.codeIn K cd24 "_law_good" = true) (k24 : PySem.W.keepIn K (.ref f24) = true)
    (a25 : PySem.W.nsIn K mainGlobals "law" = some (some (.ref f25))) (l25 : K.lookup f25 = some ⟨oc25, od25, .func (PySem.W.fnOf "law" "law" (defArgs s_law) (defBody s_law) (defScope s_law) .none kV25 dc25 pm25 an25 cd25 ct25), sl25⟩) (c25 : PySem.W.codeIn K cd25 "law" = true) (k25 : PySem.W.keepIn K (.ref f25) = true)
    {cMv cTb cSp cWh cRe : Addr}
    (x_NoMove : PySem.W.nsIn K mainGlobals "NoMove" = some (some (.ref cMv))) (y_NoMove : PySem.W.excIn K cMv bmV "ValueError.__new__" = true) (x_NoTable : PySem.W.nsIn K mainGlobals "NoTable" = some (some (.ref cTb))) (y_NoTable : PySem.W.excIn K cTb bmV "ValueError.__new__" = true) (x_NoStep : PySem.W.nsIn K mainGlobals "NoStep" = some (some (.ref cSp))) (y_NoStep : PySem.W.excIn K cSp bmV "ValueError.__new__" = true) (x_NoWhole : PySem.W.nsIn K mainGlobals "NoWhole" = some (some (.ref cWh))) (y_NoWhole : PySem.W.excIn K cWh bmV "ValueError.__new__" = true) (x_RowError : PySem.W.nsIn K mainGlobals "RowError" = some (some (.ref cRe))) (y_RowError : PySem.W.excIn K cRe bmV "ValueError.__new__" = true) (u_fitM : PySem.W.kitCls K (.ref cMv) (.ref cRe) = some true) (v_fitM : PySem.W.subIn K (.ref cRe) (.type "BaseException") = some true) (i_a : PySem.W.kitAny K (.ref cMv) [.ref cTb, .ref cSp, .ref cWh] = some false) (i_gaNoMove : PySem.W.findIn K (.ref cMv) "__getattribute__" = some (some (.builtin "BaseException.__getattribute__"))) (i_clNoMove : PySem.W.findIn K (.ref cMv) "__class__" = some (some (.builtin "object.__class__"))) (i_ggNoMove : PySem.W.findIn K (.ref cMv) "__getattr__" = some none) (i_obNoMove : PySem.W.subIn K (.ref cMv) (.type "object") = some true) (i_beNoMove : PySem.W.subIn K (.ref cMv) (.type "BaseException") = some true) (i_seNoMove : PySem.W.kitCls K (.ref cMv) (.ref cMv) = some true) (i_c : PySem.W.kitOne K (.ref cMv) (.ref cMv) = some true)
    (z_len : PySem.W.nsIn K mainGlobals "len" = some none) (z_range : PySem.W.nsIn K mainGlobals "range" = some none) (z_enumerate : PySem.W.nsIn K mainGlobals "enumerate" = some none) (z_list : PySem.W.nsIn K mainGlobals "list" = some none) (z_tuple : PySem.W.nsIn K mainGlobals "tuple" = some none) (z_min : PySem.W.nsIn K mainGlobals "min" = some none) (z_int : PySem.W.nsIn K mainGlobals "int" = some none) (z_bool : PySem.W.nsIn K mainGlobals "bool" = some none) (z_isinstance : PySem.W.nsIn K mainGlobals "isinstance" = some none) (z_all : PySem.W.nsIn K mainGlobals "all" = some none) (z_any : PySem.W.nsIn K mainGlobals "any" = some none) (z_sum : PySem.W.nsIn K mainGlobals "sum" = some none) (z_zip : PySem.W.nsIn K mainGlobals "zip" = some none) (z_max : PySem.W.nsIn K mainGlobals "max" = some none) :
    ∃ fd : FuncData, (∀ (s : Shared) (v : Value), BindsTo s fd ⟨[v], []⟩ [("_law_script", v)]) ∧ ∀ base : Heap, K.In base → base.Ns mainGlobals mg → FnOk l.prog w K mg base CX0 7 fa fd ["_law_script"] (sp_law K) := by
  have e := hfa.symm.trans (PySem.W.mg_of X G a25)
  cases e
  have T : Blt mg := ⟨PySem.W.mg_none_of X G z_len, PySem.W.mg_none_of X G z_range, PySem.W.mg_none_of X G z_enumerate, PySem.W.mg_none_of X G z_list, PySem.W.mg_none_of X G z_tuple, PySem.W.mg_none_of X G z_min, PySem.W.mg_none_of X G z_int, PySem.W.mg_none_of X G z_bool, PySem.W.mg_none_of X G z_isinstance, PySem.W.mg_none_of X G z_all, PySem.W.mg_none_of X G z_any, PySem.W.mg_none_of X G z_sum, PySem.W.mg_none_of X G z_zip, PySem.W.mg_none_of X G z_max⟩
  have F1 := fun_mk (st := s_l_cell_at) l1 c1 k1
  have b1 := F1.binds (ps := ["_law_script", "_law_k"]) fun _ _ _ _ _ _ us hl => match us, hl with | [_, _], _ => rfl
  have F2 := fun_mk (st := s_l_big) l2 c2 k2
  have b2 := F2.binds (ps := ["_law_script", "_law_at"]) fun _ _ _ _ _ _ us hl => match us, hl with | [_, _], _ => rfl
  have F3 := fun_mk (st := s_l_order) l3 c3 k3
  have b3 := F3.binds (ps := ["_law_many", "_law_big_here"]) fun _ _ _ _ _ _ us hl => match us, hl with | [_, _], _ => rfl
  have F4 := fun_mk (st := s_l_entry) l4 c4 k4
  have b4 := F4.binds (ps := ["_law_big_here", "_law_way", "_law_left"]) fun _ _ _ _ _ _ us hl => match us, hl with | [_, _, _], _ => rfl
  have F5 := fun_mk (st := s_l_table) l5 c5 k5
  have b5 := F5.binds (ps := ["_law_big_here"]) fun _ _ _ _ _ _ us hl => match us, hl with | [_], _ => rfl
  have F6 := fun_mk (st := s_l_copy) l6 c6 k6
  have b6 := F6.binds (ps := ["_law_grid"]) fun _ _ _ _ _ _ us hl => match us, hl with | [_], _ => rfl
  have F7 := fun_mk (st := s_without) l7 c7 k7
  have b7 := F7.binds (ps := ["numbers", "p"]) fun _ _ _ _ _ _ us hl => match us, hl with | [_, _], _ => rfl
  have F8 := fun_mk (st := s_drawn) l8 c8 k8
  have b8 := F8.binds (ps := ["table", "p"]) fun _ _ _ _ _ _ us hl => match us, hl with | [_, _], _ => rfl
  have F9 := fun_mk (st := s_require_drawn) l9 c9 k9
  have b9 := F9.binds (ps := ["table", "p"]) fun _ _ _ _ _ _ us hl => match us, hl with | [_, _], _ => rfl
  have F10 := fun_mk (st := s_require_laid) l10 c10 k10
  have b10 := F10.binds (ps := ["table", "p", "ins", "outs"]) fun _ _ _ _ _ _ us hl => match us, hl with | [_, _, _, _], _ => rfl
  have F11 := fun_mk (st := s_laid) l11 c11 k11
  have b11 := F11.binds (ps := ["table", "p", "ins", "outs"]) fun _ _ _ _ _ _ us hl => match us, hl with | [_, _, _, _], _ => rfl
  have F12 := fun_mk (st := s_require_move) l12 c12 k12
  have b12 := F12.binds (ps := ["table", "move"]) fun _ _ _ _ _ _ us hl => match us, hl with | [_, _], _ => rfl
  have F13 := fun_mk (st := s_draw_done) l13 c13 k13
  have b13 := F13.binds (ps := ["table", "move"]) fun _ _ _ _ _ _ us hl => match us, hl with | [_, _], _ => rfl
  have F14 := fun_mk (st := s_draw_back) l14 c14 k14
  have b14 := F14.binds (ps := ["table", "move"]) fun _ _ _ _ _ _ us hl => match us, hl with | [_, _], _ => rfl
  have F15 := fun_mk (st := s_l_whole) l15 c15 k15
  have b15 := F15.binds (ps := ["_law_found"]) fun _ _ _ _ _ _ us hl => match us, hl with | [_], _ => rfl
  have F16 := fun_mk (st := s_l_is_table) l16 c16 k16
  have b16 := F16.binds (ps := ["_law_told_here"]) fun _ _ _ _ _ _ us hl => match us, hl with | [_], _ => rfl
  have F17 := fun_mk (st := s_l_few) l17 c17 k17
  have b17 := F17.binds (ps := ["_law_table_here"]) fun _ _ _ _ _ _ us hl => match us, hl with | [_], _ => rfl
  have F18 := fun_mk (st := s_l_numbers) l18 c18 k18
  have b18 := F18.binds (ps := ["_law_table_here", "_law_big_here", "_law_most"]) fun _ _ _ _ _ _ us hl => match us, hl with | [_, _, _], _ => rfl
  have F19 := fun_mk (st := s_l_fitting) l19 c19 k19
  have b19 := F19.binds (ps := ["_law_table_here", "_law_ins", "_law_outs"]) fun _ _ _ _ _ _ us hl => match us, hl with | [_, _, _], _ => rfl
  have F20 := fun_mk (st := s_l_spoilt) l20 c20 k20
  have b20 := F20.binds (ps := ["_law_ins", "_law_outs", "_law_big_here"]) fun _ _ _ _ _ _ us hl => match us, hl with | [_, _, _], _ => rfl
  have F21 := fun_mk (st := s_l_due) l21 c21 k21
  have b21 := F21.binds (ps := ["_law_table_here", "_law_p", "_law_ins", "_law_outs"]) fun _ _ _ _ _ _ us hl => match us, hl with | [_, _, _, _], _ => rfl
  have F22 := fun_mk (st := s_l_told) l22 c22 k22
  have b22 := F22.binds (ps := ["_law_table_here", "_law_move"]) fun _ _ _ _ _ _ us hl => match us, hl with | [_, _], _ => rfl
  have F23 := fun_mk (st := s_l_told_back) l23 c23 k23
  have b23 := F23.binds (ps := ["_law_table_here", "_law_move"]) fun _ _ _ _ _ _ us hl => match us, hl with | [_, _], _ => rfl
  have F24 := fun_mk (st := s_l_good) l24 c24 k24
  have b24 := F24.binds (ps := ["_law_table_here", "_law_p", "_law_ins", "_law_outs"]) fun _ _ _ _ _ _ us hl => match us, hl with | [_, _, _, _], _ => rfl
  have F25 := fun_mk (st := s_law) l25 c25 k25
  refine ⟨PySem.W.fnOf "law" "law" (defArgs s_law) (defBody s_law) (defScope s_law) .none kV25 dc25 pm25 an25 cd25 ct25, fun s v => .of_eq rfl, fun base _ _ => ?_⟩
  have C_NoMove : ExC K mg "NoMove" cMv := ⟨PySem.W.mg_of X G x_NoMove, y_NoMove⟩
  have C_NoTable : ExC K mg "NoTable" cTb := ⟨PySem.W.mg_of X G x_NoTable, y_NoTable⟩
  have C_NoStep : ExC K mg "NoStep" cSp := ⟨PySem.W.mg_of X G x_NoStep, y_NoStep⟩
  have C_NoWhole : ExC K mg "NoWhole" cWh := ⟨PySem.W.mg_of X G x_NoWhole, y_NoWhole⟩
  have C_RowError : ExC K mg "RowError" cRe := ⟨PySem.W.mg_of X G x_RowError, y_RowError⟩
  have fitM : Fits K cMv cRe := ⟨u_fitM, v_fitM⟩
  have fitK_NoMove : ExK K cMv := ⟨i_gaNoMove, i_clNoMove, i_ggNoMove, i_obNoMove, i_beNoMove, i_seNoMove⟩
  have D_l_cell_at : Df l.prog w K mg base "_law_cell_at" ["_law_script", "_law_k"] 1 (sp_cell K) := ⟨_, _, ok_l_cell_at F1 T , PySem.W.mg_of X G a1, k1, b1⟩
  have D_l_big : Df l.prog w K mg base "_law_big" ["_law_script", "_law_at"] 2 (sp_big K) := ⟨_, _, ok_l_big F2 T D_l_cell_at, PySem.W.mg_of X G a2, k2, b2⟩
  have D_l_order : Df l.prog w K mg base "_law_order" ["_law_many", "_law_big_here"] 1 (sp_order K) := ⟨_, _, ok_l_order F3 T , PySem.W.mg_of X G a3, k3, b3⟩
  have D_l_entry : Df l.prog w K mg base "_law_entry" ["_law_big_here", "_law_way", "_law_left"] 1 (sp_entry K) := ⟨_, _, ok_l_entry F4 T , PySem.W.mg_of X G a4, k4, b4⟩
  have D_l_table : Df l.prog w K mg base "_law_table" ["_law_big_here"] 2 (sp_table K) := ⟨_, _, ok_l_table F5 T D_l_order D_l_entry, PySem.W.mg_of X G a5, k5, b5⟩
  have D_l_copy : Df l.prog w K mg base "_law_copy" ["_law_grid"] 1 (sp_copy K) := ⟨_, _, ok_l_copy F6 T , PySem.W.mg_of X G a6, k6, b6⟩
  have D_without : Df l.prog w K mg base "without" ["numbers", "p"] 1 (sp_without K) := ⟨_, _, ok_without F7 T , PySem.W.mg_of X G a7, k7, b7⟩
  have D_drawn : Df l.prog w K mg base "drawn" ["table", "p"] 2 (sp_drawn K) := ⟨_, _, ok_drawn F8 T D_without, PySem.W.mg_of X G a8, k8, b8⟩
  have D_require_drawn : DfE l.prog w K mg base "require_drawn" ["table", "p"] 1 (sp_reqD cMv K) := ⟨_, _, ok_require_drawn F9 T C_NoMove, PySem.W.mg_of X G a9, k9, b9⟩
  have D_require_laid : DfE l.prog w K mg base "require_laid" ["table", "p", "ins", "outs"] 1 (sp_reqL cMv K) := ⟨_, _, ok_require_laid F10 T C_NoMove, PySem.W.mg_of X G a10, k10, b10⟩
  have D_laid : Df l.prog w K mg base "laid" ["table", "p", "ins", "outs"] 1 (sp_laid K) := ⟨_, _, ok_laid F11 T , PySem.W.mg_of X G a11, k11, b11⟩
  have D_require_move : DfE l.prog w K mg base "require_move" ["table", "move"] 2 (sp_reqM cMv K) := ⟨_, _, ok_require_move F12 T C_NoMove D_require_drawn D_require_laid, PySem.W.mg_of X G a12, k12, b12⟩
  have D_draw_done : DfE l.prog w K mg base "draw_done" ["table", "move"] 3 (sp_done cMv K) := ⟨_, _, ok_draw_done F13 T D_require_move D_drawn D_laid, PySem.W.mg_of X G a13, k13, b13⟩
  have D_draw_back : DfE l.prog w K mg base "draw_back" ["table", "move"] 3 (sp_back cMv K) := ⟨_, _, ok_draw_back F14 T D_require_move D_without, PySem.W.mg_of X G a14, k14, b14⟩
  have D_l_whole : Df l.prog w K mg base "_law_whole" ["_law_found"] 1 (sp_whole K) := ⟨_, _, ok_l_whole F15 T , PySem.W.mg_of X G a15, k15, b15⟩
  have D_l_is_table : Df l.prog w K mg base "_law_is_table" ["_law_told_here"] 2 (sp_istable K) := ⟨_, _, ok_l_is_table F16 T D_l_whole, PySem.W.mg_of X G a16, k16, b16⟩
  have D_l_few : Df l.prog w K mg base "_law_few" ["_law_table_here"] 1 (sp_few K) := ⟨_, _, ok_l_few F17 T , PySem.W.mg_of X G a17, k17, b17⟩
  have D_l_numbers : Df l.prog w K mg base "_law_numbers" ["_law_table_here", "_law_big_here", "_law_most"] 1 (sp_numbers K) := ⟨_, _, ok_l_numbers F18 T , PySem.W.mg_of X G a18, k18, b18⟩
  have D_l_fitting : Df l.prog w K mg base "_law_fitting" ["_law_table_here", "_law_ins", "_law_outs"] 1 (sp_fitting K) := ⟨_, _, ok_l_fitting F19 T , PySem.W.mg_of X G a19, k19, b19⟩
  have D_l_spoilt : Df l.prog w K mg base "_law_spoilt" ["_law_ins", "_law_outs", "_law_big_here"] 1 (sp_spoilt K) := ⟨_, _, ok_l_spoilt F20 T , PySem.W.mg_of X G a20, k20, b20⟩
  have D_l_due : Df l.prog w K mg base "_law_due" ["_law_table_here", "_law_p", "_law_ins", "_law_outs"] 1 (sp_due K) := ⟨_, _, ok_l_due F21 T , PySem.W.mg_of X G a21, k21, b21⟩
  have D_l_told : Df l.prog w K mg base "_law_told" ["_law_table_here", "_law_move"] 4 (sp_told K) := ⟨_, _, ok_l_told F22 T C_NoMove C_NoTable C_NoStep C_NoWhole C_RowError fitM fitK_NoMove i_c i_a D_draw_done, PySem.W.mg_of X G a22, k22, b22⟩
  have D_l_told_back : Df l.prog w K mg base "_law_told_back" ["_law_table_here", "_law_move"] 4 (sp_toldb K) := ⟨_, _, ok_l_told_back F23 T C_NoMove C_NoTable C_NoStep C_NoWhole C_RowError fitM fitK_NoMove i_c i_a D_draw_back, PySem.W.mg_of X G a23, k23, b23⟩
  have D_l_good : Df l.prog w K mg base "_law_good" ["_law_table_here", "_law_p", "_law_ins", "_law_outs"] 6 (sp_good K) := ⟨_, _, ok_l_good F24 T D_l_due D_l_copy D_l_told D_l_told_back D_l_is_table, PySem.W.mg_of X G a24, k24, b24⟩
  exact ok_law F25 T D_l_big D_l_table D_l_few D_l_numbers D_l_fitting D_l_spoilt D_l_good
theorem walk {l : PySem.W.OpenLaw} {q : Program} {loose : List Str} {XP : (Str → Option Value) → Heap → Prop} {YP : World → Heap → Prop} {d : DefRec} {K : Params → PySem.W.Frag} (hn : l.most = some 63) (hdf : d.params.defaults = [])
    (hY : ∀ (w : World) (h : Heap), YP w h → (K w.params).In h)
    (F : ∀ (w : World) (mg : Str → Option Value) (fa : Addr) (h : Heap), (K w.params).In h → h.Ns mainGlobals mg → mg d.name = some (.ref fa) →
      ∃ fd : FuncData, (∀ (s : Shared) (u : Value), BindsTo s fd ⟨[u], []⟩ [("_law_script", u)]) ∧ ∀ base : Heap, (K w.params).In base → base.Ns mainGlobals mg → FnOk l.prog w (K w.params) mg base CX0 7 fa fd ["_law_script"] (sp_law (K w.params))) :
    PySem.W.WalkO q loose XP YP l.row.toRowW d [] (fun f vs => PySem.call f vs) :=
  L2.walk_of (n := 63) (k := 7) (x := "_law_script") (CX := fun _ => CX0) (sp := fun w => sp_law (K w.params)) hn (by decide) hdf ⟨rfl, by decide, by decide⟩ hY F (fun _ _ a ns hl _ hS => ⟨a, ns, rfl, hS, fun _ => rfl⟩) fun _ _ _ _ _ z => z
end K57
open PySem PySem.W PyProof.Rows
set_option maxRecDepth 100000 in
set_option maxHeartbeats 0 in
theorem PySem.Challenge.cw_foreverrows_k57_laid_holds : PySem.Challenge.rw_foreverrows_k57_laid.Holds := by
  w_on; o_law; k_head; (case hw => w_witness2)
  k_fill
  refine K57.walk (l := PySem.Challenge.rw_foreverrows_k57_laid) rfl rfl (fun w h Y => PySem.W.kIn_of Y) ?F
  case F =>
    intro w mg fa h KX G hmg
    refine' K57.all_mk KX G hmg ?a1 ?l1 ?c1 ?k1 ?a2 ?l2 ?c2 ?k2 ?a3 ?l3 ?c3 ?k3 ?a4 ?l4 ?c4 ?k4 ?a5 ?l5 ?c5 ?k5 ?a6 ?l6 ?c6 ?k6 ?a7 ?l7 ?c7 ?k7 ?a8 ?l8 ?c8 ?k8 ?a9 ?l9 ?c9 ?k9 ?a10 ?l10 ?c10 ?k10 ?a11 ?l11 ?c11 ?k11 ?a12 ?l12 ?c12 ?k12 ?a13 ?l13 ?c13 ?k13 ?a14 ?l14 ?c14 ?k14 ?a15 ?l15 ?c15 ?k15 ?a16 ?l16 ?c16 ?k16 ?a17 ?l17 ?c17 ?k17 ?a18 ?l18 ?c18 ?k18 ?a19 ?l19 ?c19 ?k19 ?a20 ?l20 ?c20 ?k20 ?a21 ?l21 ?c21 ?k21 ?a22 ?l22 ?c22 ?k22 ?a23 ?l23 ?c23 ?k23 ?a24 ?l24 ?c24 ?k24 ?a25 ?l25 ?c25 ?k25 ?x_NoMove ?y_NoMove ?x_NoTable ?y_NoTable ?x_NoStep ?y_NoStep ?x_NoWhole ?y_NoWhole ?x_RowError ?y_RowError ?u_fitM ?v_fitM ?i_a ?i_gaNoMove ?i_clNoMove ?i_ggNoMove ?i_obNoMove ?i_beNoMove ?i_seNoMove ?i_c ?z_len ?z_range ?z_enumerate ?z_list ?z_tuple ?z_min ?z_int ?z_bool ?z_isinstance ?z_all ?z_any ?z_sum ?z_zip ?z_max
    (case a1 => k_is)
    (case l1 => k_is)
    (case c1 => k_is)
    (case k1 => k_is)
    (case a2 => k_is)
    (case l2 => k_is)
    (case c2 => k_is)
    (case k2 => k_is)
    (case a3 => k_is)
    (case l3 => k_is)
    (case c3 => k_is)
    (case k3 => k_is)
    (case a4 => k_is)
    (case l4 => k_is)
    (case c4 => k_is)
    (case k4 => k_is)
    (case a5 => k_is)
    (case l5 => k_is)
    (case c5 => k_is)
    (case k5 => k_is)
    (case a6 => k_is)
    (case l6 => k_is)
    (case c6 => k_is)
    (case k6 => k_is)
    (case a7 => k_is)
    (case l7 => k_is)
    (case c7 => k_is)
    (case k7 => k_is)
    (case a8 => k_is)
    (case l8 => k_is)
    (case c8 => k_is)
    (case k8 => k_is)
    (case a9 => k_is)
    (case l9 => k_is)
    (case c9 => k_is)
    (case k9 => k_is)
    (case a10 => k_is)
    (case l10 => k_is)
    (case c10 => k_is)
    (case k10 => k_is)
    (case a11 => k_is)
    (case l11 => k_is)
    (case c11 => k_is)
    (case k11 => k_is)
    (case a12 => k_is)
    (case l12 => k_is)
    (case c12 => k_is)
    (case k12 => k_is)
    (case a13 => k_is)
    (case l13 => k_is)
    (case c13 => k_is)
    (case k13 => k_is)
    (case a14 => k_is)
    (case l14 => k_is)
    (case c14 => k_is)
    (case k14 => k_is)
    (case a15 => k_is)
    (case l15 => k_is)
    (case c15 => k_is)
    (case k15 => k_is)
    (case a16 => k_is)
    (case l16 => k_is)
    (case c16 => k_is)
    (case k16 => k_is)
    (case a17 => k_is)
    (case l17 => k_is)
    (case c17 => k_is)
    (case k17 => k_is)
    (case a18 => k_is)
    (case l18 => k_is)
    (case c18 => k_is)
    (case k18 => k_is)
    (case a19 => k_is)
    (case l19 => k_is)
    (case c19 => k_is)
    (case k19 => k_is)
    (case a20 => k_is)
    (case l20 => k_is)
    (case c20 => k_is)
    (case k20 => k_is)
    (case a21 => k_is)
    (case l21 => k_is)
    (case c21 => k_is)
    (case k21 => k_is)
    (case a22 => k_is)
    (case l22 => k_is)
    (case c22 => k_is)
    (case k22 => k_is)
    (case a23 => k_is)
    (case l23 => k_is)
    (case c23 => k_is)
    (case k23 => k_is)
    (case a24 => k_is)
    (case l24 => k_is)
    (case c24 => k_is)
    (case k24 => k_is)
    (case a25 => k_is)
    (case l25 => k_is)
    (case c25 => k_is)
    (case k25 => k_is)
    (case z_len => k_is)
    (case z_range => k_is)
    (case z_enumerate => k_is)
    (case z_list => k_is)
    (case z_tuple => k_is)
    (case z_min => k_is)
    (case z_int => k_is)
    (case z_bool => k_is)
    (case z_isinstance => k_is)
    (case z_all => k_is)
    (case z_any => k_is)
    (case z_sum => k_is)
    (case z_zip => k_is)
    (case z_max => k_is)
    (case x_NoMove => k_is)
    (case y_NoMove => first | k_exc | k_is | kernel_rfl)
    (case x_NoTable => k_is)
    (case y_NoTable => first | k_exc | k_is | kernel_rfl)
    (case x_NoStep => k_is)
    (case y_NoStep => first | k_exc | k_is | kernel_rfl)
    (case x_NoWhole => k_is)
    (case y_NoWhole => first | k_exc | k_is | kernel_rfl)
    (case x_RowError => k_is)
    (case y_RowError => first | k_exc | k_is | kernel_rfl)
    (case u_fitM => first | k_exc | k_is | kernel_rfl)
    (case v_fitM => first | k_exc | k_is | kernel_rfl)
    (case i_a => first | k_exc | k_is | kernel_rfl)
    (case i_gaNoMove => first | k_exc | k_is | kernel_rfl)
    (case i_clNoMove => first | k_exc | k_is | kernel_rfl)
    (case i_ggNoMove => first | k_exc | k_is | kernel_rfl)
    (case i_obNoMove => first | k_exc | k_is | kernel_rfl)
    (case i_beNoMove => first | k_exc | k_is | kernel_rfl)
    (case i_seNoMove => first | k_exc | k_is | kernel_rfl)
    (case i_c => first | k_exc | k_is | kernel_rfl)
