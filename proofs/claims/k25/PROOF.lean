import PyProof.Rows.All
import Wide.All
import OpenK.AllK
import Wide.FinOn
import Lean
import PyProof.EqAt
import PyProof.EqKinds
import PyProof.TupleCall
import PyProof.NeData
import PyProof.P3Eq
import PyProof.EnumMake
import PyProof.EnumFor
import PyProof.ConsumeWalk
import PyProof.ListRange
import PyProof.ZipIter
import KE.IntBitsLaws
import KE.RegMulBits
import PyProof.ExcArgs
import PyProof.DictWalks
import KE.KRevSl
import PyProof.DictItems
import PyProof.DictDisplay
import PyProof.SeqI3
import PyProof.NsDelKeeps
import PyProof.StrWalks
import PyProof.StrBlockH
import PyProof.StrBlock2
import KE.KMinKey
import PyProof.Rows.CallKwBuiltin
import KE.KIntText
import PyProof.StrCalls2
import PyProof.StrLawsTight
import PyProof.Rows.StrItems
import PyProof.FactsAll.tuple_1
import PyProof.FactsAll.tuple_2
import PyProof.FString5
import PyProof.Rows.RuleC_int
import PySem.Challenge.RW_foreverrows_k25_words_read
set_option Elab.async false
set_option linter.all false
set_option maxRecDepth 100000
namespace L2
open PySem PySem.Spec PyProof.Rows
abbrev Key := Sum Int Str
def keyIs : Key -> Value -> Bool
 | .inl k, v => Value.isInt k v
 | .inr x, v => Value.isStrOf x v
def keyH (w : World) : Key -> Int
 | .inl k => hashInt k
 | .inr x => hashStr w x
theorem keyIs_shape : ∀ {k : Key} {v : Value}, keyIs k v = true -> (∃ i t, k = Sum.inl i /\ v = Value.int i t) ∨ (∃ x t, k = Sum.inr x /\ v = Value.str x t)
 | .inl i, v, h => by
  obtain ⟨t, e⟩ := Value.isInt_shape (k := i) (v := v) h
  exact .inl ⟨i, t, rfl, e⟩
 | .inr x, v, h => by
  obtain ⟨t, e⟩ := Value.isStrOf_shape (x := x) (v := v) h
  exact .inr ⟨x, t, rfl, e⟩
theorem keyIs_int (i : Int) (t : Tok) : keyIs (.inl i) (.int i t) = true := by simp [keyIs, Value.isInt]
theorem keyIs_str (x : Str) (t : Tok) : keyIs (.inr x) (.str x t) = true := by simp [keyIs, Value.isStrOf]
theorem key_ll (a b : Int) : decide ((Sum.inl a : Key) = Sum.inl b) = (a == b) := by
 by_cases e : a = b
 ·subst e; simp
 ·have h : ¬ (Sum.inl a : Key) = Sum.inl b := fun q => e (Sum.inl.inj q)
  rw [decide_eq_false h]
  exact (beq_eq_false_iff_ne.mpr e).symm
theorem key_rr (a b : Str) : decide ((Sum.inr a : Key) = Sum.inr b) = decide (a = b) := by
 by_cases e : a = b
 ·subst e; simp
 ·have h : ¬ (Sum.inr a : Key) = Sum.inr b := fun q => e (Sum.inr.inj q)
  rw [decide_eq_false h, decide_eq_false e]
theorem key_lr (a : Int) (b : Str) : decide ((Sum.inl a : Key) = Sum.inr b) = false := decide_eq_false (fun q => nomatch q)
theorem key_rl (a : Str) (b : Int) : decide ((Sum.inr a : Key) = Sum.inl b) = false := decide_eq_false (fun q => nomatch q)
def mixKind (prog : Program) (w : World) : PySem.KeyKind prog w Key where
 is := keyIs
 hash := keyH w
 inj := fun v a b ha hb => by
  rcases keyIs_shape ha with ⟨i, t, rfl, rfl⟩ | ⟨x, t, rfl, rfl⟩
  ·rcases keyIs_shape hb with ⟨j, u, rfl, e⟩ | ⟨y, u, rfl, e⟩
   ·injection e with e1 _; rw [e1]
   ·exact nomatch e
  ·rcases keyIs_shape hb with ⟨j, u, rfl, e⟩ | ⟨y, u, rfl, e⟩
   ·exact nomatch e
   ·injection e with e1 _; rw [e1]
 byValue := fun k v h => by
  rcases keyIs_shape h with ⟨i, t, rfl, rfl⟩ | ⟨x, t, rfl, rfl⟩ <;> rfl
 pyHash := fun hv h => by
  rcases keyIs_shape hv with ⟨i, t, rfl, rfl⟩ | ⟨x, t, rfl, rfl⟩
  ·exact wpAny_pyHash_int h
  ·exact wpAny_pyHash_str h
 eqBool := fun hu hv h => by
  rcases keyIs_shape hu with ⟨i, t, rfl, rfl⟩ | ⟨x, t, rfl, rfl⟩
  ·rcases keyIs_shape hv with ⟨j, u, rfl, rfl⟩ | ⟨y, u, rfl, rfl⟩
   ·rw [key_ll] at h; exact wpAny_eqBool_int h
   ·rw [key_lr] at h; exact SeqAt.EqAt.int_str i t y u _ _ _ _ h
  ·rcases keyIs_shape hv with ⟨j, u, rfl, rfl⟩ | ⟨y, u, rfl, rfl⟩
   ·rw [key_rl] at h; exact SeqAt.EqAt.str_int x t j u _ _ _ _ h
   ·rw [key_rr] at h; exact wpAny_eqBool_str h
 «strs» := fun k x t v h => by
  rcases keyIs_shape h with ⟨i, u, rfl, e⟩ | ⟨y, u, rfl, e⟩
  ·exact nomatch e
  ·injection e with e1 _
   subst e1
   cases v <;> rfl
theorem mixKind_int (prog : Program) (w : World) (i : Int) (t : Tok) : (mixKind prog w).is (.inl i) (.int i t) = true := keyIs_int i t
theorem mixKind_str (prog : Program) (w : World) (x : Str) (t : Tok) : (mixKind prog w).is (.inr x) (.str x t) = true := keyIs_str x t
end L2
namespace L2
open PySem PySem.Spec PyProof.Rows
inductive V where
 | non | bl (b : Bool) | int (i : Int) | str (x : Str) | byt (b : Array UInt8) | flt (b : UInt64) | ref (a : Addr) | ty (n : String)
 deriving DecidableEq
def RelV : V -> Value -> Prop
 | .non, u => u = Value.none
 | .bl b, u => u = Value.bool b
 | .int i, u => ∃ t, u = Value.int i t
 | .str x, u => ∃ t, u = Value.str x t
 | .byt b, u => ∃ t, u = Value.bytes b t
 | .flt b, u => ∃ t, u = Value.float b t
 | .ref a, u => u = Value.ref a
 | .ty n, u => u = Value.type n
abbrev Vals : List V -> List Value -> Prop := Paired RelV
theorem Vals.length {xs : List V} {us : List Value} (r : Vals xs us) : xs.length = us.length := Paired.length r
theorem Vals.get : ∀ {xs : List V} {us : List Value} {i : Nat} {x : V}, Vals xs us -> xs[i]? = some x -> ∃ u, us[i]? = some u /\ RelV x u
 | _, _, _, _, .nil, e => by simp at e
 | _, _, 0, _, .cons r _, e => by simp at e; subst e; exact ⟨_, rfl, r⟩
 | _, _, i + 1, x, .cons _ t, e => by
  obtain ⟨u, h1, h2⟩ := Vals.get (i := i) (x := x) t (by simpa using e)
  exact ⟨u, by simpa using h1, h2⟩
theorem Vals.set {x : V} {u : Value} (r : RelV x u) : ∀ {xs : List V} {us : List Value} (i : Nat), Vals xs us -> Vals (xs.set i x) (us.set i u)
 | _, _, _, .nil => .nil
 | _, _, 0, .cons _ t => .cons r t
 | _, _, i + 1, .cons q t => .cons q (Vals.set r i t)
theorem Vals.append : ∀ {xs ys : List V} {us ws : List Value}, Vals xs us -> Vals ys ws -> Vals (xs ++ ys) (us ++ ws)
 | _, _, _, _, .nil, s => s
 | _, _, _, _, .cons r t, s => .cons r (Vals.append t s)
theorem Vals.take : ∀ {xs : List V} {us : List Value} (n : Nat), Vals xs us -> Vals (xs.take n) (us.take n)
 | _, _, 0, _ => .nil
 | _, _, _ + 1, .nil => .nil
 | _, _, n + 1, .cons r t => .cons r (Vals.take n t)
theorem Vals.drop : ∀ {xs : List V} {us : List Value} (n : Nat), Vals xs us -> Vals (xs.drop n) (us.drop n)
 | _, _, 0, r => r
 | _, _, _ + 1, .nil => .nil
 | _, _, n + 1, .cons _ t => Vals.drop n t
def RelO : Option V -> Option Value -> Prop
 | some v, some u => RelV v u
 | none, none => True
 | _, _ => False
def KV {κ : Type} : List (κ × V) -> List (κ × Value) -> Prop := Paired fun (p : κ × V) (q : κ × Value) => p.1 = q.1 /\ RelV p.2 q.2
def kV : Key -> V
 | .inl i => .int i
 | .inr x => .str x
inductive HO where
 /-- a list -/
 | lst (xs : List V)
 /-- a tuple (never changes) -/
 | tup (xs : List V)
 /-- a dict whose keys are ints and texts; one whose keys are tuples of ints and texts (the empty one is both) -/
 | dK (kvs : List (Key × V)) | dT (kvs : List (List Key × V))
 /-- a set of ints: its members, its size -/
 | set (S : Int -> Bool) (n : Nat)
 /-- an instance of the class at C, its dict at dx, its attributes -/
 | ins (C dx : Addr) (fs : List (Str × V))
 /-- the dict of the instance at x -/
 | own (x : Addr)
 /-- the dict of an exception -/
 | xd (fs : List (Str × V))
 /-- a bound method, f of x -/
 | met (f x : Addr)
 /-- a range object lo, lo + 1, .. below hi -/
 | rng (lo hi : Int)
 /-- a thing that is known to the object (the script; a dict while a loop walks it): read, never written while it is so -/
 | frz (o : Obj) (u : HO)
 /-- a code object's table -/
 | tbl (ps : Array Value)
 /-- any other thing, by what is true of its one object (a def of one's own: SetO a S n := HO.ext fun h => ..) -/
 | ext (φ : Heap -> Prop)
abbrev Hp := Addr -> Option HO
def upd (H : Hp) (a : Addr) (o : HO) : Hp := fun b => if b = a then some o else H b
theorem upd_same {H : Hp} {a : Addr} {o : HO} : upd H a o a = some o := by unfold upd; rw [if_pos rfl]
theorem upd_ne {H : Hp} {a b : Addr} {o : HO} (h : b ≠ a) : upd H a o b = H b := by unfold upd; rw [if_neg h]
theorem ne_of {H : Hp} {a b : Addr} {o u : HO} (h : H a = some o) (h' : H b = some u) (d : o ≠ u) : a ≠ b := by
 intro e; subst e; rw [h] at h'; exact d (Option.some.inj h')
theorem ne_of_none {H : Hp} {a b : Addr} {o : HO} (h : H a = some o) (h' : H b = none) : a ≠ b := by
 intro e; subst e; rw [h] at h'; cases h'
section
variable (P : Program) (w : World)
def ObjOk (H : Hp) (h : Heap) (a : Addr) : HO -> Prop
 | .lst xs => xs.length <= sizeLine /\ ∃ (its : List Value) (n : Nat), Vals xs its /\ h.get? a = some { cls := .type "list", data := .seq its.toArray n }
 | .tup xs => xs.length <= sizeLine /\ ∃ its : List Value, Vals xs its /\ IsTup h a its.toArray
 | .dK kvs => kvs.length <= sizeLine /\ (a == sysModules) = false /\ ∃ vs, KV kvs vs /\ h.DictOf (mixKind P w) a vs
 | .dT kvs => kvs.length <= sizeLine /\ (a == sysModules) = false /\ ∃ xs : List (List Key × Addr × Value),
   Paired (fun (p : List Key × V) (q : List Key × Addr × Value) => p.1 = q.1 /\ H q.2.1 = some (.tup (p.1.map kV)) /\ RelV p.2 q.2.2) kvs xs /\
   ∃ o es ep, h.get? a = some o /\ o.ExactDict /\ o.data = .dict es ep /\ es.toList = xs.map (entryOfKey (tupleKind (mixKind P w))) /\ (xs.map (·.1)).Nodup
 | .set S n => h.SetOf (intKind P w) a S n
 | .ins C dx fs => H dx = some (.own a) /\ fs.length <= 1000 /\ dx ≠ a /\ h.get? a = some (PySem.W.instObj C dx) /\
   ∃ mA, h.Ns1 dx mA /\ (∀ f, RelO (fs.lookup f) (mA f)) /\ PySem.Within mA (fs.map (·.1))
 | .own _ => ∃ o, h.get? a = some o
 | .xd fs => ∃ mA, h.Ns1 a mA /\ ∀ f, RelO (fs.lookup f) (mA f)
 | .rng lo hi => ∃ t u v, h.get? a = some { cls := .type "range", data := .fields #[.int lo t, .int hi u, .int 1 v] }
 | .frz o u => h.get? a = some o /\ ObjOk H h a u
 | .tbl ps => h.get? a = some { cls := .none, data := .fields ps }
 | .met f x => h.get? a = some (PySem.W.methodObj (.ref f) (.ref x))
 | .ext φ => φ h /\ (∃ o, h.get? a = some o) /\ ∀ h1 h2 : Heap, φ h1 -> (∀ o, h1.get? a = some o -> h2.get? a = some o) -> φ h2
def HOk (H : Hp) (h : Heap) : Prop := ∀ a o, H a = some o -> ObjOk P w H h a o
end
section
variable {P : Program} {w : World} {H H' : Hp} {h h' : Heap} {a : Addr} {o : HO}
theorem ObjOk.lt (x : ObjOk P w H h a o) : a < h.objs.size := by
 cases o with
 | lst xs => obtain ⟨_, _, _, _, e⟩ := x; exact Heap.lt_size e
 | tup xs => obtain ⟨_, _, _, p⟩ := x; exact p.lt
 | dK kvs => obtain ⟨_, _, _, _, o, _, _, e, _⟩ := x; exact Heap.lt_size e
 | dT kvs => obtain ⟨_, _, _, _, o, _, _, e, _⟩ := x; exact Heap.lt_size e
 | set S n => obtain ⟨o, _, _, _, e, _⟩ := x; exact Heap.lt_size e
 | ins C dx fs => obtain ⟨_, _, _, e, _⟩ := x; exact Heap.lt_size e
 | own y => obtain ⟨_, e⟩ := x; exact Heap.lt_size e
 | xd fs => obtain ⟨_, ⟨_, _, _, e, _⟩, _⟩ := x; exact Heap.lt_size e
 | rng lo hi => obtain ⟨_, _, _, e⟩ := x; exact Heap.lt_size e
 | frz ob u => obtain ⟨e, _⟩ := x; exact Heap.lt_size e
 | tbl ps => exact Heap.lt_size (show h.get? a = some _ from x)
 | met f y => exact Heap.lt_size (show h.get? a = some _ from x)
 | ext φ => obtain ⟨_, ⟨_, e⟩, _⟩ := x; exact Heap.lt_size e
theorem Paired.mapP {α β : Type} {F G : α -> β -> Prop} : ∀ {l₁ : List α} {l₂ : List β}, Paired F l₁ l₂ -> (∀ a b, F a b -> G a b) -> Paired G l₁ l₂
 | _, _, .nil, _ => .nil
 | _, _, .cons r t, f => .cons (f _ _ r) (Paired.mapP t f)
theorem ObjOk.stay (x : ObjOk P w H h a o) (k : ∀ b u, (b = a ∨ H b = some (.own a)) -> h.get? b = some u -> h'.get? b = some u)
  (ho : ∀ b, H b = some (.own a) -> H' b = some (.own a)) (ht : ∀ b xs, H b = some (.tup xs) -> H' b = some (.tup xs)) : ObjOk P w H' h' a o := by
 induction o with
 | lst xs => obtain ⟨z, its, n, r, e⟩ := x; exact ⟨z, its, n, r, k _ _ (.inl rfl) e⟩
 | tup xs => obtain ⟨z, its, r, ob, e, c⟩ := x; exact ⟨z, its, r, ob, k _ _ (.inl rfl) e, c⟩
 | dK kvs => obtain ⟨z, y, vs, r, ob, es, ep, e, c⟩ := x; exact ⟨z, y, vs, r, ob, es, ep, k _ _ (.inl rfl) e, c⟩
 | dT kvs =>
  obtain ⟨z, y, xs, r, ob, es, ep, e, c⟩ := x
  exact ⟨z, y, xs, Paired.mapP r fun p q z => ⟨z.1, ht _ _ z.2.1, z.2.2⟩, ob, es, ep, k _ _ (.inl rfl) e, c⟩
 | set S n => obtain ⟨ob, es, ep, t, e, c⟩ := x; exact ⟨ob, es, ep, t, k _ _ (.inl rfl) e, c⟩
 | ins C dx fs =>
  obtain ⟨d, z, ne, e, mA, ⟨od, es, ep, e2, c⟩, r⟩ := x
  exact ⟨ho _ d, z, ne, k _ _ (.inl rfl) e, mA, ⟨od, es, ep, k _ _ (.inr d) e2, c⟩, r⟩
 | own y => obtain ⟨ob, e⟩ := x; exact ⟨ob, k _ _ (.inl rfl) e⟩
 | xd fs => obtain ⟨mA, ⟨od, es, ep, e, c⟩, r⟩ := x; exact ⟨mA, ⟨od, es, ep, k _ _ (.inl rfl) e, c⟩, r⟩
 | rng lo hi => obtain ⟨t, u, v, e⟩ := x; exact ⟨t, u, v, k _ _ (.inl rfl) e⟩
 | frz ob u ih => obtain ⟨e, q⟩ := x; exact ⟨k _ _ (.inl rfl) e, ih q⟩
 | tbl ps =>
  have e : h.get? a = some { cls := .none, data := .fields ps } := x
  show h'.get? a = some { cls := .none, data := .fields ps }
  exact k a _ (.inl rfl) e
 | met f y =>
  have e : h.get? a = some (PySem.W.methodObj (.ref f) (.ref y)) := x
  show h'.get? a = some (PySem.W.methodObj (.ref f) (.ref y))
  exact k a _ (.inl rfl) e
 | ext φ => obtain ⟨p, ⟨o, e⟩, st⟩ := x; exact ⟨st _ _ p fun o q => k _ _ (.inl rfl) q, ⟨o, k _ _ (.inl rfl) e⟩, st⟩
theorem HOk.lt (x : HOk P w H h) (e : H a = some o) : a < h.objs.size := (x a o e).lt
theorem HOk.fresh (x : HOk P w H h) (e : h.objs.size <= a) : H a = none := by
 cases q : H a with
 | none => rfl
 | some u => exact absurd (Nat.lt_of_lt_of_le (x.lt q) e) (Nat.lt_irrefl _)
theorem HOk.kept (x : HOk P w H h) (k : ∀ b u, h.get? b = some u -> h'.get? b = some u) : HOk P w H h' := fun a o e =>
 (x a o e).stay (fun b u _ q => k b u q) (fun _ q => q) fun _ _ q => q
theorem HOk.laid (x : HOk P w H h) (k : ∀ b u, h.get? b = some u -> h'.get? b = some u) (hp : h.objs.size <= a) (new : ObjOk P w (upd H a o) h' a o) : HOk P w (upd H a o) h' := fun b u e => by
 have hn := x.fresh hp
 by_cases hb : b = a
 ·subst hb; rw [upd_same] at e; cases e; exact new
 ·rw [upd_ne hb] at e
  exact (x b u e).stay (fun c v _ q => k c v q) (fun c q => by rw [upd_ne (ne_of_none q hn)]; exact q) fun c xs q => by rw [upd_ne (ne_of_none q hn)]; exact q
end
def Rd (H : Hp) (a : Addr) (u : HO) : Prop := H a = some u ∨ ∃ o, H a = some (.frz o u)
theorem Rd.ok {P : Program} {w : World} {H : Hp} {h : Heap} {a : Addr} {u : HO} (r : Rd H a u) (x : HOk P w H h) : ObjOk P w H h a u := by
 rcases r with r | ⟨o, r⟩
 ·exact x a u r
 ·obtain ⟨_, q⟩ := x a _ r
  exact q
def Mut : Option HO -> Prop
 | some (.lst _) => True
 | some (.dK _) => True
 | some (.dT _) => True
 | some (.set _ _) => True
 | some (.ins _ _ _) => True
 | some (.ext _) => True
 | _ => False
section
variable {P : Program} {w : World} {H : Hp} {h h' : Heap} {x e : Addr} {o' : HO}
theorem HOk.write (ok : HOk P w H h) (mu : Mut (H x)) (he : e = x ∨ H e = some (.own x)) (k : ∀ b u, b ≠ e -> h.get? b = some u -> h'.get? b = some u) (heo : ∃ u, h'.get? e = some u)
  (new : ObjOk P w (upd H x o') h' x o') : HOk P w (upd H x o') h' := fun b u q => by
 have nown : ∀ c y, H c = some (.own y) -> c ≠ x := fun c y r z => by subst z; rw [r] at mu; exact mu
 have ntup : ∀ c xs, H c = some (.tup xs) -> c ≠ x := fun c xs r z => by subst z; rw [r] at mu; exact mu
 by_cases hb : b = x
 ·subst hb; rw [upd_same] at q; cases q; exact new
 ·rw [upd_ne hb] at q
  by_cases hbe : b = e
  ·have q' : H b = some (.own x) := by
    rcases he with z | z
    ·exact absurd (hbe.trans z) hb
    ·rw [hbe]; exact z
   rw [q] at q'; cases q'
   obtain ⟨v, hv⟩ := heo
   exact ⟨v, by rw [hbe]; exact hv⟩
  ·refine (ok b u q).stay (fun c v hc r => k c v ?_ r) (fun c r => by rw [upd_ne (nown c b r)]; exact r) fun c xs r => by rw [upd_ne (ntup c xs r)]; exact r
   rcases hc with rfl | hc
   ·exact hbe
   ·rintro rfl
    rcases he with z | z
    ·exact nown c b hc z
    ·rw [hc] at z; cases z; exact hb rfl
end
structure Un (fs ex : List Addr) (H H' : Hp) (h h' : Heap) : Prop where
 keep : ∀ b o, h.get? b = some o -> H b = none -> b ∉ fs -> b ∉ ex -> h'.get? b = some o
 slot : ∀ b o, h.get? b = some o -> H b = none -> b ∈ fs -> b ∉ ex -> ∃ sl, h'.get? b = some { o with slots := sl }
 free : ∀ b o, h.get? b = some o -> H b = none -> b ∉ ex -> H' b = none
 there : ∀ b o, h.get? b = some o -> b ∉ ex -> ∃ o', h'.get? b = some o'
 tups : ∀ b xs, H b = some (.tup xs) -> H' b = some (.tup xs)
 frzs : ∀ b o u, H b = some (.frz o u) -> H' b = some (.frz o u)
 tbls : ∀ b ps, H b = some (.tbl ps) -> ∃ more, H' b = some (.tbl (ps ++ more))
section
variable {fs fs' ex ex' : List Addr} {H H1 H2 : Hp} {h h1 h2 h' : Heap} {a x e : Addr} {o : HO}
theorem Un.any (u : Un fs ex H H1 h h1) {b : Addr} {ob : Obj} (q : h.get? b = some ob) (n : H b = none) (hx : b ∉ ex) : ∃ sl, h1.get? b = some { ob with slots := sl } := by
 by_cases hb : b ∈ fs
 ·exact u.slot b ob q n hb hx
 ·exact ⟨ob.slots, u.keep b ob q n hb hx⟩
theorem Un.kept (k : ∀ b u, h.get? b = some u -> h'.get? b = some u) : Un fs ex H H h h' :=
 ⟨fun b ob q _ _ _ => k b ob q, fun b ob q _ _ _ => ⟨ob.slots, k b ob q⟩, fun _ _ _ n _ => n, fun b ob q _ => ⟨ob, k b ob q⟩, fun _ _ q => q, fun _ _ _ q => q, fun _ ps q => ⟨#[], by rw [q]; simp⟩⟩
theorem Un.refl : Un fs ex H H h h := Un.kept fun _ _ q => q
theorem Un.laid (k : ∀ b u, h.get? b = some u -> h'.get? b = some u) (hp : h.objs.size <= a) (hn : H a = none) : Un fs ex H (upd H a o) h h' where
 keep := fun b u q _ _ _ => k b u q
 slot := fun b u q _ _ _ => ⟨u.slots, k b u q⟩
 free := fun b u q n _ => by rw [upd_ne (Nat.ne_of_lt (Nat.lt_of_lt_of_le (Heap.lt_size q) hp))]; exact n
 there := fun b u q _ => ⟨u, k b u q⟩
 tups := fun b xs q => by rw [upd_ne (ne_of_none q hn)]; exact q
 frzs := fun b u xs q => by rw [upd_ne (ne_of_none q hn)]; exact q
 tbls := fun b ps q => ⟨#[], by rw [upd_ne (ne_of_none q hn), q]; simp⟩
theorem Un.write (mu : Mut (H x)) (he : e = x ∨ H e = some (.own x)) (k : ∀ b u, b ≠ e -> h.get? b = some u -> h'.get? b = some u) (heo : ∃ u, h'.get? e = some u) : Un fs ex H (upd H x o) h h' := by
 have hx : ∀ b, H b = none -> b ≠ x := fun b n z => by subst z; rw [n] at mu; exact mu
 have hb : ∀ b, H b = none -> b ≠ e := fun b n z => by
  subst z
  rcases he with r | r
  ·exact hx b n r
  ·rw [n] at r; cases r
 have hm : ∀ b u, H b = some u -> ¬ Mut (some u) -> b ≠ x := fun b u q nm z => by subst z; rw [q] at mu; exact nm mu
 refine ⟨fun b u q n _ _ => k b u (hb b n) q, fun b u q n _ _ => ⟨u.slots, k b u (hb b n) q⟩, fun b u q n _ => by rw [upd_ne (hx b n)]; exact n, fun b u q _ => ?_,
  fun b xs q => by rw [upd_ne (hm b _ q fun z => z)]; exact q, fun b u xs q => by rw [upd_ne (hm b _ q fun z => z)]; exact q, fun b ps q => ⟨#[], by rw [upd_ne (hm b _ q fun z => z), q]; simp⟩⟩
 by_cases hbe : b = e
 ·subst hbe; exact heo
 ·exact ⟨u, k b u hbe q⟩
end
def trk (h : Heap) (H : Hp) : List Addr := (List.range h.objs.size).filter fun a => (H a).isSome
def hidT (h : Heap) (H : Hp) : Heap := PySem.W.hideAll h (trk h H)
theorem hidT_size (h : Heap) (H : Hp) : (hidT h H).objs.size = h.objs.size := PySem.W.hideAll_size _ _
theorem hidT_get {h : Heap} {H : Hp} {b : Addr} {o : Obj} (e : h.get? b = some o) (n : H b = none) : (hidT h H).get? b = some o :=
 PySem.W.hideAll_get _ e fun hm => by
  have q : (H b).isSome = true := (List.mem_filter.mp hm).2
  rw [n] at q; simp at q
theorem of_hidT {h : Heap} {H : Hp} {b : Addr} {o : Obj} (e : (hidT h H).get? b = some o) : h.get? b = some o /\ H b = none := by
 have e' : h.get? b = some o := PySem.W.of_hideAll (trk h H) e
 refine ⟨e', ?_⟩
 cases q : H b with
 | none => rfl
 | some x =>
  have hm : b ∈ trk h H := List.mem_filter.mpr ⟨List.mem_range.mpr (Heap.lt_size e'), by simp [q]⟩
  have z : (hidT h H).get? b = none := PySem.W.hideAll_none (trk h H) hm
  rw [z] at e; cases e
def allNews (g h : Heap) (L : Addr) : List (Addr × Obj) := (List.range h.objs.size).filterMap fun a => if a = L ∨ (g.get? a).isSome = true then none else (h.get? a).map fun o => (a, o)
def rest (g h : Heap) (L d : Addr) : List (Addr × Obj) := (allNews g h L).filter fun p => decide (p.1 ≠ d)
end L2
namespace L2
open PySem PySem.Spec PyProof.Rows
structure Mod (K : W.Frag) (mg : Str -> Option Value) (base : Heap) : Prop where
 kin : K.In base
 glob : base.Ns mainGlobals mg
 blt : ∃ mb, base.Ns builtinsNs mb /\ ∀ x : Str, x ≠ "__name__" -> mb x = bootBuiltins x
 nolimit : base.NoLimit
structure Cx where
 prog : Program
 w : World
 K : W.Frag
 mg : Str -> Option Value
 base : Heap
 A : Around
 N : List Str
 s₀ : Shared
 H₀ : Hp
 env : Env
 outer : List Env
 stack : List Env
 ex : List Addr
 fn : Str -> Bool
 calm : Bool
 pn : List (Addr × Obj)
 xe : Value -> Shared -> Prop
def frs (l : List Env) : List Addr := l.filterMap (·.frame)
abbrev Cx.fs (X : Cx) : List Addr := frs X.outer
def Vis (sc : Scope) (x : Str) : Prop := sc.names.lookup x = some .local ∨ sc.names.lookup x = some .cell ∨ sc.names.lookup x = some .free
def Loc (sc : Scope) (x : Str) : Prop := sc.names.lookup x = some .local ∨ sc.names.lookup x = some .cell
def Look (env : Env) (h : Heap) (m : Str -> Option Value) (x : Str) (u : Value) : Prop :=
 (env.kindOf x = some .local /\ m x = some u) ∨ ((env.kindOf x = some .cell ∨ env.kindOf x = some .free) /\ ∃ c, env.cells.lookup x = some c /\ h.IsCell c (some u))
structure Cx.Ok (X : Cx) : Prop where
 mod : Mod X.K X.mg X.base
 kind : X.env.scope.kind = .function
 glob : X.env.globals = mainGlobals
 blt : X.env.builtins = builtinsNs
 above : X.s₀.heap.objs.size <= X.env.locals
 inj : ∀ x y c, X.env.cells.lookup x = some c -> X.env.cells.lookup y = some c -> x = y
 has : ∀ x, (X.env.kindOf x = some .cell ∨ X.env.kindOf x = some .free) -> ∃ c, X.env.cells.lookup x = some c
 cab : ∀ x c, X.fn x = true -> X.env.cells.lookup x = some c -> X.s₀.heap.objs.size <= c
 hd : X.calm = true -> X.A.handled = none
 frames : X.A.frames = some X.stack
 stk : X.stack = X.outer ∨ (X.stack = X.env :: X.outer /\ X.env.frame = some X.env.locals)
 exf : ∀ b ∈ X.ex, b ≠ X.env.locals /\ ∀ x c, X.env.cells.lookup x = some c -> c ≠ b
 bs : ∀ b o, X.base.get? b = some o -> X.s₀.heap.get? b = some o /\ X.H₀ b = none
 bsz : X.base.objs.size <= X.s₀.heap.objs.size
 noex : ∀ b o, X.base.get? b = some o -> b ∉ X.ex
 exfs : ∀ b ∈ X.ex, b ∉ X.fs
 funs : X.s₀.heap.FunFrames X.base X.outer
 frf : ∀ b ∈ X.fs, X.H₀ b = none
structure Inv (X : Cx) (pins : List (Addr × Obj)) (σ : List (Option V)) (H : Hp) (s : Shared) : Prop where
 ok : X.Ok
 os : s.os = X.s₀.os
 bare : AllBare s.gens
 base : Un X.fs X.ex X.H₀ H X.s₀.heap s.heap
 loc : ∃ m, s.heap.Ns X.env.locals m /\ ∀ (i : Nat) (x : Str) (v : V), X.N[i]? = some x -> σ[i]? = some (some v) -> Vis X.env.scope x -> ∃ u, RelV v u /\ Look X.env s.heap m x u
 cell : ∀ x c, X.env.cells.lookup x = some c -> ∃ v, s.heap.IsCell c v
 free : H X.env.locals = none
 freeC : ∀ x c, X.env.cells.lookup x = some c -> H c = none
 pin : ∀ p ∈ X.pn ++ pins, s.heap.get? p.1 = some p.2 /\ H p.1 = none /\ p.1 ≠ X.env.locals /\ p.1 ∉ X.fs /\ ∀ v, p.2.data ≠ .cell v
 hok : HOk X.prog X.w H s.heap
 len : σ.length = X.N.length
section
variable {X : Cx} {pins : List (Addr × Obj)} {σ : List (Option V)} {H H' : Hp} {s : Shared} {h' : Heap}
theorem Cx.Ok.nofr (ok : X.Ok) {b : Addr} {o : Obj} (e : X.base.get? b = some o) : b ∉ X.fs := fun hb => by
 have := (ok.funs.mem hb).1
 rw [e] at this; cases this
theorem Inv.bs (I : Inv X pins σ H s) : ∀ b o, X.base.get? b = some o -> s.heap.get? b = some o /\ H b = none := fun b o e =>
 ⟨I.base.keep b o (I.ok.bs b o e).1 (I.ok.bs b o e).2 (I.ok.nofr e) (I.ok.noex b o e), I.base.free b o (I.ok.bs b o e).1 (I.ok.bs b o e).2 (I.ok.noex b o e)⟩
theorem Inv.bk (I : Inv X pins σ H s) : ∀ b o, X.base.get? b = some o -> s.heap.get? b = some o := fun b o e => (I.bs b o e).1
theorem Inv.mod (I : Inv X pins σ H s) : Mod X.K X.mg X.base := I.ok.mod
theorem Inv.kIn (I : Inv X pins σ H s) : X.K.In s.heap := I.ok.mod.kin.keeps I.bk
theorem Inv.fr (I : Inv X pins σ H s) : ∃ m, Fr X.base X.env.locals s.heap m :=
 let ⟨m, hn, _⟩ := I.loc
 ⟨m, hn, I.bk, Nat.le_trans I.ok.bsz I.ok.above⟩
theorem Inv.lt (I : Inv X pins σ H s) : X.env.locals < s.heap.objs.size := let ⟨_, hn, _⟩ := I.loc; hn.lt
theorem Inv.sz (I : Inv X pins σ H s) : X.s₀.heap.objs.size <= s.heap.objs.size := Nat.le_trans I.ok.above (Nat.le_of_lt I.lt)
theorem Inv.nofs (I : Inv X pins σ H s) {a : Addr} (h : s.heap.objs.size <= a) : a ∉ X.fs := fun hb => by
 obtain ⟨_, o, ho, _⟩ := I.ok.funs.mem hb
 exact absurd (Nat.lt_of_lt_of_le (Heap.lt_size ho) (Nat.le_trans I.sz h)) (Nat.lt_irrefl _)
theorem Inv.cne (I : Inv X pins σ H s) : ∀ x c, X.env.cells.lookup x = some c -> c ≠ X.env.locals := fun x c e z => by
 obtain ⟨v, o, ho, hd⟩ := I.cell x c e
 obtain ⟨m, ⟨o', es, ep, ho', hd', _⟩, _⟩ := I.loc
 rw [z, ho'] at ho; cases ho; rw [hd'] at hd; cases hd
theorem Inv.funs (I : Inv X pins σ H s) : s.heap.FunFrames X.base X.outer := by
 have all : ∀ (l : List Env), (∀ b ∈ frs l, b ∈ X.fs) -> X.s₀.heap.FunFrames X.base l -> s.heap.FunFrames X.base l := by
  intro l
  induction l with
  | nil => intro _ _; trivial
  | cons env r ih =>
   intro hs hl
   obtain ⟨hk, ⟨L, o, hf, hn, ho, hd⟩, hr⟩ := hl
   have hL : L ∈ X.fs := hs L (by unfold frs; rw [List.filterMap_cons, hf]; exact List.mem_cons_self)
   obtain ⟨sl, e⟩ := I.base.slot L o ho (I.ok.frf L hL) hL fun z => I.ok.exfs L z hL
   exact ⟨hk, ⟨L, _, hf, hn, e, hd⟩, ih (fun b hb => hs b (by unfold frs; rw [List.filterMap_cons, hf]; exact List.mem_cons_of_mem _ hb)) hr⟩
 exact all X.outer (fun _ hb => hb) I.ok.funs
theorem Inv.stack (I : Inv X pins σ H s) : s.heap.FunFrames X.base X.stack := by
 rcases I.ok.stk with e | ⟨e, hf⟩
 ·rw [e]; exact I.funs
 ·rw [e]
  obtain ⟨m, hn, _⟩ := I.loc
  refine .cons (by rw [I.ok.kind]; decide) hf hn ?_ I.funs
  exact Heap.get?_none_of_le (Nat.le_trans I.ok.bsz I.ok.above)
theorem Inv.stkSub (I : Inv X pins σ H s) : ∀ b ∈ frs X.stack, b ∈ X.env.locals :: X.fs := fun b hb => by
 rcases I.ok.stk with e | ⟨e, hf⟩
 ·rw [e] at hb; exact List.mem_cons_of_mem _ hb
 ·rw [e] at hb
  unfold frs at hb
  rw [List.filterMap_cons, hf] at hb
  exact hb
theorem Inv.stkFree (I : Inv X pins σ H s) : ∀ b ∈ frs X.stack, H b = none := fun b hb => by
 rcases List.mem_cons.mp (I.stkSub b hb) with e | hb
 ·rw [e]; exact I.free
 ·obtain ⟨_, o, ho, _⟩ := I.ok.funs.mem hb
  exact I.base.free b o ho (I.ok.frf b hb) fun z => I.ok.exfs b z hb
theorem Inv.step {g' : Array GenState} {t' : Nat} {d' : Drawn} {ch : List Addr} (I : Inv X pins σ H s)
  (hch : ∀ b ∈ ch, (b ∈ X.ex ∨ X.s₀.heap.objs.size <= b) /\ b ≠ X.env.locals /\ (∀ x c, X.env.cells.lookup x = some c -> c ≠ b) /\ ∀ p ∈ X.pn ++ pins, p.1 ≠ b)
  (keep : ∀ b o, b ≠ X.env.locals -> b ∉ X.fs -> b ∉ ch -> s.heap.get? b = some o -> H b = none -> h'.get? b = some o)
  (slot : ∀ b o, b ≠ X.env.locals -> b ∈ X.fs -> b ∉ ch -> s.heap.get? b = some o -> H b = none -> ∃ sl, h'.get? b = some { o with slots := sl }) (free : ∀ b o, b ∉ ch -> s.heap.get? b = some o -> H b = none -> H' b = none)
  (there : ∀ b o, b ∉ ch -> s.heap.get? b = some o -> ∃ o', h'.get? b = some o')
  (tups : ∀ b xs, H b = some (.tup xs) -> H' b = some (.tup xs)) (frzs : ∀ b o u, H b = some (.frz o u) -> H' b = some (.frz o u)) (tbls : ∀ b ps, H b = some (.tbl ps) -> ∃ more, H' b = some (.tbl (ps ++ more)))
  (ns : ∀ m, s.heap.Ns X.env.locals m -> h'.Ns X.env.locals m) (hok : HOk X.prog X.w H' h') (hg : AllBare g') :
  Inv X pins σ H' { s with heap := h', gens := g', drawn := d', toks := t' } := by
 have neL : ∀ b o, X.s₀.heap.get? b = some o -> b ≠ X.env.locals := fun b o e => Nat.ne_of_lt (Nat.lt_of_lt_of_le (Heap.lt_size e) I.ok.above)
 have neC : ∀ b o, X.s₀.heap.get? b = some o -> b ∉ X.ex -> b ∉ ch := fun b o e hx hb => by
  rcases (hch b hb).1 with z | z
  ·exact hx z
  ·exact absurd (Nat.lt_of_lt_of_le (Heap.lt_size e) z) (Nat.lt_irrefl _)
 have cellK : ∀ x c, X.env.cells.lookup x = some c -> ∀ v, s.heap.IsCell c v -> h'.IsCell c v := fun x c e v ⟨o, ho, hd⟩ => by
  have nch : c ∉ ch := fun z => (hch c z).2.2.1 x c e rfl
  by_cases hc : c ∈ X.fs
  ·obtain ⟨sl, q⟩ := slot c o (I.cne x c e) hc nch ho (I.freeC x c e)
   exact ⟨_, q, hd⟩
  ·exact ⟨o, keep c o (I.cne x c e) hc nch ho (I.freeC x c e), hd⟩
 refine ⟨I.ok, I.os, hg, ⟨fun b o e n hb hx => ?_, fun b o e n hb hx => ?_, fun b o e n hx => ?_, fun b o e hx => ?_, fun b xs e => tups b xs (I.base.tups b xs e), fun b o xs e => frzs b o xs (I.base.frzs b o xs e), fun b ps e => ?_⟩, ?_, fun x c e => ?_, ?_, fun x c e => ?_, fun p hp => ?_, hok, I.len⟩
 ·exact keep b o (neL b o e) hb (neC b o e hx) (I.base.keep b o e n hb hx) (I.base.free b o e n hx)
 ·obtain ⟨sl, e1⟩ := I.base.slot b o e n hb hx
  obtain ⟨sl', e2⟩ := slot b _ (neL b o e) hb (neC b o e hx) e1 (I.base.free b o e n hx)
  exact ⟨sl', e2⟩
 ·obtain ⟨o', e1⟩ := I.base.there b o e hx
  exact free b o' (neC b o e hx) e1 (I.base.free b o e n hx)
 ·obtain ⟨o', e1⟩ := I.base.there b o e hx
  exact there b o' (neC b o e hx) e1
 ·obtain ⟨m1, e1⟩ := I.base.tbls b ps e
  obtain ⟨m2, e2⟩ := tbls b _ e1
  exact ⟨m1 ++ m2, by rw [e2, Array.append_assoc]⟩
 ·obtain ⟨m, hn, hl⟩ := I.loc
  refine ⟨m, ns m hn, fun i x v e1 e2 e3 => ?_⟩
  obtain ⟨u, r, l⟩ := hl i x v e1 e2 e3
  refine ⟨u, r, ?_⟩
  rcases l with l | ⟨k, c, e, z⟩
  ·exact .inl l
  ·exact .inr ⟨k, c, e, cellK x c e _ z⟩
 ·obtain ⟨v, z⟩ := I.cell x c e
  exact ⟨v, cellK x c e v z⟩
 ·obtain ⟨m, ⟨o, _, _, ho, _⟩, _⟩ := I.loc
  exact free _ o (fun z => (hch _ z).2.1 rfl) ho I.free
 ·obtain ⟨v, o, ho, hd⟩ := I.cell x c e
  exact free c o (fun z => (hch c z).2.2.1 x c e rfl) ho (I.freeC x c e)
 ·obtain ⟨e, n, ne, nf, d⟩ := I.pin p hp
  have nch : p.1 ∉ ch := fun z => (hch p.1 z).2.2.2 p hp rfl
  exact ⟨keep p.1 p.2 ne nf nch e n, free p.1 p.2 nch e n, ne, nf, d⟩
theorem Inv.un {t' : Nat} (I : Inv X pins σ H s) (u : Un X.fs [] H H' s.heap h') (hok : HOk X.prog X.w H' h') : Inv X pins σ H' { s with heap := h', toks := t' } := by
 obtain ⟨m, ⟨o, es, ep, ho, r⟩, _⟩ := id I.loc
 obtain ⟨sl, hL⟩ := u.any ho I.free (by simp)
 exact I.step (g' := s.gens) (d' := s.drawn) (ch := []) (fun _ z => nomatch z) (fun b o _ hb _ e n => u.keep b o e n hb (by simp)) (fun b o _ hb _ e n => u.slot b o e n hb (by simp)) (fun b o _ e n => u.free b o e n (by simp)) (fun b o _ e => u.there b o e (by simp)) u.tups u.frzs u.tbls (fun m' hm => by
  obtain ⟨o', es', ep', ho', r'⟩ := hm
  rw [ho] at ho'; cases ho'
  exact ⟨_, es', ep', hL, r'⟩) hok I.bare
theorem Inv.call {g' : Array GenState} {t' : Nat} {d' : Drawn} {ch : List Addr} (I : Inv X pins σ H s) (u : Un (frs X.stack) ch H H' s.heap h') (hok : HOk X.prog X.w H' h') (hg : AllBare g')
  (hch : ∀ b ∈ ch, (b ∈ X.ex ∨ X.s₀.heap.objs.size <= b) /\ b ≠ X.env.locals /\ (∀ x c, X.env.cells.lookup x = some c -> c ≠ b) /\ ∀ p ∈ X.pn ++ pins, p.1 ≠ b) :
  Inv X pins σ H' { s with heap := h', gens := g', drawn := d', toks := t' } := by
 obtain ⟨m, ⟨o, es, ep, ho, r⟩, _⟩ := id I.loc
 obtain ⟨sl, hL⟩ := u.any ho I.free fun z => (hch _ z).2.1 rfl
 exact I.step (ch := ch) hch (fun b o hL hb hc e n => u.keep b o e n (fun z => (List.mem_cons.mp (I.stkSub b z)).elim hL hb) hc) (fun b o _ _ hc e n => u.any e n hc) (fun b o hc e n => u.free b o e n hc) (fun b o hc e => u.there b o e hc) u.tups u.frzs u.tbls (fun m' hm => by
  obtain ⟨o', es', ep', ho', r'⟩ := hm
  rw [ho] at ho'; cases ho'
  exact ⟨_, es', ep', hL, r'⟩) hok hg
theorem Inv.turned {t' : Nat} {it : Addr} (I : Inv X pins σ H s) (k : ∀ b o, b ≠ it -> s.heap.get? b = some o -> h'.get? b = some o) (hn : H it = none) (hL : it ≠ X.env.locals)
  (h1 : it ∈ X.ex ∨ X.s₀.heap.objs.size <= it) (h2 : ∀ x c, X.env.cells.lookup x = some c -> c ≠ it) (h3 : ∀ p ∈ X.pn ++ pins, p.1 ≠ it) : Inv X pins σ H { s with heap := h', toks := t' } := by
 have nit : ∀ b u, H b = some u -> b ≠ it := fun b u e z => by rw [z, hn] at e; cases e
 refine I.step (g' := s.gens) (d' := s.drawn) (ch := [it]) (fun b hb => ?_) (fun b o _ _ hc e _ => k b o (fun z => hc (by simp [z])) e) (fun b o _ _ hc e _ => ⟨o.slots, k b o (fun z => hc (by simp [z])) e⟩) (fun _ _ _ _ n => n)
  (fun b o hc e => ⟨o, k b o (fun z => hc (by simp [z])) e⟩) (fun _ _ e => e) (fun _ _ _ e => e) (fun b ps e => ⟨#[], by rw [e]; simp⟩) (fun m hm => ?_) (fun b u e => ?_) I.bare
 ·have e : b = it := by simpa using hb
  subst e
  exact ⟨h1, hL, h2, h3⟩
 ·obtain ⟨o, es, ep, ho, r⟩ := hm
  exact ⟨o, es, ep, k _ o (Ne.symm hL) ho, r⟩
 ·refine (I.hok b u e).stay (fun c v hc q => k c v ?_ q) (fun _ q => q) fun _ _ q => q
  rcases hc with z | z
  ·rw [z]; exact nit b u e
  ·exact nit c _ z
theorem Inv.tok (I : Inv X pins σ H s) (t : Nat) : Inv X pins σ H { s with toks := t } := I.un (h' := s.heap) (t' := t) Un.refl I.hok
theorem Inv.kept {t' : Nat} (I : Inv X pins σ H s) (k : ∀ b u, s.heap.get? b = some u -> h'.get? b = some u) : Inv X pins σ H { s with heap := h', toks := t' } := I.un (Un.kept k) (I.hok.kept k)
theorem Inv.laid {a : Addr} {o : HO} {t' : Nat} (I : Inv X pins σ H s) (k : ∀ b u, s.heap.get? b = some u -> h'.get? b = some u) (hp : s.heap.objs.size <= a) (new : ObjOk X.prog X.w (upd H a o) h' a o) :
  Inv X pins σ (upd H a o) { s with heap := h', toks := t' } := I.un (Un.laid k hp (I.hok.fresh hp)) (I.hok.laid k hp new)
theorem Inv.write {x e : Addr} {o : HO} {t' : Nat} (I : Inv X pins σ H s) (mu : Mut (H x)) (he : e = x ∨ H e = some (.own x)) (k : ∀ b u, b ≠ e -> s.heap.get? b = some u -> h'.get? b = some u) (heo : ∃ u, h'.get? e = some u)
  (new : ObjOk X.prog X.w (upd H x o) h' x o) : Inv X pins σ (upd H x o) { s with heap := h', toks := t' } := I.un (Un.write mu he k heo) (I.hok.write mu he k heo new)
theorem Inv.pins_of {pins' : List (Addr × Obj)} (I : Inv X pins σ H s) (h : ∀ p ∈ pins', s.heap.get? p.1 = some p.2 /\ H p.1 = none /\ p.1 ≠ X.env.locals /\ p.1 ∉ X.fs /\ ∀ v, p.2.data ≠ .cell v) : Inv X pins' σ H s :=
 ⟨I.ok, I.os, I.bare, I.base, I.loc, I.cell, I.free, I.freeC, fun p hp => (List.mem_append.mp hp).elim (fun z => I.pin p (List.mem_append_left _ z)) (h p), I.hok, I.len⟩
theorem nodup_ix {N : List Str} (hN : N.Nodup) {i j : Nat} {x : Str} (a : N[i]? = some x) (b : N[j]? = some x) : i = j := by
 obtain ⟨h1, e1⟩ := List.getElem?_eq_some_iff.mp a
 obtain ⟨h2, e2⟩ := List.getElem?_eq_some_iff.mp b
 exact (List.getElem_inj hN).mp (e1.trans e2.symm)
theorem store_ok2 {M : Model} {A : Around} {E : Value -> Shared -> Prop} {i : Nat} {x : Str} {v : V} {u : Value} {Q : Unit -> Shared -> Prop} (I : Inv X pins σ H s) (hN : X.N.Nodup) (hi : X.N[i]? = some x) (hx : Loc X.env.scope x) (r : RelV v u)
  (h : ∀ s', Inv X pins (σ.set i (some v)) H s' -> (∃ a, Heap.SameBut a s.heap s'.heap /\ (a = X.env.locals ∨ X.env.cells.lookup x = some a)) -> Q () s') (hf : X.fn x = true ∨ X.env.scope.names.lookup x = some .local := by first | exact .inl rfl | exact .inr rfl | assumption) : wpAny M A (storeName X.env x u) Q E s := by
 obtain ⟨m, hn, hl⟩ := id I.loc
 have hcls : (X.env.scope.kind == .class || (X.env.scope.kind == .module && X.env.locals != X.env.globals)) = false := by rw [I.ok.kind]; rfl
 have hiσ : i < σ.length := by rw [I.len]; exact (List.getElem?_eq_some_iff.mp hi).1
 have cne := I.cne
 have tracked : ∀ {a : Addr} {h' : Heap}, (∃ o, s.heap.get? a = some o /\ H a = none) -> Heap.SameBut a s.heap h' -> HOk X.prog X.w H h' := fun {a h'} ha hs b ob e => by
  obtain ⟨_, _, hfree⟩ := ha
  refine (I.hok b ob e).stay (fun c w' hc q => (hs.2 c ?_).trans q) (fun _ q => q) fun _ _ q => q
  rintro rfl
  rcases hc with rfl | hc
  ·rw [hfree] at e; cases e
  ·rw [hfree] at hc; cases hc
 rcases hx with hk | hk
 ·refine wpAny_storeName_local hk hn (fun h' hn' hs => ?_) hcls
  obtain ⟨oL, _, _, hoL, _⟩ := id hn
  refine h _ ⟨I.ok, I.os, I.bare, ⟨fun b o e n hb hx => ?_, fun b o e n hb hx => ?_, I.base.free, fun b o e hx => ?_, I.base.tups, I.base.frzs, I.base.tbls⟩, ⟨_, hn', fun j y v' e1 e2 e3 => ?_⟩, fun y c e => ?_, I.free, I.freeC, fun p hp => ?_, tracked ⟨oL, hoL, I.free⟩ hs, by simpa using I.len⟩ ⟨_, hs, .inl rfl⟩
  ·exact (hs.2 b (Nat.ne_of_lt (Nat.lt_of_lt_of_le (Heap.lt_size e) I.ok.above))).trans (I.base.keep b o e n hb hx)
  ·obtain ⟨sl, e1⟩ := I.base.slot b o e n hb hx
   exact ⟨sl, (hs.2 b (Nat.ne_of_lt (Nat.lt_of_lt_of_le (Heap.lt_size e) I.ok.above))).trans e1⟩
  ·obtain ⟨o', e1⟩ := I.base.there b o e hx
   exact ⟨o', (hs.2 b (Nat.ne_of_lt (Nat.lt_of_lt_of_le (Heap.lt_size e) I.ok.above))).trans e1⟩
  ·by_cases hj : j = i
   ·subst hj
    rw [hi] at e1; cases e1
    rw [List.getElem?_set_self hiσ] at e2
    cases e2
    exact ⟨u, r, .inl ⟨hk, by simp⟩⟩
   ·rw [List.getElem?_set_ne (Ne.symm hj)] at e2
    obtain ⟨u', r', q⟩ := hl j y v' e1 e2 e3
    refine ⟨u', r', ?_⟩
    rcases q with ⟨k, e⟩ | ⟨k, c, e, z⟩
    ·refine .inl ⟨k, ?_⟩
     have : y ≠ x := fun e => hj (nodup_ix hN e1 (e ▸ hi))
     simp [this, e]
    ·exact .inr ⟨k, c, e, z.sameBut hs (cne y c e)⟩
  ·obtain ⟨w', z⟩ := I.cell y c e
   exact ⟨w', z.sameBut hs (cne y c e)⟩
  ·obtain ⟨e, n, ne, nf, d⟩ := I.pin p hp
   exact ⟨(hs.2 p.1 ne).trans e, n, ne, nf, d⟩
 ·have hfn : X.fn x = true := by
   rcases hf with z | z
   ·exact z
   ·rw [z] at hk; cases hk
  obtain ⟨c, hc⟩ := I.ok.has x (.inl hk)
  obtain ⟨w', z⟩ := I.cell x c hc
  refine wpAny_storeName_cell I.ok.kind hk hc z (fun h' hc' hs => ?_)
  obtain ⟨oc, hoc, hocd⟩ := id z
  refine h { s with heap := h' } ⟨I.ok, I.os, I.bare, ⟨fun b o e n hb hx => ?_, fun b o e n hb hx => ?_, I.base.free, fun b o e hx => ?_, I.base.tups, I.base.frzs, I.base.tbls⟩, ⟨m, hn.sameBut hs (Ne.symm (cne x c hc)), fun j y v' e1 e2 e3 => ?_⟩, fun y c' e => ?_, I.free, I.freeC, fun p hp => ?_, tracked ⟨oc, hoc, I.freeC x c hc⟩ hs, by simpa using I.len⟩ ⟨c, hs, .inr hc⟩
  ·exact (hs.2 b (Nat.ne_of_lt (Nat.lt_of_lt_of_le (Heap.lt_size e) (I.ok.cab x c hfn hc)))).trans (I.base.keep b o e n hb hx)
  ·obtain ⟨sl, e1⟩ := I.base.slot b o e n hb hx
   exact ⟨sl, (hs.2 b (Nat.ne_of_lt (Nat.lt_of_lt_of_le (Heap.lt_size e) (I.ok.cab x c hfn hc)))).trans e1⟩
  ·obtain ⟨o', e1⟩ := I.base.there b o e hx
   exact ⟨o', (hs.2 b (Nat.ne_of_lt (Nat.lt_of_lt_of_le (Heap.lt_size e) (I.ok.cab x c hfn hc)))).trans e1⟩
  ·by_cases hj : j = i
   ·subst hj
    rw [hi] at e1; cases e1
    rw [List.getElem?_set_self hiσ] at e2
    cases e2
    exact ⟨u, r, .inr ⟨.inl hk, c, hc, hc'⟩⟩
   ·rw [List.getElem?_set_ne (Ne.symm hj)] at e2
    obtain ⟨u', r', q⟩ := hl j y v' e1 e2 e3
    refine ⟨u', r', ?_⟩
    rcases q with q | ⟨k, c', e, z'⟩
    ·exact .inl q
    ·refine .inr ⟨k, c', e, z'.sameBut hs ?_⟩
     rintro rfl
     exact hj (nodup_ix hN e1 (I.ok.inj _ _ _ e hc ▸ hi))
  ·by_cases hcc : c' = c
   ·subst hcc; exact ⟨_, hc'⟩
   ·obtain ⟨w2, z2⟩ := I.cell y c' e
    exact ⟨w2, z2.sameBut hs hcc⟩
  ·obtain ⟨e, n, ne, nf, d⟩ := I.pin p hp
   refine ⟨(hs.2 p.1 ?_).trans e, n, ne, nf, d⟩
   intro q
   rw [q, hoc] at e
   have q' : oc = p.2 := Option.some.inj e
   exact d w' (by rw [← q']; exact hocd)
theorem store_ok {M : Model} {A : Around} {E : Value -> Shared -> Prop} {i : Nat} {x : Str} {v : V} {u : Value} {Q : Unit -> Shared -> Prop} (I : Inv X pins σ H s) (hN : X.N.Nodup) (hi : X.N[i]? = some x) (hx : Loc X.env.scope x) (r : RelV v u)
  (h : ∀ s', Inv X pins (σ.set i (some v)) H s' -> Q () s') (hf : X.fn x = true ∨ X.env.scope.names.lookup x = some .local := by first | exact .inl rfl | exact .inr rfl | assumption) : wpAny M A (storeName X.env x u) Q E s :=
 store_ok2 I hN hi hx r (fun s' I' _ => h s' I') hf
theorem Inv.call' {s' : Shared} {ch : List Addr} (I : Inv X pins σ H s) (ho : s'.os = s.os) (u : Un (frs X.stack) ch H H' s.heap s'.heap) (hok : HOk X.prog X.w H' s'.heap) (hg : AllBare s'.gens)
  (hch : ∀ b ∈ ch, (b ∈ X.ex ∨ X.s₀.heap.objs.size <= b) /\ b ≠ X.env.locals /\ (∀ x c, X.env.cells.lookup x = some c -> c ≠ b) /\ ∀ p ∈ X.pn ++ pins, p.1 ≠ b) : Inv X pins σ H' s' := by
 obtain ⟨h', g', d', t', o'⟩ := s'
 have e : o' = s.os := ho
 subst e
 exact I.call (g' := g') (t' := t') (d' := d') u hok hg hch
end
abbrev XK := Value -> Option Addr -> Hp -> Prop
abbrev St := List (Option V)
abbrev VK := V -> Hp -> Prop
abbrev TE := St -> Hp -> VK -> Prop
abbrev TT := St -> Hp -> (Bool -> Hp -> Prop) -> Prop
abbrev TA := St -> Hp -> (List V -> Hp -> Prop) -> Prop
structure Ends where
 nx : St -> Hp -> Prop
 rt : VK
 bk : St -> Hp -> Prop := fun _ _ => False
 ct : St -> Hp -> Prop := fun _ _ => False
abbrev TS := Ends -> St -> Hp -> Prop
def EP (X : Cx) (pins : List (Addr × Obj)) (σ : St) (Q : VK) (u : Value) (s' : Shared) : Prop := ∃ v H', Inv X pins σ H' s' /\ RelV v u /\ Q v H'
def TP (X : Cx) (pins : List (Addr × Obj)) (σ : St) (Q : Bool -> Hp -> Prop) (b : Bool) (s' : Shared) : Prop := ∃ H', Inv X pins σ H' s' /\ Q b H'
def AP (X : Cx) (pins : List (Addr × Obj)) (σ : St) (Q : List V -> Hp -> Prop) (us : List Value) (s' : Shared) : Prop := ∃ vs H', Inv X pins σ H' s' /\ Vals vs us /\ Q vs H'
def SP (X : Cx) (pins : List (Addr × Obj)) (D : Ends) (f : Flow) (s' : Shared) : Prop :=
 match f with
 | .next => ∃ σ' H', Inv X pins σ' H' s' /\ D.nx σ' H'
 | .brk => ∃ σ' H', Inv X pins σ' H' s' /\ D.bk σ' H'
 | .cont => ∃ σ' H', Inv X pins σ' H' s' /\ D.ct σ' H'
 | .ret u => ∃ v σ' H', Inv X pins σ' H' s' /\ RelV v u /\ D.rt v H'
def PE (X : Cx) (e : Expr) (t : TE) : Prop :=
 ∀ (pins : List (Addr × Obj)) (s : Shared) (σ : St) (H : Hp) (Q : VK), Inv X pins σ H s -> t σ H Q -> wpAny (model X.prog X.w) X.A (eval e X.env) (EP X pins σ Q) X.xe s
def PT (X : Cx) (e : Expr) (t : TT) : Prop :=
 ∀ (pins : List (Addr × Obj)) (s : Shared) (σ : St) (H : Hp) (Q : Bool -> Hp -> Prop), Inv X pins σ H s -> t σ H Q -> wpAny (model X.prog X.w) X.A (isTrue e X.env (eval e X.env)) (TP X pins σ Q) X.xe s
def PW (X : Cx) (e : Expr) (t : TT) : Prop :=
 ∀ (whole : Sem Value) (pins : List (Addr × Obj)) (s : Shared) (σ : St) (H : Hp) (Q : Bool -> Hp -> Prop), Inv X pins σ H s -> t σ H Q -> wpAny (model X.prog X.w) X.A (isTrue e X.env whole) (TP X pins σ Q) X.xe s
theorem PW.pt {X : Cx} {e : Expr} {t : TT} (h : PW X e t) : PT X e t := h _
def PA (X : Cx) (es : List Expr) (t : TA) : Prop :=
 ∀ (pos : Pos) (pins : List (Addr × Obj)) (s : Shared) (σ : St) (H : Hp) (Q : List V -> Hp -> Prop), Inv X pins σ H s -> t σ H Q -> wpAny (model X.prog X.w) X.A (spliced (backTo pos (starEach es X.env))) (AP X pins σ Q) X.xe s
def PS (X : Cx) (st : Stmt) (t : TS) : Prop :=
 ∀ (pins : List (Addr × Obj)) (s : Shared) (σ : St) (H : Hp) (D : Ends), Inv X pins σ H s -> t D σ H -> wpAny (model X.prog X.w) X.A (exec st X.env) (SP X pins D) X.xe s
def PSs (X : Cx) (st : List Stmt) (t : TS) : Prop :=
 ∀ (pins : List (Addr × Obj)) (s : Shared) (σ : St) (H : Hp) (D : Ends), Inv X pins σ H s -> t D σ H -> wpAny (model X.prog X.w) X.A (execs st X.env) (SP X pins D) X.xe s
theorem thn {α : Type} {t : Sem α} {Q Q' : α -> Shared -> Prop} {M : Model} {A : Around} {E : Value -> Shared -> Prop} {s : Shared} (h : wpAny M A t Q E s) (hQ : ∀ a s, Q a s -> Q' a s) : wpAny M A t Q' E s := wpAny_mono h hQ fun _ _ x => x
end L2
namespace L2
open PySem PySem.Spec PyProof.Rows
section
variable {X : Cx}
theorem bin {a b : Expr} {ta tb : TE} (ha : PE X a ta) (hb : PE X b tb) {pins : List (Addr × Obj)} {s : Shared} {σ : St} {H : Hp} {R : V -> V -> Hp -> Prop} (I : Inv X pins σ H s) (h : ta σ H fun x H1 => tb σ H1 fun y H2 => R x y H2)
  {α : Type} {Q : α -> Shared -> Prop} {f : Value -> Value -> Sem α}
  (hf : ∀ v u s2 x y H2, Inv X pins σ H2 s2 -> RelV x v -> RelV y u -> R x y H2 -> wpAny (model X.prog X.w) X.A (f v u) Q X.xe s2) :
  wpAny (model X.prog X.w) X.A (eval a X.env) (fun v s₁ => wpAny (model X.prog X.w) X.A (eval b X.env) (fun u s₂ => wpAny (model X.prog X.w) X.A (f v u) Q X.xe s₂) X.xe s₁) X.xe s := by
 refine thn (ha pins s σ H _ I h) fun v s1 ⟨x, H1, I1, r1, q1⟩ => ?_
 refine thn (hb pins s1 σ H1 _ I1 q1) fun u s2 ⟨y, H2, I2, r2, q2⟩ => ?_
 exact hf v u s2 x y H2 I2 r1 r2 q2
def tVar (i : Nat) : TE := fun σ H Q => ∃ v, σ[i]? = some (some v) /\ Q v H
def tC (v : V) : TE := fun _ H Q => Q v H
theorem pe_var {i : Nat} {x : Str} {pos : Pos} (hN : X.N[i]? = some x) (hv : Vis X.env.scope x) (hd : (x == ("__debug__" : Str)) = false := by decide) (hcd : (x == ("__classdict__" : Str)) = false := by decide) : PE X (.Name x pos) (tVar i) := by
 intro pins s σ H Q I h
 obtain ⟨v, e, h⟩ := h
 obtain ⟨m, hn, hl⟩ := I.loc
 obtain ⟨u, r, l⟩ := hl i x v hN e hv
 have fin : EP X pins σ Q u s := ⟨v, H, I, r, h⟩
 rcases l with ⟨hk, hm⟩ | ⟨hk, c, hc, hcell⟩
 ·exact wpAny_Name (wpAny_loadName_local I.ok.kind hk hn hm fin) hd
 ·rcases hk with hk | hk
  ·exact wpAny_Name (wpAny_loadName_cell I.ok.kind hk hc hcell fin) hd
  ·exact wpAny_Name (wpAny_loadName_free I.ok.kind hk hc hcell fin hcd) hd
theorem pe_int {i j pos} : PE X (.Constant (.int i) j pos) (tC (.int i)) := fun _ _ _ H _ I h => wpAny_Constant_int ⟨.int i, H, I.tok _, ⟨_, rfl⟩, h⟩
theorem pe_bl {b j pos} : PE X (.Constant (.bool b) j pos) (tC (.bl b)) := fun _ _ _ H _ I h => Constant_bool ⟨.bl b, H, I, rfl, h⟩
theorem pe_str {x j pos} : PE X (.Constant (.str x) j pos) (tC (.str x)) := fun _ _ _ H _ I h => Calls.Constant_str ⟨.str x, H, I.tok _, ⟨_, rfl⟩, h⟩
def Gl (X : Cx) (x : Str) : Prop := X.env.kindOf x = some .globalImplicit
theorem ld_glob {E : Value -> Shared -> Prop} {pins : List (Addr × Obj)} {s : Shared} {σ : St} {H : Hp} {x : Str} {u : Value} {pos : Pos} {Q : Value -> Shared -> Prop} (I : Inv X pins σ H s) (hg : Gl X x) (hm : X.mg x = some u) (h : Q u s)
  (hd : (x == ("__debug__" : Str)) = false := by decide) : wpAny (model X.prog X.w) X.A (eval (.Name x pos) X.env) Q E s :=
 Calls.Name_function_global I.ok.kind hg (Calls.loadGlobal_global (by rw [I.ok.glob]; exact I.mod.glob.keeps I.bk) hm h) hd
theorem ld_blt {E : Value -> Shared -> Prop} {pins : List (Addr × Obj)} {s : Shared} {σ : St} {H : Hp} {x : Str} {u : Value} {pos : Pos} {Q : Value -> Shared -> Prop} (I : Inv X pins σ H s) (hg : Gl X x) (hm : X.mg x = none) (hv : bootBuiltins x = some u) (h : Q u s)
  (hn : x ≠ "__name__" := by decide) (hd : (x == ("__debug__" : Str)) = false := by decide) : wpAny (model X.prog X.w) X.A (eval (.Name x pos) X.env) Q E s := by
 obtain ⟨mb, h1, h2⟩ := I.mod.blt
 exact Calls.Name_function_global I.ok.kind hg (Calls.loadGlobal_builtin (by rw [I.ok.glob]; exact I.mod.glob.keeps I.bk) hm (by rw [I.ok.blt]; exact h1.keeps I.bk) ((h2 x hn).trans hv) h) hd
theorem pe_bltn {x : Str} {v : V} {u : Value} {pos : Pos} (hg : Gl X x) (hm : X.mg x = none) (hv : bootBuiltins x = some u) (r : RelV v u) (hn : x ≠ "__name__" := by decide) (hd : (x == ("__debug__" : Str)) = false := by decide) : PE X (.Name x pos) (tC v) :=
 fun _ _ _ H _ I h => ld_blt I hg hm hv ⟨v, H, I, r, h⟩ hn hd
variable {a b : Expr} {ta tb : TE} {pos : Pos}
def PC (X : Cx) (op : CmpOp) (a b : Expr) (t : TE) : Prop :=
 ∀ (pins : List (Addr × Obj)) (s : Shared) (σ : St) (H : Hp) (Q : VK), Inv X pins σ H s -> t σ H Q ->
  wpAny (model X.prog X.w) X.A (eval a X.env) (fun v s₁ => wpAny (model X.prog X.w) X.A (eval b X.env) (fun u s₂ => wpAny (model X.prog X.w) X.A (compareOp op v u) (EP X pins σ Q) X.xe s₂) X.xe s₁) X.xe s
def tB (t : TE) : TT := fun σ H Q => t σ H fun x H1 => ∃ c, x = .bl c /\ Q c H1
theorem pt_cmp {op : CmpOp} {t : TE} (h : PC X op a b t) (h1 : behindInMarks op b = false := by first | exact nobehind _ (by decide) (by decide) | rfl) : PT X (.Compare a [op] [b] pos) (tB t) := by
 intro pins s σ H Q I hw
 refine wpAny_isTrue_Compare1 (thn (h pins s σ H _ I hw) fun v s1 h1 => thn h1 fun u s2 h2 => thn h2 fun c s3 ⟨x, H1, I1, r1, q1⟩ => ?_) h1
 obtain ⟨d, rfl, q⟩ := q1
 cases r1
 exact wpAny_truthy_bool ⟨H1, I1, q⟩
theorem pt_val {e : Expr} {t : TE} (h : PE X e t) (he : ∀ whole, isTrue e X.env whole = (do let v ← whole; standAt e.pos; holding [v] (truthy v)) := by intro _; rfl) : PT X e (tB t) := by
 intro pins s σ H Q I hw
 refine isTrue_plain (thn (h pins s σ H _ I hw) fun v s1 ⟨x, H1, I1, r1, q1⟩ => ?_) (he _)
 obtain ⟨d, rfl, q⟩ := q1
 cases r1
 exact wpAny_truthy_bool ⟨H1, I1, q⟩
variable {tA tB' : TT} {rest : List Expr}
def tAnd (t u : TT) : TT := fun σ H Q => t σ H fun c H1 => if c = true then u σ H1 Q else Q false H1
def tOr (t u : TT) : TT := fun σ H Q => t σ H fun c H1 => if c = true then Q true H1 else u σ H1 Q
def tNot (t : TT) : TT := fun σ H Q => t σ H fun c H1 => Q (!c) H1
theorem pw_and1 (ha : PT X a tA) : PW X (.BoolOp .And [a] pos) tA := by
 intro wh pins s σ H Q I h
 refine isTrue_and (thn (ha pins s σ H Q I h) fun c s1 e => ?_)
 cases c with
 | true => exact isTrue_and_nil e
 | false => exact e
theorem pw_or1 (ha : PT X a tA) : PW X (.BoolOp .Or [a] pos) tA := by
 intro wh pins s σ H Q I h
 refine isTrue_or (thn (ha pins s σ H Q I h) fun c s1 e => ?_)
 cases c with
 | false => exact isTrue_or_nil e
 | true => exact e
theorem pw_and (ha : PT X a tA) (hb : PW X (.BoolOp .And (b :: rest) pos) tB') : PW X (.BoolOp .And (a :: b :: rest) pos) (tAnd tA tB') := by
 intro wh pins s σ H Q I h
 refine isTrue_and (thn (ha pins s σ H _ I h) fun c s1 ⟨H1, I1, q1⟩ => ?_)
 cases c with
 | true => exact hb wh pins s1 σ H1 Q I1 q1
 | false => exact ⟨H1, I1, q1⟩
theorem pw_or (ha : PT X a tA) (hb : PW X (.BoolOp .Or (b :: rest) pos) tB') : PW X (.BoolOp .Or (a :: b :: rest) pos) (tOr tA tB') := by
 intro wh pins s σ H Q I h
 refine isTrue_or (thn (ha pins s σ H _ I h) fun c s1 ⟨H1, I1, q1⟩ => ?_)
 cases c with
 | true => exact ⟨H1, I1, q1⟩
 | false => exact hb wh pins s1 σ H1 Q I1 q1
theorem pt_not (ha : PT X a tA) : PT X (.UnaryOp .Not a pos) (tNot tA) := by
 intro pins s σ H Q I h
 exact isTrue_not (ha pins s σ H (fun c H1 => Q (!c) H1) I h)
def tAndV (ta tb : TE) : TE := fun σ H Q => ta σ H fun x H1 => ∃ c, x = .bl c /\ if c = true then tb σ H1 Q else Q (.bl false) H1
def tOrV (ta tb : TE) : TE := fun σ H Q => ta σ H fun x H1 => ∃ c, x = .bl c /\ if c = true then Q (.bl true) H1 else tb σ H1 Q
theorem pe_one {op} {t : TE} (h : PE X a t) : PE X (.BoolOp op [a] pos) t := fun pins s σ H Q I hw => BoolOp_one (h pins s σ H Q I hw)
theorem pe_and (ha : PE X a ta) (hb : PE X (.BoolOp .And (b :: rest) pos) tb) : PE X (.BoolOp .And (a :: b :: rest) pos) (tAndV ta tb) := by
 intro pins s σ H Q I h
 refine BoolOp_and (thn (ha pins s σ H _ I h) fun v s1 ⟨x, H1, I1, r1, q1⟩ => ?_)
 obtain ⟨c, rfl, q1⟩ := q1
 cases r1
 refine wpAny_truthy_bool ?_
 cases c with
 | true => exact hb pins s1 σ H1 Q I1 q1
 | false => exact ⟨.bl false, H1, I1, rfl, q1⟩
theorem pe_or (ha : PE X a ta) (hb : PE X (.BoolOp .Or (b :: rest) pos) tb) : PE X (.BoolOp .Or (a :: b :: rest) pos) (tOrV ta tb) := by
 intro pins s σ H Q I h
 refine BoolOp_or (thn (ha pins s σ H _ I h) fun v s1 ⟨x, H1, I1, r1, q1⟩ => ?_)
 obtain ⟨c, rfl, q1⟩ := q1
 cases r1
 refine wpAny_truthy_bool ?_
 cases c with
 | false => exact hb pins s1 σ H1 Q I1 q1
 | true => exact ⟨.bl true, H1, I1, rfl, q1⟩
end
end L2
namespace L2
open PySem PySem.Spec PyProof.Rows
def SqL (K : W.Frag) (H : Hp) (a : Addr) (xs : List V) : Prop :=
 Rd H a (.lst xs) ∨
  ∃ (o : Obj) (its : Array Value) (n : Nat), K.lookup a = some o /\ o.cls = .type "list" /\ o.dict = none /\ o.data = .seq its n /\ its.size <= sizeLine /\ Vals xs its.toList
def SqT (K : W.Frag) (H : Hp) (a : Addr) (xs : List V) : Prop :=
 Rd H a (.tup xs) ∨
  ∃ (o : Obj) (its : Array Value) (n : Nat), K.lookup a = some o /\ o.cls = .type "tuple" /\ o.data = .seq its n /\ its.size <= sizeLine /\ Vals xs its.toList
def absV : Value -> Option V
 | .none => some .non
 | .bool b => some (.bl b)
 | .int i _ => some (.int i)
 | .str x _ => some (.str x)
 | .bytes b _ => some (.byt b)
 | .float b _ => some (.flt b)
 | .ref a => some (.ref a)
 | .type n => some (.ty n)
 | _ => none
theorem RelV.abs {x : V} {u : Value} (r : RelV x u) : absV u = some x := by
 cases x with
 | non => cases r; rfl
 | bl _ => cases r; rfl
 | int _ => obtain ⟨t, rfl⟩ := r; rfl
 | str _ => obtain ⟨t, rfl⟩ := r; rfl
 | byt _ => obtain ⟨t, rfl⟩ := r; rfl
 | flt _ => obtain ⟨t, rfl⟩ := r; rfl
 | ref _ => cases r; rfl
 | ty _ => cases r; rfl
theorem RelV.inj {x y : V} {u : Value} (r : RelV x u) (q : RelV y u) : x = y := Option.some.inj (r.abs.symm.trans q.abs)
theorem Vals.inj : ∀ {xs ys : List V} {us : List Value}, Vals xs us -> Vals ys us -> xs = ys
 | _, _, _, .nil, .nil => rfl
 | _, _, _, .cons r t, .cons r' t' => by rw [r.inj r', Vals.inj t t']
section
variable {X : Cx} {pins : List (Addr × Obj)} {σ : St} {H : Hp} {s : Shared} {a : Addr} {xs ys : List V}
theorem SqL.of {K : W.Frag} (h : H a = some (.lst xs)) : SqL K H a xs := .inl (.inl h)
theorem SqT.of {K : W.Frag} (h : H a = some (.tup xs)) : SqT K H a xs := .inl (.inl h)
theorem Inv.list (I : Inv X pins σ H s) (h : SqL X.K H a xs) : ∃ its : List Value, Vals xs its /\ PlainL s.heap a its.toArray /\ xs.length <= sizeLine := by
 rcases h with h | ⟨o, its, n, hk, hc, hd, hs, hz, r⟩
 ·obtain ⟨z, its, n, r, e⟩ := h.ok I.hok
  exact ⟨its, r, ⟨_, n, e, rfl, rfl, rfl⟩, z⟩
 ·refine ⟨its.toList, r, ⟨o, n, I.kIn a o hk, hc, hd, by simpa using hs⟩, ?_⟩
  have e := r.length
  simp only [Array.length_toList] at e
  omega
theorem Inv.tuple (I : Inv X pins σ H s) (h : SqT X.K H a xs) : ∃ its : List Value, Vals xs its /\ IsTup s.heap a its.toArray /\ xs.length <= sizeLine := by
 rcases h with h | ⟨o, its, n, hk, hc, hs, hz, r⟩
 ·obtain ⟨z, its, r, p⟩ := h.ok I.hok
  exact ⟨its, r, p, z⟩
 ·refine ⟨its.toList, r, ⟨o, I.kIn a o hk, hc, n, by simpa using hs⟩, ?_⟩
  have e := r.length
  simp only [Array.length_toList] at e
  omega
theorem Inv.list_inj (I : Inv X pins σ H s) (h : SqL X.K H a xs) (h' : SqL X.K H a ys) : xs = ys := by
 obtain ⟨its, r, ⟨o, n, e, _, _, d⟩, _⟩ := I.list h
 obtain ⟨its', r', ⟨o', n', e', _, _, d'⟩, _⟩ := I.list h'
 rw [e] at e'; cases e'
 rw [d] at d'
 injection d' with d1 _
 have : its = its' := by simpa using congrArg Array.toList d1
 subst this
 exact r.inj r'
theorem Inv.tuple_inj (I : Inv X pins σ H s) (h : SqT X.K H a xs) (h' : SqT X.K H a ys) : xs = ys := by
 obtain ⟨its, r, ⟨o, e, _, n, d⟩, _⟩ := I.tuple h
 obtain ⟨its', r', ⟨o', e', _, n', d'⟩, _⟩ := I.tuple h'
 rw [e] at e'; cases e'
 rw [d] at d'
 injection d' with d1 _
 have : its = its' := by simpa using congrArg Array.toList d1
 subst this
 exact r.inj r'
end
abbrev Cx.wish (X : Cx) (E : Value -> Shared -> Prop) : Cx := { X with xe := E }
abbrev Cx.nox (X : Cx) : Cx := X.wish fun _ _ => False
theorem Cx.Ok.wish {X : Cx} (ok : X.Ok) (E : Value -> Shared -> Prop) : (X.wish E).Ok :=
 ⟨ok.mod, ok.kind, ok.glob, ok.blt, ok.above, ok.inj, ok.has, ok.cab, ok.hd, ok.frames, ok.stk, ok.exf, ok.bs, ok.bsz, ok.noex, ok.exfs, ok.funs, ok.frf⟩
theorem Cx.Ok.unwish {X : Cx} {E : Value -> Shared -> Prop} (ok : (X.wish E).Ok) : X.Ok :=
 ⟨ok.mod, ok.kind, ok.glob, ok.blt, ok.above, ok.inj, ok.has, ok.cab, ok.hd, ok.frames, ok.stk, ok.exf, ok.bs, ok.bsz, ok.noex, ok.exfs, ok.funs, ok.frf⟩
section
variable {X : Cx} {pins : List (Addr × Obj)} {σ : St} {H : Hp} {s : Shared} {E : Value -> Shared -> Prop}
theorem Inv.wish (I : Inv X pins σ H s) (E : Value -> Shared -> Prop) : Inv (X.wish E) pins σ H s := ⟨I.ok.wish E, I.os, I.bare, I.base, I.loc, I.cell, I.free, I.freeC, I.pin, I.hok, I.len⟩
theorem Inv.unwish (I : Inv (X.wish E) pins σ H s) : Inv X pins σ H s := ⟨I.ok.unwish, I.os, I.bare, I.base, I.loc, I.cell, I.free, I.freeC, I.pin, I.hok, I.len⟩
theorem SP.unwish {D : Ends} {f : Flow} {s' : Shared} (h : SP (X.wish E) pins D f s') : SP X pins D f s' := by
 cases f with
 | next => obtain ⟨σ', H', I, q⟩ := h; exact ⟨σ', H', I.unwish, q⟩
 | brk => obtain ⟨σ', H', I, q⟩ := h; exact ⟨σ', H', I.unwish, q⟩
 | cont => obtain ⟨σ', H', I, q⟩ := h; exact ⟨σ', H', I.unwish, q⟩
 | ret u => obtain ⟨v, σ', H', I, r, q⟩ := h; exact ⟨v, σ', H', I.unwish, r, q⟩
theorem PSs.nox {st : List Stmt} {t : TS} (h : PSs X.nox st t) : PSs X st t := fun pins s σ H D I hw =>
 wpAny_mono (h pins s σ H D (I.wish _) hw) (fun _ _ q => q.unwish) fun _ _ z => False.elim z
end
section
variable {X : Cx} {st : Stmt} {rest : List Stmt} {t u : TS} {e : Expr} {te : TE} {pos : Pos}
def tNext : TS := fun D σ H => D.nx σ H
def tSeq (t u : TS) : TS := fun D σ H => t { D with nx := u D } σ H
theorem pss_nil : PSs X [] tNext := fun _ _ σ H _ I h => wpAny_execs_nil ⟨σ, H, I, h⟩
theorem pss_cons (h1 : PS X st t) (h2 : PSs X rest u) : PSs X (st :: rest) (tSeq t u) := by
 intro pins s σ H D I h
 refine wpAny_execs_cons (thn (h1 pins s σ H { D with nx := u D } I h) fun f s1 q => ?_)
 cases f with
 | next =>
  obtain ⟨σ', H', I', q⟩ := q
  exact h2 pins s1 σ' H' D I' q
 | ret v => exact q
 | brk => exact q
 | cont => exact q
theorem pss_one (h1 : PS X st t) : PSs X [st] t := by
 intro pins s σ H D I h
 refine wpAny_execs_cons (thn (h1 pins s σ H D I h) fun f s1 q => ?_)
 cases f with
 | next => exact wpAny_execs_nil q
 | ret v => exact q
 | brk => exact q
 | cont => exact q
theorem Inv.quiet {pins : List (Addr × Obj)} {σ : St} {H : Hp} {s : Shared} (I : Inv X pins σ H s) : interactive X.env = false := by simp [interactive, I.ok.kind]
def tDrop (te : TE) : TS := fun D σ H => te σ H fun _ H1 => D.nx σ H1
theorem ps_expr (he : PE X e te) (hs : swapsWith e none pos.line X.env = pure false := by rfl) : PS X (.Expr e pos) (tDrop te) := by
 intro pins s σ H D I h
 exact wpAny_Expr_any (thn (he pins s σ H _ I h) fun v s1 ⟨x, H1, I1, r1, q1⟩ => ⟨σ, H1, I1, q1⟩) I.quiet hs
def tRet (te : TE) : TS := fun D σ H => te σ H D.rt
theorem ps_ret (he : PE X e te) : PS X (.Return (some e) pos) (tRet te) := by
 intro pins s σ H D I h
 exact wpAny_Return_some (thn (he pins s σ H _ I h) fun v s1 ⟨x, H1, I1, r1, q1⟩ => ⟨x, σ, H1, I1, r1, q1⟩)
def tIfS (c : TT) (t u : TS) : TS := fun D σ H => c σ H fun b H1 => if b = true then t D σ H1 else u D σ H1
theorem ps_if {c : Expr} {a b : List Stmt} {tc : TT} (hc : PT X c tc) (ha : PSs X a t) (hb : PSs X b u) : PS X (.If c a b pos) (tIfS tc t u) := by
 intro pins s σ H D I h
 refine wpAny_If (thn (hc pins s σ H _ I h) fun d s1 ⟨H1, I1, q1⟩ => ?_)
 cases d with
 | true => exact ha pins s1 σ H1 D I1 q1
 | false => exact hb pins s1 σ H1 D I1 q1
end
abbrev TG := V -> St -> Hp -> (St -> Hp -> Prop) -> Prop
abbrev TGs := List V -> St -> Hp -> (St -> Hp -> Prop) -> Prop
def PG (X : Cx) (target : Expr) (t : TG) : Prop :=
 ∀ (pins : List (Addr × Obj)) (s : Shared) (σ : St) (H : Hp) (v : V) (u : Value) (Q : St -> Hp -> Prop), Inv X pins σ H s -> RelV v u -> t v σ H Q ->
  wpAny (model X.prog X.w) X.A (assign target X.env u) (fun _ s' => ∃ σ' H', Inv X pins σ' H' s' /\ Q σ' H') X.xe s
def PGs (X : Cx) (ts : List Expr) (t : TGs) : Prop :=
 ∀ (pins : List (Addr × Obj)) (s : Shared) (σ : St) (H : Hp) (vs : List V) (us : List Value) (Q : St -> Hp -> Prop), Inv X pins σ H s -> Vals vs us -> t vs σ H Q ->
  wpAny (model X.prog X.w) X.A (assignInOrder ((assignEach ts X.env).map (·.2)) us) (fun _ s' => ∃ σ' H', Inv X pins σ' H' s' /\ Q σ' H') X.xe s
abbrev TSet := V -> V -> V -> Hp -> (Hp -> Prop) -> Prop
def PSet (X : Cx) (t : TSet) : Prop :=
 ∀ (pins : List (Addr × Obj)) (s : Shared) (σ : St) (H : Hp) (o i v : V) (ov iv u : Value) (Q : Hp -> Prop), Inv X pins σ H s -> RelV o ov -> RelV i iv -> RelV v u -> t o i v H Q ->
  wpAny (model X.prog X.w) X.A (setItem ov iv u) (fun _ s' => ∃ H', Inv X pins σ H' s' /\ Q H') X.xe s
abbrev TIp := V -> V -> Hp -> VK -> Prop
def PIp (X : Cx) (op : Operator) (t : TIp) : Prop :=
 ∀ (pins : List (Addr × Obj)) (s : Shared) (σ : St) (H : Hp) (x y : V) (v u : Value) (Q : VK), Inv X pins σ H s -> RelV x v -> RelV y u -> t x y H Q ->
  wpAny (model X.prog X.w) X.A (inplaceOp op v u) (EP X pins σ Q) X.xe s
section
variable {X : Cx} {pos : Pos}
def gName (i : Nat) : TG := fun v σ H Q => Q (σ.set i (some v)) H
theorem pg_name {i : Nat} {x : Str} (hN : X.N.Nodup) (hi : X.N[i]? = some x) (hx : Loc X.env.scope x) (hf : X.fn x = true ∨ X.env.scope.names.lookup x = some .local := by first | exact .inl rfl | exact .inr rfl | assumption) : PG X (.Name x pos) (gName i) := by
 intro pins s σ H v u Q I r h
 exact wpAny_assign_Name (store_ok I hN hi hx r (fun s' I' => ⟨_, H, I', h⟩) hf)
def gNil : TGs := fun vs σ H Q => vs = [] /\ Q σ H
def gCons (t : TG) (u : TGs) : TGs := fun vs σ H Q => ∃ v r, vs = v :: r /\ t v σ H fun σ' H' => u r σ' H' Q
theorem pgs_nil : PGs X [] gNil := by
 intro pins s σ H vs us Q I r h
 obtain ⟨e, h⟩ := h
 subst e
 cases r
 exact assignInOrder_nil ⟨σ, H, I, h⟩
theorem pgs_cons {e : Expr} {es : List Expr} {t : TG} {u : TGs} (h1 : PG X e t) (h2 : PGs X es u)
  (hs : (assignEach (e :: es) X.env).map (·.2) = assign e X.env :: (assignEach es X.env).map (·.2) := by rfl) : PGs X (e :: es) (gCons t u) := by
 intro pins s σ H vs us Q I r h
 obtain ⟨v, vr, e1, h⟩ := h
 subst e1
 cases r with
 | cons r rr =>
  rw [hs]
  refine assignInOrder_cons (thn (h1 pins s σ H _ _ _ I r h) fun _ s1 ⟨σ1, H1, I1, q1⟩ => ?_)
  exact h2 pins s1 σ1 H1 _ _ Q I1 rr q1
def gTup (K : W.Frag) (n : Nat) (t : TGs) : TG := fun v σ H Q => ∃ a xs, v = .ref a /\ SqT K H a xs /\ xs.length = n /\ t xs σ H Q
theorem pg_tup {es : List Expr} {k : Nat} {t : TGs} {n : Nat} (hc : X.calm = true) (h : PGs X es t)
  (hn : (assignEach es X.env).length = n := by rfl) (hst : (assignEach es X.env).findIdx? (·.1) = none := by rfl) : PG X (.Tuple es k pos) (gTup X.K n t) := by
 intro pins s σ H v u Q I r hw
 obtain ⟨a, xs, e1, hq, hl, hw⟩ := hw
 subst e1
 cases r
 obtain ⟨its, rv, ht, hz⟩ := I.tuple hq
 refine assign_Tuple_tuple (I.ok.hd hc) ht (by simp [hn, ← hl, rv.length]) hst fun h' hx => ?_
 have I1 : Inv X pins σ H { s with heap := h' } := I.kept (t' := s.toks) fun b o e => hx b o (Nat.ne_of_lt (Heap.lt_size e)) e
 exact h pins _ σ H xs _ Q I1 (by simpa using rv) hw
def gSub (to ti : TE) (t : TSet) : TG := fun v σ H Q => to σ H fun o H1 => ti σ H1 fun i H2 => t o i v H2 fun H3 => Q σ H3
theorem pg_sub {o i : Expr} {to ti : TE} {t : TSet} (ho : PE X o to) (hi : PE X i ti) (hs : PSet X t)
  (ha : ∀ v, assign (.Subscript o i pos) X.env v = (do
   let ov ← holding [v] (eval o X.env)
   let iv ← holding [v, ov] (eval i X.env)
   standAt pos
   holding [v, ov, iv] (setItem ov iv v)
   release [v, ov, iv] []) := by intro _; rfl) : PG X (.Subscript o i pos) (gSub to ti t) := by
 intro pins s σ H v u Q I r h
 rw [ha]
 refine wpAny_bind (wpAny_holding (thn (ho pins s σ H _ I h) fun ov s1 ⟨x, H1, I1, r1, q1⟩ => ?_))
 refine wpAny_bind (wpAny_holding (thn (hi pins s1 σ H1 _ I1 q1) fun iv s2 ⟨y, H2, I2, r2, q2⟩ => ?_))
 refine wpAny_bind (wpAny_standAt (wpAny_bind (wpAny_holding (thn (hs pins s2 σ H2 x y v ov iv u _ I2 r1 r2 r q2) fun _ s3 ⟨H3, I3, q3⟩ => ?_))))
 exact wpAny_release ⟨σ, H3, I3, q3⟩
def tAsg (te : TE) (g : TG) : TS := fun D σ H => te σ H fun x H1 => g x σ H1 D.nx
theorem ps_asg {tg e : Expr} {te : TE} {g : TG} (he : PE X e te) (hg : PG X tg g) (hs : swapsWithSole [tg] e pos.line X.env = pure false := by rfl) (hw : swappedStores [tg] e X.env = pure none := by rfl)
  (h1 : (assignEach [tg] X.env).map (·.2) = [assign tg X.env] := by rfl) : PS X (.Assign [tg] e pos) (tAsg te g) := by
 intro pins s σ H D I h
 refine wpAny_Assign_stores (thn (he pins s σ H _ I h) fun v s1 ⟨x, H1, I1, r1, q1⟩ => ?_) hs hw
 rw [h1]
 exact thn (hg pins s1 σ H1 x v _ I1 r1 q1) fun _ s2 q => q
theorem ps_set {i : Nat} {x : Str} {e : Expr} {te : TE} {pos' : Pos} (hN : X.N.Nodup) (hi : X.N[i]? = some x) (hx : Loc X.env.scope x) (he : PE X e te) (hs : swapsWith e (some (.Name x pos')) pos.line X.env = pure false := by rfl) (hf : X.fn x = true ∨ X.env.scope.names.lookup x = some .local := by first | exact .inl rfl | exact .inr rfl | assumption) :
  PS X (.Assign [.Name x pos'] e pos) (tAsg te (gName i)) := by
 intro pins s σ H D I h
 refine wpAny_Assign_Name (thn (he pins s σ H _ I h) fun v s1 ⟨y, H1, I1, r1, q1⟩ => ?_) hs
 exact store_ok I1 hN hi hx r1 (fun s2 I2 => ⟨_, H1, I2, q1⟩) hf
def tAug (i : Nat) (te : TE) (ti : TIp) : TS := fun D σ H => ∃ x, σ[i]? = some (some x) /\ te σ H fun y H1 => ti x y H1 fun z H2 => D.nx (σ.set i (some z)) H2
theorem ps_aug {i : Nat} {x : Str} {e : Expr} {te : TE} {op : Operator} {ti : TIp} {pos' : Pos} (hN : X.N.Nodup) (hi : X.N[i]? = some x) (hx : Loc X.env.scope x) (he : PE X e te) (ho : PIp X op ti) (hf : X.fn x = true ∨ X.env.scope.names.lookup x = some .local := by first | exact .inl rfl | exact .inr rfl | assumption) :
  PS X (.AugAssign (.Name x pos') op e pos) (tAug i te ti) := by
 intro pins s σ H D I h
 obtain ⟨v, e1, h⟩ := h
 obtain ⟨m, hn, hl⟩ := I.loc
 have vis : Vis X.env.scope x := by rcases hx with k | k; exact .inl k; exact .inr (.inl k)
 obtain ⟨u, r, l⟩ := hl i x v hi e1 vis
 refine wpAny_AugAssign_Name ?_
 have go : wpAny (model X.prog X.w) X.A (eval e X.env) (fun w s₂ => wpAny (model X.prog X.w) X.A (inplaceOp op u w) (fun r s₃ => wpAny (model X.prog X.w) X.A (storeName X.env x r) (fun _ => SP X pins D .next) X.xe s₃) X.xe s₂) X.xe s := by
  refine thn (he pins s σ H _ I h) fun w s1 ⟨y, H1, I1, r1, q1⟩ => ?_
  refine thn (ho pins s1 σ H1 v y u w _ I1 r r1 q1) fun z s2 ⟨zv, H2, I2, r2, q2⟩ => ?_
  exact store_ok I2 hN hi hx r2 (fun s3 I3 => ⟨_, H2, I3, q2⟩) hf
 rcases l with ⟨hk, hm⟩ | ⟨hk, c, hc, hcell⟩
 ·exact wpAny_loadName_local I.ok.kind hk hn hm go
 ·rcases hk with hk | hk
  ·exact wpAny_loadName_cell I.ok.kind hk hc hcell go
  ·rcases hx with k | k
   ·have : X.env.scope.names.lookup x = some .free := hk
    rw [k] at this; cases this
   ·have : X.env.scope.names.lookup x = some .free := hk
    rw [k] at this; cases this
def ipI (f : Int -> Int -> Int) : TIp := fun x y H Q => ∃ i j, x = .int i /\ y = .int j /\ Q (.int (f i j)) H
theorem ip_add : PIp X .Add (ipI fun i j => i + j) := by
 intro pins s σ H x y v u Q I r1 r2 h
 obtain ⟨i, j, e1, e2, q⟩ := h
 subst e1; subst e2
 obtain ⟨t, rfl⟩ := r1
 obtain ⟨t', rfl⟩ := r2
 exact iadd_int ⟨.int _, H, I.tok _, ⟨_, rfl⟩, q⟩
end
section
variable {X : Cx} {pos : Pos}
def tWhile (c : TT) (tb : TS) : TS := fun D σ H => ∃ W : Nat -> St -> Hp -> Prop, (∃ m, W m σ H) /\ ∀ m σ H, W m σ H ->
 c σ H fun b H1 => if b = true then ∃ N : St -> Hp -> Prop, (∀ σ' H', N σ' H' -> ∃ m', m' < m /\ W m' σ' H') /\ tb { D with nx := N, ct := N, bk := D.nx } σ H1 else D.nx σ H1
theorem ps_while {c : Expr} {body : List Stmt} {tc : TT} {tb : TS} (hp : PassesOwn (model X.prog X.w) X.A X.env X.xe) (hc : PT X c tc) (hb : PSs X body tb) : PS X (.While c body [] pos) (tWhile tc tb) := by
 intro pins s σ H D I h
 obtain ⟨W, ⟨m0, w0⟩, turn⟩ := h
 refine wpAny_While (codeAny_whileLoop (fun n s' => ∃ σ' H', Inv X pins σ' H' s' /\ W n σ' H') ?_ m0 ⟨σ, H, I, w0⟩)
 rintro n s1 ⟨σ1, H1, I1, w1⟩
 refine wpAny_passesOwn hp (thn (hc pins s1 σ1 H1 _ I1 (turn n σ1 H1 w1)) fun b s2 ⟨H2, I2, q2⟩ => ?_)
 cases b with
 | true =>
  obtain ⟨N, hN, q2⟩ := q2
  rw [if_pos rfl]
  refine wpAny_passesOwn hp (thn (hb pins s2 σ1 H2 _ I2 q2) fun f s3 q3 => ?_)
  cases f with
  | next =>
   obtain ⟨σ3, H3, I3, n3⟩ := q3
   obtain ⟨m', hm, w3⟩ := hN σ3 H3 n3
   exact ⟨m', hm, σ3, H3, I3, w3⟩
  | cont =>
   obtain ⟨σ3, H3, I3, n3⟩ := q3
   obtain ⟨m', hm, w3⟩ := hN σ3 H3 n3
   exact ⟨m', hm, σ3, H3, I3, w3⟩
  | brk => exact q3
  | ret v => exact q3
 | false =>
  rw [if_neg Bool.false_ne_true]
  exact wpAny_execs_nil ⟨σ1, H2, I2, q2⟩
end
structure It where
 go : Nat -> Hp -> Prop
 yld : Nat -> Hp -> V -> Hp -> Prop
 stop : Nat -> Hp -> Prop
def FpOk (X : Cx) (pins : List (Addr × Obj)) (H : Hp) (b : Addr) : Prop :=
 H b = none /\ b ≠ X.env.locals /\ b ∉ X.fs /\ (b ∈ X.ex ∨ X.s₀.heap.objs.size <= b) /\ (∀ x c, X.env.cells.lookup x = some c -> c ≠ b) /\ ∀ p ∈ X.pn ++ pins, p.1 ≠ b
theorem Inv.fpOk {X : Cx} {pins : List (Addr × Obj)} {σ : St} {H H' : Hp} {s : Shared} {b : Addr} (I : Inv X pins σ H s) (hb : s.heap.objs.size <= b) (hn : H' b = none) : FpOk X pins H' b := by
 refine ⟨hn, Nat.ne_of_gt (Nat.lt_of_lt_of_le I.lt hb), I.nofs hb, .inr (Nat.le_trans I.sz hb), fun x c e z => ?_, fun p hp z => ?_⟩
 ·obtain ⟨v, q⟩ := I.cell x c e
  exact absurd (Nat.lt_of_lt_of_le q.lt (by rw [z]; exact hb)) (Nat.lt_irrefl _)
 ·exact absurd (Nat.lt_of_lt_of_le (Heap.lt_size (I.pin p hp).1) (by rw [z]; exact hb)) (Nat.lt_irrefl _)
structure Turn (P : Program) (w : World) (K : W.Frag) (tg : Expr) (J : It) (fp : List Addr) (it : Addr) (tn : Nat -> Heap -> Prop) : Prop where
 mem : it ∈ fp
 obj : ∀ i h, tn i h -> ∀ b ∈ fp, ∃ o, h.get? b = some o /\ ∀ v, o.data ≠ .cell v
 keep : ∀ i h h', tn i h -> (∀ b ∈ fp, ∀ o, h.get? b = some o -> h'.get? b = some o) -> tn i h'
 item : ∀ (X : Cx), X.prog = P -> X.w = w -> X.K = K -> X.calm = true -> ∀ (i : Nat) (pins : List (Addr × Obj)) (s : Shared) (σ : St) (H : Hp) (E : Value -> Shared -> Prop), Inv X pins σ H s -> (∀ b ∈ fp, FpOk X pins H b) -> tn i s.heap -> J.go i H ->
  wpAny (model P w) X.A (pyNext (.ref it)) (fun r s1 => ∃ u, r = some u /\
   wpAny (model P w) X.A (letOwnedTupleGo tg (.ref it) u) (fun _ s2 => ∃ x H', Inv X pins σ H' s2 /\ RelV x u /\ J.yld i H x H' /\ tn (i + 1) s2.heap /\ ∀ b ∈ fp, H' b = none) E s1) E s
 done : ∀ (X : Cx), X.prog = P -> X.w = w -> X.K = K -> X.calm = true -> ∀ (i : Nat) (pins : List (Addr × Obj)) (s : Shared) (σ : St) (H : Hp) (E : Value -> Shared -> Prop), Inv X pins σ H s -> (∀ b ∈ fp, FpOk X pins H b) -> tn i s.heap -> J.stop i H ->
  wpAny (model P w) X.A (pyNext (.ref it)) (fun r s1 => r = none /\ Inv X pins σ H s1) E s
 self : ∀ (A : Around) (i : Nat) (s : Shared) (Q : Value -> Shared -> Prop) (E : Value -> Shared -> Prop), tn i s.heap -> Q (.ref it) s -> wpAny (model P w) A (pyIter (.ref it)) Q E s
abbrev TI := St -> Hp -> (It -> Hp -> Prop) -> Prop
def PIE (X : Cx) (pins : List (Addr × Obj)) (σ : St) (tg : Expr) (R : It -> Hp -> Prop) (itv : Value) (s2 : Shared) : Prop :=
 ∃ (it : Addr) (fp : List Addr) (tn : Nat -> Heap -> Prop) (J : It) (H' : Hp), itv = .ref it /\ Inv X pins σ H' s2 /\ Turn X.prog X.w X.K tg J fp it tn /\ tn 0 s2.heap /\ (∀ b ∈ fp, FpOk X pins H' b) /\ R J H'
def PI (X : Cx) (tg iter : Expr) (wi : TI) : Prop :=
 ∀ (pins : List (Addr × Obj)) (s : Shared) (σ : St) (H : Hp) (R : It -> Hp -> Prop), Inv X pins σ H s -> wi σ H R ->
  wpAny (model X.prog X.w) X.A (eval iter X.env) (fun v s1 => wpAny (model X.prog X.w) X.A (pyIter v) (PIE X pins σ tg R) X.xe s1) X.xe s
theorem go_of {M : Model} {A : Around} {E : Value -> Shared -> Prop} {s : Shared} {tg : Expr} {it : Addr} {u : Value} {o : Obj} {n : String} {vs : Array Value} {Q : Unit -> Shared -> Prop} (ho : s.heap.get? it = some o) (hc : o.cls = .type n) (hd : o.data = .fields vs)
  (hn : ["enumerate", "zip", "dict_itemiterator", "dict_reverseitemiterator", "odict_iterator", "itertools.zip_longest", "itertools.pairwise"].contains n = false) (hQ : Q () s) : wpAny M A (letOwnedTupleGo tg (.ref it) u) Q E s := by
 unfold letOwnedTupleGo
 cases tg <;> first
  | exact wpAny_pure hQ
  | (cases u <;> first
    | exact wpAny_pure hQ
    | (refine wpAny_bind (wpAny_load ho ?_)
       rw [hc, hd]
       show wpAny M A (if (["enumerate", "zip", "dict_itemiterator", "dict_reverseitemiterator", "odict_iterator", "itertools.zip_longest", "itertools.pairwise"].contains n && vs[0]? == some (rawInt _)) = true then _ else _) Q E s
       rw [if_neg (by intro h; rw [hn, Bool.false_and] at h; cases h)]
       exact wpAny_pure hQ))
def Itl (K : W.Frag) (a : Addr) : It :=
 ⟨fun i H => ∃ xs x, SqL K H a xs /\ xs[i]? = some x, fun i H x H' => H' = H /\ ∀ xs, SqL K H a xs -> xs[i]? = some x, fun i H => ∃ xs, SqL K H a xs /\ xs.length <= i⟩
def Itr (lo : Int) (n : Nat) : It := ⟨fun i _ => i < n, fun i H x H' => H' = H /\ x = .int (lo + i), fun i _ => n <= i⟩
theorem turn_list {P : Program} {w : World} {K : W.Frag} {tg : Expr} (a it : Addr) : Turn P w K tg (Itl K a) [it] it (fun i h => h.IsListIter it a i) where
 mem := by simp
 obj := fun i h st b hb => by
  have e : b = it := by simpa using hb
  subst e
  obtain ⟨o, e, c, d⟩ := st
  exact ⟨o, e, fun v z => by rw [d] at z; cases z⟩
 keep := fun i h h' st k => st.at fun o e => k it (by simp) o e
 item := by
  intro X hP hw hK hc i pins s σ H E I hf st hg
  subst hP hw hK
  obtain ⟨xs, x, hq, hx⟩ := hg
  obtain ⟨its, rv, p, hz⟩ := I.list hq
  obtain ⟨u, hu, ru⟩ := rv.get hx
  obtain ⟨f0, f1, f2, f3, f4, f5⟩ := hf it (by simp)
  refine wpAny_pyNext_list_item st p.isList (x := u) (by simpa using hu) fun h' st' sb => ?_
  have I1 : Inv X pins σ H { s with heap := h' } := I.turned (t' := s.toks) (fun b o hb e => (sb.2 b hb).trans e) f0 f1 f3 f4 f5
  obtain ⟨o, e, c, d⟩ := id st'
  exact ⟨u, rfl, go_of (s := { s with heap := h' }) e c d (by decide) ⟨x, H, I1, ru, ⟨rfl, fun ys hy => by rw [I.list_inj hy hq]; exact hx⟩, st', fun b hb => (hf b hb).1⟩⟩
 done := by
  intro X hP hw hK hc i pins s σ H E I hf st hg
  subst hP hw hK
  obtain ⟨xs, hq, hx⟩ := hg
  obtain ⟨its, rv, p, hz⟩ := I.list hq
  obtain ⟨f0, f1, f2, f3, f4, f5⟩ := hf it (by simp)
  have hl := rv.length
  exact wpAny_pyNext_list_end (I.ok.hd hc) st p.isList (by simp; omega) fun h' eb => ⟨rfl, I.turned (t' := s.toks) (fun b o hb e => eb b o hb e) f0 f1 f3 f4 f5⟩
 self := fun _ _ _ _ _ st h => wpAny_pyIter_listiter st h
theorem turn_range {P : Program} {w : World} {K : W.Frag} {tg : Expr} (it : Addr) (lo : Int) (n : Nat) : Turn P w K tg (Itr lo n) [it] it (fun i h => IsRangeIter h it (lo + (i : Nat) * 1) ((n : Int) - (i : Nat)) 1) where
 mem := by simp
 obj := fun i h st b hb => by
  have e : b = it := by simpa using hb
  subst e
  exact ⟨_, st, fun v z => by
   have z' : Data.fields _ = Data.cell v := z
   cases z'⟩
 keep := fun i h h' st k => k it (by simp) _ st
 item := by
  intro X hP hw hK hc i pins s σ H E I hf st hg
  subst hP hw hK
  obtain ⟨f0, f1, f2, f3, f4, f5⟩ := hf it (by simp)
  have W := Walks.range (prog := X.prog) (w := X.w) (I.ok.hd hc) it lo 1 n
  refine W.item i s _ _ hg st fun v h' tk hv st' kk => ?_
  obtain ⟨t, rfl⟩ := hv
  have I1 : Inv X pins σ H { s with heap := h', toks := tk } := I.turned (fun b o hb e => kk b o (by simpa using hb) e) f0 f1 f3 f4 f5
  refine ⟨_, rfl, go_of (s := { s with heap := h', toks := tk }) (n := "range_iterator") st' rfl rfl (by decide) ⟨.int (lo + i), H, I1, ⟨t, ?_⟩, ⟨rfl, rfl⟩, st', fun b hb => (hf b hb).1⟩⟩
  rw [Int.mul_one]
 done := by
  intro X hP hw hK hc i pins s σ H E I hf st hg
  subst hP hw hK
  obtain ⟨f0, f1, f2, f3, f4, f5⟩ := hf it (by simp)
  exact wpAny_pyNext_range_end (I.ok.hd hc) st (by have : n <= i := hg; omega) fun h' eb => ⟨rfl, I.turned (t' := s.toks) (fun b o hb e => eb b o hb e) f0 f1 f3 f4 f5⟩
 self := fun _ _ _ _ _ st h => wpAny_pyIter_rangeiter st h
end L2
namespace L2
open PySem PySem.Spec PyProof.Rows
section
variable {X : Cx} {tg : Expr}
def iList (K : W.Frag) (tl : TE) : TI := fun σ H R => tl σ H fun x H1 => ∃ a, x = .ref a /\ (∃ xs, SqL K H1 a xs) /\ R (Itl K a) H1
theorem pi_list {l : Expr} {tl : TE} (hl : PE X l tl) : PI X tg l (iList X.K tl) := by
 intro pins s σ H R I h
 refine thn (hl pins s σ H _ I h) fun v s1 ⟨x, H1, I1, r1, q1⟩ => ?_
 obtain ⟨a, e, ⟨xs, hq⟩, q⟩ := q1
 subst e
 cases r1
 obtain ⟨its, rv, p, hz⟩ := I1.list hq
 refine wpAny_pyIter_list p.isList ?_
 refine ⟨s1.heap.objs.size, [s1.heap.objs.size], _, _, H1, rfl, I1.kept (t' := s1.toks) fun b o e => Heap.get?_push_of_some _ e, turn_list a _, ⟨_, Heap.get?_push_size _ rfl, rfl, rfl⟩, fun b hb => ?_, q⟩
 have e : b = s1.heap.objs.size := by simpa using hb
 subst e
 exact I1.fpOk (Nat.le_refl _) (I1.hok.fresh (Nat.le_refl _))
theorem range_it {pins : List (Addr × Obj)} {σ : St} {H : Hp} {s : Shared} {R : It -> Hp -> Prop} {E : Value -> Shared -> Prop} {lo hi : Int} {t u v : Tok} {tk : Nat} (I : Inv X pins σ H s) (h1 : -(2 ^ 62) <= lo) (h2 : lo < 2 ^ 62) (h3 : -(2 ^ 62) <= hi) (h4 : hi < 2 ^ 62)
  (q : R (Itr lo (hi - lo).toNat) H) : wpAny (model X.prog X.w) X.A (pyIter (.ref s.heap.objs.size)) (PIE X pins σ tg R) E { s with heap := s.heap.push { cls := .type "range", data := .fields #[.int lo t, .int hi u, .int 1 v] }, toks := tk } := by
 refine wpAny_pyIter_range (IsRange.new ..) (small_one h1 h2 h3 h4) ?_
 have I1 : Inv X pins σ H { s with heap := s.heap.push { cls := .type "range", data := .fields #[.int lo t, .int hi u, .int 1 v] }, toks := tk } := I.kept fun b o e => Heap.get?_push_of_some _ e
 refine ⟨(s.heap.push { cls := .type "range", data := .fields #[.int lo t, .int hi u, .int 1 v] }).objs.size, [(s.heap.push { cls := .type "range", data := .fields #[.int lo t, .int hi u, .int 1 v] }).objs.size], _, _, H, rfl,
  I1.kept (t' := tk) fun b o e => Heap.get?_push_of_some _ e, turn_range _ lo (hi - lo).toNat, ?_, fun b hb => ?_, q⟩
 ·have e1 : lo + ((0 : Nat) : Int) * 1 = lo := by simp
  have e2 : (((hi - lo).toNat : Nat) : Int) - ((0 : Nat) : Int) = Builtin.Range.rangeSize lo hi 1 := by rw [rangeSize_one]; split <;> omega
  show IsRangeIter _ _ (lo + ((0 : Nat) : Int) * 1) ((((hi - lo).toNat : Nat) : Int) - ((0 : Nat) : Int)) 1
  rw [e1, e2]
  exact Heap.get?_push_size _ rfl
 ·have e : b = (s.heap.push { cls := .type "range", data := .fields #[.int lo t, .int hi u, .int 1 v] }).objs.size := by simpa using hb
  subst e
  exact I1.fpOk (Nat.le_refl _) (I1.hok.fresh (Nat.le_refl _))
def iRng1 (ta : TA) : TI := fun σ H R => ta σ H fun vs H1 => ∃ j : Int, vs = [.int j] /\ -(2 ^ 62) <= j /\ j < 2 ^ 62 /\ R (Itr 0 j.toNat) H1
theorem pi_range1 {a : Expr} {ta : TA} {p pos : Pos} (hg : Gl X "range") (hm : X.mg "range" = none) (ha : PA X [a] ta) (hs : starEach [a] X.env = [(false, eval a X.env)] := by rfl) : PI X tg (.Call (.Name "range" p) [a] [] pos) (iRng1 ta) := by
 intro pins s σ H R I h
 refine Call_ (ld_blt I hg hm boot_range (PyProof.Rows.callWith_type1 (thn (ha pos pins s σ H _ I h) fun us s1 ⟨vs, H1, I1, r1, q1⟩ => ?_) hs rfl))
 obtain ⟨j, e, q1, q2, q⟩ := q1
 subst e
 cases r1 with
 | cons r rr =>
  cases rr
  obtain ⟨t, rfl⟩ := r
  exact call_range_1 (range_it I1 (by omega) (by omega) q1 q2 (by simpa using q))
def tFor (wi : TI) (g : TG) (tb : TS) : TS := fun D σ H => wi σ H fun J H1 => ∃ W : Nat -> Nat -> St -> Hp -> Prop, (∃ m, W 0 m σ H1) /\ ∀ i m σ H, W i m σ H ->
 (J.stop i H /\ D.nx σ H) ∨ (J.go i H /\ ∃ N : St -> Hp -> Prop, (∀ σ' H', N σ' H' -> ∃ m', m' < m /\ W (i + 1) m' σ' H') /\ ∀ x H', J.yld i H x H' -> g x σ H' fun σ2 H2 => tb { D with nx := N, ct := N, bk := D.nx } σ2 H2)
def pinsAt (fp : List Addr) (h : Heap) : List (Addr × Obj) := fp.filterMap fun b => (h.get? b).map fun o => (b, o)
theorem mem_pinsAt {fp : List Addr} {h : Heap} {b : Addr} {o : Obj} (hb : b ∈ fp) (e : h.get? b = some o) : (b, o) ∈ pinsAt fp h := List.mem_filterMap.mpr ⟨b, hb, by rw [e]; rfl⟩
theorem of_pinsAt {fp : List Addr} {h : Heap} {p : Addr × Obj} (hp : p ∈ pinsAt fp h) : p.1 ∈ fp /\ h.get? p.1 = some p.2 := by
 obtain ⟨b, hb, e⟩ := List.mem_filterMap.mp hp
 cases q : h.get? b with
 | none => rw [q] at e; cases e
 | some o =>
  rw [q] at e
  have e' : (b, o) = p := Option.some.inj e
  subst e'
  exact ⟨hb, q⟩
theorem Inv.pinned {pins : List (Addr × Obj)} {σ : St} {H : Hp} {s : Shared} {fp : List Addr} (I : Inv X pins σ H s) (hf : ∀ b ∈ fp, FpOk X pins H b) (ho : ∀ b ∈ fp, ∃ o, s.heap.get? b = some o /\ ∀ v, o.data ≠ .cell v) : Inv X (pins ++ pinsAt fp s.heap) σ H s :=
 I.pins_of fun p hp => (List.mem_append.mp hp).elim (fun z => I.pin p (List.mem_append_right _ z)) fun z => by
  obtain ⟨hb, e⟩ := of_pinsAt z
  obtain ⟨f0, f1, f2, _⟩ := hf p.1 hb
  obtain ⟨o, e', d⟩ := ho p.1 hb
  rw [e] at e'; cases e'
  exact ⟨e, f0, f1, f2, d⟩
theorem Inv.unpinned {pins pl : List (Addr × Obj)} {σ : St} {H : Hp} {s : Shared} (I : Inv X (pins ++ pl) σ H s) : Inv X pins σ H s := I.pins_of fun p hp => I.pin p (List.mem_append_right _ (List.mem_append_left _ hp))
theorem ps_for {iter : Expr} {body : List Stmt} {wi : TI} {g : TG} {tb : TS} {pos : Pos} (hp : PassesOwn (model X.prog X.w) X.A X.env X.xe) (hc : X.calm = true) (hi : PI X tg iter wi) (hg : PG X tg g) (hb : PSs X body tb)
  (hs : ∀ x, foldedSetIterable iter X.env x = pure x := by intro _; rfl) : PS X (.For tg iter body [] pos) (tFor wi g tb) := by
 intro pins s σ H D I h
 refine wpAny_For (thn (hi pins s σ H _ I h) fun v s1 h1 => thn h1 fun itv s2 h2 => ?_) hs
 obtain ⟨it, fp, tn, J, H2, e, I2, T, st2, f2, W, ⟨m0, w0⟩, turn⟩ := h2
 subst e
 have stat : ∀ {H' : Hp}, (∀ b ∈ fp, H' b = none) -> ∀ b ∈ fp, FpOk X pins H' b := fun hn b hb => ⟨hn b hb, (f2 b hb).2⟩
 refine codeAny_forLoop_any (fun n s' => ∃ i σ' H', Inv X pins σ' H' s' /\ tn i s'.heap /\ (∀ b ∈ fp, H' b = none) /\ W i n σ' H') ?_ m0 ⟨0, σ, H2, I2, st2, fun b hb => (f2 b hb).1, w0⟩
 rintro n s3 ⟨i, σ3, H3, I3, st3, fr3, w3⟩
 rcases turn i n σ3 H3 w3 with ⟨stop, qn⟩ | ⟨go, N, hN, step⟩
 ·refine wpAny_passesOwn hp (thn (T.done X rfl rfl rfl hc i pins s3 σ3 H3 X.xe I3 (stat fr3) st3 stop) fun r s4 ⟨hr, I4⟩ => ?_)
  subst hr
  exact wpAny_execs_nil ⟨σ3, H3, I4, qn⟩
 ·refine wpAny_passesOwn hp (thn (T.item X rfl rfl rfl hc i pins s3 σ3 H3 X.xe I3 (stat fr3) st3 go) fun r s4 ⟨u, hr, h4⟩ => ?_)
  subst hr
  refine wpAny_passesOwn hp (thn h4 fun _ s5 ⟨x, H5, I5, r5, y5, st5, fr5⟩ => ?_)
  have I5' := I5.pinned (stat fr5) (T.obj _ _ st5)
  refine wpAny_passesOwn hp (thn (hg _ s5 σ3 H5 x u _ I5' r5 (step x H5 y5)) fun _ s6 ⟨σ6, H6, I6, q6⟩ => ?_)
  refine wpAny_passesOwn hp (thn (hb _ s6 σ6 H6 _ I6 q6) fun f s7 q7 => ?_)
  have again : ∀ {σ7 : St} {H7 : Hp}, Inv X (pins ++ pinsAt fp s5.heap) σ7 H7 s7 -> N σ7 H7 -> ∃ m, m < n /\ ∃ i σ' H', Inv X pins σ' H' s7 /\ tn i s7.heap /\ (∀ b ∈ fp, H' b = none) /\ W i m σ' H' := fun {σ7 H7} I7 n7 => by
   obtain ⟨m', hm, w7⟩ := hN σ7 H7 n7
   refine ⟨m', hm, i + 1, σ7, H7, I7.unpinned, T.keep _ _ _ st5 fun b hb o e => (I7.pin (b, o) (List.mem_append_right _ (List.mem_append_right _ (mem_pinsAt hb e)))).1, fun b hb => ?_, w7⟩
   obtain ⟨o, e, d⟩ := T.obj _ _ st5 b hb
   exact (I7.pin (b, o) (List.mem_append_right _ (List.mem_append_right _ (mem_pinsAt hb e)))).2.1
  cases f with
  | next => obtain ⟨σ7, H7, I7, n7⟩ := q7; exact again I7 n7
  | cont => obtain ⟨σ7, H7, I7, n7⟩ := q7; exact again I7 n7
  | brk => obtain ⟨σ7, H7, I7, q7⟩ := q7; exact ⟨σ7, H7, I7.unpinned, q7⟩
  | ret v => obtain ⟨x7, σ7, H7, I7, r7, q7⟩ := q7; exact ⟨x7, σ7, H7, I7.unpinned, r7, q7⟩
end
end L2
namespace L2
open PySem PySem.Spec PyProof.Rows
abbrev R2 := V -> V -> Hp -> VK -> Prop
def OpR (X : Cx) (f : Value -> Value -> Sem Value) (r : R2) : Prop :=
 ∀ (pins : List (Addr × Obj)) (s : Shared) (σ : St) (H : Hp) (x y : V) (v u : Value) (Q : VK), Inv X pins σ H s -> RelV x v -> RelV y u -> r x y H Q ->
  wpAny (model X.prog X.w) X.A (f v u) (EP X pins σ Q) X.xe s
def CallR (X : Cx) (f : Value) (r : List V -> Hp -> VK -> Prop) : Prop :=
 ∀ (pins : List (Addr × Obj)) (s : Shared) (σ : St) (H : Hp) (xs : List V) (us : List Value) (Q : VK), Inv X pins σ H s -> Vals xs us -> r xs H Q ->
  wpAny (model X.prog X.w) X.A (call f us) (EP X pins σ Q) X.xe s
def tOp (r : R2) (ta tb : TE) : TE := fun σ H Q => ta σ H fun x H1 => tb σ H1 fun y H2 => r x y H2 Q
def rI (C : Int -> Int -> Prop) (g : Int -> Int -> V) : R2 := fun x y H Q => ∃ i j, x = .int i /\ y = .int j /\ C i j /\ Q (g i j) H
def rI0 (g : Int -> Int -> V) : R2 := fun x y H Q => ∃ i j, x = .int i /\ y = .int j /\ Q (g i j) H
section
variable {X : Cx} {a b c : Expr} {ta tb tc : TE} {pos : Pos}
theorem binT (ha : PE X a ta) (hb : PE X b tb) {pins : List (Addr × Obj)} {s : Shared} {σ : St} {H : Hp} {R : V -> V -> Hp -> Prop} (I : Inv X pins σ H s)
  (h : ta σ H fun x H1 => tb σ H1 fun y H2 => R x y H2) {Q : Value -> Shared -> Prop} {f : Value -> Value -> Sem Value}
  (hf : ∀ v u s2 x y H2, Inv X pins σ H2 s2 -> RelV x v -> RelV y u -> R x y H2 -> wpAny (model X.prog X.w) X.A (f v u) Q X.xe s2) :
  wpAny (model X.prog X.w) X.A (eval a X.env) (fun v s₁ => wpAny (model X.prog X.w) X.A (eval b X.env) (fun u s₂ => wpAny (model X.prog X.w) X.A (f v u) Q X.xe s₂) X.xe s₁) X.xe s := by
 refine thn (ha pins s σ H _ I h) fun v s1 ⟨x, H1, I1, r1, q1⟩ => ?_
 refine thn (hb pins s1 σ H1 _ I1 q1) fun u s2 ⟨y, H2, I2, r2, q2⟩ => ?_
 exact hf v u s2 x y H2 I2 r1 r2 q2
theorem pe_op {op : Operator} {r : R2} (ho : OpR X (binaryOp op) r) (ha : PE X a ta) (hb : PE X b tb) : PE X (.BinOp a op b pos) (tOp r ta tb) := by
 intro pins s σ H Q I h
 exact wpAny_BinOp (binT ha hb I h fun v u s2 x y H2 I2 rx ry q => ho pins s2 σ H2 x y v u Q I2 rx ry q)
theorem opI {f : Value -> Value -> Sem Value} {C : Int -> Int -> Prop} {g : Int -> Int -> Int}
  (rule : ∀ (i j : Int) (t u : Tok) (s : Shared) (Q : Value -> Shared -> Prop) (E : Value -> Shared -> Prop), C i j -> Q (.int (g i j) s.toks) { s with toks := s.toks + 1 } -> wpAny (model X.prog X.w) X.A (f (.int i t) (.int j u)) Q E s) :
  OpR X f (rI C fun i j => .int (g i j)) := by
 intro pins s σ H x y v u Q I rx ry h
 obtain ⟨i, j, rfl, rfl, hc, q⟩ := h
 obtain ⟨t, rfl⟩ := rx
 obtain ⟨t', rfl⟩ := ry
 exact rule i j t t' s _ _ hc ⟨.int (g i j), H, I.tok _, ⟨_, rfl⟩, q⟩
theorem opI0 {f : Value -> Value -> Sem Value} {g : Int -> Int -> Int}
  (rule : ∀ (i j : Int) (t u : Tok) (s : Shared) (Q : Value -> Shared -> Prop) (E : Value -> Shared -> Prop), Q (.int (g i j) s.toks) { s with toks := s.toks + 1 } -> wpAny (model X.prog X.w) X.A (f (.int i t) (.int j u)) Q E s) :
  OpR X f (rI0 fun i j => .int (g i j)) := by
 intro pins s σ H x y v u Q I rx ry h
 obtain ⟨i, j, rfl, rfl, q⟩ := h
 obtain ⟨t, rfl⟩ := rx
 obtain ⟨t', rfl⟩ := ry
 exact rule i j t t' s _ _ ⟨.int (g i j), H, I.tok _, ⟨_, rfl⟩, q⟩
theorem opB0 {f : Value -> Value -> Sem Value} {g : Int -> Int -> Bool}
  (rule : ∀ (i j : Int) (t u : Tok) (s : Shared) (Q : Value -> Shared -> Prop) (E : Value -> Shared -> Prop), Q (.bool (g i j)) s -> wpAny (model X.prog X.w) X.A (f (.int i t) (.int j u)) Q E s) :
  OpR X f (rI0 fun i j => .bl (g i j)) := by
 intro pins s σ H x y v u Q I rx ry h
 obtain ⟨i, j, rfl, rfl, q⟩ := h
 obtain ⟨t, rfl⟩ := rx
 obtain ⟨t', rfl⟩ := ry
 exact rule i j t t' s _ _ ⟨.bl (g i j), H, I, rfl, q⟩
def CDiv (i j : Int) : Prop := 0 < j /\ j < 1073741824
def CPow (i j : Int) : Prop := 0 <= j /\ j <= 1000000 /\ i.natAbs < 2 ^ 64
def CMul (i j : Int) : Prop := (-(2 ^ 64) < i /\ i < 2 ^ 64) ∨ (-(2 ^ 64) < j /\ j < 2 ^ 64)
theorem CMul.ok {i j : Int} (h : CMul i j) : IntMulOk i j := by
 rcases h with ⟨h1, h2⟩ | ⟨h1, h2⟩
 ·exact .of_left (intBits_le_64 h1 h2)
 ·exact .of_right (intBits_le_64 h1 h2)
theorem op_add : OpR X (binaryOp .Add) (rI0 fun i j => .int (i + j)) := opI0 fun _ _ _ _ _ _ _ q => add_int q
theorem op_sub : OpR X (binaryOp .Sub) (rI0 fun i j => .int (i - j)) := opI0 fun _ _ _ _ _ _ _ q => sub_int q
theorem op_fdiv : OpR X (binaryOp .FloorDiv) (rI CDiv fun i j => .int (i / j)) := opI fun i j _ _ _ _ _ hc q => by
 have h1 : (0 : Int) < j := hc.1
 have h2 : j < 1073741824 := hc.2
 exact floordiv_int (by omega) (by rw [Int.fdiv_eq_ediv_of_nonneg i (by omega)]; exact q) (.inl (PyProof.noPylong_small (by omega)))
theorem op_mod : OpR X (binaryOp .Mod) (rI (fun _ j => 0 < j) fun i j => .int (i % j)) := opI fun i j _ _ _ _ _ hc q => by
 have h1 : (0 : Int) < j := hc
 exact mod_int' (by omega) (by rw [Int.fmod_eq_emod_of_nonneg i (by omega)]; exact q)
theorem op_pow : OpR X (binaryOp .Pow) (rI CPow fun i j => .int (i ^ j.toNat)) := opI fun _ _ _ _ _ _ _ hc q => pow_int_small hc.1 hc.2.1 hc.2.2 q
end
section
variable {X : Cx} {a b c : Expr} {ta tb tc : TE} {pos : Pos}
theorem op_lt : OpR X (compareOp .Lt) (rI0 fun i j => .bl (decide (i < j))) := opB0 fun _ _ _ _ _ _ _ q => lt_int q
theorem op_gt : OpR X (compareOp .Gt) (rI0 fun i j => .bl (decide (j < i))) := opB0 fun _ _ _ _ _ _ _ q => gt_int q
theorem op_ge : OpR X (compareOp .GtE) (rI0 fun i j => .bl (decide (j <= i))) := opB0 fun _ _ _ _ _ _ _ q => ge_int q
theorem OpR.or {f : Value -> Value -> Sem Value} {r r' : R2} (h : OpR X f r) (h' : OpR X f r') : OpR X f (fun x y H Q => r x y H Q ∨ r' x y H Q) := by
 intro pins s σ H x y v u Q I rx ry q
 rcases q with q | q
 ·exact h pins s σ H x y v u Q I rx ry q
 ·exact h' pins s σ H x y v u Q I rx ry q
theorem nomark (b : Expr) {op : CmpOp} (h : op ≠ .In := by decide) (h2 : op ≠ .NotIn := by decide) : behindInMarks op b = false := by
 have e1 : (op == CmpOp.In) = false := by cases op <;> first | rfl | exact absurd rfl h
 have e2 : (op == CmpOp.NotIn) = false := by cases op <;> first | rfl | exact absurd rfl h2
 cases b <;> simp [behindInMarks, e1, e2]
theorem pe_cmpR {op : CmpOp} {r : R2} (ho : OpR X (compareOp op) r) (ha : PE X a ta) (hb : PE X b tb) (hm : behindInMarks op b = false) : PE X (.Compare a [op] [b] pos) (tOp r ta tb) := by
 intro pins s σ H Q I h
 exact wpAny_Compare1 (binT ha hb I h fun v u s2 x y H2 I2 rx ry q => ho pins s2 σ H2 x y v u Q I2 rx ry q) hm
def tTest (t : TE) : TT := fun σ H Q => t σ H fun x H' => ∃ k, x = .bl k /\ Q k H'
theorem pt_cmpR {op : CmpOp} {r : R2} (ho : OpR X (compareOp op) r) (ha : PE X a ta) (hb : PE X b tb) (hm : behindInMarks op b = false) : PT X (.Compare a [op] [b] pos) (tTest (tOp r ta tb)) := by
 intro pins s σ H Q I h
 refine wpAny_isTrue_Compare1 (thn (ha pins s σ H _ I h) fun v s1 ⟨x, H1, I1, r1, q1⟩ => thn (hb pins s1 σ H1 _ I1 q1) fun u s2 ⟨y, H2, I2, r2, q2⟩ =>
  thn (ho pins s2 σ H2 x y v u _ I2 r1 r2 q2) fun c s3 ⟨z, H3, I3, r3, k, e, q3⟩ => ?_) hm
 subst e
 cases r3
 exact wpAny_truthy_bool ⟨H3, I3, q3⟩
theorem line63 : (sizeLine : Nat) < 2 ^ 63 := by rw [sizeLine_eq]; decide
theorem op_add_str : OpR X (binaryOp .Add) (fun x y H Q => ∃ i j, x = .str i /\ y = .str j /\ i.length + j.length <= sizeLine /\ Q (.str (i ++ j)) H) := by
 intro pins s σ H x y v u Q I rx ry h
 obtain ⟨i, j, rfl, rfl, hz, q⟩ := h
 obtain ⟨t, rfl⟩ := rx
 obtain ⟨t', rfl⟩ := ry
 exact add_str (fun t' tk => ⟨.str (i ++ j), H, I.tok _, ⟨_, rfl⟩, q⟩) hz
theorem vals1 {x : V} {us : List Value} (r : Vals [x] us) : ∃ u, us = [u] /\ RelV x u := by
 cases r with
 | cons r1 r2 => cases r2; exact ⟨_, rfl, r1⟩
theorem vals2 {x y : V} {us : List Value} (r : Vals [x, y] us) : ∃ u w', us = [u, w'] /\ RelV x u /\ RelV y w' := by
 cases r with
 | cons r1 r2 =>
  cases r2 with
  | cons r3 r4 => cases r4; exact ⟨_, _, rfl, r1, r3⟩
end
end L2
namespace L2
open PySem PySem.Spec PyProof.Rows
structure ObjM (h : Heap) (x dx C : Addr) (mA : Str -> Option Value) : Prop where
 obj : h.get? x = some (PySem.W.instObj C dx)
 ns : h.Ns1 dx mA
 ne : dx ≠ x
theorem lookIn_ns {h : Heap} {dx : Addr} {mA : Str -> Option Value} (n : h.Ns1 dx mA) : ∃ od, h.get? dx = some od /\ ∀ name, PySem.W.lookIn name od = some (mA name) := by
 obtain ⟨o, es, ep, ho, hd, hk, _, hm⟩ := n
 refine ⟨o, ho, fun name => ?_⟩
 have e := hm name
 unfold nsFind findBy at e
 rw [← Array.find?_toList] at e
 unfold PySem.W.lookIn
 rw [hd]
 dsimp only
 split
 ·rename_i y q
  rw [q] at e
  exact congrArg some e
 ·rename_i q
  rw [q] at e
  have a : es.toList.any (·.refKey) = false := by
   rw [List.any_eq_false]
   intro y hy
   obtain ⟨z, t, hkey⟩ := hk y (Array.mem_toList_iff.mp hy)
   simp [DictEntry.refKey, hkey]
  have a' : ¬ es.toList.any (·.refKey) = true := by rw [a]; exact Bool.false_ne_true
  rw [if_neg a']
  exact congrArg some e
theorem ObjM.look {h : Heap} {x dx C : Addr} {mA : Str -> Option Value} (I : ObjM h x dx C mA) : ∃ od, PySem.W.InstAt h x (PySem.W.instObj C dx) C (some od) /\ ∀ name, PySem.W.lookIn name od = some (mA name) :=
 let ⟨od, ho, hl⟩ := lookIn_ns I.ns
 ⟨od, ⟨I.obj, rfl, rfl, ho⟩, hl⟩
section
variable {prog : Program} {w : World} {A : Around} {E : Value -> Shared -> Prop} {s : Shared} {K : W.Frag} {x dx C f : Addr} {mA : Str -> Option Value} {name : Str} {v : Value}
end
section
variable {P : Program} {w : World} {H H' : Hp} {h h' : Heap} {a C dx : Addr} {fs fs' : List (Str × V)}
theorem ins_get (hok : HOk P w H h) (e : H a = some (.ins C dx fs)) : ∃ mA, ObjM h a dx C mA /\ (∀ f, RelO (fs.lookup f) (mA f)) /\ PySem.Within mA (fs.map (·.1)) /\ fs.length <= 1000 /\ H dx = some (.own a) := by
 obtain ⟨d, z, ne, ob, mA, n, r, q⟩ := (show ObjOk P w H h a (.ins C dx fs) from hok a _ e)
 exact ⟨mA, ⟨ob, n, ne⟩, r, q, z, d⟩
end
structure Cls (K : W.Frag) (C : Addr) : Prop where
 pg : PySem.W.plainGet K C Str.empty = true
 hd : PySem.W.hasDictIn K C = true
 po : PySem.W.plainOver K C = true
 sa : PySem.W.findIn K (.ref C) "__setattr__" = some (some (.builtin "object.__setattr__"))
theorem Cls.get {K : W.Frag} {C : Addr} (c : Cls K C) (f : Str) : PySem.W.plainGet K C f = true := c.pg
structure Con (K : W.Frag) (C : Addr) (f : Str) (v : V) (u : Value) : Prop where
 at_ : PySem.W.findIn K (.ref C) f = some (some u)
 rel : RelV v u
 get : PySem.W.specialIn K u "__get__" = some none
 cp : PySem.W.copiedNames.contains f = false
structure Meth (K : W.Frag) (C : Addr) (m : Str) (f : Addr) : Prop where
 at_ : PySem.W.findIn K (.ref C) m = some (some (.ref f))
 fn : PySem.W.isFn K (.ref f) = true
 kp : PySem.W.keepIn K (.ref f) = true
section
variable {X : Cx} {pins : List (Addr × Obj)} {σ : St} {H : Hp} {s : Shared} {a C dx : Addr} {fs : List (Str × V)} {f : Str} {v : V} {A : Around} {E : Value -> Shared -> Prop}
end
section
variable {X : Cx} {o e value : Expr} {f : Str} {pos pos' tpos : Pos} {ta tv : TE}
end
section
variable {X : Cx} {pins : List (Addr × Obj)} {σ : St} {H : Hp} {s : Shared} {A : Around} {E : Value -> Shared -> Prop} {Q : Value -> Shared -> Prop} {c : Value} {b : Bool}
inductive TyOf (K : W.Frag) (H : Hp) : V -> Value -> Prop where
 | non : TyOf K H .non (.type "NoneType")
 | bl (x : Bool) : TyOf K H (.bl x) (.type "bool")
 | int (i : Int) : TyOf K H (.int i) (.type "int")
 | str (x : Str) : TyOf K H (.str x) (.type "str")
 | flt (x : UInt64) : TyOf K H (.flt x) (.type "float")
 | lst {a : Addr} {xs : List V} (e : H a = some (.lst xs)) : TyOf K H (.ref a) (.type "list")
 | frz {a : Addr} {o : Obj} {xs : List V} (e : H a = some (.frz o (.lst xs))) : TyOf K H (.ref a) (.type "list")
 | tup {a : Addr} {xs : List V} (e : H a = some (.tup xs)) : TyOf K H (.ref a) (.type "tuple")
 | dK {a : Addr} {kvs : List (Key × V)} (e : H a = some (.dK kvs)) : TyOf K H (.ref a) (.type "dict")
 | dT {a : Addr} {kvs : List (List Key × V)} (e : H a = some (.dT kvs)) : TyOf K H (.ref a) (.type "dict")
 | ins {a C dx : Addr} {fs : List (Str × V)} (e : H a = some (.ins C dx fs)) (cl : Cls K C) (ha : PySem.W.findIn K (.ref C) "__class__" = some (some (.builtin "object.__class__")))
   (hn : PySem.W.specialIn K (.builtin "object.__class__") "__get__" = some (some (.builtin "getset_descriptor.__get__"))) (htk : PySem.W.takesIn K (.builtin "object.__class__") = some true)
   (hm : PySem.W.mroIn K C (.type "object") = some true) : TyOf K H (.ref a) (.ref C)
theorem isinst_ok {x : V} {u t : Value} (I : Inv X pins σ H s) (rx : RelV x u) (ty : TyOf X.K H x t) (e : PySem.W.kitOne X.K t c = some b) (h : ∀ tk, Q (.bool b) { s with toks := tk }) :
  wpAny (model X.prog X.w) A (call (.builtin "isinstance") [u, c]) Q E s := by
 cases ty with
 | non => cases (show u = Value.none from rx); exact PySem.W.kia_one PySem.W.kitx_none I.kIn True.intro e (fun z => nomatch z) h
 | bl y => cases (show u = Value.bool y from rx); exact PySem.W.kia_one PySem.W.kitx_bool I.kIn True.intro e (fun z => nomatch z) h
 | int i => obtain ⟨t, q⟩ := (show ∃ t, u = Value.int i t from rx); cases q; exact PySem.W.kia_one PySem.W.kitx_int I.kIn True.intro e (fun z => nomatch z) h
 | str y => obtain ⟨t, q⟩ := (show ∃ t, u = Value.str y t from rx); cases q; exact PySem.W.kia_one PySem.W.kitx_str I.kIn True.intro e (fun z => nomatch z) h
 | flt y => obtain ⟨t, q⟩ := (show ∃ t, u = Value.float y t from rx); cases q; exact PySem.W.kia_one PySem.W.kitx_float I.kIn True.intro e (fun z => nomatch z) h
 | @lst a xs ea =>
  cases (show u = Value.ref a from rx)
  obtain ⟨_, _, n, _, h1⟩ := (show ObjOk X.prog X.w H s.heap a (.lst xs) from I.hok a _ ea)
  exact PySem.W.kia_one PySem.W.kitx_list I.kIn ⟨_, h1, rfl⟩ e (fun z => nomatch z) h
 | @frz a ob xs ea =>
  cases (show u = Value.ref a from rx)
  obtain ⟨_, _, _, n, _, h1⟩ := (show ObjOk X.prog X.w H s.heap a (.frz ob (.lst xs)) from I.hok a _ ea)
  exact PySem.W.kia_one PySem.W.kitx_list I.kIn ⟨_, h1, rfl⟩ e (fun z => nomatch z) h
 | @tup a xs ea =>
  cases (show u = Value.ref a from rx)
  obtain ⟨_, _, _, p⟩ := (show ObjOk X.prog X.w H s.heap a (.tup xs) from I.hok a _ ea)
  obtain ⟨o, h1, h2, _⟩ := p
  exact PySem.W.kia_one PySem.W.kitx_tuple I.kIn ⟨o, h1, h2⟩ e (fun z => nomatch z) h
 | @dK a kvs ea =>
  cases (show u = Value.ref a from rx)
  obtain ⟨_, _, vs, _, p⟩ := (show ObjOk X.prog X.w H s.heap a (.dK kvs) from I.hok a _ ea)
  obtain ⟨o, es, ep, h1, h2, _⟩ := p
  exact PySem.W.kia_one PySem.W.kitx_dict I.kIn ⟨o, h1, h2.1⟩ e (fun z => nomatch z) h
 | @dT a kvs ea =>
  cases (show u = Value.ref a from rx)
  obtain ⟨_, _, xs, _, o, es, ep, h1, h2, _⟩ := (show ObjOk X.prog X.w H s.heap a (.dT kvs) from I.hok a _ ea)
  exact PySem.W.kia_one PySem.W.kitx_dict I.kIn ⟨o, h1, h2.1⟩ e (fun z => nomatch z) h
 | @ins a C dx fs ea cl ha hn htk hm =>
  cases (show u = Value.ref a from rx)
  obtain ⟨mA, O, _⟩ := ins_get I.hok ea
  obtain ⟨od, J, _⟩ := O.look
  exact PySem.W.kia_one (PySem.W.kitx_own (cl.get _) cl.hd ha hn htk hm) I.kIn J e (fun z => nomatch z) h
end
end L2
namespace L2
open PySem PySem.Spec PyProof.Rows
structure Room (k : Nat) (A : Around) : Prop where
 hd : A.handled = none
 dp : A.depth + 3 * k + 5 < recursionLimit
 un : A.units + 16 * k + 200 < cLine
theorem Room.mono {j k : Nat} {A : Around} (r : Room k A) (h : j <= k) : Room j A := ⟨r.hd, by have := r.dp; omega, by have := r.un; omega⟩
theorem Room.deeper {k : Nat} {A : Around} (r : Room (k + 1) A) (env : Env) : Room k (A.deeper env) :=
 ⟨r.hd, by have := r.dp; show A.depth + 1 + 3 * k + 5 < _; omega, by have := r.un; show A.units + 3 + 16 * k + 200 < _; omega⟩
theorem Room.depth {k : Nat} {A : Around} (r : Room k A) : A.depth < recursionLimit := by have := r.dp; omega
theorem Room.units {k : Nat} {A : Around} (r : Room k A) : A.units + 64 < cLine := by have := r.un; omega
def tNil : TA := fun _ H Q => Q [] H
def tCons (ta : TE) (tr : TA) : TA := fun σ H Q => ta σ H fun x H1 => tr σ H1 fun xs H2 => Q (x :: xs) H2
section
variable {X : Cx} {e : Expr} {es : List Expr} {te : TE} {t : TA} {pos : Pos}
theorem pa_nil : PA X [] tNil := fun _ _ _ _ H Q I h => Calls.spliced_nil ⟨[], H, I, .nil, h⟩
theorem pa_cons (ha : PE X e te) (hr : PA X es t) (hs : starEach (e :: es) X.env = (false, eval e X.env) :: starEach es X.env := by rfl) : PA X (e :: es) (tCons te t) := by
 intro pos pins s σ H Q I h
 rw [hs]
 show wpAny _ _ (spliced ((false, eval e X.env) :: backTo pos (starEach es X.env))) _ _ s
 refine Calls.spliced_cons (thn (ha pins s σ H _ I h) fun u s1 ⟨x, H1, I1, r1, q1⟩ => ?_)
 exact thn (hr pos pins s1 σ H1 _ I1 q1) fun us s2 ⟨xs, H2, I2, r2, q2⟩ => ⟨x :: xs, H2, I2, .cons r1 r2, q2⟩
def tTup (t : TA) : TE := fun σ H Q => t σ H fun xs H1 => xs.length <= sizeLine /\ ∀ p, H1 p = none -> Q (.ref p) (upd H1 p (.tup xs))
def tLst (t : TA) : TE := fun σ H Q => t σ H fun xs H1 => xs.length <= sizeLine /\ ∀ p, H1 p = none -> Q (.ref p) (upd H1 p (.lst xs))
theorem pe_tup {x1} (h : PA X es t) : PE X (.Tuple es x1 pos) (tTup t) := by
 intro pins s σ H Q I hq
 refine wpAny_Tuple_spliced (thn (h pos pins s σ H _ I hq) fun us s1 ⟨xs, H1, I1, r, z, q⟩ => ⟨by rw [← r.length]; exact z, ?_⟩)
 have hf : H1 s1.heap.objs.size = none := I1.hok.fresh (Nat.le_refl _)
 refine ⟨.ref s1.heap.objs.size, upd H1 s1.heap.objs.size (.tup xs), I1.laid (t' := s1.toks) (fun b u e => Heap.get?_push_of_some _ e) (Nat.le_refl _) ?_, rfl, q _ hf⟩
 exact ⟨z, us, r, ⟨_, Heap.get?_push_size _ rfl, rfl, _, rfl⟩⟩
theorem pe_lst (h : PA X es t) : PE X (.List es pos) (tLst t) := by
 intro pins s σ H Q I hq
 refine wpAny_List_spliced (thn (h pos pins s σ H _ I hq) fun us s1 ⟨xs, H1, I1, r, z, q⟩ => ⟨by rw [← r.length]; exact z, ?_⟩)
 have hf : H1 s1.heap.objs.size = none := I1.hok.fresh (Nat.le_refl _)
 refine ⟨.ref s1.heap.objs.size, upd H1 s1.heap.objs.size (.lst xs), I1.laid (t' := s1.toks) (fun b u e => Heap.get?_push_of_some _ e) (Nat.le_refl _) ?_, rfl, q _ hf⟩
 exact ⟨z, us, 0, r, Heap.get?_push_size _ rfl⟩
end
abbrev Sp := List V -> Hp -> VK -> XK -> Prop
abbrev CXT := List Env -> Hp -> Shared -> XK -> Value -> Shared -> Prop
structure Env0 (P : Program) (w : World) (K : W.Frag) (mg : Str -> Option Value) (base : Heap) (A : Around) (outer : List Env) (s : Shared) (H : Hp) : Prop where
 frames : A.frames = some outer
 mod : Mod K mg base
 bs : ∀ b o, base.get? b = some o -> s.heap.get? b = some o /\ H b = none
 bsz : base.objs.size <= s.heap.objs.size
 funs : s.heap.FunFrames base outer
 frf : ∀ b ∈ frs outer, H b = none
 hok : HOk P w H s.heap
 bare : AllBare s.gens
def CE (outer : List Env) (P : Program) (w : World) (H : Hp) (s : Shared) (Q : VK) (u : Value) (s' : Shared) : Prop :=
 ∃ v H', s'.os = s.os /\ AllBare s'.gens /\ Un (frs outer) [] H H' s.heap s'.heap /\ HOk P w H' s'.heap /\ RelV v u /\ Q v H'
def CR (CX : CXT) (outer : List Env) (P : Program) (w : World) (H : Hp) (s : Shared) (Q : VK) (E : XK) (r : Result) (s' : Shared) : Prop :=
 match r with
 | .ok (.ret u) => CE outer P w H s Q u s'
 | .ok _ => False
 | .error e => CX outer H s E e s'
structure FnOk (P : Program) (w : World) (K : W.Frag) (mg : Str -> Option Value) (base : Heap) (CX : CXT) (k : Nat) (f : Addr) (fd : FuncData) (ps : List Str) (sp : Sp) : Prop where
 len : ∀ vs H Q E, sp vs H Q E -> vs.length = ps.length
 run : ∀ (A : Around) (outer : List Env) (s : Shared) (H : Hp) (args : Args) (us : List Value) (vs : List V) (Q : VK) (E : XK), Room k A -> Env0 P w K mg base A outer s H -> BindsTo s fd args (ps.zip us) -> Vals vs us -> sp vs H Q E ->
  codeAny (model P w) A (.call (.ref f) args) (CR CX outer P w H s Q E) s
theorem FnOk.imp {P : Program} {w : World} {K : W.Frag} {mg : Str -> Option Value} {base : Heap} {CX : CXT} {k : Nat} {f : Addr} {fd : FuncData} {ps : List Str} {sp sp' : Sp} (F : FnOk P w K mg base CX k f fd ps sp)
  (h : ∀ vs H Q E, sp' vs H Q E -> sp vs H Q E) : FnOk P w K mg base CX k f fd ps sp' :=
 ⟨fun vs H Q E q => F.len vs H Q E (h _ _ _ _ q), fun A outer s H args us vs Q E hr he hb hv hs => F.run A outer s H args us vs Q E hr he hb hv (h _ _ _ _ hs)⟩
section
variable {X : Cx} {pins : List (Addr × Obj)} {σ : St} {H : Hp} {s s' : Shared}
theorem Inv.env0 (I : Inv X pins σ H s) : Env0 X.prog X.w X.K X.mg X.base X.A X.stack s H :=
 ⟨I.ok.frames, I.ok.mod, I.bs, Nat.le_trans I.ok.bsz I.sz, I.stack, I.stkFree, I.hok, I.bare⟩
theorem Inv.after {Q : VK} {u : Value} (I : Inv X pins σ H s) (h : CE X.stack X.prog X.w H s Q u s') : EP X pins σ Q u s' := by
 obtain ⟨v, H', os, bare, un, hok, r, q⟩ := h
 obtain ⟨hh, g, d, t, os'⟩ := s'
 obtain rfl : os' = s.os := os
 exact ⟨v, H', I.call (h' := hh) (g' := g) (d' := d) (t' := t) (ch := []) un hok bare (fun b z => absurd z (by simp)), r, q⟩
end
def tCall (sp : Sp) (dvs : List V) (E : XK) (t : TA) : TE := fun σ H Q => t σ H fun vs H1 => sp (vs ++ dvs) H1 Q E
def Binds (K : W.Frag) (fd : FuncData) (ps : List Str) (ds : List Value) : Prop :=
 ∀ (s : Shared) (us : List Value), K.In s.heap -> (us ++ ds).length = ps.length -> BindsTo s fd ⟨us, []⟩ (ps.zip (us ++ ds))
theorem Binds.all {K : W.Frag} {fd : FuncData} {ps : List Str} (h : ∀ us : List Value, us.length = ps.length -> bindArgs fd ⟨us, []⟩ = pure (ps.zip us)) : Binds K fd ps [] := fun s us _ hl => by
 rw [List.append_nil] at hl ⊢
 exact .of_eq (h us hl)
def Passes (CX : CXT) (X : Cx) (E : XK) : Prop := ∀ (pins : List (Addr × Obj)) (σ : St) (H : Hp) (s : Shared) (e : Value) (s' : Shared), Inv X pins σ H s -> CX X.stack H s E e s' -> X.xe e s'
section
variable {X : Cx} {CX : CXT} {k : Nat} {f C : Addr} {fd : FuncData} {ps : List Str} {sp : Sp} {dvs : List V} {ds : List Value} {E : XK} {x m : Str} {p pos apos : Pos} {e o : Expr} {es : List Expr} {ta : TE} {t : TA}
theorem run_fn {pins : List (Addr × Obj)} {σ : St} {H : Hp} {s : Shared} {Q : VK} {us : List Value} {vs : List V} (F : FnOk X.prog X.w X.K X.mg X.base CX k f fd ps sp) (hr : Room k X.A) (hb : Binds X.K fd ps ds) (hd : Vals dvs ds) (hx : Passes CX X E)
  (I : Inv X pins σ H s) (r : Vals vs us) (h : sp (vs ++ dvs) H Q E) : wpAny (model X.prog X.w) X.A (call (.ref f) us) (EP X pins σ Q) X.xe s := by
 have r2 : Vals (vs ++ dvs) (us ++ ds) := r.append hd
 have hl : (us ++ ds).length = ps.length := by rw [← r2.length]; exact F.len _ _ _ _ h
 refine wpAny_call (codeAny_mono (F.run X.A X.stack s H ⟨us, []⟩ (us ++ ds) (vs ++ dvs) Q E hr I.env0 (hb s us I.kIn hl) r2 h) fun r s' hq => ?_)
 cases r with
 | error e => exact hx pins σ H s e s' I hq
 | ok fl =>
  cases fl with
  | ret u => exact I.after hq
  | next => exact False.elim hq
  | brk => exact False.elim hq
  | cont => exact False.elim hq
theorem pe_call (F : FnOk X.prog X.w X.K X.mg X.base CX k f fd ps sp) (hr : Room k X.A) (hg : Gl X x) (hm : X.mg x = some (.ref f)) (hk : PySem.W.keepIn X.K (.ref f) = true) (hb : Binds X.K fd ps ds) (hd : Vals dvs ds) (hx : Passes CX X E)
  (ha : PA X (e :: es) t) (hdb : (x == ("__debug__" : Str)) = false := by decide) (he : starEach (e :: es) X.env = (false, eval e X.env) :: starEach es X.env := by rfl) (hpl : (backTo pos (starEach es X.env)).any (·.1) = false := by rfl) :
  PE X (.Call (.Name x p) (e :: es) [] pos) (tCall sp dvs E t) := by
 intro pins s σ H Q I h
 refine wpAny_Call_Name_kw (ld_glob I hg hm ?_ hdb)
 refine PySem.W.callWith_K (h₀ := X.base) I.ok.mod.kin hk (thn (ha pos pins s σ H _ I h) fun us s1 ⟨vs, H1, I1, r, q⟩ => ⟨I1.kIn, ?_⟩) he hpl
 exact run_fn F hr hb hd hx I1 r q
structure Mk (K : W.Frag) (C f : Addr) : Prop where
 makes : PySem.W.makesIn K C = true
 init : PySem.W.findIn K (.ref C) "__init__" = some (some (.ref f))
 fn : PySem.W.isFn K (.ref f) = true
 kp : PySem.W.keepIn K (.ref C) = true
end
section
variable {X : Cx} {CX : CXT} {k : Nat} {f C : Addr} {fd : FuncData} {ps ks : List Str} {sp : Sp} {E : XK} {x m : Str} {p pos apos kpos : Pos} {e o : Expr} {es : List Expr} {kws : List Keyword} {te ta : TE} {t tk : TA} {nm : Option Str}
structure KBinds (K : W.Frag) (fd : FuncData) (ps ks : List Str) (g : List Value -> List Value -> List Value) (gV : List V -> List V -> List V) : Prop where
 to : ∀ (s : Shared) (us ws : List Value), K.In s.heap -> (g us ws).length = ps.length -> BindsTo s fd ⟨us, ks.zip ws⟩ (ps.zip (g us ws))
 rel : ∀ {vs : List V} {us : List Value} {zs : List V} {ws : List Value}, Vals vs us -> Vals zs ws -> Vals (gV vs zs) (g us ws)
variable {g : List Value -> List Value -> List Value} {gV : List V -> List V -> List V}
end
structure FnScope (N P : List Str) (sc : Scope) : Prop where
 kind : sc.kind = .function
 co : sc.isCoroutine = false
 gen : sc.isGenerator = false
 nd : N.Nodup
 pre : N.take P.length = P
 par : ∀ x ∈ P, sc.names.lookup x = some .local ∨ sc.names.lookup x = some .cell
 nofree : ∀ y ∈ sc.names, y.2 ≠ .free
theorem bindL_out {kindOf : Str -> Option NameKind} {x : Str} : ∀ {binds : List (Str × Value)} {m : Str -> Option Value}, (∀ v, (x, v) ∉ binds) -> bindL kindOf binds m x = m x
 | [], _, _ => rfl
 | (n, v) :: r, m, h => by
  unfold bindL
  rw [bindL_out fun w hw => h w (List.mem_cons_of_mem _ hw)]
  split
  ·have : x ≠ n := by rintro rfl; exact h v List.mem_cons_self
   simp [this]
  ·rfl
theorem bindC_out {kindOf : Str -> Option NameKind} {x : Str} : ∀ {binds : List (Str × Value)} {m : Str -> Option Value}, (∀ v, (x, v) ∉ binds) -> bindC kindOf binds m x = m x
 | [], _, _ => rfl
 | (n, v) :: r, m, h => by
  unfold bindC
  rw [bindC_out fun w hw => h w (List.mem_cons_of_mem _ hw)]
  split
  ·rfl
  ·have : x ≠ n := by rintro rfl; exact h v List.mem_cons_self
   simp [this]
theorem bindL_get {kindOf : Str -> Option NameKind} {x : Str} {v : Value} : ∀ {P : List Str} {vs : List Value} {i : Nat} {m : Str -> Option Value}, P.Nodup -> P[i]? = some x -> vs[i]? = some v -> kindOf x = some .local ->
  bindL kindOf (P.zip vs) m x = some v
 | [], _, _, _, _, h, _, _ => by simp at h
 | _ :: _, [], _, _, _, _, h, _ => by simp at h
 | p :: P, w :: vs, 0, m, nd, h1, h2, hk => by
  simp at h1 h2; subst h1; subst h2
  show bindL kindOf ((p, w) :: P.zip vs) m p = _
  unfold bindL
  rw [bindL_out fun v hv => (List.nodup_cons.mp nd).1 (List.of_mem_zip hv).1, if_pos hk]
  simp
 | p :: P, w :: vs, i + 1, m, nd, h1, h2, hk => by
  show bindL kindOf ((p, w) :: P.zip vs) m x = _
  unfold bindL
  exact bindL_get (i := i) (List.nodup_cons.mp nd).2 (by simpa using h1) (by simpa using h2) hk
theorem bindC_get {kindOf : Str -> Option NameKind} {x : Str} {v : Value} : ∀ {P : List Str} {vs : List Value} {i : Nat} {m : Str -> Option Value}, P.Nodup -> P[i]? = some x -> vs[i]? = some v -> kindOf x ≠ some .local ->
  bindC kindOf (P.zip vs) m x = some v
 | [], _, _, _, _, h, _, _ => by simp at h
 | _ :: _, [], _, _, _, _, h, _ => by simp at h
 | p :: P, w :: vs, 0, m, nd, h1, h2, hk => by
  simp at h1 h2; subst h1; subst h2
  show bindC kindOf ((p, w) :: P.zip vs) m p = _
  unfold bindC
  rw [bindC_out fun v hv => (List.nodup_cons.mp nd).1 (List.of_mem_zip hv).1, if_neg hk]
  simp
 | p :: P, w :: vs, i + 1, m, nd, h1, h2, hk => by
  show bindC kindOf ((p, w) :: P.zip vs) m x = _
  unfold bindC
  exact bindC_get (i := i) (List.nodup_cons.mp nd).2 (by simpa using h1) (by simpa using h2) hk
def start (N : List Str) (vs : List V) : St := vs.map some ++ List.replicate (N.length - vs.length) none
def cxOf (CX : CXT) (P : Program) (w : World) (K : W.Frag) (mg : Str -> Option Value) (base : Heap) (N : List Str) (qual : Str) (scope : Scope) (f : Addr) (cd : Value) (A : Around) (outer : List Env) (s : Shared) (H : Hp) (E : XK) : Cx where
 prog := P
 w := w
 K := K
 mg := mg
 base := base
 A := A.deeper (envOfC qual scope s.heap.objs.size f cd)
 N := N
 s₀ := s
 H₀ := H
 env := envOfC qual scope s.heap.objs.size f cd
 outer := outer
 stack := envOfC qual scope s.heap.objs.size f cd :: outer
 ex := []
 calm := true
 fn := fun _ => true
 pn := []
 xe := fun e s' => wpAny (model P w) (A.deeper (envOfC qual scope s.heap.objs.size f cd)) (leaving (envOfC qual scope s.heap.objs.size f cd) e) (fun _ s'' => CX outer H s E e s'') (fun e' s'' => CX outer H s E e' s'') s'
theorem cell_has {sc : Scope} {n : Nat} {x : Str} (h : sc.names.lookup x = some .cell) : ∃ c, (cellsFrom n sc.names []).lookup x = some c := by
 have q := PySem.W.cellsFrom_some sc.names n [] (.inl h)
 exact Option.isSome_iff_exists.mp q
theorem inv_start {CX : CXT} {P : Program} {w : World} {K : W.Frag} {mg : Str -> Option Value} {base : Heap} {N ps : List Str} {qual : Str} {scope : Scope} {f : Addr} {cd : Value} {A : Around} {outer : List Env} {s s1 : Shared} {H : Hp} {E : XK} {us : List Value} {vs : List V}
  (S : FnScope N ps scope) (hd : A.handled = none) (e0 : Env0 P w K mg base A outer s H) (hl : vs.length = ps.length) (r : Vals vs us)
  (x : InCallC s s.heap.objs.size (bindL (envOfC qual scope s.heap.objs.size f cd).kindOf (ps.zip us) fun _ => none) (cellsFrom (s.heap.objs.size + 1) scope.names []) (bindC (envOfC qual scope s.heap.objs.size f cd).kindOf (ps.zip us) fun _ => none) s1) :
  Inv (cxOf CX P w K mg base N qual scope f cd A outer s H E) [] (start N vs) H s1 := by
 have hpl : ps.length <= N.length := by have := congrArg List.length S.pre; rw [List.length_take] at this; omega
 obtain ⟨h1, tk, rfl, hk⟩ := x.done
 have noA : ∀ b : Addr, b ∉ (cxOf CX P w K mg base N qual scope f cd A outer s H E).ex := fun b z => absurd (show b ∈ ([] : List Addr) from z) (by simp)
 refine ⟨⟨e0.mod, S.kind, rfl, rfl, Nat.le_refl _, fun y z c h1 h2 => ?_, fun y hy => ?_, fun y c _ h => ?_, fun _ => hd, Around.frames_deeper e0.frames, .inr ⟨rfl, rfl⟩, fun b z => absurd z (noA b), e0.bs, e0.bsz, fun b _ _ => noA b, fun b z => absurd z (noA b), e0.funs, e0.frf⟩,
  rfl, e0.bare, Un.kept hk, ⟨_, x.toInCall.ns, fun i y v h1 h2 h3 => ?_⟩, fun y c h => ⟨_, x.cell y c h⟩, e0.hok.fresh (Nat.le_refl _), fun y c h => ?_, fun p hp => absurd (show p ∈ ([] : List (Addr × Obj)) from hp) (by simp), e0.hok.kept hk, ?_⟩
 ·exact name_of_addr x.apart (PySem.mem_of_lookup h1) (PySem.mem_of_lookup h2)
 ·have hy : scope.names.lookup y = some .cell ∨ scope.names.lookup y = some .free := hy
  rcases hy with hy | hy
  ·exact cell_has hy
  ·exact absurd rfl (S.nofree _ (PySem.mem_of_lookup hy))
 ·exact Nat.le_of_lt (x.above y c (PySem.mem_of_lookup h))
 ·have hi : i < vs.length := by
   unfold start at h2
   by_cases hi : i < vs.length
   ·exact hi
   ·rw [List.getElem?_append_right (by simpa using hi)] at h2
    rw [List.getElem?_replicate] at h2
    split at h2 <;> cases h2
  have ha : vs[i]? = some v := by
   unfold start at h2
   rw [List.getElem?_append_left (by simpa using hi), List.getElem?_map] at h2
   cases e : vs[i]? with
   | none => rw [e] at h2; cases h2
   | some a => rw [e] at h2; cases h2; rfl
  obtain ⟨u, hu, rv⟩ := r.get ha
  have hp : ps[i]? = some y := by
   rw [← S.pre, List.getElem?_take_of_lt (by omega)]; exact h1
  have ndP : ps.Nodup := by rw [← S.pre]; exact S.nd.sublist (List.take_sublist _ _)
  refine ⟨u, rv, ?_⟩
  rcases S.par y (List.mem_of_getElem? hp) with k | k
  ·exact .inl ⟨k, bindL_get ndP hp hu k⟩
  ·obtain ⟨c, e⟩ := cell_has (n := s.heap.objs.size + 1) k
   refine .inr ⟨.inl k, c, e, ?_⟩
   have q := x.cell y c e
   rw [bindC_get ndP hp hu (by show scope.names.lookup y ≠ _; rw [k]; decide)] at q
   exact q
 ·exact e0.hok.fresh (Nat.le_of_lt (x.above y c (PySem.mem_of_lookup h)))
 ·unfold start
  show _ = N.length
  rw [List.length_append, List.length_map, List.length_replicate]
  omega
theorem fn_of {CX : CXT} {P : Program} {w : World} {K : W.Frag} {mg : Str -> Option Value} {base : Heap} {k : Nat} {f : Addr} {name qual : Str} {params : Arguments} {body : List Stmt} {scope : Scope} {dV kV doc pm cdv ct oc : Value} {an od : Option Addr}
  {osl : Array (Option Value)} {N ps : List Str} {sp : Sp} (lk : K.lookup f = some ⟨oc, od, .func (PySem.W.fnOf name qual params body scope dV kV doc pm an cdv ct), osl⟩) (hcd : PySem.W.codeIn K cdv qual = true) (S : FnScope N ps scope)
  (len : ∀ vs H Q E, sp vs H Q E -> vs.length = ps.length)
  (hbody : ∀ (A : Around) (outer : List Env) (s : Shared) (H : Hp) (vs : List V) (Q : VK) (E : XK), Room k (A.deeper (envOfC qual scope s.heap.objs.size f cdv)) -> sp vs H Q E ->
   ∃ t, PSs (cxOf CX P w K mg base N qual scope f cdv A outer s H E) body t /\ t { nx := fun _ H' => Q .non H', rt := Q } (start N vs) H) :
  FnOk P w K mg base CX (k + 1) f (PySem.W.fnOf name qual params body scope dV kV doc pm an cdv ct) ps sp := by
 refine ⟨len, fun A outer s H args us vs Q E hr e0 hb r hsp => ?_⟩
 have hl := len _ _ _ _ hsp
 have KX : K.In s.heap := e0.mod.kin.keeps fun b o e => (e0.bs b o e).1
 have lim : s.heap.NoLimit := e0.mod.nolimit.keeps fun b o e => (e0.bs b o e).1
 have hkind : ∀ y ∈ ps.zip us, scope.names.lookup y.1 = some .local ∨ (scope.names.lookup y.1 = some .cell /\ ((cellsFrom (s.heap.objs.size + 1) scope.names []).lookup y.1).isSome = true) := fun ⟨n, v⟩ hy => by
  rcases S.par n (List.of_mem_zip hy).1 with q | q
  ·exact .inl q
  ·exact .inr ⟨q, PySem.W.cellsFrom_some _ _ _ (.inl q)⟩
 refine codeAny_call_function hr.depth (KX _ _ lk) rfl S.co S.gen rfl (PySem.W.codeRec_of KX hcd) (hb _ _ _ _ ?_)
 refine wpAny_newFunctionEnv_cells S.kind hkind fun env he s1 x => ?_
 subst he
 refine ⟨lim.keeps x.toInCall.keep, codeAny_func ?_⟩
 obtain ⟨t, ht, hq⟩ := hbody A outer s H vs Q E (hr.deeper _) hsp
 have I : Inv (cxOf CX P w K mg base N qual scope f cdv A outer s H E) [] (start N vs) H s1 := inv_start S hr.hd e0 hl r x
 refine wpAny_mono (ht [] s1 (start N vs) H _ I hq) (fun fl s' hs => ?_) fun e s' hs => hs
 have fin : ∀ {σ' : St} {H' : Hp} {v : V} {u : Value}, Inv (cxOf CX P w K mg base N qual scope f cdv A outer s H E) [] σ' H' s' -> RelV v u -> Q v H' -> CE outer P w H s Q u s' :=
  fun {σ' H' v u} J rv q => ⟨v, H', J.os, J.bare, J.base, J.hok, rv, q⟩
 cases fl with
 | ret u =>
  obtain ⟨v, σ', H', J, rv, q⟩ := hs
  exact fin J rv q
 | next =>
  obtain ⟨σ', H', J, q⟩ := hs
  exact fin (v := V.non) (u := Value.none) J rfl q
 | brk =>
  obtain ⟨_, _, _, q⟩ := hs
  exact False.elim q
 | cont =>
  obtain ⟨_, _, _, q⟩ := hs
  exact False.elim q
end L2
namespace L2
open PySem PySem.Spec PyProof.Rows
section
variable {X : Cx} {x : Str} {p pos : Pos} {e : Expr} {es : List Expr} {t : TA} {id T : String} {r : List V -> Hp -> VK -> Prop}
def tCB (r : List V -> Hp -> VK -> Prop) (t : TA) : TE := fun σ H Q => t σ H fun vs H1 => r vs H1 Q
theorem pe_callB (hc : CallR X (.builtin id) r) (hg : Gl X x) (hm : X.mg x = none) (hv : bootBuiltins x = some (.builtin id)) (ha : PA X (e :: es) t) (hn : x ≠ "__name__" := by decide) (hdb : (x == ("__debug__" : Str)) = false := by decide)
  (he : starEach (e :: es) X.env = (false, eval e X.env) :: starEach es X.env := by rfl) (hpl : (backTo pos (starEach es X.env)).any (·.1) = false := by rfl) : PE X (.Call (.Name x p) (e :: es) [] pos) (tCB r t) := by
 intro pins s σ H Q I h
 refine wpAny_Call_Name_kw (ld_blt I hg hm hv ?_ hn hdb)
 exact PyProof.Rows.callWith_builtin1 (thn (ha pos pins s σ H _ I h) fun us s1 ⟨vs, H1, I1, r1, q1⟩ => hc pins s1 σ H1 vs us Q I1 r1 q1) he hpl
theorem pe_callTy (hc : CallR X (.type T) r) (hg : Gl X x) (hm : X.mg x = none) (hv : bootBuiltins x = some (.type T)) (ha : PA X (e :: es) t) (hn : x ≠ "__name__" := by decide) (hdb : (x == ("__debug__" : Str)) = false := by decide)
  (he : starEach (e :: es) X.env = (false, eval e X.env) :: starEach es X.env := by rfl) (hpl : (backTo pos (starEach es X.env)).any (·.1) = false := by rfl) : PE X (.Call (.Name x p) (e :: es) [] pos) (tCB r t) := by
 intro pins s σ H Q I h
 refine wpAny_Call_Name_kw (ld_blt I hg hm hv ?_ hn hdb)
 exact PyProof.Rows.callWith_type1 (thn (ha pos pins s σ H _ I h) fun us s1 ⟨vs, H1, I1, r1, q1⟩ => hc pins s1 σ H1 vs us Q I1 r1 q1) he hpl
end
end L2
namespace HT
open PySem PyProof.Rows
section
open PySem.SeqAt
open PySem.AutoSeq1 (wpAny_loadPart')
open PySem.MeetsSeq PySem.MeetsSeq2 PySem.MeetsSeq3
end
section
variable {prog : Program} {w : World} {A : Around} {E : Value -> Shared -> Prop} {s : Shared}
def sIx (n d : Nat) : Option Int -> Nat
 | none => d
 | some v => if v < 0 then (v + (n : Int)).toNat else min v.toNat n
theorem sIx_none (n d : Nat) : sIx n d none = d := rfl
theorem sIx_nat (n d k : Nat) : sIx n d (some (k : Int)) = min k n := by
 show (if (k : Int) < 0 then ((k : Int) + (n : Int)).toNat else min (k : Int).toNat n) = min k n
 rw [if_neg (by omega), Int.toNat_natCast]
end
end HT
namespace L2
open PySem PySem.Spec PyProof.Rows
abbrev TO := St -> Hp -> (Option Int -> Hp -> Prop) -> Prop
def PO (X : Cx) (e : Option Expr) (t : TO) : Prop :=
 ∀ (pins : List (Addr × Obj)) (s : Shared) (σ : St) (H : Hp) (Q : Option Int -> Hp -> Prop), Inv X pins σ H s -> t σ H Q ->
  wpAny (model X.prog X.w) X.A (evalPart e X.env) (fun u s' => ∃ o H', Inv X pins σ H' s' /\ IsPart u o /\ Q o H') X.xe s
def tNoPart : TO := fun _ H Q => Q none H
def tPart (t : TE) : TO := fun σ H Q => t σ H fun x H1 => ∃ i, x = .int i /\ Q (some i) H1
theorem intsAre_of {ns : List Int} : ∀ {us : List Value}, Vals (ns.map V.int) us -> IntsAre us ns := by
 induction ns with
 | nil => intro us r; rw [List.map_nil] at r; cases r; exact .nil
 | cons n ns ih =>
  intro us r
  rw [List.map_cons] at r
  cases r with
  | cons r1 r2 =>
   obtain ⟨t, e⟩ := r1
   subst e
   exact .cons n t (ih r2)
section
variable {X : Cx} {e : Expr} {te : TE} {lo hi : Option Expr} {tl th : TO} {pos p2 : Pos}
theorem po_none : PO X none tNoPart := by
 intro pins s σ H Q I h
 rw [evalPart_none]
 exact wpAny_pure ⟨none, H, I, .none, h⟩
theorem po_some (h : PE X e te) : PO X (some e) (tPart te) := by
 intro pins s σ H Q I hw
 rw [evalPart_some]
 refine thn (h pins s σ H _ I hw) fun u s1 ⟨x, H1, I1, r1, q1⟩ => ?_
 obtain ⟨i, rfl, q⟩ := q1
 obtain ⟨t, rfl⟩ := r1
 exact ⟨some i, H1, I1, .int i t, q⟩
def SlR (X : Cx) (r : V -> Option Int -> Option Int -> Hp -> VK -> Prop) : Prop :=
 ∀ (pins : List (Addr × Obj)) (s : Shared) (σ : St) (H : Hp) (x : V) (v vl vu : Value) (lo hi : Option Int) (sl : Addr) (Q : VK), Inv X pins σ H s -> RelV x v -> s.heap.IsSliceOf sl vl vu .none -> IsPart vl lo -> IsPart vu hi -> r x lo hi H Q ->
  ∃ T id, typeLookup (.type T) "__getitem__" = pure (some (.builtin id)) /\ s.TypeIs v T /\ wpAny (model X.prog X.w) X.A (getItem v (.ref sl)) (EP X pins σ Q) X.xe s
def tSl (r : V -> Option Int -> Option Int -> Hp -> VK -> Prop) (te : TE) (tl th : TO) : TE := fun σ H Q => te σ H fun x H1 => tl σ H1 fun l H2 => th σ H2 fun u H3 => r x l u H3 Q
theorem pe_slice {r : V -> Option Int -> Option Int -> Hp -> VK -> Prop} (hr : SlR X r) (he : PE X e te) (hl : PO X lo tl) (hu : PO X hi th) : PE X (.Subscript e (.Slice lo hi none p2) pos) (tSl r te tl th) := by
 intro pins s σ H Q I h
 refine Subscript_ (thn (he pins s σ H _ I h) fun v s1 ⟨x, H1, I1, r1, q1⟩ => ?_)
 refine wpAny_Slice (thn (hl pins s1 σ H1 _ I1 q1) fun vl s2 ⟨l, H2, I2, pl, q2⟩ => thn (hu pins s2 σ H2 _ I2 q2) fun vu s3 ⟨u, H3, I3, pu, q3⟩ => ?_)
 rw [evalPart_none]
 refine wpAny_pure ?_
 have I4 : Inv X pins σ H3 { s3 with heap := s3.heap.push { cls := .type "slice", data := .fields #[vl, vu, .none] } } := I3.kept (t' := s3.toks) fun b ob q => Heap.get?_push_of_some _ q
 obtain ⟨T, id, hT, ht, hg⟩ := hr pins { s3 with heap := s3.heap.push { cls := .type "slice", data := .fields #[vl, vu, .none] } } σ H3 x v vl vu l u s3.heap.objs.size Q I4 r1 (Heap.IsSliceOf.new ..) pl pu q3
 show wpAny (model X.prog X.w) X.A (subscriptTail e (.Slice lo hi none p2) v (.ref s3.heap.objs.size)) (EP X pins σ Q) X.xe { s3 with heap := s3.heap.push { cls := .type "slice", data := .fields #[vl, vu, .none] } }
 exact tail_any (ops := [.ref s3.heap.objs.size, v]) ht hT hg (by with_unfolding_all rfl)
def cutV (xs : List V) (lo hi : Option Int) : List V := (xs.drop (HT.sIx xs.length 0 lo)).take (HT.sIx xs.length xs.length hi - HT.sIx xs.length 0 lo)
theorem cutV_length (xs : List V) (lo hi : Option Int) : (cutV xs lo hi).length <= xs.length := by
 unfold cutV
 rw [List.length_take, List.length_drop]
 omega
end
end L2
namespace L2
open PySem PySem.Spec PyProof.Rows
def ixN (n : Nat) (i : Int) : Option Nat := if 0 <= i then (if i < n then some i.toNat else none) else if -(n : Int) <= i then some (i + n).toNat else none
def atI {α : Type} (xs : List α) (i : Int) : Option α := (ixN xs.length i).bind fun j => xs[j]?
theorem ixN_seq {n : Nat} {i : Int} {j : Nat} (h : ixN n i = some j) : seqIndex? i n = some j /\ j < n /\ -(n : Int) <= i /\ i < n := by
 unfold ixN at h
 by_cases h0 : 0 <= i
 ·rw [if_pos h0] at h
  by_cases h1 : i < n
  ·rw [if_pos h1] at h
   have e : i.toNat = j := Option.some.inj h
   exact ⟨by rw [seqIndex_of h0 h1, e], by omega, by omega, h1⟩
  ·rw [if_neg h1] at h; cases h
 ·rw [if_neg h0] at h
  by_cases h1 : -(n : Int) <= i
  ·rw [if_pos h1] at h
   have e : (i + n).toNat = j := Option.some.inj h
   exact ⟨by rw [seqIndex_neg (by omega) h1, e], by omega, h1, by omega⟩
  ·rw [if_neg h1] at h; cases h
theorem atI_get {α : Type} {xs : List α} {i : Int} {v : α} (h : atI xs i = some v) : ∃ j, seqIndex? i xs.length = some j /\ xs[j]? = some v /\ j < xs.length /\ -(xs.length : Int) <= i /\ i < xs.length := by
 unfold atI at h
 cases e : ixN xs.length i with
 | none => rw [e] at h; cases h
 | some j =>
  rw [e] at h
  obtain ⟨h1, h2, h3, h4⟩ := ixN_seq e
  exact ⟨j, h1, h, h2, h3, h4⟩
theorem atI_nat {α : Type} {xs : List α} {j : Nat} {v : α} (h : xs[j]? = some v) : atI xs (j : Int) = some v := by
 have hj : j < xs.length := (List.getElem?_eq_some_iff.mp h).1
 have e : ixN xs.length (j : Int) = some j := by
  unfold ixN
  rw [if_pos (by omega), if_pos (by omega)]; simp
 unfold atI; rw [e]; exact h
def PlainIx (b : Expr) : Prop := ∀ o i, subscripted b false o i = operate [o, i] (getItem o i)
def IxR (X : Cx) (r : R2) : Prop :=
 ∀ (value slice : Expr) (pins : List (Addr × Obj)) (s : Shared) (σ : St) (H : Hp) (x y : V) (v u : Value) (Q : VK), Inv X pins σ H s -> RelV x v -> RelV y u -> r x y H Q ->
  subscripted slice false v u = operate [v, u] (getItem v u) -> wpAny (model X.prog X.w) X.A (subscriptTail value slice v u) (EP X pins σ Q) X.xe s
def MtR (X : Cx) (id : String) (r : V -> List V -> Hp -> VK -> Prop) : Prop :=
 ∀ (pins : List (Addr × Obj)) (s : Shared) (σ : St) (H : Hp) (x : V) (xs : List V) (v : Value) (us : List Value) (Q : VK), Inv X pins σ H s -> RelV x v -> Vals xs us -> r x xs H Q ->
  wpAny (model X.prog X.w) X.A (call (.builtin id) (v :: us)) (EP X pins σ Q) X.xe s
section
variable {X : Cx} {a b : Expr} {ta tb : TE} {pos : Pos}
theorem IxR.or {r r' : R2} (h : IxR X r) (h' : IxR X r') : IxR X (fun x y H Q => r x y H Q ∨ r' x y H Q) := by
 intro value slice pins s σ H x y v u Q I rx ry q hs
 rcases q with q | q
 ·exact h value slice pins s σ H x y v u Q I rx ry q hs
 ·exact h' value slice pins s σ H x y v u Q I rx ry q hs
theorem pe_ix {r : R2} (hr : IxR X r) (ha : PE X a ta) (hb : PE X b tb) (hs : PlainIx b) : PE X (.Subscript a b pos) (tOp r ta tb) := by
 intro pins s σ H Q I h
 exact Subscript_ (binT ha hb I h fun v u s2 x y H2 I2 rx ry q => hr a b pins s2 σ H2 x y v u Q I2 rx ry q (hs _ _))
def rIxL (K : W.Frag) : R2 := fun x y H Q => ∃ p xs i v, x = .ref p /\ y = .int i /\ SqL K H p xs /\ atI xs i = some v /\ Q v H
def rIxT (K : W.Frag) : R2 := fun x y H Q => ∃ p xs i v, x = .ref p /\ y = .int i /\ SqT K H p xs /\ atI xs i = some v /\ Q v H
def rIxS : R2 := fun x y H Q => ∃ z i c, x = .str z /\ y = .int i /\ z.length <= sizeLine /\ atI z.cps.toList i = some c /\ Q (.str ⟨#[c]⟩) H
theorem ix_list : IxR X (rIxL X.K) := by
 intro value slice pins s σ H x y v u Q I rx ry h hs
 obtain ⟨p, xs, i, z, rfl, rfl, hq, he, q⟩ := h
 cases rx
 obtain ⟨t, rfl⟩ := ry
 obtain ⟨its, r, pl, hz⟩ := I.list hq
 obtain ⟨j, h1, h2, h3, h4, h5⟩ := atI_get he
 obtain ⟨w, ew, rw'⟩ := r.get h2
 have hl := r.length
 have hn := line63
 have fin : EP X pins σ Q w s := ⟨z, H, I, rw', q⟩
 by_cases h0 : 0 <= i
 ·have hj : i.toNat = j := by
   rw [seqIndex_of h0 h5] at h1
   exact Option.some.inj h1
  exact item_listR pl.isList h0 (by omega) (by rw [hj]; simpa using ew) fin hs
 ·have hj : (i + (its.toArray.size : Int)).toNat = j := by
   rw [seqIndex_neg (by omega) h4] at h1
   rw [List.size_toArray, ← hl]
   exact Option.some.inj h1
  exact subscriptTail_builtinR (x := w) pl.isList.typeIs slot_list_getitem.lookup
   (wpAny_getItem_list_neg (Q := fun r s' => r = w /\ EP X pins σ Q r s') pl.isList (by omega) (by rw [List.size_toArray] <;> omega) (by omega) (by rw [hj]; simpa using ew) ⟨rfl, fin⟩) hs
theorem ix_tup : IxR X (rIxT X.K) := by
 intro value slice pins s σ H x y v u Q I rx ry h hs
 obtain ⟨p, xs, i, z, rfl, rfl, hq, he, q⟩ := h
 cases rx
 obtain ⟨t, rfl⟩ := ry
 obtain ⟨its, r, pl, hz⟩ := I.tuple hq
 obtain ⟨j, h1, h2, h3, h4, h5⟩ := atI_get he
 obtain ⟨w, ew, rw'⟩ := r.get h2
 have hl := r.length
 have hn := line63
 have fin : EP X pins σ Q w s := ⟨z, H, I, rw', q⟩
 exact subscriptTail_builtinR (x := w) pl.typeIs slot_tuple_getitem.lookup
  (getItem_tuple (j := j) (Q := fun r s' => r = w /\ EP X pins σ Q r s') pl (by omega) (by omega) (by rw [List.size_toArray, ← hl]; exact h1) (by simpa using ew) ⟨rfl, fin⟩) hs
theorem ix_str : IxR X rIxS := by
 intro value slice pins s σ H x y v u Q I rx ry h hs
 obtain ⟨z, i, c, rfl, rfl, hz, he, q⟩ := h
 obtain ⟨t, rfl⟩ := rx
 obtain ⟨t', rfl⟩ := ry
 obtain ⟨j, h1, h2, h3, h4, h5⟩ := atI_get he
 have hl : z.cps.toList.length = z.length := by simp [Str.length]
 rw [hl] at h1 h4 h5
 have hn := line63
 exact tail_any (typeIs_str s z t) slot_str_getitem.lookup (getItem_str (c := c) (by
  have e1 : decide (i < -(2 ^ 63 : Int)) = false := decide_eq_false (by omega)
  have e2 : decide (i ≥ 2 ^ 63) = false := decide_eq_false (by omega)
  rw [e1, e2, Bool.or_false]) (by rw [h1]; simpa using h2) ⟨.str ⟨#[c]⟩, H, I.tok _, ⟨_, rfl⟩, q⟩) hs
def rIx (K : W.Frag) : R2 := fun x y H Q => rIxL K x y H Q ∨ rIxT K x y H Q ∨ rIxS x y H Q
theorem ix_seq : IxR X (rIx X.K) := ix_list.or (ix_tup.or ix_str)
theorem mapSeq_set (its : List Value) (n j : Nat) (u : Value) : Obj.mapSeq (·.setIfInBounds j u) { cls := .type "list", data := .seq its.toArray n } = { cls := .type "list", data := .seq (its.set j u).toArray n } := by
 simp [Obj.mapSeq]
theorem Inv.lst {pins : List (Addr × Obj)} {σ : St} {H : Hp} {s : Shared} {p : Addr} {xs : List V} (I : Inv X pins σ H s) (h : H p = some (.lst xs)) :
  ∃ (its : List Value) (n : Nat), Vals xs its /\ s.heap.get? p = some { cls := .type "list", data := .seq its.toArray n } /\ xs.length <= sizeLine := by
 obtain ⟨z, its, n, r, e⟩ := I.hok p _ h
 exact ⟨its, n, r, e, z⟩
theorem Inv.lstUpd {pins : List (Addr × Obj)} {σ : St} {H : Hp} {s : Shared} {p : Addr} {xs ys : List V} {its its' : List Value} {n n' : Nat} {f : Obj -> Obj} (I : Inv X pins σ H s) (h : H p = some (.lst xs))
  (ho : s.heap.get? p = some { cls := .type "list", data := .seq its.toArray n }) (hf : f { cls := .type "list", data := .seq its.toArray n } = { cls := .type "list", data := .seq its'.toArray n' }) (r : Vals ys its') (hz : ys.length <= sizeLine) (t : Nat) :
  Inv X pins σ (upd H p (.lst ys)) { s with heap := s.heap.update p f, toks := t } := by
 have e : (s.heap.update p f).get? p = some { cls := .type "list", data := .seq its'.toArray n' } := by
  rw [Heap.get?_update_self f ho (by rw [hf] <;> rfl), hf]
 refine I.write (x := p) (e := p) (by rw [h]; trivial) (.inl rfl) (fun b u hb q => (Heap.get?_update_other _ _ (Ne.symm hb)).trans q) ⟨_, e⟩ ?_
 exact ⟨hz, its', n', r, e⟩
def rSetL : V -> V -> V -> Hp -> (Hp -> Prop) -> Prop := fun o i v H Q => ∃ p xs k j, o = .ref p /\ i = .int k /\ H p = some (.lst xs) /\ ixN xs.length k = some j /\ Q (upd H p (.lst (xs.set j v)))
theorem set_list : PSet X rSetL := by
 intro pins s σ H o i v ov iv u Q I ro ri rv h
 obtain ⟨p, xs, k, j, rfl, rfl, hp, hj, q⟩ := h
 cases ro
 obtain ⟨t, rfl⟩ := ri
 obtain ⟨its, n, r, ho, hz⟩ := I.lst hp
 obtain ⟨h1, h2, h3, h4⟩ := ixN_seq hj
 have hl := r.length
 have hn := line63
 have I' : Inv X pins σ (upd H p (.lst (xs.set j v))) { s with heap := s.heap.update p (Obj.mapSeq (·.setIfInBounds j u)) } :=
  I.lstUpd hp ho (mapSeq_set its n j u) (r.set rv j) (by rw [List.length_set]; exact hz) s.toks
 by_cases h0 : 0 <= k
 ·have hk : k.toNat = j := by
   rw [seqIndex_of h0 h4] at h1
   exact Option.some.inj h1
  exact PySem.W.ki_setAt ho h0 (by omega) (by rw [List.size_toArray, ← hl]; exact h4) (by rw [hk]; exact ⟨_, I', q⟩)
 ·have hk : (k + (its.toArray.size : Int)).toNat = j := by
   rw [seqIndex_neg (by omega) h3] at h1
   rw [List.size_toArray, ← hl]
   exact Option.some.inj h1
  exact PySem.W.ki_setBack ho (by omega) (by rw [List.size_toArray, ← hl]; exact h3) (by omega) (by rw [hk]; exact ⟨_, I', q⟩)
theorem slice_bounds (lo hi : Option Int) (n : Nat) : (sliceBounds lo hi none n).1 = ((HT.sIx n 0 lo : Nat) : Int) /\ (sliceBounds lo hi none n).2.1 = ((HT.sIx n n hi : Nat) : Int) /\ (sliceBounds lo hi none n).2.2 = 1 := by
 refine ⟨?_, ?_, rfl⟩
 ·cases lo with
  | none => simp [sliceBounds, HT.sIx]
  | some i =>
   simp only [sliceBounds, HT.sIx, Option.getD_none, show (1 : Int) > 0 by decide, if_true]
   by_cases h : i < 0
   ·simp only [h, if_true] <;> omega
   ·simp only [h, if_false] <;> omega
 ·cases hi with
  | none => simp [sliceBounds, HT.sIx]
  | some i =>
   simp only [sliceBounds, HT.sIx, Option.getD_none, show (1 : Int) > 0 by decide, if_true]
   by_cases h : i < 0
   ·simp only [h, if_true] <;> omega
   ·simp only [h, if_false] <;> omega
theorem slicePick_cut (its : List Value) (lo hi : Option Int) : slicePick its.toArray lo hi none = ((its.drop (HT.sIx its.length 0 lo)).take (HT.sIx its.length its.length hi - HT.sIx its.length 0 lo)).toArray := by
 obtain ⟨h1, h2, h3⟩ := slice_bounds lo hi its.toArray.size
 unfold slicePick
 rw [h1, h2, h3]
 simp only [sliceRange_one, pick_run, List.size_toArray] <;> rfl
def rSlL (K : W.Frag) : V -> Option Int -> Option Int -> Hp -> VK -> Prop := fun x lo hi H Q => ∃ a xs, x = .ref a /\ SqL K H a xs /\ ∀ p, H p = none -> Q (.ref p) (upd H p (.lst (cutV xs lo hi)))
theorem sl_list : SlR X (rSlL X.K) := by
 intro pins s σ H x v vl vu lo hi sl Q I rx hs pl pu h
 obtain ⟨a, xs, rfl, hx, q⟩ := h
 cases rx
 obtain ⟨its, r, ht, hz⟩ := I.list hx
 have hlen := r.length
 refine ⟨"list", _, slot_list_getitem.lookup, ht.isList.typeIs, ?_⟩
 refine wpAny_getItem_list_slice ht.isList hs pl pu .none (by simp) ?_ (by rw [List.size_toArray] <;> omega)
 rw [slicePick_cut, ← hlen]
 refine ⟨.ref s.heap.objs.size, _, I.laid (t' := s.toks) (o := .lst (cutV xs lo hi)) (fun b ob q => Heap.get?_push_of_some _ q) (Nat.le_refl _) ?_, rfl, q _ (I.hok.fresh (Nat.le_refl _))⟩
 exact ⟨Nat.le_trans (cutV_length xs lo hi) hz, _, 0, (r.drop (HT.sIx xs.length 0 lo)).take (HT.sIx xs.length xs.length hi - HT.sIx xs.length 0 lo), Heap.get?_push_size _ rfl⟩
def flatV : V -> Bool
 | .non => true
 | .bl _ => true
 | .int _ => true
 | .str _ => true
 | _ => false
def eqV : V -> V -> Bool
 | .non, .non => true
 | .bl a, .bl b => a == b
 | .bl a, .int b => (if a then 1 else 0) == b
 | .int a, .bl b => a == (if b then 1 else 0)
 | .int a, .int b => a == b
 | .str a, .str b => a == b
 | _, _ => false
theorem eqAt_V {A : Around} {s : Shared} {y x : V} {u v : Value} (ry : RelV y u) (rx : RelV x v) (fy : flatV y = true) (fx : flatV x = true) : SeqAt.EqAt A s u v (eqV y x) := by
 cases y with
 | non =>
  cases ry
  cases x with
  | non => cases rx; exact SeqAt.EqAt.same _
  | bl b => cases rx; exact SeqAt.EqAt.none_bool b
  | int b => obtain ⟨t, rfl⟩ := rx; exact SeqAt.EqAt.none_int b t
  | str b => obtain ⟨t, rfl⟩ := rx; exact SeqAt.EqAt.none_str b t
  | _ => exact absurd (show false = true from fx) Bool.false_ne_true
 | bl a =>
  cases ry
  cases x with
  | non => cases rx; exact SeqAt.EqAt.bool_none a
  | bl b => cases rx; exact SeqAt.EqAt.bool_bool a b
  | int b => obtain ⟨t, rfl⟩ := rx; exact SeqAt.EqAt.bool_int a b t
  | str b => obtain ⟨t, rfl⟩ := rx; exact SeqAt.EqAt.bool_str a b t
  | _ => exact absurd (show false = true from fx) Bool.false_ne_true
 | int a =>
  obtain ⟨t', rfl⟩ := ry
  cases x with
  | non => cases rx; exact SeqAt.EqAt.int_none a t'
  | bl b => cases rx; exact SeqAt.EqAt.int_bool a t' b
  | int b => obtain ⟨t, rfl⟩ := rx; exact SeqAt.EqAt.int_int a t' b t
  | str b => obtain ⟨t, rfl⟩ := rx; exact SeqAt.EqAt.int_str a t' b t
  | _ => exact absurd (show false = true from fx) Bool.false_ne_true
 | str a =>
  obtain ⟨t', rfl⟩ := ry
  cases x with
  | non => cases rx; exact SeqAt.EqAt.str_none a t'
  | bl b => cases rx; exact SeqAt.EqAt.str_bool a t' b
  | int b => obtain ⟨t, rfl⟩ := rx; exact SeqAt.EqAt.str_int a t' b t
  | str b => obtain ⟨t, rfl⟩ := rx; exact SeqAt.EqAt.str_str a t' b t
  | _ => exact absurd (show false = true from fx) Bool.false_ne_true
 | _ => exact absurd (show false = true from fy) Bool.false_ne_true
def eqU (x : V) (u : Value) : Bool := match u with
 | .none => eqV .non x
 | .bool b => eqV (.bl b) x
 | .int i _ => eqV (.int i) x
 | .str z _ => eqV (.str z) x
 | _ => false
theorem eqU_of {x y : V} {u : Value} (r : RelV y u) (f : flatV y = true) : eqU x u = eqV y x := by
 cases y with
 | non => cases r; rfl
 | bl b => cases r; rfl
 | int i => obtain ⟨t, rfl⟩ := r; rfl
 | str z => obtain ⟨t, rfl⟩ := r; rfl
 | _ => exact absurd (show false = true from f) Bool.false_ne_true
theorem any_eqU {x : V} : ∀ {xs : List V} {us : List Value}, Vals xs us -> xs.all flatV = true -> us.any (eqU x) = xs.any fun y => eqV y x
 | _, _, .nil, _ => rfl
 | y :: xs, u :: us, .cons r t, f => by
  rw [List.all_cons, Bool.and_eq_true] at f
  rw [List.any_cons, List.any_cons, eqU_of r f.1, any_eqU t f.2]
theorem mem_eqAt {A : Around} {s : Shared} {x : V} {v : Value} (rx : RelV x v) (fx : flatV x = true) : ∀ {xs : List V} {us : List Value}, Vals xs us -> xs.all flatV = true -> ∀ u ∈ us, SeqAt.EqAt A s u v (eqU x u)
 | _, _, .nil, _ => fun u hu => by cases hu
 | y :: xs, u :: us, .cons r t, f => fun u' hu => by
  rw [List.all_cons, Bool.and_eq_true] at f
  rcases List.mem_cons.mp hu with rfl | hu
  ·rw [eqU_of r f.1]; exact eqAt_V r rx f.1 fx
  ·exact mem_eqAt rx fx t f.2 u' hu
def inV (x : V) (xs : List V) : Bool := xs.any fun y => eqV y x
def rIn (K : W.Frag) (neg : Bool) : R2 := fun x y H Q => ∃ p xs, y = .ref p /\ (SqL K H p xs ∨ SqT K H p xs) /\ flatV x = true /\ xs.all flatV = true /\ Q (.bl (if neg then !inV x xs else inV x xs)) H
theorem op_in_seq : OpR X (compareOp .In) (rIn X.K false) := by
 intro pins s σ H x y v u Q I rx ry h
 obtain ⟨p, xs, rfl, hq, fx, fs, q⟩ := h
 cases ry
 rcases hq with hq | hq
 ·obtain ⟨its, r, pl, hz⟩ := I.list hq
  refine SeqAt.in_listAt (eqU x) pl.isList (fun w hw => mem_eqAt rx fx r fs w (by simpa using hw)) ⟨.bl _, H, I, rfl, ?_⟩
  rw [show its.toArray.any (eqU x) = its.any (eqU x) by simp, any_eqU r fs]
  exact q
 ·obtain ⟨its, r, pl, hz⟩ := I.tuple hq
  refine SeqAt.in_tupleAt (eqU x) pl (fun w hw => mem_eqAt rx fx r fs w (by simpa using hw)) ⟨.bl _, H, I, rfl, ?_⟩
  rw [show its.toArray.any (eqU x) = its.any (eqU x) by simp, any_eqU r fs]
  exact q
theorem call_len_seq : CallR X (.builtin "len") (fun xs H Q => ∃ p ys, xs = [.ref p] /\ (SqL X.K H p ys ∨ SqT X.K H p ys) /\ Q (.int ys.length) H) := by
 intro pins s σ H xs us Q I r h
 obtain ⟨p, ys, rfl, hq, q⟩ := h
 obtain ⟨u, rfl, rx⟩ := vals1 r
 cases rx
 have hn := line63
 rcases hq with hq | hq
 ·obtain ⟨its, r', pl, hz⟩ := I.list hq
  have hlen := r'.length
  exact Calls.call_len_list pl.isList (by simp only [List.size_toArray] <;> omega) ⟨.int ys.length, H, I.tok _, ⟨s.toks + 1, by rw [List.size_toArray, hlen]⟩, q⟩
 ·obtain ⟨its, r', pl, hz⟩ := I.tuple hq
  have hlen := r'.length
  exact len_tuple pl (by simp only [List.size_toArray] <;> omega) ⟨.int ys.length, H, I.tok _, ⟨s.toks + 1, by rw [List.size_toArray, hlen]⟩, q⟩
theorem call_len_str : CallR X (.builtin "len") (fun xs H Q => ∃ z, xs = [.str z] /\ z.length <= sizeLine /\ Q (.int z.length) H) := by
 intro pins s σ H xs us Q I r h
 obtain ⟨z, rfl, hz, q⟩ := h
 obtain ⟨u, rfl, t, rfl⟩ := vals1 r
 have hn := line63
 exact len_str (by omega) ⟨.int z.length, H, I.tok _, ⟨_, rfl⟩, q⟩
theorem call_list_of : CallR X (.type "list") (fun xs H Q => ∃ p ys, xs = [.ref p] /\ (SqL X.K H p ys ∨ SqT X.K H p ys) /\ ∀ l, H l = none -> Q (.ref l) (upd H l (.lst ys))) := by
 intro pins s σ H xs us Q I r h
 obtain ⟨p, ys, rfl, hq, q⟩ := h
 obtain ⟨u, rfl, rx⟩ := vals1 r
 cases rx
 have fin : ∀ (its : List Value), Vals ys its -> ys.length <= sizeLine -> ∀ (h' : Heap) (c' : Nat), (∀ b o', s.heap.get? b = some o' -> h'.get? b = some o') ->
   h'.get? s.heap.objs.size = some { cls := .type "list", dict := none, data := .seq its.toArray c', slots := #[] } -> EP X pins σ Q (.ref s.heap.objs.size) { s with heap := h' } := fun its r' hz h' c' kp e =>
  ⟨.ref s.heap.objs.size, _, I.laid (t' := s.toks) kp (Nat.le_refl _) (show ObjOk X.prog X.w _ h' _ (.lst ys) from ⟨hz, its, c', r', e⟩), rfl, q _ (I.hok.fresh (Nat.le_refl _))⟩
 rcases hq with hq | hq
 ·obtain ⟨its, r', pl, hz⟩ := I.list hq
  have hlen := r'.length
  obtain ⟨o, ho, hc, n, hd⟩ := pl.isList
  exact call_list_seq p (.inl rfl) ho hc hd (fun h' c' kp e => fin its r' hz h' c' kp e) (by simp only [List.size_toArray] <;> omega)
 ·obtain ⟨its, r', pl, hz⟩ := I.tuple hq
  have hlen := r'.length
  obtain ⟨o, ho, hc, n, hd⟩ := pl
  exact call_list_seq p (.inr rfl) ho hc hd (fun h' c' kp e => fin its r' hz h' c' kp e) (by simp only [List.size_toArray] <;> omega)
def tyV (K : W.Frag) (T : String) (x : V) (H : Hp) : Prop := match x with
 | .str _ => T = "str"
 | .int _ => T = "int"
 | .ref p => (T = "list" /\ ∃ xs, SqL K H p xs) ∨ (T = "tuple" /\ ∃ o, K.lookup p = some o /\ o.cls = .type "tuple" /\ o.dict = none) ∨
   (T = "dict" /\ ((∃ kvs, H p = some (.dK kvs)) ∨ ∃ kvs, H p = some (.dT kvs))) ∨ (T = "set" /\ ∃ S n, H p = some (.set S n))
 | _ => False
theorem tyV_is {pins : List (Addr × Obj)} {σ : St} {H : Hp} {s : Shared} {T : String} {x : V} {v : Value} (I : Inv X pins σ H s) (r : RelV x v) (ty : tyV X.K T x H) :
  s.TypeIs v T /\ ∀ a, v = .ref a -> ∃ ob, s.heap.get? a = some ob /\ ob.dict = none := by
 cases x with
 | str z =>
  obtain ⟨t, rfl⟩ := r
  cases (show T = "str" from ty)
  exact ⟨typeIs_str s z t, fun _ e => nomatch e⟩
 | int i =>
  obtain ⟨t, rfl⟩ := r
  cases (show T = "int" from ty)
  exact ⟨typeIs_int s i t, fun _ e => nomatch e⟩
 | ref p =>
  cases r
  rcases ty with ⟨rfl, xs, hq⟩ | ⟨rfl, o, hk, hc, hd⟩ | ⟨rfl, hk⟩ | ⟨rfl, S, n, hk⟩
  ·obtain ⟨its, _, pl, _⟩ := I.list hq
   refine ⟨pl.isList.typeIs, fun a e => ?_⟩
   cases e
   obtain ⟨o, n, e, c, hd, _⟩ := pl
   exact ⟨o, e, hd⟩
  ·refine ⟨⟨o, I.kIn p o hk, hc⟩, fun a e => ?_⟩
   cases e
   exact ⟨o, I.kIn _ o hk, hd⟩
  ·have z : ∃ o, s.heap.get? p = some o /\ o.ExactDict := by
    rcases hk with ⟨kvs, hk⟩ | ⟨kvs, hk⟩
    ·obtain ⟨_, _, _, _, o, _, _, e, ex, _⟩ := I.hok p _ hk
     exact ⟨o, e, ex⟩
    ·obtain ⟨_, _, _, _, o, _, _, e, ex, _⟩ := I.hok p _ hk
     exact ⟨o, e, ex⟩
   obtain ⟨o, e, ex⟩ := z
   refine ⟨⟨o, e, ex.1⟩, fun a e2 => ?_⟩
   cases e2
   exact ⟨o, e, ex.2.1⟩
  ·obtain ⟨o, _, _, _, e, ex, _⟩ := I.hok p _ hk
   refine ⟨⟨o, e, ex.1⟩, fun a e2 => ?_⟩
   cases e2
   exact ⟨o, e, ex.2.1⟩
 | _ => exact False.elim ty
def tBM (K : W.Frag) (T : String) (r : V -> List V -> Hp -> VK -> Prop) (to : TE) (t : TA) : TE := fun σ H Q => to σ H fun x H1 => tyV K T x H1 /\ t σ H1 fun xs H2 => r x xs H2 Q
variable {o e : Expr} {es : List Expr} {to : TE} {t : TA} {name : Str} {apos cpos : Pos} {T id : String} {r : V -> List V -> Hp -> VK -> Prop}
theorem pe_bm (pa : PlainAttrs T) (slot : Slot T name id) (hty : typeOf (.builtin id) = pure (.type "method_descriptor")) (hm : MtR X id r) (ho : PE X o to) (ha : PA X (e :: es) t)
  (hbase : attributeBase o name X.env (eval o X.env) = eval o X.env := by rfl)
  (hfew : ((backTo cpos (starEach (e :: es) X.env)).all (fun x => !x.1) && (backToKw cpos (keywordEach [] X.env)).all (fun x => x.1.isSome)
   && decide ((e :: es).length + ([] : List Keyword).length + (if ([] : List Keyword).isEmpty then 0 else 1) < 30)) = true := by rfl)
  (hline : (apos.endLine == cpos.line) = true := by rfl) (hs : starEach (e :: es) X.env = (false, eval e X.env) :: starEach es X.env := by rfl) (hplain : (backTo cpos (starEach es X.env)).any (·.1) = false := by rfl) :
  PE X (.Call (.Attribute o name apos) (e :: es) [] cpos) (tBM X.K T r to t) := by
 intro pins s σ H Q I h
 refine wpAny_Call_method_late hbase hfew hline rfl (thn (ho pins s σ H _ I h) fun v s1 ⟨x, H1, I1, r1, ty, q1⟩ => ?_)
 obtain ⟨h1, h2⟩ := tyV_is I1 r1 ty
 refine ⟨T, id, pa, slot, hty, h1, h2, ?_⟩
 have hA := ha cpos pins s1 σ H1 _ I1 q1
 rw [hs] at hA ⊢
 refine Calls.callWith_builtin (by show (false || (backTo cpos (starEach es X.env)).any (·.1)) = false; rw [hplain] <;> rfl) (Calls.evalArgs_plain ?_)
 exact thn hA fun us s2 ⟨vs, H2, I2, r2, q2⟩ => hm pins s2 σ H2 x vs v us Q I2 r1 r2 q2
/- xs.append(e), list.index on a module's tuple .. are MtR facts of 06m -/
end
end L2
namespace L2
open PySem PySem.Spec PyProof.Rows
def MtM (X : Cx) (id : String) (r : V -> List V -> Hp -> VK -> Prop) : Prop :=
 ∀ (pins : List (Addr × Obj)) (s : Shared) (σ : St) (H : Hp) (x : V) (xs : List V) (v : Value) (us : List Value) (Q : VK), Inv X pins σ H s -> RelV x v -> Vals xs us -> r x xs H Q ->
  wpAny (model X.prog X.w) X.A (call (.builtin id) (v :: us)) (EP X pins σ Q) X.xe s
theorem Vals.one {x : V} {us : List Value} (h : Vals [x] us) : ∃ u, us = [u] /\ RelV x u := by
 cases h with
 | cons r q => cases q; exact ⟨_, rfl, r⟩
theorem Vals.zero : ∀ {us : List Value}, Vals [] us -> us = []
 | _, .nil => rfl
theorem Vals.eraseIdx : ∀ {xs : List V} {us : List Value} (i : Nat), Vals xs us -> Vals (xs.eraseIdx i) (us.eraseIdx i)
 | _, _, _, .nil => .nil
 | _, _, 0, .cons _ t => t
 | _, _, i + 1, .cons r t => .cons r (Vals.eraseIdx i t)
theorem len_erase {α : Type} : ∀ (l : List α) (i : Nat), (l.eraseIdx i).length <= l.length
 | [], _ => Nat.le_refl _
 | _ :: _, 0 => Nat.le_succ _
 | _ :: r, i + 1 => Nat.succ_le_succ (len_erase r i)
section
variable {X : Cx} {pins : List (Addr × Obj)} {σ : St} {H : Hp} {s : Shared} {l b : Addr} {xs ys zs : List V}
theorem Inv.lset {its its' : List Value} {n : Nat} {f : Array Value -> Array Value} {t' : Nat} (I : Inv X pins σ H s) (hH : H l = some (.lst xs))
  (e : s.heap.get? l = some { cls := .type "list", data := .seq its.toArray n }) (hf : f its.toArray = its'.toArray) (hv : Vals ys its') (hz : ys.length <= sizeLine) :
  Inv X pins σ (upd H l (.lst ys)) { s with heap := s.heap.update l (Obj.mapSeq f), toks := t' } := by
 have q := PySem.IsL.update e f
 rw [hf] at q
 refine I.write (x := l) (e := l) (by rw [hH]; exact trivial) (.inl rfl) (fun b' u hb hu => (Heap.get?_update_other s.heap (Obj.mapSeq f) (Ne.symm hb)).trans hu) ⟨_, q⟩ ?_
 exact ⟨hz, its', _, hv, q⟩
theorem Inv.lnew {its : List Value} {t' : Nat} (I : Inv X pins σ H s) (hv : Vals ys its) (hz : ys.length <= sizeLine) :
  Inv X pins σ (upd H s.heap.objs.size (.lst ys)) { s with heap := s.heap.push { cls := .type "list", data := .seq its.toArray }, toks := t' } :=
 I.laid (fun _ _ q => Heap.get?_push_of_some _ q) (Nat.le_refl _) ⟨hz, its, 0, hv, Heap.get?_push_size _ rfl⟩
theorem Inv.fresh (I : Inv X pins σ H s) : H s.heap.objs.size = none := I.hok.fresh (Nat.le_refl _)
theorem Inv.lstM (I : Inv X pins σ H s) (hH : H l = some (.lst xs)) : xs.length <= sizeLine /\ ∃ (its : List Value) (n : Nat), Vals xs its /\ xs.length = its.length /\ s.heap.get? l = some { cls := .type "list", data := .seq its.toArray n } := by
 obtain ⟨z, its, n, r, e⟩ := I.hok l _ hH
 exact ⟨z, its, n, r, r.length, e⟩
theorem notLongL {n : Nat} (h : n <= sizeLine) : Builtin.List.listTooLong n = false := by
 unfold Builtin.List.listTooLong
 exact decide_eq_false (by omega)
end
section
variable {X : Cx}
def rAppend : V -> List V -> Hp -> VK -> Prop := fun x vs H Q => ∃ l xs y, x = .ref l /\ vs = [y] /\ H l = some (.lst xs) /\ xs.length < sizeLine /\ Q .non (upd H l (.lst (xs ++ [y])))
theorem mt_append : MtM X "list.append" rAppend := by
 intro pins s σ H x vs v us Q I rx rv h
 obtain ⟨l, xs, y, rfl, rfl, hH, hz, q⟩ := h
 cases rx
 obtain ⟨u, rfl, ru⟩ := rv.one
 obtain ⟨z, its, n, r, hl, e⟩ := I.lstM hH
 refine call_meets F.slot_list_append ⟨_, e, rfl⟩ F.entry_list_append (F.args_list_append_2 _ _) (PySem.list_append l its.toArray n u (by rw [List.size_toArray]; omega)) ⟨e, ?_⟩
 refine ⟨.non, _, I.lset (its' := its ++ [u]) hH e (by simp) (r.append (.cons ru .nil)) ?_, rfl, q⟩
 rw [List.length_append, List.length_singleton]
 omega
def rExtend : V -> List V -> Hp -> VK -> Prop := fun x vs H Q => ∃ l b xs zs, x = .ref l /\ vs = [.ref b] /\ H l = some (.lst xs) /\ H b = some (.lst zs) /\ xs.length + zs.length <= sizeLine /\ Q .non (upd H l (.lst (xs ++ zs)))
theorem mt_extend : MtM X "list.extend" rExtend := by
 intro pins s σ H x vs v us Q I rx rv h
 obtain ⟨l, b, xs, zs, rfl, rfl, hH, hB, hz, q⟩ := h
 cases rx
 obtain ⟨u, rfl, ru⟩ := rv.one
 cases ru
 obtain ⟨z, its, n, r, hl, e⟩ := I.lstM hH
 obtain ⟨z2, its2, n2, r2, hl2, e2⟩ := I.lstM hB
 have hsz : its.toArray.size + its2.toArray.size <= sizeLine := by rw [List.size_toArray, List.size_toArray]; omega
 have hlong : ¬ (!its.toArray.isEmpty && Builtin.List.listTooLong (its.toArray.size + its2.toArray.size)) = true := by
  rw [notLongL hsz, Bool.and_false]
  exact Bool.false_ne_true
 refine call_meets F.slot_list_extend ⟨_, e, rfl⟩ F.entry_list_extend (F.args_list_extend_2 _ _)
  (AutoSeq1.list_extend_list_list_0 l its.toArray n b its2.toArray n2 hlong (by rw [List.size_toArray]; omega) (by omega)) ⟨e, e2, ?_⟩
 refine ⟨.non, _, I.lset (its' := its ++ its2) hH e (by simp) (r.append r2) ?_, rfl, q⟩
 rw [List.length_append]
 omega
def rPopAt : V -> List V -> Hp -> VK -> Prop := fun x vs H Q => ∃ l xs i k y, x = .ref l /\ vs = [.int i] /\ H l = some (.lst xs) /\ -(2 ^ 63) <= i /\ i < 2 ^ 63 /\ seqIndex? i xs.length = some k /\ xs[k]? = some y /\ Q y (upd H l (.lst (xs.eraseIdx k)))
theorem mt_popAt : MtM X "list.pop" rPopAt := by
 intro pins s σ H x vs v us Q I rx rv h
 obtain ⟨l, xs, i, k, y, rfl, rfl, hH, h1, h2, hk, hy, q⟩ := h
 cases rx
 obtain ⟨u, rfl, ru⟩ := rv.one
 obtain ⟨t, rfl⟩ := ru
 obtain ⟨z, its, n, r, hl, e⟩ := I.lstM hH
 obtain ⟨w, hw, rw'⟩ := r.get hy
 refine call_meets F.slot_list_pop ⟨_, e, rfl⟩ F.entry_list_pop (F.args_list_pop_2 _ _)
  (MeetsSeq.list_pop_at l its.toArray n i t k w (fitsIndex_both h1 h2) (by rw [List.size_toArray, ← hl]; exact hk) (by rw [← Array.getElem?_toList]; exact hw) (by rw [List.size_toArray]; omega)) ⟨e, ?_⟩
 refine ⟨y, _, I.lset (its' := its.eraseIdx k) hH e ?_ (r.eraseIdx k) ?_, rw', q⟩
 ·show its.toArray.eraseIdxIfInBounds k = (its.eraseIdx k).toArray
  rw [List.eraseIdxIfInBounds_toArray]
 ·have := len_erase xs k
  omega
def rCat : R2 := fun x y H Q => ∃ l b xs zs, x = .ref l /\ y = .ref b /\ H l = some (.lst xs) /\ H b = some (.lst zs) /\ xs.length + zs.length <= sizeLine /\ ∀ p, H p = none -> Q (.ref p) (upd H p (.lst (xs ++ zs)))
theorem op_cat : OpR X (binaryOp .Add) rCat := by
 intro pins s σ H x y v u Q I rx ry h
 obtain ⟨l, b, xs, zs, rfl, rfl, hH, hB, hz, q⟩ := h
 cases rx
 cases ry
 obtain ⟨z, its, n, r, hl, e⟩ := I.lstM hH
 obtain ⟨z2, its2, n2, r2, hl2, e2⟩ := I.lstM hB
 refine PySem.P.add_list e e2 ?_ (by rw [List.size_toArray, List.size_toArray]; omega)
 have ea : its.toArray ++ its2.toArray = (its ++ its2).toArray := by simp
 rw [ea]
 exact ⟨.ref _, _, I.lnew (t' := s.toks) (r.append r2) (by rw [List.length_append]; omega), rfl, q _ I.fresh⟩
end
section
variable {prog : Program} {w : World} {A : Around} {E : Value -> Shared -> Prop} {s : Shared}
end
section
variable {X : Cx}
end
end L2
namespace Att
open PySem PySem.W PySem.Calls PyProof.Rows
theorem ints_of_wellAll {P : Params} {h : Heap} : ∀ (ns : List Int) (vs : List Value), WellAll P h vs (ns.map WData.int) -> IntsAre vs ns := by
 intro ns
 induction ns with
 | nil =>
  intro vs w
  rw [List.map_nil] at w
  cases w
  exact .nil
 | cons n ns ih =>
  intro vs w
  rw [List.map_cons] at w
  cases w with
  | cons a b =>
   cases a
   exact .cons _ _ (ih _ b)
theorem script_of {l : OpenLaw} {n : Nat} (hn : l.most = some n) {P : Params} {h : Heap} {args : List WData} {vals : List Value}
  (hpre : l.row.toRowW.claim.pre args = true) (hwl : WellAll P h vals args) :
  ∃ a vs ns, vals = [Value.ref a] /\ args = [WData.list (ns.map WData.int)] /\ h.get? a = some { cls := .type "list", data := .seq vs.toArray } /\ IntsAre vs ns /\ ns.length <= n := by
 have hsh : WShape.hasAll [] args [.list .int] = true := (pre_splitW hpre).1
 have hc : l.pre.holds [] { args := args } = true := (pre_splitW hpre).2
 obtain ⟨d, r, rfl, h1, h2⟩ := hasAllW_cons hsh
 obtain rfl := hasAllW_nil h2
 obtain ⟨xs, rfl, h3⟩ := hasW_list h1
 obtain ⟨ns, rfl⟩ := items_int h3
 have hlen : ns.length <= n := by
  unfold OpenLaw.pre at hc
  have h4 : (WTm.not (.lt (.lit (.int (n : Int))) (.len (.arg 0)))).holds [] { args := [.list (ns.map .int)] } = true := by
   have h4 := (holds_andW hc).1
   rw [hn] at h4
   exact h4
  have h5 := condW_of h4 (w_not (w_lt w_lit (w_len_list (w_arg rfl))))
  rw [List.length_map] at h5
  refine Nat.le_of_not_lt fun q => ?_
  have q' : (n : Int) < ((ns.length : Nat) : Int) := by omega
  first
   | (rw [decide_eq_true q'] at h5; exact absurd h5 (by decide))
   | (simp at h5; omega)
 cases hwl with
 | cons w1 w2 =>
  cases w2
  cases w1 with
  | list ho hall => exact ⟨_, _, ns, rfl, rfl, ho, ints_of_wellAll ns _ hall, hlen⟩
theorem post_true (l : OpenLaw) (args : List WData) : l.row.toRowW.claim.post args (.bool true) args = true :=
 postW_of (r := l.row.toRowW) (X := (true == true))
  (show WShape.has [] (.bool true) .bool = true by first | rfl | decide | simp [WShape.has, WShape.arms, WShape.armsAll])
  (show (WTm.eq .res (.lit (.bool true))).value [] { args := args, res := some (.bool true), after := args } = some (.bool (true == true)) from w_eq_bool (w_res rfl) w_lit) rfl
theorem attach_call {l : OpenLaw} {n : Nat} {q : Program} {loose : List Str} {XP : (Str -> Option Value) -> Heap -> Prop} {YP : World -> Heap -> Prop} {d : DefRec}
  (hn : l.most = some n) (hdf : d.params.defaults = [])
  (call : ∀ (w : World) (s₀ s₁ : Shared) (mg mb : Str -> Option Value) (fa : Addr) (o : Obj) (pm cd doc : Value) (a : Addr) (vs : List Value) (ns : List Int),
   Ground q loose [] XP w s₀ mg mb s₁.heap -> YP w s₁.heap ->
   s₁.heap.get? fa = some o -> o.data = .func (docDef d.name d.params d.body d.scope pm cd doc) -> s₁.heap.CodeRec cd d.name -> mg d.name = some (.ref fa) ->
   s₁.heap.get? a = some { cls := .type "list", data := .seq vs.toArray } -> IntsAre vs ns -> ns.length <= n -> s₁.gens = #[] ->
   codeAny (model l.prog w) callerA (.call (.ref fa) ⟨[.ref a], []⟩) (fun r s' => r = .ok (.ret (.bool true)) /\ OldK s₁.heap s'.heap /\ s'.os = s₁.os /\ AllBare s'.gens) s₁) :
  WalkO q loose XP YP l.row.toRowW d [] (fun f vs => PySem.call f vs) := by
 intro w s₀ s₁ mg mb G Y fa o pm cd doc dV kV ho hd hcd hD hmg hg args vals as hpre hlay hrd hwl hlo
 obtain rfl : dV = .none := Dflts.none hD hdf
 obtain rfl : kV = .none := Dflts.noKw hD
 obtain ⟨a, vs, ns, rfl, rfl, hobj, hints, hlen⟩ := script_of hn hpre hwl
 refine enter_call (codeAny_mono (call w s₀ s₁ mg mb fa o pm cd doc a vs ns G Y ho (fd_plain hd) hcd hmg hobj hints hlen hg) fun r s' hq => ?_)
 obtain ⟨rfl, h2, h3, h4⟩ := hq
 exact ⟨.inl ⟨.bool true, .bool true, [], rfl, fun _ => rfl, .bool true, post_true l _, fun _ => ⟨List.Pairwise.nil, fun _ hm => (nomatch hm)⟩⟩, h2, h3, h4⟩
section
variable {prog : Program} {w : World} {A : Around} {E : Value -> Shared -> Prop} {s : Shared} {K : Frag}
end
end Att
namespace L2
open PySem PySem.Spec PyProof.Rows
theorem vals_ints : ∀ {vs : List Value} {ns : List Int}, IntsAre vs ns -> Vals (ns.map V.int) vs
 | _, _, .nil => .nil
 | _, _, .cons n t h => .cons ⟨t, rfl⟩ (vals_ints h)
def Only (H : Hp) : Prop := ∀ b, H b = none ∨ ∃ o xs, H b = some (.frz o (.lst xs))
theorem law_call {P : Program} {w : World} {K : W.Frag} {mg mb : Str -> Option Value} {CX : CXT} {k : Nat} {fa a : Addr} {fd : FuncData} {x : Str} {sp : Sp} {s₁ : Shared} {vs : List Value} {ns : List Int}
  (KX : K.In s₁.heap) (hns : s₁.heap.Ns mainGlobals mg) (hb : s₁.heap.Ns builtinsNs mb) (hbb : ∀ x : Str, x ≠ "__name__" -> mb x = bootBuiltins x) (hlim : s₁.heap.NoLimit) (hg : s₁.gens = #[])
  (ha : s₁.heap.get? a = some { cls := .type "list", data := .seq vs.toArray }) (hi : IntsAre vs ns) (hl : ns.length <= sizeLine) (hr : Room k callerA)
  (F : ∀ base : Heap, K.In base -> base.Ns mainGlobals mg -> FnOk P w K mg base CX k fa fd [x] sp) (hbind : ∀ (s : Shared) (u : Value), BindsTo s fd ⟨[u], []⟩ [(x, u)])
  (hsp : ∀ H : Hp, Only H -> SqL K H a (ns.map V.int) -> sp [.ref a] H (fun v _ => v = .bl true) fun _ _ _ => False)
  (hCX : ∀ H e s', CX [] H s₁ (fun _ _ _ => False) e s' -> False) :
  codeAny (model P w) callerA (.call (.ref fa) ⟨[.ref a], []⟩) (fun r s' => r = .ok (.ret (.bool true)) /\ OldK s₁.heap s'.heap /\ s'.os = s₁.os /\ AllBare s'.gens) s₁ := by
 have rv := vals_ints hi
 have lenV := hi.length
 have core : ∀ H : Hp, Only H -> SqL K H a (ns.map V.int) -> HOk P w H s₁.heap -> (∀ b, H b ≠ none -> b = a) -> (H a ≠ none -> K.lookup a = none) ->
   codeAny (model P w) callerA (.call (.ref fa) ⟨[.ref a], []⟩) (fun r s' => r = .ok (.ret (.bool true)) /\ OldK s₁.heap s'.heap /\ s'.os = s₁.os /\ AllBare s'.gens) s₁ := by
  intro H hO hS hok hA hK
  have base_of : ∀ {b : Addr} {o : Obj}, s₁.heap.get? b = some o -> H b = none -> (hidT s₁.heap H).get? b = some o := fun e n => hidT_get e n
  have noA : ∀ {b : Addr} {o : Obj} {es : Array DictEntry} {ep : Nat}, s₁.heap.get? b = some o -> o.data = .dict es ep -> H b = none := fun {b o es ep} e d => by
   cases q : H b with
   | none => rfl
   | some u =>
    have e' : b = a := hA b (by rw [q]; simp)
    subst e'
    rw [ha] at e; cases e
    have d' : Data.seq vs.toArray _ = Data.dict es ep := d
    cases d'
  have nsK : ∀ {b : Addr} {m : Str -> Option Value}, s₁.heap.Ns b m -> (hidT s₁.heap H).Ns b m := fun {b m} ⟨o, es, ep, e, d, r⟩ => ⟨o, es, ep, base_of e (noA e d), d, r⟩
  have hKb : K.In (hidT s₁.heap H) := fun b o e => base_of (KX b o e) (by
   cases q : H b with
   | none => rfl
   | some u =>
    have e' : b = a := hA b (by rw [q]; simp)
    subst e'
    rw [hK (by rw [q]; simp)] at e; cases e)
  have hM : Mod K mg (hidT s₁.heap H) := ⟨hKb, nsK hns, ⟨mb, nsK hb, hbb⟩, let ⟨mc, h1, h2⟩ := hlim; ⟨mc, nsK h1, h2⟩⟩
  have e0 : Env0 P w K mg (hidT s₁.heap H) callerA [] s₁ H := ⟨rfl, hM, fun b o e => of_hidT e, Nat.le_of_eq (hidT_size _ _), trivial, fun b hb => absurd (show b ∈ ([] : List Addr) from hb) (by simp), hok, .of_eq hg⟩
  refine codeAny_mono ((F _ hKb (nsK hns)).run callerA [] s₁ H ⟨[.ref a], []⟩ [.ref a] [.ref a] _ _ hr e0 (hbind s₁ (.ref a)) (.cons rfl .nil) (hsp H hO hS)) fun r s' h => ?_
  cases r with
  | error e => exact (hCX H e s' h).elim
  | ok fl =>
   cases fl with
   | next => exact False.elim h
   | brk => exact False.elim h
   | cont => exact False.elim h
   | ret u =>
    obtain ⟨v, H', os, bare, un, hok', r', q⟩ := h
    have q' : v = .bl true := q
    subst q'
    obtain rfl : u = Value.bool true := r'
    refine ⟨rfl, OldK.of_keep fun b o e => ?_, os, bare⟩
    cases q : H b with
    | none => exact un.keep b o e q (by intro z; exact absurd (show b ∈ ([] : List Addr) from z) (by simp)) (by simp)
    | some u =>
     rcases hO b with z | ⟨ob, xs, z⟩
     ·rw [q] at z; cases z
     ·have z2 := un.frzs b ob _ z
      obtain ⟨e1, _⟩ := hok b _ z
      obtain ⟨e2, _⟩ := hok' b _ z2
      rw [e] at e1; cases e1
      exact e2
 cases hk : K.lookup a with
 | some o =>
  have e := KX a o hk
  rw [ha] at e
  cases e
  refine core (fun _ => none) (fun _ => .inl rfl) (.inr ⟨_, vs.toArray, _, hk, rfl, rfl, rfl, by rw [List.size_toArray, lenV]; exact hl, by simpa using rv⟩) (fun b u z => by have z' : (none : Option HO) = some u := z; cases z') (fun b z => absurd rfl z) fun z => absurd rfl z
 | none =>
  refine core (fun b => if b = a then some (.frz { cls := .type "list", data := .seq vs.toArray } (.lst (ns.map V.int))) else none) (fun b => ?_) (.inl (.inr ⟨{ cls := .type "list", data := .seq vs.toArray }, if_pos rfl⟩)) (fun b u z => ?_) (fun b z => ?_) fun _ => hk
  ·by_cases hb : b = a
   ·exact .inr ⟨_, _, if_pos hb⟩
   ·exact .inl (if_neg hb)
  ·by_cases hb : b = a
   ·have z' := (if_pos hb).symm.trans z
    cases z'
    subst hb
    exact ⟨ha, by rw [List.length_map]; exact hl, vs, _, rv, ha⟩
   ·have z' := (if_neg hb).symm.trans z
    cases z'
  ·by_cases hb : b = a
   ·exact hb
   ·exact absurd (if_neg hb) z
end L2
namespace L2
open PySem PySem.Spec PyProof.Rows
theorem walk_of {l : PySem.W.OpenLaw} {n k : Nat} {q : Program} {loose : List Str} {XP : (Str -> Option Value) -> Heap -> Prop} {YP : World -> Heap -> Prop} {d : DefRec} {K : Params -> W.Frag} {CX : World -> CXT} {sp : World -> Sp} {x : Str}
  (hn : l.most = some n) (hn2 : n <= sizeLine) (hdf : d.params.defaults = []) (hr : Room k callerA)
  (hY : ∀ (w : World) (h : Heap), YP w h -> (K w.params).In h)
  (F : ∀ (w : World) (mg : Str -> Option Value) (fa : Addr) (h : Heap), (K w.params).In h -> h.Ns mainGlobals mg -> mg d.name = some (.ref fa) ->
   ∃ fd : FuncData, (∀ (s : Shared) (u : Value), BindsTo s fd ⟨[u], []⟩ [(x, u)]) /\
    ∀ base : Heap, (K w.params).In base -> base.Ns mainGlobals mg -> FnOk l.prog w (K w.params) mg base (CX w) k fa fd [x] (sp w))
  (hsp : ∀ (w : World) (H : Hp) (a : Addr) (ns : List Int), ns.length <= n -> Only H -> SqL (K w.params) H a (ns.map V.int) -> sp w [.ref a] H (fun v _ => v = .bl true) fun _ _ _ => False)
  (hCX : ∀ (w : World) (H : Hp) (s : Shared) (e : Value) (s' : Shared), CX w [] H s (fun _ _ _ => False) e s' -> False) :
  PySem.W.WalkO q loose XP YP l.row.toRowW d [] (fun f vs => PySem.call f vs) := by
 refine Att.attach_call hn hdf fun w s₀ s₁ mg mb fa o pm cd doc a vs ns G Y ho hd hcd hmg hobj hints hlen hg => ?_
 have KX := hY w _ Y
 obtain ⟨fd, hb, hF⟩ := F w mg fa _ KX G.T.g hmg
 exact law_call KX G.T.g G.T.b G.T.builtins G.T.nolimit hg hobj hints (Nat.le_trans hlen hn2) hr hF hb (fun H hO hS => hsp w H a ns hlen hO hS) fun H e s' => hCX w H s₁ e s'
end L2
namespace L2
open PySem PySem.Spec PyProof.Rows
def defArgs (s : Stmt) : Arguments := match s with
 | .FunctionDef _ a _ _ _ _ _ _ _ _ => a
 | _ => { posonlyargs := [], args := [], vararg := none, kwonlyargs := [], kw_defaults := [], kwarg := none, defaults := [] }
def defBody (s : Stmt) : List Stmt := match s with
 | .FunctionDef _ _ b _ _ _ _ _ _ _ => b
 | _ => []
def defScope (s : Stmt) : Scope := match s with
 | .FunctionDef _ _ _ _ _ _ sc _ _ _ => sc
 | _ => { kind := .function, names := [], isGenerator := false, isCoroutine := false }
abbrev CX0 : CXT := fun _ _ _ _ _ _ => False
abbrev E0 : XK := fun _ _ _ => False
theorem pass0 {X : Cx} : Passes CX0 X E0 := fun _ _ _ _ _ _ _ h => h.elim
structure Fun (K : W.Frag) (x qual : Str) (st : Stmt) (f : Addr) (fd : FuncData) : Prop where
 ex : ∃ (oc : Value) (od : Option Addr) (kV doc pm : Value) (an : Option Addr) (cdv ct : Value) (osl : Array (Option Value)),
  fd = PySem.W.fnOf x qual (defArgs st) (defBody st) (defScope st) .none kV doc pm an cdv ct /\ K.lookup f = some ⟨oc, od, .func fd, osl⟩ /\ PySem.W.codeIn K cdv qual = true
 kp : PySem.W.keepIn K (.ref f) = true
section
variable {P : Program} {w : World} {K : W.Frag} {mg : Str -> Option Value} {base : Heap}
theorem Fun.ok {x qual : Str} {st : Stmt} {f : Addr} {fd : FuncData} {N ps : List Str} {k : Nat} {sp : Sp} (F : Fun K x qual st f fd) (S : FnScope N ps (defScope st)) (len : ∀ vs H Q E, sp vs H Q E -> vs.length = ps.length)
  (hbody : ∀ (cdv : Value) (A : Around) (outer : List Env) (s : Shared) (H : Hp) (vs : List V) (Q : VK) (E : XK), Room k (A.deeper (envOfC qual (defScope st) s.heap.objs.size f cdv)) -> sp vs H Q E ->
   ∃ t, PSs (cxOf CX0 P w K mg base N qual (defScope st) f cdv A outer s H E).nox (defBody st) t /\ t { nx := fun _ H' => Q .non H', rt := Q } (start N vs) H) : FnOk P w K mg base CX0 (k + 1) f fd ps sp := by
 obtain ⟨oc, od, kV, doc, pm, an, cdv, ct, osl, rfl, lk, hcd⟩ := F.ex
 refine fn_of lk hcd S len fun A outer s H vs Q E hr hsp => ?_
 obtain ⟨t, h, q⟩ := hbody cdv A outer s H vs Q E hr hsp
 exact ⟨t, h.nox, q⟩
theorem Fun.binds {x qual : Str} {st : Stmt} {f : Addr} {fd : FuncData} {ps : List Str} (F : Fun K x qual st f fd)
  (h : ∀ (kV doc pm : Value) (an : Option Addr) (cdv ct : Value) (us : List Value), us.length = ps.length -> bindArgs (PySem.W.fnOf x qual (defArgs st) (defBody st) (defScope st) .none kV doc pm an cdv ct) ⟨us, []⟩ = pure (ps.zip us)) : Binds K fd ps [] := by
 obtain ⟨oc, od, kV, doc, pm, an, cdv, ct, osl, rfl, lk, hcd⟩ := F.ex
 exact .all (h kV doc pm an cdv ct)
theorem fun_mk {x qual : Str} {st : Stmt} {f : Addr} {oc : Value} {od an : Option Addr} {osl : Array (Option Value)} {kV doc pm cdv ct : Value} (l : K.lookup f = some ⟨oc, od, .func (PySem.W.fnOf x qual (defArgs st) (defBody st) (defScope st) .none kV doc pm an cdv ct), osl⟩)
  (c : PySem.W.codeIn K cdv qual = true) (k : PySem.W.keepIn K (.ref f) = true) : Fun K x qual st f (PySem.W.fnOf x qual (defArgs st) (defBody st) (defScope st) .none kV doc pm an cdv ct) := ⟨⟨oc, od, kV, doc, pm, an, cdv, ct, osl, rfl, l, c⟩, k⟩
end
section
variable {X : Cx}
theorem pv (i : Nat) {x : Str} {pos : Pos} (hN : X.N[i]? = some x := by rfl) (hv : Vis X.env.scope x := by first | exact Or.inl rfl | exact Or.inr (Or.inl rfl) | exact Or.inr (Or.inr rfl)) (hd : (x == ("__debug__" : Str)) = false := by decide)
  (hcd : (x == ("__classdict__" : Str)) = false := by decide) : PE X (.Name x pos) (tVar i) := pe_var hN hv hd hcd
end
theorem ite2 {c A B : Prop} [Decidable c] (h1 : c -> A) (h2 : ¬ c -> B) : if c then A else B := by
 by_cases h : c
 ·rw [if_pos h]
  exact h1 h
 ·rw [if_neg h]
  exact h2 h
def Same (H H' : Hp) : Prop := ∀ b o, H b = some o -> H' b = some o
theorem Same.refl (H : Hp) : Same H H := fun _ _ h => h
theorem Same.trans {H H1 H2 : Hp} (a : Same H H1) (b : Same H1 H2) : Same H H2 := fun c o h => b c o (a c o h)
theorem Same.free {H H' : Hp} (e : Same H H') {l : Addr} (h : H' l = Option.none) : H l = Option.none := by
 cases q : H l with
 | none => rfl
 | some o =>
  rw [e l o q] at h
  cases h
theorem Same.seq {K : W.Frag} {H H' : Hp} {a : Addr} {xs : List V} (e : Same H H') (h : SqL K H a xs) : SqL K H' a xs := by
 rcases h with (h | ⟨o, h⟩) | h
 ·exact .inl (.inl (e _ _ h))
 ·exact .inl (.inr ⟨o, e _ _ h⟩)
 ·exact .inr h
end L2
namespace L2
open PySem PySem.Spec PyProof.Rows
section
variable {κ : Type} [DecidableEq κ]
def valV (kvs : List (κ × V)) (k : κ) : Option V := (kvs.find? fun kv => decide (kv.1 = k)).map (·.2)
def putK (kvs : List (κ × V)) (k : κ) (v : V) : List (κ × V) :=
 if (kvs.any fun kv => decide (kv.1 = k)) = true then kvs.map (fun kv => if kv.1 = k then (kv.1, v) else kv) else kvs ++ [(k, v)]
theorem valV_pos {p : κ × V} {r : List (κ × V)} {k : κ} (e : p.1 = k) : valV (p :: r) k = some p.2 := by simp [valV, List.find?_cons, e]
theorem valV_neg {p : κ × V} {r : List (κ × V)} {k : κ} (e : ¬ p.1 = k) : valV (p :: r) k = valV r k := by simp [valV, List.find?_cons, e]
theorem valV_any (k : κ) : ∀ kvs : List (κ × V), (kvs.any fun kv => decide (kv.1 = k)) = (valV kvs k).isSome
 | [] => rfl
 | p :: r => by
  rw [List.any_cons]
  by_cases e : p.1 = k
  ·simp only [valV_pos e, decide_eq_true e, Bool.true_or, Option.isSome_some]
  ·rw [valV_neg e, decide_eq_false e, Bool.false_or]; exact valV_any k r
theorem length_putK (kvs : List (κ × V)) (k : κ) (v : V) : (putK kvs k v).length <= kvs.length + 1 := by
 unfold putK
 split
 ·rw [List.length_map]; omega
 ·rw [List.length_append, List.length_cons, List.length_nil]; omega
theorem RelO.isSome_eq {o : Option V} {u : Option Value} (r : RelO o u) : o.isSome = u.isSome := by
 cases o with
 | none => cases u with
  | none => rfl
  | some _ => exact (show False from r).elim
 | some _ => cases u with
  | none => exact (show False from r).elim
  | some _ => rfl
theorem RelO.getD {o : Option V} {u : Option Value} {d : V} {d' : Value} (r : RelO o u) (rd : RelV d d') : RelV (o.getD d) (u.getD d') := by
 cases o with
 | none => cases u with
  | none => exact rd
  | some _ => exact (show False from r).elim
 | some _ => cases u with
  | none => exact (show False from r).elim
  | some _ => exact r
theorem KV.val {kvs : List (κ × V)} {vs : List (κ × Value)} (r : KV kvs vs) (k : κ) : RelO (valV kvs k) (valueAt vs k) := by
 unfold KV at r
 induction r with
 | nil => exact True.intro
 | @cons p q ps qs h t ih =>
  obtain ⟨h1, h2⟩ := h
  by_cases e : p.1 = k
  ·have e' : q.1 = k := h1.symm.trans e
   have b : valueAt (q :: qs) k = some q.2 := by simp [valueAt, List.find?_cons, e']
   rw [valV_pos e, b]; exact h2
  ·have e' : ¬ q.1 = k := fun z => e (h1.trans z)
   have b : valueAt (q :: qs) k = valueAt qs k := by simp [valueAt, List.find?_cons, e']
   rw [valV_neg e, b]; exact ih
theorem KV.any {kvs : List (κ × V)} {vs : List (κ × Value)} (r : KV kvs vs) (k : κ) : (kvs.any fun kv => decide (kv.1 = k)) = vs.any fun kv => decide (kv.1 = k) := by
 unfold KV at r
 induction r with
 | nil => rfl
 | cons h t ih => rw [List.any_cons, List.any_cons, ih, h.1]
theorem KV.repl {kvs : List (κ × V)} {vs : List (κ × Value)} (r : KV kvs vs) (k : κ) {y : V} {u : Value} (ry : RelV y u) :
  KV (kvs.map fun kv => if kv.1 = k then (kv.1, y) else kv) (vs.map fun kv => if kv.1 = k then (kv.1, u) else kv) := by
 unfold KV at r ⊢
 induction r with
 | nil => exact .nil
 | @cons p q ps qs h t ih =>
  rw [List.map_cons, List.map_cons]
  refine .cons ?_ ih
  obtain ⟨h1, h2⟩ := h
  by_cases e : p.1 = k
  ·rw [if_pos e, if_pos (h1.symm.trans e)]; exact ⟨h1, ry⟩
  ·rw [if_neg e, if_neg (fun z => e (h1.trans z))]; exact ⟨h1, h2⟩
theorem KV.put {kvs : List (κ × V)} {vs : List (κ × Value)} (r : KV kvs vs) (k : κ) {y : V} {u : Value} (ry : RelV y u) : KV (putK kvs k y) (stored vs k u) := by
 unfold putK stored
 rw [r.any k]
 by_cases e : (vs.any fun kv => decide (kv.1 = k)) = true
 ·rw [if_pos e, if_pos e]; exact r.repl k ry
 ·rw [if_neg e, if_neg e]; exact Paired.snoc r ⟨rfl, ry⟩
theorem KV.length {kvs : List (κ × V)} {vs : List (κ × Value)} (r : KV kvs vs) : kvs.length = vs.length := Paired.length r
end
theorem kV_is {P : Program} {w : World} {k : Key} {u : Value} (r : RelV (kV k) u) : (mixKind P w).is k u = true := by
 cases k with
 | inl i => obtain ⟨t, e⟩ := (show ∃ t, u = Value.int i t from r); subst e; exact mixKind_int P w i t
 | inr x => obtain ⟨t, e⟩ := (show ∃ t, u = Value.str x t from r); subst e; exact mixKind_str P w x t
theorem items_are {P : Program} {w : World} : ∀ {ks : List Key} {us : List Value}, Vals (ks.map kV) us -> ItemsAre (mixKind P w) ks us
 | [], _, r => by rw [List.map_nil] at r; cases r; exact .nil
 | k :: ks, _, r => by
  rw [List.map_cons] at r
  cases r with
  | cons h t => exact .cons (kV_is h) (items_are t)
abbrev KT (H : Hp) : List (List Key × V) -> List (List Key × Addr × Value) -> Prop := Paired fun p q => p.1 = q.1 /\ H q.2.1 = some (.tup (p.1.map kV)) /\ RelV p.2 q.2.2
theorem KT.val {H : Hp} {kvs : List (List Key × V)} {xs : List (List Key × Addr × Value)} (r : KT H kvs xs) (k : List Key) : RelO (valV kvs k) ((atKey xs k).map (·.2)) := by
 induction r with
 | nil => exact True.intro
 | @cons p q ps qs h t ih =>
  obtain ⟨h1, _, h2⟩ := h
  by_cases e : p.1 = k
  ·have e' : q.1 = k := h1.symm.trans e
   have b : atKey (q :: qs) k = some q.2 := by simp [atKey, List.find?_cons, e']
   rw [valV_pos e, b]; exact h2
  ·have e' : ¬ q.1 = k := fun z => e (h1.trans z)
   have b : atKey (q :: qs) k = atKey qs k := by simp [atKey, List.find?_cons, e']
   rw [valV_neg e, b]; exact ih
theorem KT.repl {H : Hp} {kvs : List (List Key × V)} {xs : List (List Key × Addr × Value)} (r : KT H kvs xs) (k : List Key) {y : V} {u : Value} (ry : RelV y u) :
  KT H (kvs.map fun kv => if kv.1 = k then (kv.1, y) else kv) (xs.map (putAt k u)) := by
 induction r with
 | nil => exact .nil
 | @cons p q ps qs h t ih =>
  rw [List.map_cons, List.map_cons]
  refine .cons ?_ ih
  obtain ⟨h1, h2, h3⟩ := h
  unfold putAt
  by_cases e : p.1 = k
  ·rw [if_pos e, if_pos (h1.symm.trans e)]; exact ⟨h1, h2, ry⟩
  ·rw [if_neg e, if_neg (fun z => e (h1.trans z))]; exact ⟨h1, h2, h3⟩
theorem KT.put {H : Hp} {kvs : List (List Key × V)} {xs : List (List Key × Addr × Value)} (r : KT H kvs xs) (k : List Key) {b : Addr} {y : V} {u : Value} (hb : H b = some (.tup (k.map kV))) (ry : RelV y u) :
  KT H (putK kvs k y) (storedH xs k b u) := by
 have e : (kvs.any fun kv => decide (kv.1 = k)) = (atKey xs k).isSome := by
  rw [valV_any, (r.val k).isSome_eq, Option.isSome_map]
 unfold putK storedH
 rw [e]
 by_cases q : (atKey xs k).isSome = true
 ·rw [if_pos q, if_pos q]; exact r.repl k ry
 ·rw [if_neg q, if_neg q]; exact Paired.snoc r ⟨rfl, hb, ry⟩
theorem KT.keeps {H H' : Hp} {kvs : List (List Key × V)} {xs : List (List Key × Addr × Value)} (r : KT H kvs xs) (ht : ∀ b ys, H b = some (.tup ys) -> H' b = some (.tup ys)) : KT H' kvs xs :=
 Paired.mapP r fun _ _ z => ⟨z.1, ht _ _ z.2.1, z.2.2⟩
section
variable {P : Program} {w : World} {H : Hp} {h : Heap} {a : Addr}
theorem rd_of {u : HO} (ok : HOk P w H h) (e : Rd H a u) : ObjOk P w H h a u := e.ok ok
theorem dk_rd {kvs : List (Key × V)} (ok : HOk P w H h) (e : Rd H a (.dK kvs)) : kvs.length <= sizeLine /\ (a == sysModules) = false /\ ∃ vs, KV kvs vs /\ h.DictOf (mixKind P w) a vs :=
 show ObjOk P w H h a (.dK kvs) from rd_of ok e
theorem dk_of {kvs : List (Key × V)} (ok : HOk P w H h) (e : H a = some (.dK kvs)) : kvs.length <= sizeLine /\ (a == sysModules) = false /\ ∃ vs, KV kvs vs /\ h.DictOf (mixKind P w) a vs := dk_rd ok (.inl e)
theorem key_of {ks : List Key} (ok : HOk P w H h) (e : H a = some (.tup (ks.map kV))) : (tupleKind (mixKind P w)).is h ks a := by
 obtain ⟨_, its, r, o, h1, h2, n, h3⟩ := (show ObjOk P w H h a (.tup (ks.map kV)) from ok a _ e)
 exact ⟨o, its.toArray, n, h1, h2, h3, by simpa using items_are r⟩
theorem dt_rd {kvs : List (List Key × V)} (ok : HOk P w H h) (e : Rd H a (.dT kvs)) : kvs.length <= sizeLine /\ (a == sysModules) = false /\
  ∃ xs, KT H kvs xs /\ h.DictOfH (tupleKind (mixKind P w)) a xs := by
 obtain ⟨z, y, xs, r, o, es, ep, h1, h2, h3, h4, h5⟩ := (show ObjOk P w H h a (.dT kvs) from rd_of ok e)
 refine ⟨z, y, xs, r, o, es, ep, h1, h2, h3, h4, fun x hx => ?_, h5⟩
 have all : ∀ {l : List (List Key × V)} {m : List (List Key × Addr × Value)}, KT H l m -> ∀ x ∈ m, (tupleKind (mixKind P w)).is h x.1 x.2.1 := by
  intro l m q
  induction q with
  | nil => intro x hx; exact nomatch hx
  | @cons p q ps qs hq t ih =>
   intro x hx
   rcases List.mem_cons.mp hx with e | hx
   ·subst e
    exact key_of ok (by rw [← hq.1]; exact hq.2.1)
   ·exact ih x hx
 exact all r x hx
theorem dt_of {kvs : List (List Key × V)} (ok : HOk P w H h) (e : H a = some (.dT kvs)) : kvs.length <= sizeLine /\ (a == sysModules) = false /\
  ∃ xs, KT H kvs xs /\ h.DictOfH (tupleKind (mixKind P w)) a xs := dt_rd ok (.inl e)
end
def DGet (H : Hp) (a : Addr) (y : V) (r : Option V) : Prop :=
 (∃ kvs k, Rd H a (.dK kvs) /\ y = kV k /\ r = valV kvs k) ∨ ∃ kvs k b, Rd H a (.dT kvs) /\ y = .ref b /\ H b = some (.tup (k.map kV)) /\ r = valV kvs k
def DPut (H : Hp) (a : Addr) (y v : V) (H' : Hp) : Prop :=
 (∃ kvs k, H a = some (.dK kvs) /\ y = kV k /\ kvs.length < sizeLine /\ H' = upd H a (.dK (putK kvs k v))) ∨
 ∃ kvs k b, H a = some (.dT kvs) /\ y = .ref b /\ H b = some (.tup (k.map kV)) /\ kvs.length < sizeLine /\ H' = upd H a (.dT (putK kvs k v))
theorem DGet.k {H : Hp} {a : Addr} {kvs : List (Key × V)} {k : Key} (e : H a = some (.dK kvs)) : DGet H a (kV k) (valV kvs k) := .inl ⟨kvs, k, .inl e, rfl, rfl⟩
theorem DGet.t {H : Hp} {a b : Addr} {kvs : List (List Key × V)} {k : List Key} (e : H a = some (.dT kvs)) (eb : H b = some (.tup (k.map kV))) : DGet H a (.ref b) (valV kvs k) := .inr ⟨kvs, k, b, .inl e, rfl, eb, rfl⟩
theorem DPut.k {H : Hp} {a : Addr} {kvs : List (Key × V)} {k : Key} {v : V} (e : H a = some (.dK kvs)) (hl : kvs.length < sizeLine) : DPut H a (kV k) v (upd H a (.dK (putK kvs k v))) := .inl ⟨kvs, k, e, rfl, hl, rfl⟩
theorem DPut.t {H : Hp} {a b : Addr} {kvs : List (List Key × V)} {k : List Key} {v : V} (e : H a = some (.dT kvs)) (eb : H b = some (.tup (k.map kV))) (hl : kvs.length < sizeLine) :
  DPut H a (.ref b) v (upd H a (.dT (putK kvs k v))) := .inr ⟨kvs, k, b, e, rfl, eb, hl, rfl⟩
section
variable {X : Cx} {pins : List (Addr × Obj)} {σ : St} {H : Hp} {s : Shared} {a : Addr} {y v : V} {u r : Value} {o : Option V} {A : Around} {E : Value -> Shared -> Prop}
theorem Inv.big (I : Inv X pins σ H s) : sysModules < s.heap.objs.size := by
 have h : mainGlobals < s.heap.objs.size := (I.mod.glob.keeps I.bk).lt
 exact Nat.lt_trans (by decide) h
theorem d_in {Q : Value -> Shared -> Prop} (hu : A.units + 1 < cLine) (I : Inv X pins σ H s) (g : DGet H a y o) (ry : RelV y u) (h : ∀ s', Inv X pins σ H s' -> Q (.bool o.isSome) s') :
  wpAny (model X.prog X.w) A (compareOp .In u (.ref a)) Q E s := by
 rcases g with ⟨kvs, k, e, ey, l⟩ | ⟨kvs, k, b, e, ey, eb, l⟩
 ·subst ey
  obtain ⟨z, hd, vs, rel, dd⟩ := dk_rd I.hok e
  refine wpAny_in_of (kV_is ry) hd dd.mapOf ?_
  rw [← (rel.val k).isSome_eq, ← l]
  exact h _ (I.tok _)
 ·subst ey
  cases (show u = Value.ref b from ry)
  obtain ⟨z, hd, xs, rel, dd⟩ := dt_rd I.hok e
  refine wpAny_in_heap (tupleKind_room_in1 hu) (key_of I.hok eb) hd dd ?_
  have q := (rel.val k).isSome_eq
  rw [Option.isSome_map] at q
  rw [← q, ← l]
  exact h _ (I.tok _)
theorem d_notIn {Q : Value -> Shared -> Prop} (hu : A.units + 1 < cLine) (I : Inv X pins σ H s) (g : DGet H a y o) (ry : RelV y u) (h : ∀ s', Inv X pins σ H s' -> Q (.bool (!o.isSome)) s') :
  wpAny (model X.prog X.w) A (compareOp .NotIn u (.ref a)) Q E s := by
 rcases g with ⟨kvs, k, e, ey, l⟩ | ⟨kvs, k, b, e, ey, eb, l⟩
 ·subst ey
  obtain ⟨z, hd, vs, rel, dd⟩ := dk_rd I.hok e
  refine wpAny_notIn_of (kV_is ry) hd dd.mapOf ?_
  rw [← (rel.val k).isSome_eq, ← l]
  exact h _ (I.tok _)
 ·subst ey
  cases (show u = Value.ref b from ry)
  obtain ⟨z, hd, xs, rel, dd⟩ := dt_rd I.hok e
  refine wpAny_notIn_heap (tupleKind_room_in1 hu) (key_of I.hok eb) hd dd ?_
  have q := (rel.val k).isSome_eq
  rw [Option.isSome_map] at q
  rw [← q, ← l]
  exact h _ (I.tok _)
theorem d_write {h' : Heap} {t' : Nat} {ob : HO} (I : Inv X pins σ H s) (mu : Mut (H a)) (hs : Heap.SameBut a s.heap h') (he : ∃ q, h'.get? a = some q) (new : ObjOk X.prog X.w (upd H a ob) h' a ob) :
  Inv X pins σ (upd H a ob) { s with heap := h', toks := t' } :=
 I.write (x := a) (e := a) mu (.inl rfl) (fun b q hb z => (hs.2 b hb).trans z) he new
theorem dk_new {P : Program} {w : World} {H' : Hp} {h' : Heap} {kvs : List (Key × V)} {vs : List (Key × Value)} (z : kvs.length <= sizeLine) (hd : (a == sysModules) = false) (rel : KV kvs vs) (dd : h'.DictOf (mixKind P w) a vs) :
  ObjOk P w H' h' a (.dK kvs) := ⟨z, hd, vs, rel, dd⟩
theorem d_setItem {H' : Hp} {Q : Unit -> Shared -> Prop} (hu : A.units + 1 < cLine) (I : Inv X pins σ H s) (g : DPut H a y v H') (ry : RelV y u) (rv : RelV v r) (h : ∀ s', Inv X pins σ H' s' -> Q () s') :
  wpAny (model X.prog X.w) A (setItem (.ref a) u r) Q E s := by
 rcases g with ⟨kvs, k, e, ey, l, eH⟩ | ⟨kvs, k, b, e, ey, eb, l, eH⟩
 ·subst ey eH
  obtain ⟨z, hd, vs, rel, dd⟩ := dk_of I.hok e
  have hz : vs.length <= sizeLine := by rw [← rel.length]; exact z
  have hl : (putK kvs k v).length <= sizeLine := by have := length_putK kvs k v; omega
  refine wpAny_setItem_pairs (hsz := hz) (kV_is ry) dd fun h' dd' hs => h _ ?_
  have he : ∃ q, h'.get? a = some q := let ⟨q, _, _, hq, _⟩ := dd'; ⟨q, hq⟩
  exact d_write I (by rw [e]; exact True.intro) hs he (dk_new hl hd (rel.put k rv) dd')
 ·subst ey eH
  cases (show u = Value.ref b from ry)
  obtain ⟨z, hd, xs, rel, dd⟩ := dt_of I.hok e
  have hz : xs.length <= sizeLine := by rw [← Paired.length rel]; exact z
  have hl : (putK kvs k v).length <= sizeLine := by have := length_putK kvs k v; omega
  refine wpAny_setItem_heap (hsz := hz) (tupleKind_room_in1 hu) (key_of I.hok eb) dd fun h' dd' hs => h _ ?_
  obtain ⟨q, es, ep, hq, h2, h3, h4, _, h5⟩ := dd'
  refine d_write I (by rw [e]; exact True.intro) hs ⟨q, hq⟩ ⟨hl, hd, _, (rel.put k eb rv).keeps fun c ys ec => ?_, q, es, ep, hq, h2, h3, h4, h5⟩
  rw [upd_ne (ne_of ec e (fun z => nomatch z))]
  exact ec
end
section
variable {X : Cx} {pins : List (Addr × Obj)} {σ : St} {H : Hp} {s : Shared} {a : Addr} {kvs : List (Key × V)} {k : Key} {u : Value} {A : Around} {E : Value -> Shared -> Prop}
end
def tDIn (ty td : TE) : TE := fun σ H Q => ty σ H fun y H1 => td σ H1 fun x H2 => ∃ a o, x = .ref a /\ DGet H2 a y o /\ Q (.bl o.isSome) H2
def tDNotIn (ty td : TE) : TE := fun σ H Q => ty σ H fun y H1 => td σ H1 fun x H2 => ∃ a o, x = .ref a /\ DGet H2 a y o /\ Q (.bl (!o.isSome)) H2
def sDPut (td ty tv : TE) : TS := fun D σ H => tv σ H fun v H1 => td σ H1 fun x H2 => ty σ H2 fun y H3 => ∃ a H4, x = .ref a /\ DPut H3 a y v H4 /\ D.nx σ H4
section
variable {X : Cx} {o i e value : Expr} {pos pos' tpos : Pos} {td ty tv : TE}
theorem pc_din (hu : X.A.units + 1 < cLine) (hi : PE X i ty) (ho : PE X o td) : PC X .In i o (tDIn ty td) := by
 intro pins s σ H Q I h
 refine thn (hi pins s σ H _ I h) fun iv s1 ⟨y, H1, I1, ry, q1⟩ => thn (ho pins s1 σ H1 _ I1 q1) fun u s2 ⟨x, H2, I2, rx, a, ov, ex, g, q2⟩ => ?_
 subst ex
 obtain rfl : u = Value.ref a := rx
 exact d_in hu I2 g ry fun s3 I3 => ⟨.bl ov.isSome, H2, I3, rfl, q2⟩
theorem pc_dnotin (hu : X.A.units + 1 < cLine) (hi : PE X i ty) (ho : PE X o td) : PC X .NotIn i o (tDNotIn ty td) := by
 intro pins s σ H Q I h
 refine thn (hi pins s σ H _ I h) fun iv s1 ⟨y, H1, I1, ry, q1⟩ => thn (ho pins s1 σ H1 _ I1 q1) fun u s2 ⟨x, H2, I2, rx, a, ov, ex, g, q2⟩ => ?_
 subst ex
 obtain rfl : u = Value.ref a := rx
 exact d_notIn hu I2 g ry fun s3 I3 => ⟨.bl (!ov.isSome), H2, I3, rfl, q2⟩
theorem ps_dput (hu : X.A.units + 1 < cLine) (ho : PE X o td) (hi : PE X i ty) (hv : PE X value tv) (hs : swapsWith value (some (.Subscript o i pos')) pos.line X.env = pure false) :
  PS X (.Assign [.Subscript o i pos'] value pos) (sDPut td ty tv) := by
 intro pins s σ H D I h
 refine wpAny_Assign_Subscript (thn (hv pins s σ H _ I h) fun r s1 ⟨v, H1, I1, rv, q1⟩ => thn (ho pins s1 σ H1 _ I1 q1) fun u s2 ⟨x, H2, I2, rx, q2⟩ => thn (hi pins s2 σ H2 _ I2 q2) fun iv s3 ⟨y, H3, I3, ry, a, H4, ex, g, q3⟩ => ?_) hs
 subst ex
 obtain rfl : u = Value.ref a := rx
 exact d_setItem hu I3 g ry rv fun s4 I4 => ⟨σ, H4, I4, q3⟩
end
theorem dk_empty {P : Program} {w : World} {H : Hp} (h : Heap) (hb : sysModules < h.objs.size) : ObjOk P w H (h.push { cls := .type "dict", data := .dict #[] }) h.objs.size (.dK []) :=
 ⟨Nat.zero_le _, beq_eq_false_iff_ne.mpr (Ne.symm (Nat.ne_of_lt hb)), [], .nil, Heap.DictOf.new h⟩
theorem dt_empty {P : Program} {w : World} {H : Hp} (h : Heap) (hb : sysModules < h.objs.size) : ObjOk P w H (h.push { cls := .type "dict", data := .dict #[] }) h.objs.size (.dT []) :=
 ⟨Nat.zero_le _, beq_eq_false_iff_ne.mpr (Ne.symm (Nat.ne_of_lt hb)), [], .nil, _, #[], 0, Heap.get?_push_size _ rfl, ⟨rfl, rfl, rfl⟩, rfl, rfl, List.nodup_nil⟩
def tDNewK : TE := fun _ H Q => ∀ p, H p = none -> Q (.ref p) (upd H p (.dK []))
def tDNewT : TE := fun _ H Q => ∀ p, H p = none -> Q (.ref p) (upd H p (.dT []))
section
variable {X : Cx} {pos : Pos}
theorem pe_dnewK : PE X (.Dict [] [] pos) tDNewK := fun pins s σ H Q I h =>
 wpAny_Dict_empty ⟨.ref s.heap.objs.size, _, I.laid (a := s.heap.objs.size) (o := .dK []) (t' := s.toks) (fun _ _ q => Heap.get?_push_of_some _ q) (Nat.le_refl _) (dk_empty s.heap I.big), rfl, h _ (I.hok.fresh (Nat.le_refl _))⟩
theorem pe_dnewT : PE X (.Dict [] [] pos) tDNewT := fun pins s σ H Q I h =>
 wpAny_Dict_empty ⟨.ref s.heap.objs.size, _, I.laid (a := s.heap.objs.size) (o := .dT []) (t' := s.toks) (fun _ _ q => Heap.get?_push_of_some _ q) (Nat.le_refl _) (dt_empty s.heap I.big), rfl, h _ (I.hok.fresh (Nat.le_refl _))⟩
end
section
variable {κ : Type} [DecidableEq κ]
end
section
variable {X : Cx}
end
end L2
set_option maxHeartbeats 4000000
namespace L2
open PySem PySem.Spec PyProof.Rows
def PTs (Y : Cx) (ifs : List Expr) (t : TT) : Prop :=
 ∀ (pins : List (Addr × Obj)) (s : Shared) (σ : St) (H : Hp) (Q : Bool -> Hp -> Prop), Inv Y pins σ H s -> t σ H Q ->
  wpAny (model Y.prog Y.w) Y.A (forIn ifs true fun c r => if r = true then do let ok ← isTrue c Y.env (eval c Y.env); pure (ForInStep.yield ok) else pure (ForInStep.yield r)) (TP Y pins σ Q) Y.xe s
theorem pts_nil {Y : Cx} : PTs Y [] (fun _ H Q => Q true H) := by
 intro pins s σ H Q I h
 rw [List.forIn_nil]
 exact wpAny_pure ⟨H, I, h⟩
theorem pts_one {Y : Cx} {c : Expr} {t : TT} (hc : PT Y c t) : PTs Y [c] t := by
 intro pins s σ H Q I h
 rw [List.forIn_cons]
 refine wpAny_bind ?_
 rw [if_pos rfl]
 refine wpAny_bind (thn (hc pins s σ H Q I h) fun b s1 q => wpAny_pure ?_)
 show wpAny _ _ (forIn [] b _) _ _ _
 rw [List.forIn_nil]
 exact wpAny_pure q
def LcW (prog : Program) (w : World) (A : Around) (elt : Expr) (gens : List Comprehension) (scope : Scope) (pos : Pos) (d : Nat) (acc : Value) (env : Env) (Q : Shared -> Prop) (s : Shared) : Prop :=
 match gens[d + 1]? with
 | some g' => (g'.is_async = 0 /\ ∀ x, foldedSetIterable g'.iter env x = pure x) /\ wpAny (model prog w) A (eval g'.iter env) (fun x s4 => wpAny (model prog w) A (pyIter x) (fun itv s5 =>
   codeAny (model prog w) A (.compStart (.ListComp elt gens scope pos) (d + 1) itv acc env) (fun r s6 => r = .ok .next /\ Q s6) s5) (fun _ _ => False) s4) (fun _ _ => False) s
 | none => wpAny (model prog w) A (eval elt env) (fun x s4 => wpAny (model prog w) A (call (.builtin "list.append") [acc, x]) (fun _ s5 => Q s5) (fun _ _ => False) s4) (fun _ _ => False) s
section
variable {prog : Program} {w : World} {A : Around} {R : Result -> Shared -> Prop} {s : Shared}
theorem compLoop_any {elt target iter : Expr} {ifs : List Expr} {gens : List Comprehension} {scope : Scope} {pos : Pos} {d : Nat} {it acc : Value} {env : Env} (hg : gens[d]? = some ⟨target, iter, ifs, 0⟩) (I : Nat -> Shared -> Prop)
  (turn : ∀ n s, I n s -> wpAny (model prog w) A (pyNext it) (fun r s₁ => match r with
   | none => R (.ok .next) s₁
   | some v => wpAny (model prog w) A (letOwnedTupleGo target it v) (fun _ s₁' => wpAny (model prog w) A (assign target env v) (fun _ s₂ =>
     wpAny (model prog w) A (forIn ifs true fun c r => if r = true then do let ok ← isTrue c env (eval c env); pure (ForInStep.yield ok) else pure (ForInStep.yield r)) (fun ok s₃ =>
      if ok = true then LcW prog w A elt gens scope pos d acc env (fun s₅ => ∃ m, m < n /\ I m s₅) s₃
      else ∃ m, m < n /\ I m s₃) (fun _ _ => False) s₂) (fun _ _ => False) s₁') (fun _ _ => False) s₁) (fun _ _ => False) s)
  (n : Nat) (h : I n s) :
  codeAny (model prog w) A (.compLoop (.ListComp elt gens scope pos) d it acc env) R s := by
 refine codeAny_loop rfl I (fun n s hI => ?_) n h
 show wpAny _ A ((compTurn (.ListComp elt gens scope pos) d it acc env).onRaise (fun x => do noteFrame x env; theTreesLotGoes x)) _ _ s
 refine wpAny_noted (wpAny_noRaise ?_)
 unfold compTurn
 dsimp only
 rw [hg]
 dsimp only
 refine wpAny_bind (wpAny_standAt (wpAny_bind (thn (turn n s hI) (fun r s₁ h₁ => ?_))))
 cases r with
 | none => exact wpAny_pure h₁
 | some v =>
  refine wpAny_bind (thn h₁ fun _ s₁' h₁ => wpAny_bind (thn h₁ fun _ s₂ h₂ => wpAny_bind (thn h₂ fun ok s₃ h₃ => ?_)))
  cases ok with
  | false => exact wpAny_pure ⟨rfl, h₃⟩
  | true =>
   rw [if_pos rfl] at h₃ ⊢
   unfold LcW at h₃
   cases e : gens[d + 1]? with
   | none =>
    rw [e] at h₃
    exact wpAny_bind (wpAny_bind (thn h₃ fun x s₄ h₄ => wpAny_bind (thn h₄ fun _ s₅ h₅ => wpAny_pure (wpAny_pure ⟨rfl, h₅⟩))))
   | some g' =>
    rw [e] at h₃
    dsimp only at h₃ ⊢
    obtain ⟨⟨ha, hf⟩, h₃⟩ := h₃
    refine wpAny_bind (thn h₃ fun x s₄ h₄ => wpAny_bind (wpAny_standAt ?_))
    rw [ha, if_neg (by decide)]
    refine wpAny_bind (wpAny_of_eq (hf x) (wpAny_bind (wpAny_holding ?_)))
    rw [if_neg (by decide)]
    refine thn h₄ fun itv s₅ h₅ => wpAny_bind (wpAny_runOwn (codeAny_mono h₅ fun r s₆ ⟨hr, q⟩ => ?_))
    subst hr
    exact wpAny_pure ⟨rfl, q⟩
theorem compStart_any {elt target iter : Expr} {ifs : List Expr} {gens : List Comprehension} {scope : Scope} {pos : Pos} {d : Nat} {it acc : Value} {env : Env} (hg : gens[d]? = some ⟨target, iter, ifs, 0⟩)
  (h0 : codeAny (model prog w) A (.compLoop (.ListComp elt gens scope pos) d it acc env) R s)
  (h : wpAny (model prog w) A (pyIter it) (fun it' s' => codeAny (model prog w) A (.compLoop (.ListComp elt gens scope pos) d it' acc env) R s') (fun _ _ => False) s) :
  codeAny (model prog w) A (.compStart (.ListComp elt gens scope pos) d it acc env) R s := by
 refine codeAny_of_tree ?_
 show wpAny _ _ ((compStart (.ListComp elt gens scope pos) d it acc env).onRaise (fun x => do noteFrame x env; standAt theWindowsPlace)) _ _ s
 refine wpAny_notedAt (wpAny_noRaise ?_)
 unfold compStart
 have hc : clausesOf (.ListComp elt gens scope pos) = gens := rfl
 rw [hc, hg]
 show wpAny _ _ (ask >>= _) _ _ s
 refine wpAny_bind (wpAny_askSetting (wpAny_ite ?_))
 split
 ·first
   | exact wpAny_bind (wpAny_pure (wpAny_pure (And.intro rfl h0)))
   | exact wpAny_pure (And.intro rfl h0)
 ·first
   | exact wpAny_bind (wpAny_rule (wpAny_bind (wpAny_standAt (wpAny_bind (wpAny_mono h (fun it' s' h' => wpAny_pure (And.intro rfl h')) fun _ _ x => x)))))
   | (refine wpAny_bind (wpAny_rule ?_); show wpAny _ _ (standAt iter.pos >>= _) _ _ s; exact wpAny_bind (wpAny_standAt (wpAny_bind (wpAny_mono h (fun it' s' h' => wpAny_pure (And.intro rfl h')) fun _ _ x => x))))
end
def loopT (J : It) (g : TG) (tb : TS) : TS := fun D σ H => ∃ W : Nat -> Nat -> St -> Hp -> Prop, (∃ m, W 0 m σ H) /\ ∀ i m σ H, W i m σ H ->
 (J.stop i H /\ D.nx σ H) ∨ (J.go i H /\ ∃ N : St -> Hp -> Prop, (∀ σ' H', N σ' H' -> ∃ m', m' < m /\ W (i + 1) m' σ' H') /\ ∀ x H', J.yld i H x H' -> g x σ H' fun σ2 H2 => tb { D with nx := N, ct := N, bk := D.nx } σ2 H2)
def tIfB (ti : TT) (tb : TS) : TS := fun D σ H => ti σ H fun b H1 => if b = true then tb D σ H1 else D.nx σ H1
def PB (Y : Cx) (elt : Expr) (gens : List Comprehension) (scope : Scope) (pos : Pos) (d : Nat) (acc : Addr) (tb : TS) : Prop :=
 ∀ (pins : List (Addr × Obj)) (s : Shared) (σ : St) (H : Hp) (D : Ends), Inv Y pins σ H s -> tb D σ H -> LcW Y.prog Y.w Y.A elt gens scope pos d (.ref acc) Y.env (fun s' => ∃ σ' H', Inv Y pins σ' H' s' /\ D.nx σ' H') s
section
variable {Y : Cx} {elt : Expr} {gens : List Comprehension} {scope : Scope} {pos : Pos} {d : Nat} {acc : Addr}
def tEmit (acc : Addr) (te : TE) : TS := fun D σ H => te σ H fun v H1 => ∃ xs, H1 acc = some (.lst xs) /\ xs.length < sizeLine /\ D.nx σ (upd H1 acc (.lst (xs ++ [v])))
theorem pb_emit {te : TE} (hg : gens[d + 1]? = none) (hx : Y.xe = fun _ _ => False) (he : PE Y elt te) : PB Y elt gens scope pos d acc (tEmit acc te) := by
 intro pins s σ H D I h
 unfold LcW
 rw [hg]
 dsimp only
 have he' := he pins s σ H _ I h
 rw [hx] at he'
 refine thn he' fun u s1 ⟨v, H1, I1, r1, xs, e, hl, q⟩ => ?_
 have a2 := mt_append pins s1 σ H1 (.ref acc) [v] (.ref acc) [u] (fun _ H2 => D.nx σ H2) I1 rfl (.cons r1 .nil) ⟨acc, xs, v, rfl, rfl, e, hl, q⟩
 rw [hx] at a2
 exact thn a2 fun _ s2 ⟨_, H2, I2, _, q2⟩ => ⟨σ, H2, I2, q2⟩
theorem lc_loop {tg iter : Expr} {ifs : List Expr} {g : TG} {ti : TT} {tb : TS} {pins : List (Addr × Obj)} {s : Shared} {σ : St} {H : Hp} {D : Ends} {J : It} {fp : List Addr} {it : Addr} {tn : Nat -> Heap -> Prop}
  (hgd : gens[d]? = some ⟨tg, iter, ifs, 0⟩) (hx : Y.xe = fun _ _ => False) (hc : Y.calm = true) (hg : PG Y tg g) (ht : PTs Y ifs ti) (hb : PB Y elt gens scope pos d acc tb)
  (I : Inv Y pins σ H s) (T : Turn Y.prog Y.w Y.K tg J fp it tn) (st : tn 0 s.heap) (f2 : ∀ b ∈ fp, FpOk Y pins H b) (h : loopT J g (tIfB ti tb) D σ H) :
  codeAny (model Y.prog Y.w) Y.A (.compLoop (.ListComp elt gens scope pos) d (.ref it) (.ref acc) Y.env) (fun r s' => r = .ok .next /\ ∃ σ' H', Inv Y pins σ' H' s' /\ D.nx σ' H') s := by
 obtain ⟨W, ⟨m0, w0⟩, turn⟩ := h
 have stat : ∀ {H' : Hp}, (∀ b ∈ fp, H' b = none) -> ∀ b ∈ fp, FpOk Y pins H' b := fun hn b hb => ⟨hn b hb, (f2 b hb).2⟩
 refine compLoop_any hgd (fun n s' => ∃ i σ' H', Inv Y pins σ' H' s' /\ tn i s'.heap /\ (∀ b ∈ fp, H' b = none) /\ W i n σ' H') ?_ m0 ⟨0, σ, H, I, st, fun b hb => (f2 b hb).1, w0⟩
 rintro n s3 ⟨i, σ3, H3, I3, st3, fr3, w3⟩
 rcases turn i n σ3 H3 w3 with ⟨stop, qn⟩ | ⟨go, N, hN, step⟩
 ·refine thn (T.done Y rfl rfl rfl hc i pins s3 σ3 H3 _ I3 (stat fr3) st3 stop) fun r s4 ⟨hr, I4⟩ => ?_
  subst hr
  exact ⟨rfl, σ3, H3, I4, qn⟩
 ·refine thn (T.item Y rfl rfl rfl hc i pins s3 σ3 H3 _ I3 (stat fr3) st3 go) fun r s4 ⟨u, hr, h4⟩ => ?_
  subst hr
  refine thn h4 fun _ s5 ⟨x, H5, I5, r5, y5, st5, fr5⟩ => ?_
  have I5' := I5.pinned (stat fr5) (T.obj _ _ st5)
  have a1 := hg _ s5 σ3 H5 x u _ I5' r5 (step x H5 y5)
  rw [hx] at a1
  refine thn a1 fun _ s6 ⟨σ6, H6, I6, q6⟩ => ?_
  have a2 := ht _ s6 σ6 H6 _ I6 q6
  rw [hx] at a2
  refine thn a2 fun ok s7 ⟨H7, I7, q7⟩ => ?_
  have again : ∀ {s8 : Shared} {σ7 : St} {H7 : Hp}, Inv Y (pins ++ pinsAt fp s5.heap) σ7 H7 s8 -> N σ7 H7 -> ∃ m, m < n /\ ∃ i σ' H', Inv Y pins σ' H' s8 /\ tn i s8.heap /\ (∀ b ∈ fp, H' b = none) /\ W i m σ' H' := fun {s8 σ7 H7} I7 n7 => by
   obtain ⟨m', hm, w7⟩ := hN σ7 H7 n7
   refine ⟨m', hm, i + 1, σ7, H7, I7.unpinned, T.keep _ _ _ st5 fun b hb o e => (I7.pin (b, o) (List.mem_append_right _ (List.mem_append_right _ (mem_pinsAt hb e)))).1, fun b hb => ?_, w7⟩
   obtain ⟨o, e, d⟩ := T.obj _ _ st5 b hb
   exact (I7.pin (b, o) (List.mem_append_right _ (List.mem_append_right _ (mem_pinsAt hb e)))).2.1
  cases ok with
  | false =>
   rw [if_neg Bool.false_ne_true] at q7 ⊢
   exact again I7 q7
  | true =>
   rw [if_pos rfl] at q7 ⊢
   have a3 := hb _ s7 σ6 H7 _ I7 q7
   unfold LcW at a3 ⊢
   cases e : gens[d + 1]? with
   | none =>
    rw [e] at a3
    exact thn a3 fun x s8 h8 => thn h8 fun _ s9 ⟨σ9, H9, I9, n9⟩ => again I9 n9
   | some g' =>
    rw [e] at a3
    exact ⟨a3.1, thn a3.2 fun x s8 h8 => thn h8 fun _ s9 h9 => codeAny_mono h9 fun r s10 ⟨hr, σ9, H9, I9, n9⟩ => ⟨hr, again I9 n9⟩⟩
end
end L2
namespace L2
open PySem PySem.Spec PyProof.Rows
def clFrom (env : Env) : List (Str × NameKind) -> List (Str × Addr) -> List (Str × Addr)
 | [], acc => acc
 | (n, k) :: r, acc => if k == .free then clFrom env r ((n, (env.cells.lookup n).getD 0) :: acc) else clFrom env r acc
theorem clFrom_go {env : Env} (f : Str × NameKind -> List (Str × Addr) -> Sem (ForInStep (List (Str × Addr))))
  (hf : ∀ n k cs, f (n, k) cs = if k == .free then (do let c ← cellOf env n; pure (.yield ((n, c) :: cs))) else pure (.yield cs)) :
  ∀ (names : List (Str × NameKind)) (acc : List (Str × Addr)), (∀ x ∈ names, x.2 = .free -> ∃ c, env.cells.lookup x.1 = some c) -> forIn names acc f = pure (clFrom env names acc)
 | [], acc, _ => by rw [List.forIn_nil]; rfl
 | (n, k) :: r, acc, h => by
  rw [List.forIn_cons, hf]
  unfold clFrom
  by_cases hk : (k == NameKind.free) = true
  ·rw [if_pos hk, if_pos hk]
   obtain ⟨c, hc⟩ := h (n, k) List.mem_cons_self (by simpa using hk)
   have hc' : env.cells.lookup n = some c := hc
   have e : cellOf env n = pure c := by unfold cellOf; rw [hc']
   rw [e, hc']
   exact clFrom_go f hf r _ fun x hx => h x (List.mem_cons_of_mem _ hx)
  ·rw [if_neg hk, if_neg hk]
   exact clFrom_go f hf r _ fun x hx => h x (List.mem_cons_of_mem _ hx)
theorem closureFor_cl {scope : Scope} {env : Env} (h : ∀ x ∈ scope.names, x.2 = .free -> ∃ c, env.cells.lookup x.1 = some c) : closureFor scope env = pure (clFrom env scope.names []) := by
 unfold closureFor
 dsimp only
 rw [clFrom_go (env := env) _ (fun n k cs => by cases hk : k == NameKind.free <;> simp [hk]) scope.names [] h]
 rfl
theorem clFrom_look {env : Env} {x : Str} {c : Addr} : ∀ (names : List (Str × NameKind)) (acc : List (Str × Addr)), (∀ y ∈ names, y.2 = .free -> ∃ c, env.cells.lookup y.1 = some c) ->
  (clFrom env names acc).lookup x = some c -> (((x, NameKind.free) ∈ names /\ env.cells.lookup x = some c) ∨ acc.lookup x = some c)
 | [], acc, _, e => .inr e
 | (n, k) :: r, acc, h, e => by
  unfold clFrom at e
  have hr : ∀ y ∈ r, y.2 = .free -> ∃ c, env.cells.lookup y.1 = some c := fun y hy => h y (List.mem_cons_of_mem _ hy)
  by_cases hk : (k == NameKind.free) = true
  ·rw [if_pos hk] at e
   have hk' : k = .free := by simpa using hk
   subst hk'
   rcases clFrom_look r _ hr e with ⟨h1, h2⟩ | h1
   ·exact .inl ⟨List.mem_cons_of_mem _ h1, h2⟩
   ·rw [List.lookup_cons] at h1
    cases q : x == n with
    | true =>
     rw [q] at h1
     have : x = n := by simpa using q
     subst this
     obtain ⟨c', hc'⟩ := h (x, .free) List.mem_cons_self rfl
     have hc'' : env.cells.lookup x = some c' := hc'
     rw [hc''] at h1
     exact .inl ⟨List.mem_cons_self, by rw [hc'']; exact h1⟩
    | false =>
     rw [q] at h1
     exact .inr h1
  ·rw [if_neg hk] at e
   rcases clFrom_look r _ hr e with ⟨h1, h2⟩ | h1
   ·exact .inl ⟨List.mem_cons_of_mem _ h1, h2⟩
   ·exact .inr h1
theorem clFrom_some {env : Env} {x : Str} : ∀ (names : List (Str × NameKind)) (acc : List (Str × Addr)), (x, NameKind.free) ∈ names ∨ (acc.lookup x).isSome = true -> ((clFrom env names acc).lookup x).isSome = true
 | [], acc, h => by rcases h with h | h; cases h; exact h
 | (n, k) :: r, acc, h => by
  unfold clFrom
  by_cases hk : (k == NameKind.free) = true
  ·rw [if_pos hk]
   refine clFrom_some r _ ?_
   rw [List.lookup_cons]
   cases q : x == n with
   | true => exact .inr rfl
   | false =>
    rcases h with h | h
    ·rcases List.mem_cons.mp h with e | e
     ·cases e; simp at q
     ·exact .inl e
    ·exact .inr h
  ·rw [if_neg hk]
   refine clFrom_some r _ ?_
   rcases h with h | h
   ·rcases List.mem_cons.mp h with e | e
    ·cases e; exact absurd rfl hk
    ·exact .inl e
   ·exact .inr h
theorem clFrom_mem {env : Env} {x : Str} {c : Addr} : ∀ (names : List (Str × NameKind)) (acc : List (Str × Addr)), (∀ y ∈ names, y.2 = .free -> ∃ c, env.cells.lookup y.1 = some c) -> (x, c) ∈ clFrom env names acc -> env.cells.lookup x = some c ∨ (x, c) ∈ acc
 | [], acc, _, e => .inr e
 | (n, k) :: r, acc, h, e => by
  unfold clFrom at e
  have hr : ∀ y ∈ r, y.2 = .free -> ∃ c, env.cells.lookup y.1 = some c := fun y hy => h y (List.mem_cons_of_mem _ hy)
  by_cases hk : (k == NameKind.free) = true
  ·rw [if_pos hk] at e
   have hk' : k = .free := by simpa using hk
   subst hk'
   rcases clFrom_mem r _ hr e with h1 | h1
   ·exact .inl h1
   ·rcases List.mem_cons.mp h1 with q | q
    ·obtain ⟨c', hc'⟩ := h (n, .free) List.mem_cons_self rfl
     have hc'' : env.cells.lookup n = some c' := hc'
     rw [hc''] at q
     cases q
     exact .inl hc''
    ·exact .inr q
  ·rw [if_neg hk] at e
   exact clFrom_mem r _ hr e
theorem cellsFrom_look {x : Str} {c : Addr} : ∀ (names : List (Str × NameKind)) (n : Nat) (acc : List (Str × Addr)), (cellsFrom n names acc).lookup x = some c -> ((x, NameKind.cell) ∈ names /\ n <= c) ∨ acc.lookup x = some c
 | [], n, acc, e => .inr e
 | (y, k) :: r, n, acc, e => by
  unfold cellsFrom at e
  by_cases hk : (k == NameKind.cell) = true
  ·rw [if_pos hk] at e
   have hk' : k = .cell := by simpa using hk
   subst hk'
   rcases cellsFrom_look r _ _ e with ⟨h1, h2⟩ | h1
   ·exact .inl ⟨List.mem_cons_of_mem _ h1, by omega⟩
   ·rw [List.lookup_cons] at h1
    cases q : x == y with
    | true =>
     rw [q] at h1
     have : x = y := by simpa using q
     subst this
     cases h1
     exact .inl ⟨List.mem_cons_self, Nat.le_refl _⟩
    | false => rw [q] at h1; exact .inr h1
  ·rw [if_neg hk] at e
   rcases cellsFrom_look r _ _ e with ⟨h1, h2⟩ | h1
   ·exact .inl ⟨List.mem_cons_of_mem _ h1, h2⟩
   ·exact .inr h1
theorem cellsFrom_old {x : Str} : ∀ (names : List (Str × NameKind)) (n : Nat) (acc : List (Str × Addr)), (x, NameKind.cell) ∉ names -> (cellsFrom n names acc).lookup x = acc.lookup x
 | [], n, acc, _ => rfl
 | (y, k) :: r, n, acc, h => by
  unfold cellsFrom
  have hr : (x, NameKind.cell) ∉ r := fun z => h (List.mem_cons_of_mem _ z)
  by_cases hk : (k == NameKind.cell) = true
  ·rw [if_pos hk, cellsFrom_old r _ _ hr, List.lookup_cons]
   cases q : x == y with
   | true =>
    have : x = y := by simpa using q
    subst this
    have hk' : k = .cell := by simpa using hk
    subst hk'
    exact absurd List.mem_cons_self h
   | false => rfl
  ·rw [if_neg hk]
   exact cellsFrom_old r _ _ hr
theorem cellsFrom_new : ∀ (names : List (Str × NameKind)) (h : Heap) (acc : List (Str × Addr)) (lo : Nat), lo <= h.objs.size -> (∀ y c, (y, c) ∈ acc -> lo <= c -> h.IsCell c none) -> (acc.Pairwise fun x y => lo <= x.2 -> x.2 ≠ y.2) -> (∀ y c, (y, c) ∈ acc -> c < h.objs.size) ->
  (∀ y c, (y, c) ∈ cellsFrom h.objs.size names acc -> lo <= c -> (pushCells h names).IsCell c none) /\ ((cellsFrom h.objs.size names acc).Pairwise fun x y => lo <= x.2 -> x.2 ≠ y.2)
 | [], h, acc, lo, _, h1, h2, _ => ⟨h1, h2⟩
 | (n, k) :: r, h, acc, lo, hlo, h1, h2, h3 => by
  unfold cellsFrom pushCells
  by_cases hk : (k == NameKind.cell) = true
  ·rw [if_pos hk, if_pos hk]
   have := cellsFrom_new r (h.push { cls := .type "cell", data := .cell none }) ((n, h.objs.size) :: acc) lo (by rw [Heap.size_push]; omega) (fun y c hm hc => by
    rcases List.mem_cons.mp hm with e | hm
    ·cases e; exact ⟨_, Heap.get?_push_size _ rfl, rfl⟩
    ·exact (h1 y c hm hc).keeps fun b o e => Heap.get?_push_of_some _ e) (List.pairwise_cons.mpr ⟨fun y hy _ e => by
     have := h3 y.1 y.2 hy
     have e' : h.objs.size = y.2 := e
     exact absurd (e' ▸ this) (Nat.lt_irrefl _), h2⟩) (fun y c hm => by
    rw [Heap.size_push]
    rcases List.mem_cons.mp hm with e | hm
    ·cases e; exact Nat.lt_succ_self _
    ·exact Nat.lt_succ_of_lt (h3 y c hm))
   rw [Heap.size_push] at this
   exact this
  ·rw [if_neg hk, if_neg hk]
   exact cellsFrom_new r h acc lo hlo h1 h2 h3
def inEnv (scope : Scope) (env : Env) (C : Addr) : Env :=
 { scope := relabel scope env, locals := C, globals := env.globals, cells := cellsFrom (C + 1) scope.names (clFrom env scope.names []), qual := env.qual, func := none, code := env.code, frame := env.frame, builtins := env.builtins }
theorem newEnv_in {M : Model} {A : Around} {E : Value -> Shared -> Prop} {s : Shared} {scope : Scope} {env : Env} {Q : Env -> Shared -> Prop}
  (h : Q (newEnv scope s.heap.objs.size env.globals (cellsFrom (s.heap.objs.size + 1) scope.names (clFrom env scope.names [])) env.qual none .none (some env) builtinsNs)
   { s with heap := pushCells (s.heap.push { cls := .type "dict", data := .dict #[] }) scope.names }) :
  wpAny M A (newFunctionEnv scope env.globals (clFrom env scope.names []) [] env.qual none .none (some env)) Q E s := by
 simp only [newFunctionEnv, Option.isSome_some, if_true]
 refine wpAny_bind (wpAny_alloc ?_)
 refine wpAny_bind (wpAny_layCells _ (fun name kind cells => by cases hkc : kind == NameKind.cell <;> simp [hkc]) _ _ _ _ ?_)
 rw [show ({ s with heap := s.heap.push { cls := .type "dict", data := .dict #[] } } : Shared).heap.objs.size = s.heap.objs.size + 1 from Heap.size_push ..]
 rw [List.forIn_nil]
 exact wpAny_bind (wpAny_pure (wpAny_pure h))
def Cx.inn (X : Cx) (scope : Scope) (N : List Str) (s₃ : Shared) (H₃ : Hp) (fp : List Addr) : Cx :=
 { X with N := N, s₀ := s₃, H₀ := H₃, env := inEnv scope X.env s₃.heap.objs.size, outer := X.stack, stack := X.stack, ex := fp, fn := fun x => scope.names.lookup x == some .cell, pn := [], xe := fun _ _ => False }
def capN (own : List Str) (cap : List (Str × Nat)) : List Str := own ++ cap.map (·.1)
def capS (own : List Str) (cap : List (Str × Nat)) (σ : St) : St := own.map (fun _ => none) ++ cap.map fun p => (σ[p.2]?).join
structure LcScope (X : Cx) (scope : Scope) (own : List Str) (cap : List (Str × Nat)) : Prop where
 kind : scope.kind = .function
 nd : (scope.names.map (·.1)).Nodup
 loc : ∀ x ∈ scope.names, x.2 = .local -> scope.names.lookup x.1 = some .local
 fre : ∀ x ∈ scope.names, x.2 = .free -> X.env.kindOf x.1 = some .cell ∨ X.env.kindOf x.1 = some .free
 cap : ∀ p ∈ cap, X.N[p.2]? = some p.1 /\ (p.1, NameKind.free) ∈ scope.names
theorem nodup_kind {names : List (Str × NameKind)} (nd : (names.map (·.1)).Nodup) {x : Str} {k k' : NameKind} (h : (x, k) ∈ names) (h' : (x, k') ∈ names) : k = k' := by
 induction names with
 | nil => cases h
 | cons p r ih =>
  rw [List.map_cons, List.nodup_cons] at nd
  rcases List.mem_cons.mp h with e | h <;> rcases List.mem_cons.mp h' with e' | h'
  ·rw [← e] at e'; cases e'; rfl
  ·exact absurd (List.mem_map.mpr ⟨_, h', by rw [← e]⟩) nd.1
  ·exact absurd (List.mem_map.mpr ⟨_, h, by rw [← e']⟩) nd.1
  ·exact ih nd.2 h h'
theorem nodup_look {names : List (Str × NameKind)} (nd : (names.map (·.1)).Nodup) {x : Str} {k : NameKind} (h : (x, k) ∈ names) : names.lookup x = some k := by
 cases e : names.lookup x with
 | some k' => rw [nodup_kind nd h (PySem.mem_of_lookup e)]
 | none =>
  have : ∀ p ∈ names, (x == p.1) = false := by
   have := List.lookup_eq_none_iff.mp e
   intro p hp
   have := this p hp
   simpa using this
  have := this _ h
  simp at this
theorem name_of_addr' {lo : Nat} : ∀ {cs : List (Str × Addr)}, (cs.Pairwise fun x y => lo <= x.2 -> x.2 ≠ y.2) -> ∀ {n n' : Str} {c : Addr}, (n, c) ∈ cs -> (n', c) ∈ cs -> lo <= c -> n = n'
 | x :: r, hp, n, n', c, h, h', hc => by
  obtain ⟨h1, h2⟩ := List.pairwise_cons.mp hp
  rcases List.mem_cons.mp h with e | h <;> rcases List.mem_cons.mp h' with e' | h'
  ·rw [← e'] at e; exact (Prod.mk.inj e).1
  ·exact absurd (by rw [← e]) (h1 _ h' (by rw [← e]; exact hc))
  ·exact absurd (by rw [← e']) (h1 _ h (by rw [← e']; exact hc))
  ·exact name_of_addr' h2 h h' hc
theorem map_look {f : Str -> NameKind -> Bool} {x : Str} : ∀ {names : List (Str × NameKind)}, (names.map fun p => if f p.1 p.2 = true then (p.1, NameKind.cell) else p).lookup x = (names.lookup x).map fun k => if f x k = true then NameKind.cell else k
 | [] => rfl
 | (n, k) :: r => by
  rw [List.map_cons]
  have ih := @map_look f x r
  cases hx : x == n with
  | true =>
   have : x = n := by simpa using hx
   subst this
   cases hc : f x k <;> simp [List.lookup_cons, hc]
  | false =>
   cases hc : f n k <;> simp only [List.lookup_cons, hx, hc, if_true, if_false, Bool.false_eq_true] <;> exact ih
theorem relabel_look {scope : Scope} {env : Env} {x : Str} : (relabel scope env).names.lookup x =
  (scope.names.lookup x).map fun k => if (k == NameKind.free && env.scope.kind == .function && env.kindOf x == some .cell) = true then NameKind.cell else k := by
 have e : (relabel scope env).names = scope.names.map fun p => if (fun n k => (k == NameKind.free && env.scope.kind == .function && env.kindOf n == some .cell)) p.1 p.2 = true then (p.1, NameKind.cell) else p := by
  unfold relabel
  dsimp only
 rw [e]
 exact map_look (f := fun n k => (k == NameKind.free && env.scope.kind == .function && env.kindOf n == some .cell))
section
variable {X : Cx} {pins : List (Addr × Obj)} {σ : St} {H : Hp} {s : Shared} {scope : Scope} {own : List Str} {cap : List (Str × Nat)} {fp : List Addr}
theorem inv_in (L : LcScope X scope own cap) (I : Inv X pins σ H s) (hf : ∀ b ∈ fp, FpOk X pins H b) (ho : ∀ b ∈ fp, ∃ o, s.heap.get? b = some o) :
  Inv (X.inn scope (capN own cap) s H fp) [] (capS own cap σ) H { s with heap := pushCells (s.heap.push { cls := .type "dict", data := .dict #[] }) scope.names } := by
 have hcl : ∀ x ∈ scope.names, x.2 = .free -> ∃ c, X.env.cells.lookup x.1 = some c := fun x hx hk => I.ok.has x.1 (L.fre x hx hk)
 have old : ∀ x c, (clFrom X.env scope.names []).lookup x = some c -> (x, NameKind.free) ∈ scope.names /\ X.env.cells.lookup x = some c := fun x c e => by
  rcases clFrom_look _ _ hcl e with h | h
  ·exact h
  ·cases h
 have keep : ∀ b o, s.heap.get? b = some o -> (pushCells (s.heap.push { cls := .type "dict", data := .dict #[] }) scope.names).get? b = some o := fun b o e => pushCells_keeps _ _ b o (Heap.get?_push_of_some _ e)
 have look : ∀ x c, (X.inn scope (capN own cap) s H fp).env.cells.lookup x = some c -> ((x, NameKind.cell) ∈ scope.names /\ s.heap.objs.size + 1 <= c) ∨ ((x, NameKind.free) ∈ scope.names /\ X.env.cells.lookup x = some c) := fun x c e => by
  rcases cellsFrom_look _ _ _ e with h | h
  ·exact .inl h
  ·exact .inr (old x c h)
 have oldlt : ∀ x c, X.env.cells.lookup x = some c -> c < s.heap.objs.size := fun x c e => by
  obtain ⟨v, hv⟩ := I.cell x c e
  exact hv.lt
 have nf : ∀ x, (x, NameKind.free) ∈ scope.names -> (x, NameKind.cell) ∉ scope.names := fun x h h' => by cases nodup_kind L.nd h h'
 have ml : ∀ y c, (y, c) ∈ clFrom X.env scope.names [] -> c < s.heap.objs.size := fun y c hm => by
  rcases clFrom_mem _ _ hcl hm with h | h
  ·exact oldlt y c h
  ·cases h
 have clnd : (clFrom X.env scope.names []).Pairwise fun x y => s.heap.objs.size + 1 <= x.2 -> x.2 ≠ y.2 := List.pairwise_iff_forall_sublist.mpr fun {a b} hs hle => by
  have : a ∈ clFrom X.env scope.names [] := hs.subset List.mem_cons_self
  have := ml a.1 a.2 this
  exact absurd (Nat.lt_of_le_of_lt hle this) (Nat.not_lt.mpr (Nat.le_succ _))
 have nst := cellsFrom_new scope.names (s.heap.push { cls := .type "dict", data := .dict #[] }) (clFrom X.env scope.names []) (s.heap.objs.size + 1) (by rw [Heap.size_push]; exact Nat.le_refl _)
  (fun y c hm hc => absurd (Nat.lt_of_le_of_lt hc (ml y c hm)) (Nat.not_lt.mpr (Nat.le_succ _))) clnd (fun y c hm => by rw [Heap.size_push]; exact Nat.lt_succ_of_lt (ml y c hm))
 rw [Heap.size_push] at nst
 have newcell : ∀ x c, (X.inn scope (capN own cap) s H fp).env.cells.lookup x = some c -> s.heap.objs.size + 1 <= c -> (pushCells (s.heap.push { cls := .type "dict", data := .dict #[] }) scope.names).IsCell c none := fun x c e hc => nst.1 x c (PySem.mem_of_lookup e) hc
 have kindY : ∀ x, (X.inn scope (capN own cap) s H fp).env.kindOf x = (scope.names.lookup x).map fun k => if (k == NameKind.free && X.env.scope.kind == .function && X.env.kindOf x == some .cell) = true then NameKind.cell else k := fun x => relabel_look
 refine ⟨⟨I.ok.mod, L.kind, I.ok.glob, I.ok.blt, Nat.le_refl _, fun x y c h1 h2 => ?inj, fun x hx => ?has, fun x c hx h => ?cab, I.ok.hd, I.ok.frames, .inl rfl, fun b hb => ⟨?ex1, fun x c h => ?ex2⟩, fun b o e => I.bs b o e, Nat.le_trans I.ok.bsz I.sz, fun b o e hb => ?noex, fun b hb hb' => ?exfs, I.stack, I.stkFree⟩,
  rfl, I.bare, Un.kept keep, ⟨fun _ => none, ?ns, fun i x v h1 h2 h3 => ?look⟩, fun x c h => ?cell, I.fresh, fun x c h => ?freeC, fun p hp => absurd (show p ∈ ([] : List (Addr × Obj)) from hp) (by simp), I.hok.kept keep, ?len⟩
 case inj =>
  rcases look x c h1 with ⟨_, g1⟩ | ⟨_, g1⟩ <;> rcases look y c h2 with ⟨_, g2⟩ | ⟨_, g2⟩
  ·exact name_of_addr' nst.2 (PySem.mem_of_lookup h1) (PySem.mem_of_lookup h2) g1
  ·exact absurd (Nat.lt_of_le_of_lt g1 (oldlt y c g2)) (Nat.not_lt.mpr (Nat.le_succ _))
  ·exact absurd (Nat.lt_of_le_of_lt g2 (oldlt x c g1)) (Nat.not_lt.mpr (Nat.le_succ _))
  ·exact I.ok.inj x y c g1 g2
 case has =>
  rw [kindY] at hx
  cases e : scope.names.lookup x with
  | none => rw [e] at hx; rcases hx with h | h <;> cases h
  | some k =>
   rw [e] at hx
   have hm := PySem.mem_of_lookup e
   have hk : k = .cell ∨ k = .free := by
    by_cases hc : (k == NameKind.free && X.env.scope.kind == .function && X.env.kindOf x == some .cell) = true
    ·simp only [Bool.and_eq_true, beq_iff_eq] at hc
     exact .inr hc.1.1
    ·rw [Option.map_some, if_neg hc] at hx
     rcases hx with h | h
     ·exact .inl (Option.some.inj h)
     ·exact .inr (Option.some.inj h)
   rcases hk with rfl | rfl
   ·exact Option.isSome_iff_exists.mp (PySem.W.cellsFrom_some scope.names _ _ (.inl e))
   ·exact Option.isSome_iff_exists.mp (PySem.W.cellsFrom_some scope.names _ _ (.inr (clFrom_some _ _ (.inl hm))))
 case cab =>
  have hx' : scope.names.lookup x = some .cell := by simpa [Cx.inn] using hx
  rcases look x c h with ⟨_, g⟩ | ⟨g, _⟩
  ·exact Nat.le_of_succ_le g
  ·exact absurd (PySem.mem_of_lookup hx') (nf x g)
 case ex1 =>
  obtain ⟨o, e⟩ := ho b hb
  exact Nat.ne_of_lt (Heap.lt_size e)
 case ex2 =>
  obtain ⟨o, e⟩ := ho b hb
  rcases look x c h with ⟨_, g⟩ | ⟨_, g⟩
  ·rintro rfl
   exact absurd (Nat.lt_of_le_of_lt g (Heap.lt_size e)) (Nat.not_lt.mpr (Nat.le_succ _))
  ·exact (hf b hb).2.2.2.2.1 x c g
 case noex =>
  rcases (hf b hb).2.2.2.1 with g | g
  ·exact I.ok.noex b o e g
  ·exact absurd (Nat.lt_of_lt_of_le (Heap.lt_size e) I.ok.bsz) (Nat.not_lt.mpr g)
 case exfs =>
  rcases List.mem_cons.mp (I.stkSub b hb') with g | g
  ·exact (hf b hb).2.1 g
  ·exact (hf b hb).2.2.1 g
 case ns => exact (Heap.Ns.new s.heap (.type "dict")).keeps (pushCells_keeps _ _)
 case look =>
  obtain ⟨j, p, hp, rfl, hv⟩ : ∃ (j : Nat) (p : Str × Nat), cap[j]? = some p /\ p.1 = x /\ σ[p.2]? = some (some v) := by
   have h1 : (own ++ cap.map (·.1))[i]? = some x := h1
   unfold capS at h2
   by_cases hi : i < own.length
   ·rw [List.getElem?_append_left (by simpa using hi), List.getElem?_map] at h2
    cases e : own[i]? with
    | none => rw [e] at h2; cases h2
    | some y => rw [e] at h2; cases h2
   ·rw [List.getElem?_append_right (by omega)] at h1
    rw [List.getElem?_append_right (by simpa using hi)] at h2
    rw [List.length_map] at h2
    rw [List.getElem?_map] at h1 h2
    cases e : cap[i - own.length]? with
    | none => rw [e] at h1; cases h1
    | some p =>
     rw [e] at h1 h2
     refine ⟨_, p, e, Option.some.inj h1, ?_⟩
     have h2 : (σ[p.2]?).join = some v := Option.some.inj h2
     cases q : σ[p.2]? with
     | none => rw [q] at h2; cases h2
     | some z => rw [q] at h2; exact congrArg some h2
  obtain ⟨c1, c2⟩ := L.cap p (List.mem_of_getElem? hp)
  have hk := L.fre _ c2 rfl
  obtain ⟨m, hn, hl⟩ := I.loc
  obtain ⟨u, ru, lk⟩ := hl p.2 p.1 v c1 hv (.inr hk)
  refine ⟨u, ru, .inr ?_⟩
  rcases lk with ⟨lk, _⟩ | ⟨_, c, e, hc⟩
  ·rcases hk with hk | hk
   ·have : X.env.kindOf p.1 = some .cell := hk
    rw [lk] at this; cases this
   ·have : X.env.kindOf p.1 = some .free := hk
    rw [lk] at this; cases this
  ·have hlk := nodup_look L.nd c2
   refine ⟨?_, c, ?_, hc.keeps keep⟩
   ·rw [kindY, hlk, Option.map_some]
    split
    ·exact .inl rfl
    ·exact .inr rfl
   ·show (cellsFrom _ scope.names _).lookup p.1 = some c
    rw [cellsFrom_old _ _ _ (nf _ c2)]
    obtain ⟨c', e'⟩ := Option.isSome_iff_exists.mp (clFrom_some (env := X.env) scope.names [] (.inl c2))
    rw [e', ← e]
    exact (old _ _ e').2.symm
 case cell =>
  rcases look x c h with ⟨_, g⟩ | ⟨_, g⟩
  ·exact ⟨_, newcell x c h g⟩
  ·obtain ⟨v, hv⟩ := I.cell x c g
   exact ⟨v, hv.keeps keep⟩
 case freeC =>
  rcases look x c h with ⟨_, g⟩ | ⟨_, g⟩
  ·exact I.hok.fresh (Nat.le_of_succ_le g)
  ·exact I.freeC x c g
 case len =>
  show (capS own cap σ).length = (capN own cap).length
  unfold capS capN
  simp
end
def tLC (wi : TI) (g : TG) (ti : TT) (tb : Addr -> TS) (own : List Str) (cap : List (Str × Nat)) : TE := fun σ H Q => wi σ H fun J H1 => ∀ acc, H1 acc = none ->
 loopT J g (tIfB ti (tb acc)) { nx := fun _ H' => Q (.ref acc) H', rt := fun _ _ => False } (capS own cap σ) (upd H1 acc (.lst []))
theorem pe_lc {X : Cx} {elt tg iter : Expr} {ifs : List Expr} {rest : List Comprehension} {scope : Scope} {pos : Pos} {wi : TI} {g : TG} {ti : TT} {tb : Addr -> TS} (own : List Str) (cap : List (Str × Nat)) (hc : X.calm = true) (L : LcScope X scope own cap) (hi : PI X tg iter wi)
  (hin : ∀ (s₃ : Shared) (H₃ : Hp) (fp : List Addr) (acc : Addr), PG (X.inn scope (capN own cap) s₃ H₃ fp) tg g /\ PTs (X.inn scope (capN own cap) s₃ H₃ fp) ifs ti /\ PB (X.inn scope (capN own cap) s₃ H₃ fp) elt (⟨tg, iter, ifs, 0⟩ :: rest) scope pos 0 acc (tb acc))
  (hs : ∀ x, foldedSetIterable iter X.env x = pure x := by intro _; rfl) : PE X (.ListComp elt (⟨tg, iter, ifs, 0⟩ :: rest) scope pos) (tLC wi g ti tb own cap) := by
 intro pins s σ H Q I h
 rw [eval_ListComp]
 have hcl : ∀ x ∈ scope.names, x.2 = .free -> ∃ c, X.env.cells.lookup x.1 = some c := fun x hx hk => I.ok.has x.1 (L.fre x hx hk)
 refine wpAny_comprehension_free (use := none) rfl hs (closureFor_cl hcl) L.kind L.loc (thn (hi pins s σ H _ I h) fun x s1 h1 => thn h1 fun itv s2 ⟨it, fp, tn, J, H2, e, I2, T, st2, f2, q2⟩ => ?_)
 subst e
 refine wpAny_newObj_type ?_
 have I3 := I2.lnew (t' := s2.toks) (ys := []) (its := []) .nil (Nat.zero_le _)
 have fr2 : H2 s2.heap.objs.size = none := I2.fresh
 have f3 : ∀ b ∈ fp, FpOk X pins (upd H2 s2.heap.objs.size (.lst [])) b := fun b hb => by
  obtain ⟨o, eo, _⟩ := T.obj 0 _ st2 b hb
  obtain ⟨g1, g2⟩ := f2 b hb
  exact ⟨by rw [upd_ne (Nat.ne_of_lt (Heap.lt_size eo))]; exact g1, g2⟩
 have k3 : ∀ b o, s2.heap.get? b = some o -> (s2.heap.push { cls := .type "list", data := .seq ([] : List Value).toArray }).get? b = some o := fun b o e => Heap.get?_push_of_some _ e
 have st3 : tn 0 (s2.heap.push { cls := .type "list", data := .seq ([] : List Value).toArray }) := T.keep 0 _ _ st2 fun b _ o e => k3 b o e
 refine newEnv_in ?_
 have I4 := inv_in L I3 f3 fun b hb => by obtain ⟨o, eo, _⟩ := T.obj 0 _ st3 b hb; exact ⟨o, eo⟩
 obtain ⟨hg, ht, hb⟩ := hin { s2 with heap := s2.heap.push { cls := .type "list", data := .seq ([] : List Value).toArray }, toks := s2.toks } (upd H2 s2.heap.objs.size (.lst [])) fp s2.heap.objs.size
 have st4 := T.keep 0 _ (pushCells ((s2.heap.push { cls := .type "list", data := .seq ([] : List Value).toArray }).push { cls := .type "dict", data := .dict #[] }) scope.names) st3 fun b _ o e => pushCells_keeps _ _ b o (Heap.get?_push_of_some _ e)
 have f4 : ∀ b ∈ fp, FpOk (X.inn scope (capN own cap) { s2 with heap := s2.heap.push { cls := .type "list", data := .seq ([] : List Value).toArray }, toks := s2.toks } (upd H2 s2.heap.objs.size (.lst [])) fp) [] (upd H2 s2.heap.objs.size (.lst [])) b := fun b hb =>
  ⟨(f3 b hb).1, (I4.ok.exf b hb).1, I4.ok.exfs b hb, .inl hb, (I4.ok.exf b hb).2, fun p hp => absurd (show p ∈ ([] : List (Addr × Obj)) from hp) (by simp)⟩
 have lp := lc_loop (Y := X.inn scope (capN own cap) { s2 with heap := s2.heap.push { cls := .type "list", data := .seq ([] : List Value).toArray }, toks := s2.toks } (upd H2 s2.heap.objs.size (.lst [])) fp) (acc := s2.heap.objs.size) (gens := ⟨tg, iter, ifs, 0⟩ :: rest) (d := 0) rfl rfl hc hg ht hb I4 T st4 f4 (q2 _ fr2)
 have lp' := codeAny_mono lp (R' := compPost (model X.prog X.w) X.A X.xe none (EP X pins σ Q) (.ref s2.heap.objs.size) (s2.heap.push { cls := .type "list", data := .seq ([] : List Value).toArray }).objs.size) fun r s' ⟨hr, σ', H', I', q'⟩ => by
  subst hr
  obtain ⟨m', hn', _⟩ := id I'.loc
  refine ⟨m', hn', fun h' hsb => ?_⟩
  refine ⟨.ref s2.heap.objs.size, H', ?_, rfl, q'⟩
  have neC : ∀ b o, (s2.heap.push { cls := .type "list", data := .seq ([] : List Value).toArray }).get? b = some o -> b ≠ (s2.heap.push { cls := .type "list", data := .seq ([] : List Value).toArray }).objs.size := fun b o e => Nat.ne_of_lt (Heap.lt_size e)
  have B := I'.base
  refine I3.call' (ch := fp) I'.os ⟨fun b o e n hb hx => (hsb.2 b (neC b o e)).trans (B.keep b o e n hb hx), fun b o e n hb hx => ?_, B.free, fun b o e hx => ?_, B.tups, B.frzs, B.tbls⟩ (fun b u e => ?_) I'.bare fun b hb => ⟨(f3 b hb).2.2.2.1, (f3 b hb).2.1, (f3 b hb).2.2.2.2.1, (f3 b hb).2.2.2.2.2⟩
  ·obtain ⟨sl, e1⟩ := B.slot b o e n hb hx
   exact ⟨sl, (hsb.2 b (neC b o e)).trans e1⟩
  ·obtain ⟨o', e1⟩ := B.there b o e hx
   exact ⟨o', (hsb.2 b (neC b o e)).trans e1⟩
  ·have hC : H' (s2.heap.push { cls := .type "list", data := .seq ([] : List Value).toArray }).objs.size = none := I'.free
   refine (I'.hok b u e).stay (fun c v hc' q => (hsb.2 c ?_).trans q) (fun _ q => q) fun _ _ q => q
   rintro rfl
   rcases hc' with hc' | hc'
   ·rw [← hc', hC] at e; cases e
   ·rw [hC] at hc'; cases hc'
 exact compStart_any rfl lp' (T.self _ _ _ _ _ st4 lp')
theorem ps_setlc {X : Cx} {i : Nat} {y : Str} {py spos : Pos} {elt tg iter : Expr} {ifs : List Expr} {rest : List Comprehension} {scope : Scope} {pos : Pos} {wi : TI} {g : TG} {ti : TT} {tb : Addr -> TS} (own : List Str) (cap : List (Str × Nat)) (hN : X.N.Nodup) (hyi : X.N[i]? = some y) (hy : X.env.scope.names.lookup y = some .local) (hc : X.calm = true) (L : LcScope X scope own cap) (hi : PI X tg iter wi)
  (hin : ∀ (s₃ : Shared) (H₃ : Hp) (fp : List Addr) (acc : Addr), PG (X.inn scope (capN own cap) s₃ H₃ fp) tg g /\ PTs (X.inn scope (capN own cap) s₃ H₃ fp) ifs ti /\ PB (X.inn scope (capN own cap) s₃ H₃ fp) elt (⟨tg, iter, ifs, 0⟩ :: rest) scope pos 0 acc (tb acc))
  (hsw : swapsWith (.ListComp elt (⟨tg, iter, ifs, 0⟩ :: rest) scope pos) (some (.Name y py)) spos.line X.env = pure true := by rfl) (hs : ∀ x, foldedSetIterable iter X.env x = pure x := by intro _; rfl) :
  PS X (.Assign [.Name y py] (.ListComp elt (⟨tg, iter, ifs, 0⟩ :: rest) scope pos) spos) (tAsg (tLC wi g ti tb own cap) (gName i)) := by
 intro pins s σ H D I h
 rw [exec_Assign_Name_used _ _ _ _ hsw]
 refine wpAny_bind (wpAny_standAt (wpAny_bind ?_))
 show wpAny _ X.A (do let _ ← comprehension (.ListComp elt (⟨tg, iter, ifs, 0⟩ :: rest) scope pos) scope X.env _ (newList []) false (eval iter X.env) (some (assign (.Name y py) X.env))) _ _ s
 have hcl : ∀ x ∈ scope.names, x.2 = .free -> ∃ c, X.env.cells.lookup x.1 = some c := fun x hx hk => I.ok.has x.1 (L.fre x hx hk)
 refine wpAny_bind (wpAny_mono (wpAny_comprehension_free (use := some (assign (.Name y py) X.env)) (Q := fun _ s' => SP X pins D .next s') rfl hs (closureFor_cl hcl) L.kind L.loc (thn (hi pins s σ H _ I h) fun x s1 h1 => thn h1 fun itv s2 ⟨it, fp, tn, J, H2, e, I2, T, st2, f2, q2⟩ => ?_)) (fun _ s' hq => wpAny_pure (wpAny_pure hq)) fun _ _ e => e)
 subst e
 refine wpAny_newObj_type ?_
 have I3 := I2.lnew (t' := s2.toks) (ys := []) (its := []) .nil (Nat.zero_le _)
 have fr2 : H2 s2.heap.objs.size = none := I2.fresh
 have f3 : ∀ b ∈ fp, FpOk X pins (upd H2 s2.heap.objs.size (.lst [])) b := fun b hb => by
  obtain ⟨o, eo, _⟩ := T.obj 0 _ st2 b hb
  obtain ⟨g1, g2⟩ := f2 b hb
  exact ⟨by rw [upd_ne (Nat.ne_of_lt (Heap.lt_size eo))]; exact g1, g2⟩
 have k3 : ∀ b o, s2.heap.get? b = some o -> (s2.heap.push { cls := .type "list", data := .seq ([] : List Value).toArray }).get? b = some o := fun b o e => Heap.get?_push_of_some _ e
 have st3 : tn 0 (s2.heap.push { cls := .type "list", data := .seq ([] : List Value).toArray }) := T.keep 0 _ _ st2 fun b _ o e => k3 b o e
 refine newEnv_in ?_
 have I4 := inv_in L I3 f3 fun b hb => by obtain ⟨o, eo, _⟩ := T.obj 0 _ st3 b hb; exact ⟨o, eo⟩
 obtain ⟨hg, ht, hb⟩ := hin { s2 with heap := s2.heap.push { cls := .type "list", data := .seq ([] : List Value).toArray }, toks := s2.toks } (upd H2 s2.heap.objs.size (.lst [])) fp s2.heap.objs.size
 have st4 := T.keep 0 _ (pushCells ((s2.heap.push { cls := .type "list", data := .seq ([] : List Value).toArray }).push { cls := .type "dict", data := .dict #[] }) scope.names) st3 fun b _ o e => pushCells_keeps _ _ b o (Heap.get?_push_of_some _ e)
 have f4 : ∀ b ∈ fp, FpOk (X.inn scope (capN own cap) { s2 with heap := s2.heap.push { cls := .type "list", data := .seq ([] : List Value).toArray }, toks := s2.toks } (upd H2 s2.heap.objs.size (.lst [])) fp) [] (upd H2 s2.heap.objs.size (.lst [])) b := fun b hb =>
  ⟨(f3 b hb).1, (I4.ok.exf b hb).1, I4.ok.exfs b hb, .inl hb, (I4.ok.exf b hb).2, fun p hp => absurd (show p ∈ ([] : List (Addr × Obj)) from hp) (by simp)⟩
 have lp := lc_loop (Y := X.inn scope (capN own cap) { s2 with heap := s2.heap.push { cls := .type "list", data := .seq ([] : List Value).toArray }, toks := s2.toks } (upd H2 s2.heap.objs.size (.lst [])) fp) (acc := s2.heap.objs.size) (gens := ⟨tg, iter, ifs, 0⟩ :: rest) (d := 0) rfl rfl hc hg ht hb I4 T st4 f4 (q2 _ fr2)
 have lp' := codeAny_mono lp (R' := compPost (model X.prog X.w) X.A X.xe (some (assign (.Name y py) X.env)) (fun _ s' => SP X pins D .next s') (.ref s2.heap.objs.size) (s2.heap.push { cls := .type "list", data := .seq ([] : List Value).toArray }).objs.size) fun r s' ⟨hr, σ', H', I', q'⟩ => by
  subst hr
  obtain ⟨m', hn', _⟩ := id I'.loc
  have B := I'.base
  have I5 : Inv X pins σ H' s' := I3.call' (ch := fp) I'.os B I'.hok I'.bare fun b hb => ⟨(f3 b hb).2.2.2.1, (f3 b hb).2.1, (f3 b hb).2.2.2.2.1, (f3 b hb).2.2.2.2.2⟩
  have hC : H' (s2.heap.push { cls := .type "list", data := .seq ([] : List Value).toArray }).objs.size = none := I'.free
  show wpAny _ X.A (assign (.Name y py) X.env (.ref s2.heap.objs.size)) _ _ _
  refine wpAny_assign_Name (store_ok2 I5 hN hyi (.inl hy) (v := .ref s2.heap.objs.size) rfl (fun s6 I6 ⟨a6, sb6, ha6⟩ => ?_) (.inr hy))
  have neL : X.env.locals ≠ (s2.heap.push { cls := .type "list", data := .seq ([] : List Value).toArray }).objs.size := Nat.ne_of_lt I3.lt
  have ha : a6 ≠ (s2.heap.push { cls := .type "list", data := .seq ([] : List Value).toArray }).objs.size := by
   rcases ha6 with rfl | ha6
   ·exact neL
   ·obtain ⟨v, hv⟩ := I3.cell y a6 ha6
    exact Nat.ne_of_lt hv.lt
  refine ⟨m', hn'.sameBut sb6 ha.symm, fun h' hsb => ?_⟩
  refine ⟨_, H', ?_, q'⟩
  have kb : ∀ b o, b ≠ (s2.heap.push { cls := .type "list", data := .seq ([] : List Value).toArray }).objs.size -> s6.heap.get? b = some o -> h'.get? b = some o := fun b o hb e => (hsb.2 b hb).trans e
  refine I6.turned (t' := s6.toks) (it := (s2.heap.push { cls := .type "list", data := .seq ([] : List Value).toArray }).objs.size) kb hC neL.symm (.inr I3.sz) (fun x c e z => ?_) (fun p hp z => ?_)
  ·obtain ⟨v, hv⟩ := I3.cell x c e
   exact absurd z (Nat.ne_of_lt hv.lt)
  ·have := (I3.pin p hp).1
   exact absurd z (Nat.ne_of_lt (Heap.lt_size this))
 exact compStart_any rfl lp' (T.self _ _ _ _ _ st4 lp')
end L2
namespace L2
open PySem PySem.Spec PyProof.Rows
mutual
inductive Den (K : W.Frag) (H : Hp) : V -> PyData -> Prop
 | non : Den K H .non .none
 | bl (b) : Den K H (.bl b) (.bool b)
 | int (i) : Den K H (.int i) (.int i)
 | str (x) : Den K H (.str x) (.str x)
 | lst {a us ds} : SqL K H a us -> Dens K H us ds -> Den K H (.ref a) (.list ds)
 | tup {a us ds} : SqT K H a us -> Dens K H us ds -> Den K H (.ref a) (.tuple ds)
inductive Dens (K : W.Frag) (H : Hp) : List V -> List PyData -> Prop
 | nil : Dens K H [] []
 | cons {v vs d ds} : Den K H v d -> Dens K H vs ds -> Dens K H (v :: vs) (d :: ds)
end
theorem Same.tup {K : W.Frag} {H H' : Hp} {a : Addr} {xs : List V} (e : Same H H') (h : SqT K H a xs) : SqT K H' a xs := by
 rcases h with (h | ⟨o, h⟩) | h
 ·exact .inl (.inl (e _ _ h))
 ·exact .inl (.inr ⟨o, e _ _ h⟩)
 ·exact .inr h
mutual
theorem Den.same {K : W.Frag} {H H' : Hp} (e : Same H H') : ∀ {v d}, Den K H v d -> Den K H' v d
 | _, _, .non => .non
 | _, _, .bl b => .bl b
 | _, _, .int i => .int i
 | _, _, .str x => .str x
 | _, _, .lst h r => .lst (e.seq h) (Dens.same e r)
 | _, _, .tup h r => .tup (e.tup h) (Dens.same e r)
theorem Dens.same {K : W.Frag} {H H' : Hp} (e : Same H H') : ∀ {vs ds}, Dens K H vs ds -> Dens K H' vs ds
 | _, _, .nil => .nil
 | _, _, .cons h r => .cons (Den.same e h) (Dens.same e r)
end
section
variable {X : Cx} {pins : List (Addr × Obj)} {σ : St} {H : Hp} {s : Shared}
mutual
theorem Den.reads (I : Inv X pins σ H s) : ∀ {v d} {u : Value}, Den X.K H v d -> RelV v u -> ∃ as, Reads s.heap u d as
 | _, _, _, .non, r => by cases r; exact ⟨_, .none⟩
 | _, _, _, .bl b, r => by cases r; exact ⟨_, .bool b⟩
 | _, _, _, .int i, r => by obtain ⟨t, rfl⟩ := r; exact ⟨_, .int i t⟩
 | _, _, _, .str i, r => by obtain ⟨t, rfl⟩ := r; exact ⟨_, .str i t⟩
 | _, _, _, .lst h hr, r => by
  cases r
  obtain ⟨its, rv, ⟨o, n, e, c, _, d⟩, _⟩ := I.list h
  obtain ⟨as, q⟩ := Dens.reads I hr rv
  exact ⟨_, .list e c d (by simpa using q)⟩
 | _, _, _, .tup h hr, r => by
  cases r
  obtain ⟨its, rv, ⟨o, e, c, n, d⟩, _⟩ := I.tuple h
  obtain ⟨as, q⟩ := Dens.reads I hr rv
  exact ⟨_, .tuple e c d (by simpa using q)⟩
theorem Dens.reads (I : Inv X pins σ H s) : ∀ {vs ds} {us : List Value}, Dens X.K H vs ds -> Vals vs us -> ∃ as, ReadsAll s.heap us ds as
 | _, _, _, .nil, r => by cases r; exact ⟨_, .nil⟩
 | _, _, _, .cons h hr, r => by
  cases r with
  | cons r1 r2 =>
   obtain ⟨as, q⟩ := Den.reads I h r1
   obtain ⟨bs, q2⟩ := Dens.reads I hr r2
   exact ⟨_, .cons q q2⟩
end
end
def rEqD (K : W.Frag) (f : Bool -> Bool) : R2 := fun x y H Q => ∃ dx dy, Den K H x dx /\ Den K H y dy /\ dx.canLay0 = true /\ dy.canLay0 = true /\ dx.depth <= 32 /\ Q (.bl (f (PyData.eqv dx dy))) H
section
variable {X : Cx}
theorem op_eqD (hu : X.A.units + 64 < cLine) : OpR X (compareOp .Eq) (rEqD X.K id) := by
 intro pins s σ H x y v u Q I rx ry h
 obtain ⟨dx, dy, h1, h2, h3, h4, h5, q⟩ := h
 obtain ⟨as, r1⟩ := h1.reads I rx
 obtain ⟨bs, r2⟩ := h2.reads I ry
 exact SeqAt.compareEq_reads r1 r2 h3 h4 (by omega) ⟨.bl _, H, I, rfl, q⟩
theorem op_neD (hu : X.A.units + 64 < cLine) : OpR X (compareOp .NotEq) (rEqD X.K not) := by
 intro pins s σ H x y v u Q I rx ry h
 obtain ⟨dx, dy, h1, h2, h3, h4, h5, q⟩ := h
 obtain ⟨as, r1⟩ := h1.reads I rx
 obtain ⟨bs, r2⟩ := h2.reads I ry
 exact SeqAt.compareNe_reads r1 r2 h3 h4 (by omega) ⟨.bl _, H, I, rfl, q⟩
theorem vals_bools {bs : List Bool} : ∀ {us : List Value}, Vals (bs.map V.bl) us -> us = bs.map Value.bool := by
 induction bs with
 | nil => intro us h; cases h; rfl
 | cons b r ih =>
  intro us h
  cases h with
  | cons h1 h2 => cases h1; rw [ih h2]; rfl
theorem range_all {bs : List Bool} : (List.range bs.length).all (fun i => bs.getD i false) = bs.all id := by
 rw [Bool.eq_iff_iff, List.all_eq_true, List.all_eq_true]
 constructor
 ·intro h b hb
  obtain ⟨i, hi, rfl⟩ := List.mem_iff_getElem.mp hb
  have := h i (List.mem_range.mpr hi)
  simpa [hi] using this
 ·intro h i hi
  have hi := List.mem_range.mp hi
  have := h _ (List.getElem_mem hi)
  simpa [hi] using this
theorem bools_truth {prog : Program} {w : World} {A : Around} {bs : List Bool} : TruthOf prog w A (fun i v => (bs.map Value.bool).toArray[i]? = some v) (fun i => bs.getD i false) := by
 intro i v s Q E hv hq
 simp only [List.getElem?_toArray, List.getElem?_map] at hv
 cases e : bs[i]? with
 | none => rw [e] at hv; cases hv
 | some b =>
  rw [e] at hv; cases hv
  have hq : Q (bs.getD i false) s := hq
  rw [List.getD_eq_getElem?_getD, e] at hq
  exact wpAny_truthy_bool hq
theorem call_all_bools (hc : X.calm = true) : CallR X (.builtin "all") (fun xs H Q => ∃ (a : Addr) (bs : List Bool), xs = [.ref a] /\ SqL X.K H a (bs.map V.bl) /\ Q (.bl (bs.all id)) H) := by
 intro pins s σ H xs us Q I r h
 obtain ⟨a, bs, rfl, hq, q⟩ := h
 obtain ⟨u, rfl, r1⟩ := vals1 r
 cases r1
 obtain ⟨its, rv, p, hz⟩ := I.list hq
 cases vals_bools rv
 refine call_all_walk (wpAny_pyIter_list p.isList ?_)
 have hne : a ≠ s.heap.objs.size := by obtain ⟨o, n, e, _⟩ := p; exact Nat.ne_of_lt (Heap.lt_size e)
 refine ⟨_, _, _, _, _, _, _, rfl, Walks.list (A := X.A.in1) (I.ok.hd hc) s.heap.objs.size a hne _, ⟨⟨_, Heap.get?_push_size _ rfl, rfl, rfl⟩, (p.keeps fun b o e => Heap.get?_push_of_some _ e).isList⟩, bools_truth, fun h' tk k => ?_⟩
 have e1 : ((bs.map Value.bool).toArray.size) = bs.length := by simp
 rw [e1, range_all]
 refine ⟨.bl _, H, I.kept fun b o e => k b o ?_ (Heap.get?_push_of_some _ e), rfl, q⟩
 simp only [List.mem_singleton]
 exact Nat.ne_of_lt (Heap.lt_size e)
def tLR (ta : TA) : TE := fun σ H Q => ta σ H fun vs H1 => ∃ n : Nat, vs = [.int n] /\ n <= 1000000 /\ ∀ l, H1 l = none -> Q (.ref l) (upd H1 l (.lst ((List.range n).map fun (i : Nat) => V.int (i : Int))))
theorem pe_listrange {a : Expr} {ta : TA} {p p2 pos pos2 : Pos} (hc : X.calm = true) (hg : Gl X "list") (hm : X.mg "list" = none) (hg2 : Gl X "range") (hm2 : X.mg "range" = none) (ha : PA X [a] ta)
  (hs : starEach [a] X.env = [(false, eval a X.env)] := by rfl) (hs2 : starEach [(.Call (.Name "range" p2) [a] [] pos2)] X.env = [(false, eval (.Call (.Name "range" p2) [a] [] pos2) X.env)] := by rfl) : PE X (.Call (.Name "list" p) [.Call (.Name "range" p2) [a] [] pos2] [] pos) (tLR ta) := by
 intro pins s σ H Q I h
 refine Call_ (ld_blt I hg hm PyProof.Rows.boot_list (PyProof.Rows.callWith_type1 ?_ hs2 rfl))
 rw [hs2]
 show wpAny _ _ (spliced ((false, eval (.Call (.Name "range" p2) [a] [] pos2) X.env) :: backTo pos [])) _ _ s
 refine Calls.spliced_cons (Call_ (ld_blt I hg2 hm2 boot_range (PyProof.Rows.callWith_type1 (thn (ha pos2 pins s σ H _ I h) fun us s1 ⟨vs, H1, I1, r1, q1⟩ => ?_) hs rfl)))
 obtain ⟨n, rfl, hn, q⟩ := q1
 obtain ⟨u, rfl, t, rfl⟩ := vals1 r1
 refine call_range_1 (Calls.spliced_nil ?_)
 have hsz : Builtin.Range.rangeSize 0 (n : Int) 1 = (n : Int) := by rw [rangeSize_one]; split <;> omega
 refine call_list_range (I.ok.hd hc) (IsRange.new ..) (small_one (by omega) (by omega) (by omega) (by omega)) hsz (by omega) fun h' tk acc' c' hk hS hacc => ?_
 have I2 : Inv X pins σ H1 { s1 with heap := s1.heap.push { cls := .type "range", data := .fields #[.int 0 s1.toks, .int n t, .int 1 (s1.toks + 1)] }, toks := s1.toks + 1 + 1 } := I1.kept fun b o e => Heap.get?_push_of_some _ e
 obtain ⟨ha1, ha2⟩ := hacc
 have hv : Vals ((List.range n).map fun (i : Nat) => V.int (i : Int)) acc'.toList := by
  have : ∀ (k : Nat) (l : List Value) (m : Nat), l.length = k -> (∀ (j : Nat) (v : Value), l[j]? = some v -> ∃ t, v = Value.int (((m + j : Nat) : Int)) t) -> Vals ((List.range' m k).map fun (i : Nat) => V.int (i : Int)) l := by
   intro k
   induction k with
   | zero => intro l m hl _; cases l with
    | nil => exact .nil
    | cons _ _ => cases hl
   | succ k ih =>
    intro l m hl hj
    cases l with
    | nil => cases hl
    | cons v l =>
     rw [List.range'_succ, List.map_cons]
     refine .cons ?_ (ih l (m + 1) (by simpa using hl) fun j v' e => ?_)
     ·obtain ⟨t, rfl⟩ := hj 0 v rfl
      exact ⟨t, by simp⟩
     ·obtain ⟨t, rfl⟩ := hj (j + 1) v' (by simpa using e)
      exact ⟨t, by congr 1; omega⟩
  rw [List.range_eq_range']
  refine this n acc'.toList 0 (by simpa using ha1) fun j v e => ?_
  obtain ⟨t, rfl⟩ := ha2 j v (by simpa using e)
  exact ⟨t, by congr 1; omega⟩
 have I3 := I2.laid (h' := h') (t' := tk) (o := .lst ((List.range n).map fun (i : Nat) => V.int (i : Int))) hk (Nat.le_refl _) ⟨by rw [List.length_map, List.length_range]; exact Nat.le_trans hn (by decide), acc'.toList, c', hv, by simpa using hS⟩
 refine ⟨.ref _, _, I3, rfl, q _ ?_⟩
 exact I1.hok.fresh (by rw [Heap.size_push]; exact Nat.le_succ _)
end
section
variable {X : Cx} {pins : List (Addr × Obj)} {σ : St} {H : Hp} {s : Shared} {h' : Heap} {t' : Nat}
end
section
variable {X : Cx}
end
end L2
namespace L2
open PySem PySem.Spec PyProof.Rows
def lcCheck (osc : Scope) (oN : List Str) (scope : Scope) (own : List Str) (cap : List (Str × Nat)) : Bool :=
 scope.kind == .function && decide ((scope.names.map (·.1)).Nodup) && (scope.names.all fun x => x.2 != .local || scope.names.lookup x.1 == some .local)
  && (scope.names.all fun x => x.2 != .free || (osc.names.lookup x.1 == some .cell || osc.names.lookup x.1 == some .free))
  && (cap.all fun p => oN[p.2]? == some p.1 && scope.names.contains (p.1, NameKind.free))
theorem LcScope.of {X : Cx} {scope : Scope} {own : List Str} {cap : List (Str × Nat)} (h : lcCheck X.env.scope X.N scope own cap = true) : LcScope X scope own cap := by
 unfold lcCheck at h
 simp only [Bool.and_eq_true, List.all_eq_true, beq_iff_eq, decide_eq_true_eq, Bool.or_eq_true, bne_iff_ne, ne_eq] at h
 obtain ⟨⟨⟨⟨h1, h2⟩, h3⟩, h4⟩, h5⟩ := h
 refine ⟨h1, h2, fun x hx hk => ?_, fun x hx hk => ?_, fun p hp => ?_⟩
 ·rcases h3 x hx with z | z
  ·exact absurd hk z
  ·exact z
 ·rcases h4 x hx with z | z
  ·exact absurd hk z
  ·exact z
 ·obtain ⟨a, b⟩ := h5 p hp
  exact ⟨a, by simpa using b⟩
section
variable {X : Cx} {e : Expr} {te : TE} {pos : Pos}
theorem pset (i : Nat) {x : Str} {pos' : Pos} (hN : X.N.Nodup) (he : PE X e te) (hi : X.N[i]? = some x := by rfl) (hx : Loc X.env.scope x := by first | exact Or.inl rfl | exact Or.inr rfl) (hs : swapsWith e (some (.Name x pos')) pos.line X.env = pure false := by rfl)
  (hf : X.fn x = true ∨ X.env.scope.names.lookup x = some .local := by first | exact .inl rfl | exact .inr rfl | assumption) : PS X (.Assign [.Name x pos'] e pos) (tAsg te (gName i)) := ps_set hN hi hx he hs hf
theorem pgn (i : Nat) {x : Str} (hN : X.N.Nodup) (hi : X.N[i]? = some x := by rfl) (hx : Loc X.env.scope x := by first | exact Or.inl rfl | exact Or.inr rfl) (hf : X.fn x = true ∨ X.env.scope.names.lookup x = some .local := by first | exact .inl rfl | exact .inr rfl | assumption) : PG X (.Name x pos) (gName i) := pg_name hN hi hx hf
end
structure Df (P : Program) (w : World) (K : W.Frag) (mg : Str -> Option Value) (base : Heap) (x : Str) (ps : List Str) (k : Nat) (sp : Sp) : Prop where
 ex : ∃ f fd, FnOk P w K mg base CX0 k f fd ps sp /\ mg x = some (.ref f) /\ PySem.W.keepIn K (.ref f) = true /\ Binds K fd ps []
theorem pe_df {X : Cx} {x : Str} {ps : List Str} {k : Nat} {sp : Sp} {p pos : Pos} {e : Expr} {es : List Expr} {t : TA} (D : Df X.prog X.w X.K X.mg X.base x ps k sp) (hr : Room k X.A) (ha : PA X (e :: es) t) (hg : Gl X x := by rfl) (hdb : (x == ("__debug__" : Str)) = false := by decide)
  (he : starEach (e :: es) X.env = (false, eval e X.env) :: starEach es X.env := by rfl) (hpl : (backTo pos (starEach es X.env)).any (·.1) = false := by rfl) : PE X (.Call (.Name x p) (e :: es) [] pos) (tCall sp [] E0 t) := by
 obtain ⟨f, fd, F, hm, hk, hb⟩ := D.ex
 exact pe_call F hr hg hm hk hb .nil pass0 ha hdb he hpl
section
variable {X : Cx} {o e : Expr} {to : TE} {te : TE} {apos cpos : Pos}
theorem pm_append (ho : PE X o to) (he : PE X e te) (hs : starEach [e] X.env = [(false, eval e X.env)]) (hbase : attributeBase o "append" X.env (eval o X.env) = eval o X.env := by rfl)
  (hline : (apos.endLine == cpos.line) = true := by rfl) : PE X (.Call (.Attribute o "append" apos) [e] [] cpos) (tBM X.K "list" rAppend to (tCons te tNil)) :=
 pe_bm PySem.F.plainAttrs_list PySem.F.slot_list_append PySem.F.type_list_append mt_append ho (pa_cons he pa_nil hs) hbase (by rw [hs]; rfl) hline hs rfl
theorem pm_popAt (ho : PE X o to) (he : PE X e te) (hs : starEach [e] X.env = [(false, eval e X.env)]) (hbase : attributeBase o "pop" X.env (eval o X.env) = eval o X.env := by rfl)
  (hline : (apos.endLine == cpos.line) = true := by rfl) : PE X (.Call (.Attribute o "pop" apos) [e] [] cpos) (tBM X.K "list" rPopAt to (tCons te tNil)) :=
 pe_bm PySem.F.plainAttrs_list PySem.F.slot_list_pop PySem.F.type_list_pop mt_popAt ho (pa_cons he pa_nil hs) hbase (by rw [hs]; rfl) hline hs rfl
end
theorem nd_of {N : List Str} (h : decide N.Nodup = true) : N.Nodup := of_decide_eq_true h
section
variable {X : Cx} {K : W.Frag}
theorem pg_tupK (K : W.Frag) (n : Nat) (hK : X.K = K) {es : List Expr} {k : Nat} {t : TGs} {pos : Pos} (hc : X.calm = true) (h : PGs X es t) (hn : (assignEach es X.env).length = n) (hst : (assignEach es X.env).findIdx? (·.1) = none) : PG X (.Tuple es k pos) (gTup K n t) := by
 subst hK; exact pg_tup hc h hn hst
theorem pi_listK (K : W.Frag) (hK : X.K = K) {tg l : Expr} {tl : TE} (hl : PE X l tl) : PI X tg l (iList K tl) := by subst hK; exact pi_list hl
theorem ix_listK (K : W.Frag) (hK : X.K = K) : IxR X (rIxL K) := by subst hK; exact ix_list
def rLen (K : W.Frag) : List V -> Hp -> VK -> Prop := fun xs H Q => ∃ p ys, xs = [.ref p] /\ (SqL K H p ys ∨ SqT K H p ys) /\ Q (.int ys.length) H
theorem call_lenK (K : W.Frag) (hK : X.K = K) : CallR X (.builtin "len") (rLen K) := by subst hK; exact call_len_seq
def rAll (K : W.Frag) : List V -> Hp -> VK -> Prop := fun xs H Q => ∃ (a : Addr) (bs : List Bool), xs = [.ref a] /\ SqL K H a (bs.map V.bl) /\ Q (.bl (bs.all id)) H
def rListOf (K : W.Frag) : List V -> Hp -> VK -> Prop := fun xs H Q => ∃ p ys, xs = [.ref p] /\ (SqL K H p ys ∨ SqT K H p ys) /\ ∀ l, H l = none -> Q (.ref l) (upd H l (.lst ys))
theorem call_allK (K : W.Frag) (hK : X.K = K) (hc : X.calm = true) : CallR X (.builtin "all") (rAll K) := by subst hK; exact call_all_bools hc
theorem call_listK (K : W.Frag) (hK : X.K = K) : CallR X (.type "list") (rListOf K) := by subst hK; exact call_list_of
theorem op_eqK (K : W.Frag) (hK : X.K = K) (hu : X.A.units + 64 < cLine) : OpR X (compareOp .Eq) (rEqD K id) := by subst hK; exact op_eqD hu
theorem op_neK (K : W.Frag) (hK : X.K = K) (hu : X.A.units + 64 < cLine) : OpR X (compareOp .NotEq) (rEqD K not) := by subst hK; exact op_neD hu
theorem op_inK (K : W.Frag) (hK : X.K = K) : OpR X (compareOp .In) (rIn K false) := by subst hK; exact op_in_seq
theorem pm_appendK (K : W.Frag) (hK : X.K = K) {o e : Expr} {to te : TE} {apos cpos : Pos} (ho : PE X o to) (he : PE X e te) (hs : starEach [e] X.env = [(false, eval e X.env)]) (hbase : attributeBase o "append" X.env (eval o X.env) = eval o X.env)
  (hline : (apos.endLine == cpos.line) = true) : PE X (.Call (.Attribute o "append" apos) [e] [] cpos) (tBM K "list" rAppend to (tCons te tNil)) := by subst hK; exact pm_append ho he hs hbase hline
theorem pm_popAtK (K : W.Frag) (hK : X.K = K) {o e : Expr} {to te : TE} {apos cpos : Pos} (ho : PE X o to) (he : PE X e te) (hs : starEach [e] X.env = [(false, eval e X.env)]) (hbase : attributeBase o "pop" X.env (eval o X.env) = eval o X.env)
  (hline : (apos.endLine == cpos.line) = true) : PE X (.Call (.Attribute o "pop" apos) [e] [] cpos) (tBM K "list" rPopAt to (tCons te tNil)) := by subst hK; exact pm_popAt ho he hs hbase hline
end
def intE (e : Expr) : Option Int := match e with
 | .Constant (.int i) _ _ => some i
 | _ => none
theorem intE_of {e : Expr} {i : Int} (h : intE e = some i) : ∃ k p, e = .Constant (.int i) k p := by
 unfold intE at h
 split at h
 ·cases h; exact ⟨_, _, rfl⟩
 ·cases h
def intsOf : List Expr -> Option (List Int)
 | [] => some []
 | e :: r => match intE e, intsOf r with
  | some i, some l => some (i :: l)
  | _, _ => none
theorem pa_ints {X : Cx} : ∀ {es : List Expr} {ns : List Int}, intsOf es = some ns -> PA X es (fun _ H Q => Q (ns.map V.int) H)
 | [], ns, h => by
  cases h
  exact pa_nil
 | e :: r, ns, h => by
  unfold intsOf at h
  split at h
  ·rename_i i ms e1 e2
   cases h
   obtain ⟨k, p, rfl⟩ := intE_of e1
   exact pa_cons pe_int (pa_ints e2) rfl
  ·cases h
end L2
namespace L2
open PySem PySem.Spec PyProof.Rows
theorem Same.put {H H' : Hp} {p : Addr} {o : HO} (e : Same H H') (h : H p = none) : Same H (upd H' p o) := fun b o' hb => by rw [upd_ne (ne_of_none hb h)]; exact e b o' hb
theorem Same.new {H : Hp} {p : Addr} {o : HO} (h : H p = none) : Same H (upd H p o) := (Same.refl H).put h
theorem Same.gone {H H' : Hp} {p : Addr} (e : Same H H') (h : H' p = none) : H p = none := e.free h
theorem tyl {K : W.Frag} {H : Hp} {p : Addr} {xs : List V} (h : SqL K H p xs) : tyV K "list" (.ref p) H := .inl ⟨rfl, _, h⟩
end L2
namespace L2
open PySem PySem.Spec PyProof.Rows
structure QE (X : Cx) (e : Expr) (t : TE) : Prop where
 h : PE X e t
structure QT (X : Cx) (e : Expr) (t : TT) : Prop where
 h : PT X e t
structure QW (X : Cx) (e : Expr) (t : TT) : Prop where
 h : PW X e t
structure QA (X : Cx) (e : List Expr) (t : TA) : Prop where
 h : PA X e t
structure QS (X : Cx) (e : Stmt) (t : TS) : Prop where
 h : PS X e t
structure QSs (X : Cx) (e : List Stmt) (t : TS) : Prop where
 h : PSs X e t
structure QG (X : Cx) (e : Expr) (t : TG) : Prop where
 h : PG X e t
structure QGs (X : Cx) (e : List Expr) (t : TGs) : Prop where
 h : PGs X e t
structure QTs (X : Cx) (e : List Expr) (t : TT) : Prop where
 h : PTs X e t
structure QO (X : Cx) (e : Option Expr) (t : TO) : Prop where
 h : PO X e t
structure QI (X : Cx) (tg e : Expr) (t : TI) : Prop where
 h : PI X tg e t
structure QB (Y : Cx) (elt : Expr) (gens : List Comprehension) (scope : Scope) (pos : Pos) (d : Nat) (acc : Addr) (tb : TS) : Prop where
 h : PB Y elt gens scope pos d acc tb
theorem qpv (i : Nat) {x : Str} {pos : Pos} (hN : X.N[i]? = some x := by rfl) (hv : Vis X.env.scope x := by first | exact Or.inl rfl | exact Or.inr (Or.inl rfl) | exact Or.inr (Or.inr rfl)) (hd : (x == ("__debug__" : Str)) = false := by decide) (hcd : (x == ("__classdict__" : Str)) = false := by decide) : QE X (.Name x pos) (tVar i) := ⟨pv i hN hv hd hcd⟩
theorem qpe_bltn {x : Str} {v : V} {u : Value} {pos : Pos} (hg : Gl X x) (hm : X.mg x = none) (hv : bootBuiltins x = some u) (r : RelV v u) (hn : x ≠ "__name__" := by decide) (hd : (x == ("__debug__" : Str)) = false := by decide) : QE X (.Name x pos) (tC v) := ⟨pe_bltn hg hm hv r hn hd⟩
theorem qpe_bl {b j pos} : QE X (.Constant (.bool b) j pos) (tC (.bl b)) := ⟨pe_bl ⟩
theorem qpe_int {i j pos} : QE X (.Constant (.int i) j pos) (tC (.int i)) := ⟨pe_int ⟩
theorem qpe_str {x j pos} : QE X (.Constant (.str x) j pos) (tC (.str x)) := ⟨pe_str ⟩
theorem qpe_op {op : Operator} {r : R2} (ho : OpR X (binaryOp op) r) (ha : QE X a ta) (hb : QE X b tb) : QE X (.BinOp a op b pos) (tOp r ta tb) := ⟨pe_op ho ha.h hb.h⟩
theorem qpe_and {rest : List Expr} (ha : QE X a ta) (hb : QE X (.BoolOp .And (b :: rest) pos) tb) : QE X (.BoolOp .And (a :: b :: rest) pos) (tAndV ta tb) := ⟨pe_and ha.h hb.h⟩
theorem qpe_or {rest : List Expr} (ha : QE X a ta) (hb : QE X (.BoolOp .Or (b :: rest) pos) tb) : QE X (.BoolOp .Or (a :: b :: rest) pos) (tOrV ta tb) := ⟨pe_or ha.h hb.h⟩
theorem qpe_one {op} {t : TE} (h : QE X a t) : QE X (.BoolOp op [a] pos) t := ⟨pe_one h.h⟩
theorem qpe_cmpR {op : CmpOp} {r : R2} (ho : OpR X (compareOp op) r) (ha : QE X a ta) (hb : QE X b tb) (hm : behindInMarks op b = false) : QE X (.Compare a [op] [b] pos) (tOp r ta tb) := ⟨pe_cmpR ho ha.h hb.h hm⟩
theorem qpe_tup {x1} (h : QA X es t) : QE X (.Tuple es x1 pos) (tTup t) := ⟨pe_tup h.h⟩
theorem qpe_lst (h : QA X es t) : QE X (.List es pos) (tLst t) := ⟨pe_lst h.h⟩
theorem qpe_slice {lo hi : Option Expr} {r : V -> Option Int -> Option Int -> Hp -> VK -> Prop} (hr : SlR X r) (he : QE X e te) (hl : QO X lo tl) (hu : QO X hi th) : QE X (.Subscript e (.Slice lo hi none p2) pos) (tSl r te tl th) := ⟨pe_slice hr he.h hl.h hu.h⟩
theorem qpe_ix {r : R2} (hr : IxR X r) (ha : QE X a ta) (hb : QE X b tb) (hs : PlainIx b) : QE X (.Subscript a b pos) (tOp r ta tb) := ⟨pe_ix hr ha.h hb.h hs⟩
theorem qpe_df {X : Cx} {x : Str} {ps : List Str} {k : Nat} {sp : Sp} {p pos : Pos} {e : Expr} {es : List Expr} {t : TA} (D : Df X.prog X.w X.K X.mg X.base x ps k sp) (hr : Room k X.A) (ha : QA X (e :: es) t) (hg : Gl X x := by rfl) (hdb : (x == ("__debug__" : Str)) = false := by decide) (he : starEach (e :: es) X.env = (false, eval e X.env) :: starEach es X.env := by rfl) (hpl : (backTo pos (starEach es X.env)).any (·.1) = false := by rfl) : QE X (.Call (.Name x p) (e :: es) [] pos) (tCall sp [] E0 t) := ⟨pe_df D hr ha.h hg hdb he hpl⟩
theorem qpe_listrange {a : Expr} {ta : TA} {p p2 pos pos2 : Pos} (hc : X.calm = true) (hg : Gl X "list") (hm : X.mg "list" = none) (hg2 : Gl X "range") (hm2 : X.mg "range" = none) (ha : QA X [a] ta) (hs : starEach [a] X.env = [(false, eval a X.env)] := by rfl) (hs2 : starEach [(.Call (.Name "range" p2) [a] [] pos2)] X.env = [(false, eval (.Call (.Name "range" p2) [a] [] pos2) X.env)] := by rfl) : QE X (.Call (.Name "list" p) [.Call (.Name "range" p2) [a] [] pos2] [] pos) (tLR ta) := ⟨pe_listrange hc hg hm hg2 hm2 ha.h hs hs2⟩
theorem qpe_callB {id : String} (hc : CallR X (.builtin id) r) (hg : Gl X x) (hm : X.mg x = none) (hv : bootBuiltins x = some (.builtin id)) (ha : QA X (e :: es) t) (hn : x ≠ "__name__" := by decide) (hdb : (x == ("__debug__" : Str)) = false := by decide) (he : starEach (e :: es) X.env = (false, eval e X.env) :: starEach es X.env := by rfl) (hpl : (backTo pos (starEach es X.env)).any (·.1) = false := by rfl) : QE X (.Call (.Name x p) (e :: es) [] pos) (tCB r t) := ⟨pe_callB hc hg hm hv ha.h hn hdb he hpl⟩
theorem qpe_callTy (hc : CallR X (.type T) r) (hg : Gl X x) (hm : X.mg x = none) (hv : bootBuiltins x = some (.type T)) (ha : QA X (e :: es) t) (hn : x ≠ "__name__" := by decide) (hdb : (x == ("__debug__" : Str)) = false := by decide) (he : starEach (e :: es) X.env = (false, eval e X.env) :: starEach es X.env := by rfl) (hpl : (backTo pos (starEach es X.env)).any (·.1) = false := by rfl) : QE X (.Call (.Name x p) (e :: es) [] pos) (tCB r t) := ⟨pe_callTy hc hg hm hv ha.h hn hdb he hpl⟩
theorem qpm_appendK (K : W.Frag) (hK : X.K = K) {o e : Expr} {to te : TE} {apos cpos : Pos} (ho : QE X o to) (he : QE X e te) (hs : starEach [e] X.env = [(false, eval e X.env)]) (hbase : attributeBase o "append" X.env (eval o X.env) = eval o X.env) (hline : (apos.endLine == cpos.line) = true) : QE X (.Call (.Attribute o "append" apos) [e] [] cpos) (tBM K "list" rAppend to (tCons te tNil)) := ⟨pm_appendK K hK ho.h he.h hs hbase hline⟩
theorem qpm_popAtK (K : W.Frag) (hK : X.K = K) {o e : Expr} {to te : TE} {apos cpos : Pos} (ho : QE X o to) (he : QE X e te) (hs : starEach [e] X.env = [(false, eval e X.env)]) (hbase : attributeBase o "pop" X.env (eval o X.env) = eval o X.env) (hline : (apos.endLine == cpos.line) = true) : QE X (.Call (.Attribute o "pop" apos) [e] [] cpos) (tBM K "list" rPopAt to (tCons te tNil)) := ⟨pm_popAtK K hK ho.h he.h hs hbase hline⟩
theorem qpi_listK (K : W.Frag) (hK : X.K = K) {tg l : Expr} {tl : TE} (hl : QE X l tl) : QI X tg l (iList K tl) := ⟨pi_listK K hK hl.h⟩
theorem qpi_range1 {a : Expr} {ta : TA} {p pos : Pos} (hg : Gl X "range") (hm : X.mg "range" = none) (ha : QA X [a] ta) (hs : starEach [a] X.env = [(false, eval a X.env)] := by rfl) : QI X tg (.Call (.Name "range" p) [a] [] pos) (iRng1 ta) := ⟨pi_range1 hg hm ha.h hs⟩
theorem qpgn (i : Nat) {x : Str} (hN : X.N.Nodup) (hi : X.N[i]? = some x := by rfl) (hx : Loc X.env.scope x := by first | exact Or.inl rfl | exact Or.inr rfl) (hf : X.fn x = true ∨ X.env.scope.names.lookup x = some .local := by first | exact .inl rfl | exact .inr rfl | assumption) : QG X (.Name x pos) (gName i) := ⟨pgn i hN hi hx hf⟩
theorem qpg_tupK (K : W.Frag) (n : Nat) (hK : X.K = K) {es : List Expr} {k : Nat} {t : TGs} {pos : Pos} (hc : X.calm = true) (h : QGs X es t) (hn : (assignEach es X.env).length = n) (hst : (assignEach es X.env).findIdx? (·.1) = none) : QG X (.Tuple es k pos) (gTup K n t) := ⟨pg_tupK K n hK hc h.h hn hst⟩
theorem qpg_sub {o i : Expr} {to ti : TE} {t : TSet} (ho : QE X o to) (hi : QE X i ti) (hs : PSet X t) (ha : ∀ v, assign (.Subscript o i pos) X.env v = (do
   let ov ← holding [v] (eval o X.env)
   let iv ← holding [v, ov] (eval i X.env)
   standAt pos
   holding [v, ov, iv] (setItem ov iv v)
   release [v, ov, iv] []) := by intro _; rfl) : QG X (.Subscript o i pos) (gSub to ti t) := ⟨pg_sub ho.h hi.h hs ha⟩
theorem qpgs_cons {e : Expr} {es : List Expr} {t : TG} {u : TGs} (h1 : QG X e t) (h2 : QGs X es u) (hs : (assignEach (e :: es) X.env).map (·.2) = assign e X.env :: (assignEach es X.env).map (·.2) := by rfl) : QGs X (e :: es) (gCons t u) := ⟨pgs_cons h1.h h2.h hs⟩
theorem qpgs_nil  : QGs X [] gNil := ⟨pgs_nil ⟩
theorem qpt_cmpR {op : CmpOp} {r : R2} (ho : OpR X (compareOp op) r) (ha : QE X a ta) (hb : QE X b tb) (hm : behindInMarks op b = false) : QT X (.Compare a [op] [b] pos) (tTest (tOp r ta tb)) := ⟨pt_cmpR ho ha.h hb.h hm⟩
theorem qPWpt {X : Cx} {e : Expr} {t : TT} (h : QW X e t) : QT X e t := ⟨PW.pt h.h⟩
theorem qpw_and {rest : List Expr} (ha : QT X a tA) (hb : QW X (.BoolOp .And (b :: rest) pos) tB') : QW X (.BoolOp .And (a :: b :: rest) pos) (tAnd tA tB') := ⟨pw_and ha.h hb.h⟩
theorem qpw_and1 (ha : QT X a tA) : QW X (.BoolOp .And [a] pos) tA := ⟨pw_and1 ha.h⟩
theorem qpw_or {rest : List Expr} (ha : QT X a tA) (hb : QW X (.BoolOp .Or (b :: rest) pos) tB') : QW X (.BoolOp .Or (a :: b :: rest) pos) (tOr tA tB') := ⟨pw_or ha.h hb.h⟩
theorem qpw_or1 (ha : QT X a tA) : QW X (.BoolOp .Or [a] pos) tA := ⟨pw_or1 ha.h⟩
theorem qpt_not (ha : QT X a tA) : QT X (.UnaryOp .Not a pos) (tNot tA) := ⟨pt_not ha.h⟩
theorem qpt_val {e : Expr} {t : TE} (h : QE X e t) (he : ∀ whole, isTrue e X.env whole = (do let v ← whole; standAt e.pos; holding [v] (truthy v)) := by intro _; rfl) : QT X e (tB t) := ⟨pt_val h.h he⟩
theorem qpss_cons {st : Stmt} {rest : List Stmt} (h1 : QS X st t) (h2 : QSs X rest u) : QSs X (st :: rest) (tSeq t u) := ⟨pss_cons h1.h h2.h⟩
theorem qpss_one {st : Stmt} (h1 : QS X st t) : QSs X [st] t := ⟨pss_one h1.h⟩
theorem qpss_nil  : QSs X [] tNext := ⟨pss_nil ⟩
theorem qps_ret (he : QE X e te) : QS X (.Return (some e) pos) (tRet te) := ⟨ps_ret he.h⟩
theorem qps_expr (he : QE X e te) (hs : swapsWith e none pos.line X.env = pure false := by rfl) : QS X (.Expr e pos) (tDrop te) := ⟨ps_expr he.h hs⟩
theorem qpset (i : Nat) {x : Str} {pos' : Pos} (hN : X.N.Nodup) (he : QE X e te) (hi : X.N[i]? = some x := by rfl) (hx : Loc X.env.scope x := by first | exact Or.inl rfl | exact Or.inr rfl) (hs : swapsWith e (some (.Name x pos')) pos.line X.env = pure false := by rfl) (hf : X.fn x = true ∨ X.env.scope.names.lookup x = some .local := by first | exact .inl rfl | exact .inr rfl | assumption) : QS X (.Assign [.Name x pos'] e pos) (tAsg te (gName i)) := ⟨pset i hN he.h hi hx hs hf⟩
theorem qps_asg {tg e : Expr} {te : TE} {g : TG} (he : QE X e te) (hg : QG X tg g) (hs : swapsWithSole [tg] e pos.line X.env = pure false := by rfl) (hw : swappedStores [tg] e X.env = pure none := by rfl) (h1 : (assignEach [tg] X.env).map (·.2) = [assign tg X.env] := by rfl) : QS X (.Assign [tg] e pos) (tAsg te g) := ⟨ps_asg he.h hg.h hs hw h1⟩
theorem qps_aug {i : Nat} {x : Str} {e : Expr} {te : TE} {op : Operator} {ti : TIp} {pos' : Pos} (hN : X.N.Nodup) (hi : X.N[i]? = some x) (hx : Loc X.env.scope x) (he : QE X e te) (ho : PIp X op ti) (hf : X.fn x = true ∨ X.env.scope.names.lookup x = some .local := by first | exact .inl rfl | exact .inr rfl | assumption) : QS X (.AugAssign (.Name x pos') op e pos) (tAug i te ti) := ⟨ps_aug hN hi hx he.h ho hf⟩
theorem qps_if {c : Expr} {a b : List Stmt} {tc : TT} (hc : QT X c tc) (ha : QSs X a t) (hb : QSs X b u) : QS X (.If c a b pos) (tIfS tc t u) := ⟨ps_if hc.h ha.h hb.h⟩
theorem qps_for {iter : Expr} {body : List Stmt} {wi : TI} {g : TG} {tb : TS} {pos : Pos} (hp : PassesOwn (model X.prog X.w) X.A X.env X.xe) (hc : X.calm = true) (hi : QI X tg iter wi) (hg : QG X tg g) (hb : QSs X body tb) (hs : ∀ x, foldedSetIterable iter X.env x = pure x := by intro _; rfl) : QS X (.For tg iter body [] pos) (tFor wi g tb) := ⟨ps_for hp hc hi.h hg.h hb.h hs⟩
theorem qps_while {c : Expr} {body : List Stmt} {tc : TT} {tb : TS} (hp : PassesOwn (model X.prog X.w) X.A X.env X.xe) (hc : QT X c tc) (hb : QSs X body tb) : QS X (.While c body [] pos) (tWhile tc tb) := ⟨ps_while hp hc.h hb.h⟩
theorem qpts_nil {Y : Cx} : QTs Y [] (fun _ H Q => Q true H) := ⟨pts_nil ⟩
theorem qpts_one {Y : Cx} {c : Expr} {t : TT} (hc : QT Y c t) : QTs Y [c] t := ⟨pts_one hc.h⟩
theorem qpb_emit {te : TE} (hg : gens[d + 1]? = none) (hx : Y.xe = fun _ _ => False) (he : QE Y elt te) : QB Y elt gens scope pos d acc (tEmit acc te) := ⟨pb_emit hg hx he.h⟩
theorem qpa_cons (ha : QE X e te) (hr : QA X es t) (hs : starEach (e :: es) X.env = (false, eval e X.env) :: starEach es X.env := by rfl) : QA X (e :: es) (tCons te t) := ⟨pa_cons ha.h hr.h hs⟩
theorem qpa_nil  : QA X [] tNil := ⟨pa_nil ⟩
theorem qpo_none  : QO X none tNoPart := ⟨po_none ⟩
theorem qpo_some (h : QE X e te) : QO X (some e) (tPart te) := ⟨po_some h.h⟩
theorem qpa_ints {X : Cx} {es : List Expr} {ns : List Int} (h : intsOf es = some ns) : QA X es (fun _ H Q => Q (ns.map V.int) H) := ⟨pa_ints h⟩
theorem qpe_lc {X : Cx} {elt tg iter : Expr} {ifs : List Expr} {rest : List Comprehension} {scope : Scope} {pos : Pos} {wi : TI} {g : TG} {ti : TT} {tb : Addr -> TS} (own : List Str) (cap : List (Str × Nat)) (hc : X.calm = true) (L : LcScope X scope own cap) (hi : QI X tg iter wi)
  (hin : ∀ (s₃ : Shared) (H₃ : Hp) (fp : List Addr) (acc : Addr), QG (X.inn scope (capN own cap) s₃ H₃ fp) tg g /\ QTs (X.inn scope (capN own cap) s₃ H₃ fp) ifs ti /\ QB (X.inn scope (capN own cap) s₃ H₃ fp) elt (⟨tg, iter, ifs, 0⟩ :: rest) scope pos 0 acc (tb acc))
  (hs : ∀ x, foldedSetIterable iter X.env x = pure x := by intro _; rfl) : QE X (.ListComp elt (⟨tg, iter, ifs, 0⟩ :: rest) scope pos) (tLC wi g ti tb own cap) := ⟨pe_lc own cap hc L hi.h (fun a b c d => ⟨(hin a b c d).1.h, (hin a b c d).2.1.h, (hin a b c d).2.2.h⟩) hs⟩
theorem qps_setlc {X : Cx} {i : Nat} {y : Str} {py spos : Pos} {elt tg iter : Expr} {ifs : List Expr} {rest : List Comprehension} {scope : Scope} {pos : Pos} {wi : TI} {g : TG} {ti : TT} {tb : Addr -> TS} (own : List Str) (cap : List (Str × Nat)) (hN : X.N.Nodup) (hyi : X.N[i]? = some y) (hy : X.env.scope.names.lookup y = some .local) (hc : X.calm = true) (L : LcScope X scope own cap) (hi : QI X tg iter wi)
  (hin : ∀ (s₃ : Shared) (H₃ : Hp) (fp : List Addr) (acc : Addr), QG (X.inn scope (capN own cap) s₃ H₃ fp) tg g /\ QTs (X.inn scope (capN own cap) s₃ H₃ fp) ifs ti /\ QB (X.inn scope (capN own cap) s₃ H₃ fp) elt (⟨tg, iter, ifs, 0⟩ :: rest) scope pos 0 acc (tb acc))
  (hsw : swapsWith (.ListComp elt (⟨tg, iter, ifs, 0⟩ :: rest) scope pos) (some (.Name y py)) spos.line X.env = pure true := by rfl) (hs : ∀ x, foldedSetIterable iter X.env x = pure x := by intro _; rfl) :
  QS X (.Assign [.Name y py] (.ListComp elt (⟨tg, iter, ifs, 0⟩ :: rest) scope pos) spos) (tAsg (tLC wi g ti tb own cap) (gName i)) := ⟨ps_setlc own cap hN hyi hy hc L hi.h (fun a b c d => ⟨(hin a b c d).1.h, (hin a b c d).2.1.h, (hin a b c d).2.2.h⟩) hsw hs⟩
end L2
namespace L2
open PySem PySem.Spec PyProof.Rows
section
variable {X : Cx} {i o value : Expr} {ty td tv : TE} {pos pos' : Pos}
theorem qpe_dnewK : QE X (.Dict [] [] pos) tDNewK := ⟨pe_dnewK⟩
theorem qpt_dnotin (hu : X.A.units + 1 < cLine) (hi : QE X i ty) (ho : QE X o td) (hm : behindInMarks .NotIn o = false) : QT X (.Compare i [.NotIn] [o] pos) (tB (tDNotIn ty td)) := ⟨pt_cmp (pc_dnotin hu hi.h ho.h) hm⟩
theorem qpt_din (hu : X.A.units + 1 < cLine) (hi : QE X i ty) (ho : QE X o td) (hm : behindInMarks .In o = false) : QT X (.Compare i [.In] [o] pos) (tB (tDIn ty td)) := ⟨pt_cmp (pc_din hu hi.h ho.h) hm⟩
theorem qps_dput (hu : X.A.units + 1 < cLine) (ho : QE X o td) (hi : QE X i ty) (hv : QE X value tv) (hs : swapsWith value (some (.Subscript o i pos')) pos.line X.env = pure false) : QS X (.Assign [.Subscript o i pos'] value pos) (sDPut td ty tv) := ⟨ps_dput hu ho.h hi.h hv.h hs⟩
end
end L2
namespace L2
open PySem PySem.Spec PyProof.Rows
section
variable {X : Cx} {pos : Pos}
theorem op_mulB : OpR X (binaryOp .Mult) (rI IntMulOk fun i j => .int (i * j)) := opI fun _ _ _ _ _ _ _ hc q => mul_int q hc
end
section
variable {X : Cx} {pins : List (Addr × Obj)} {σ : St} {H : Hp} {s : Shared} {h' : Heap} {t' : Nat}
end
section
variable {X : Cx}
end
end L2
namespace M36
end M36
namespace L2
open PySem PySem.Spec PyProof.Rows M36
structure IntsAcc (H H1 : Hp) (acc : Addr) (i : Nat) (f : Nat -> Int) : Prop where
 at_ : H1 acc = some (.lst ((List.range i).map fun j => V.int (f j)))
 sm : Same H H1
 no : H acc = none
theorem IntsAcc.start {H : Hp} {acc : Addr} (f : Nat -> Int) (h : H acc = none) : IntsAcc H (upd H acc (.lst [])) acc 0 f := ⟨upd_same, Same.new h, h⟩
structure BlsAcc (H H1 : Hp) (acc : Addr) (i : Nat) (f : Nat -> Bool) : Prop where
 at_ : H1 acc = some (.lst (((List.range i).map f).map V.bl))
 sm : Same H H1
 no : H acc = none
theorem BlsAcc.start {H : Hp} {acc : Addr} (f : Nat -> Bool) (h : H acc = none) : BlsAcc H (upd H acc (.lst [])) acc 0 f := ⟨upd_same, Same.new h, h⟩
structure RowsAcc (H H1 : Hp) (acc : Addr) (i : Nat) (F : Nat -> List Int) : Prop where
 ex : ∃ ts : List Addr, ts.length = i /\ H1 acc = some (.lst (ts.map V.ref)) /\ (∀ (j : Nat) (r : Addr), ts[j]? = some r -> H1 r = some (.lst ((F j).map V.int)) /\ H r = none /\ r ≠ acc) /\ ts.Nodup
 sm : Same H H1
 no : H acc = none
theorem RowsAcc.start {H : Hp} {acc : Addr} (F : Nat -> List Int) (h : H acc = none) : RowsAcc H (upd H acc (.lst [])) acc 0 F := ⟨⟨[], rfl, upd_same, by simp, List.nodup_nil⟩, Same.new h, h⟩
def rowN (n : Nat) (f : Nat -> Int) : List Int := (List.range n).map f
structure Mx (H : Hp) (a : Addr) (n : Nat) (M : Nat -> Nat -> Int) : Prop where
 ex : ∃ rs : List Addr, rs.length = n /\ H a = some (.lst (rs.map V.ref)) /\ ∀ (i : Nat) (r : Addr), rs[i]? = some r -> H r = some (.lst ((rowN n (M i)).map V.int))
theorem Mx.same {H H' : Hp} {a : Addr} {n : Nat} {M : Nat -> Nat -> Int} (h : Mx H a n M) (e : Same H H') : Mx H' a n M := by
 obtain ⟨rs, h1, h2, h3⟩ := h
 exact ⟨rs, h1, e _ _ h2, fun i r hi => e _ _ (h3 i r hi)⟩
end L2
namespace L2
open PySem PySem.Spec PyProof.Rows
def TrX (h base : Heap) (e : Addr) (cls a0 fl : Value) : Prop :=
 ∃ oe vs T oT ts, h.get? e = some oe /\ (oe.cls = cls /\ vs[0]? = some a0 /\ vs[2]? = some .none) /\ oe.data = .fields vs /\ vs[1]? = some (.ref T) /\ base.get? T = none /\ T ≠ e /\ h.get? T = some oT /\ oT.data = .fields ts /\ ts[3]? = some fl
def FlyX (base : Heap) (l : List Env) (e : Addr) (cls a0 : Value) (h : Heap) : Prop := base.StaysIn h /\ base.get? e = none /\ h.FunFrames base l /\ TrX h base e cls a0 .none
theorem TrX.w {h base : Heap} {e : Addr} {cls a0 fl : Value} (x : TrX h base e cls a0 fl) : h.TracedAtW base e cls a0 fl :=
 let ⟨oe, vs, T, oT, ts, h1, h2, r⟩ := x; ⟨oe, vs, T, oT, ts, h1, ⟨h2.1, h2.2.1⟩, r⟩
theorem FlyX.w {base h : Heap} {l : List Env} {e : Addr} {cls a0 : Value} (x : FlyX base l e cls a0 h) : Heap.FlyingW base l e cls a0 h := ⟨x.1, x.2.1, x.2.2.1, x.2.2.2.w⟩
theorem FlyX.own {base h : Heap} {l : List Env} {e : Addr} {cls a0 : Value} (x : FlyX base l e cls a0 h) : ∃ oe vs, h.get? e = some oe /\ oe.cls = cls /\ oe.data = .fields vs /\ vs[2]? = some .none :=
 let ⟨_, _, _, oe, vs, _, _, _, he, hc, hd, _⟩ := x; ⟨oe, vs, he, hc.1, hd, hc.2.2⟩
section
variable {M : Model} {A : Around} {E : Value -> Shared -> Prop} {s : Shared} {base : Heap} {env : Env} {outer l : List Env} {L e : Addr} {oe : Obj} {vs : Array Value} {cls a0 : Value} {Q : Unit -> Shared -> Prop}
end
end L2
namespace L2
open PySem PySem.Spec PyProof.Rows PySem.Calls
def NoCtx (oe : Obj) : Prop := ∃ ws, oe.data = .fields ws /\ ws[2]? = some .none
def XOf (oe : Obj) (C : Addr) : Prop := oe.cls = .ref C /\ NoCtx oe
section
variable {prog : Program} {w : World} {A : Around} {E : Value -> Shared -> Prop} {s : Shared} {ea it l : Addr} {oe : Obj}
end
section
variable {X : Cx}
end
end L2
namespace L2
open PySem PySem.Spec PyProof.Rows
def Fly (base : Heap) (l : List Env) (ea : Addr) (cls : Value) (H : Hp) (h0 h : Heap) : Prop :=
 ∃ (B : Heap) (a0 : Value), base.StaysIn B /\ FlyX B l ea cls a0 h /\ ∀ b, B.get? b = none -> b ∉ frs l -> (∃ o, h.get? b = some o) -> h0.get? b = none /\ H b = none
def CXE (P : Program) (w : World) (base : Heap) : CXT := fun outer H s E e s' =>
 ∃ (ea : Addr) (cls : Value) (H' : Hp), e = .ref ea /\ s'.os = s.os /\ AllBare s'.gens /\ Un (frs outer) [] H H' s.heap s'.heap /\ HOk P w H' s'.heap /\ Fly base outer ea cls H' s.heap s'.heap /\ E cls none H'
section
variable {X : Cx} {pins : List (Addr × Obj)} {σ : St} {H : Hp} {s : Shared}
end
section
variable {P : Program} {w : World} {K : W.Frag} {mg : Str -> Option Value} {base : Heap} {N : List Str} {qual : Str} {scope : Scope} {f : Addr} {cd : Value} {A : Around} {outer : List Env} {s0 : Shared} {H0 : Hp} {E : XK}
end
end L2
namespace L2
open PySem PySem.Spec PyProof.Rows
abbrev bmV : List Value := [.type "ValueError", .type "Exception", .type "BaseException", .type "object"]
structure ExC (K : W.Frag) (mg : Str -> Option Value) (x : Str) (C : Addr) : Prop where
 mgx : mg x = some (.ref C)
 exc : PySem.W.excIn K C bmV "ValueError.__new__" = true
section
variable {X : Cx} {pos np cpos : Pos} {x : Str} {C : Addr} {E : XK} {e0 : Expr} {es : List Expr} {ta : TA}
end
structure DfE (P : Program) (w : World) (K : W.Frag) (mg : Str -> Option Value) (base : Heap) (x : Str) (ps : List Str) (k : Nat) (sp : Sp) : Prop where
 ex : ∃ f fd, FnOk P w K mg base (CXE P w base) k f fd ps sp /\ mg x = some (.ref f) /\ PySem.W.keepIn K (.ref f) = true /\ Binds K fd ps []
section
variable {X : Cx}
end
end L2
namespace L2
open PySem PySem.Spec PyProof.Rows
structure Fits (K : W.Frag) (C R : Addr) : Prop where
 sub : PySem.W.kitCls K (.ref C) (.ref R) = some true
 exc : PySem.W.subIn K (.ref R) (.type "BaseException") = some true
def Priv (X : Cx) (pins : List (Addr × Obj)) (B : Heap) (H : Hp) (h : Heap) : Prop :=
 ∀ b, B.get? b = none -> b ∉ frs X.stack -> (∃ o, h.get? b = some o) -> X.s₀.heap.get? b = none /\ H b = none /\ ∀ p ∈ X.pn ++ pins, p.1 ≠ b
structure Flat (X : Cx) : Prop where
 ex : X.ex = []
 st : X.stack = X.env :: X.outer
 fr : X.env.frame = some X.env.locals
section
variable {X : Cx} {pins : List (Addr × Obj)} {σ : St} {H : Hp} {s : Shared}
theorem Flat.fs (F : Flat X) : frs X.stack = X.env.locals :: X.fs := by rw [F.st]; unfold frs; rw [List.filterMap_cons, F.fr]; rfl
end
section
variable {X : Cx} {pins : List (Addr × Obj)} {σ : St} {H : Hp} {s : Shared} {ea C R : Addr} {B : Heap} {a0 : Value} {x : Str} {np pos : Pos} {b0 : Stmt} {suite : List Stmt} {rest : List ExceptHandler} {ts : TS} {D : Ends}
end
end L2
namespace L2
open PySem PySem.Spec PyProof.Rows
def XPr (X : Cx) (pins : List (Addr × Obj)) (σ : St) (E : XK) (e : Value) (s' : Shared) : Prop :=
 ∃ (ea : Addr) (cls : Value) (H' : Hp) (B : Heap) (a0 : Value), e = .ref ea /\ Inv X pins σ H' s' /\ X.base.StaysIn B /\ FlyX B X.stack ea cls a0 s'.heap /\ Priv X pins B H' s'.heap /\ E cls none H'
abbrev TEX := St -> Hp -> VK -> XK -> Prop
abbrev TSX := Ends -> (St -> XK) -> St -> Hp -> Prop
structure PEX (X : Cx) (e : Expr) (t : TEX) : Prop where
 h : ∀ (pins : List (Addr × Obj)) (s : Shared) (σ : St) (H : Hp) (Q : VK) (E : XK), Inv X pins σ H s -> t σ H Q E -> wpAny (model X.prog X.w) X.A (eval e X.env) (EP X pins σ Q) (XPr X pins σ E) s
structure PSX (X : Cx) (st : Stmt) (t : TSX) : Prop where
 h : ∀ (pins : List (Addr × Obj)) (s : Shared) (σ : St) (H : Hp) (D : Ends) (E : St -> XK), Inv X pins σ H s -> t D E σ H -> wpAny (model X.prog X.w) X.A (exec st X.env) (SP X pins D) (fun e s' => ∃ σ', XPr X pins σ' (E σ') e s') s
structure PSXs (X : Cx) (st : List Stmt) (t : TSX) : Prop where
 h : ∀ (pins : List (Addr × Obj)) (s : Shared) (σ : St) (H : Hp) (D : Ends) (E : St -> XK), Inv X pins σ H s -> t D E σ H -> wpAny (model X.prog X.w) X.A (execs st X.env) (SP X pins D) (fun e s' => ∃ σ', XPr X pins σ' (E σ') e s') s
section
variable {X : Cx}
def xIf (tc : TT) (a b : TSX) : TSX := fun D E σ H => tc σ H fun d H1 => if d = true then a D E σ H1 else b D E σ H1
end
end L2
namespace L2
open PySem PySem.Spec PyProof.Rows
structure ExK (K : W.Frag) (C : Addr) : Prop where
 ga : PySem.W.findIn K (.ref C) "__getattribute__" = some (some (.builtin "BaseException.__getattribute__"))
 cl : PySem.W.findIn K (.ref C) "__class__" = some (some (.builtin "object.__class__"))
 gg : PySem.W.findIn K (.ref C) "__getattr__" = some none
 ob : PySem.W.subIn K (.ref C) (.type "object") = some true
 be : PySem.W.subIn K (.ref C) (.type "BaseException") = some true
 se : PySem.W.kitCls K (.ref C) (.ref C) = some true
section
variable {K : W.Frag} {prog : Program} {w : World} {A : Around} {E : Value -> Shared -> Prop} {h : Heap} {g : Array GenState} {d : Drawn} {t : Nat} {os : OsState} {a C : Addr} {o : Obj}
end
section
variable {X : Cx} {K : W.Frag}
theorem vals_refs {Ds : List Addr} : ∀ {us : List Value}, Vals (Ds.map V.ref) us -> us = Ds.map Value.ref := by
 induction Ds with
 | nil => intro us h; cases h; rfl
 | cons b r ih =>
  intro us h
  cases h with
  | cons h1 h2 => cases h1; rw [ih h2]; rfl
end
end L2
namespace L2
open PySem PySem.Spec PyProof.Rows
section
variable {X : Cx} {pins : List (Addr × Obj)} {σ : St} {H : Hp} {s : Shared}
end
section
variable {X : Cx} {pins : List (Addr × Obj)} {σ : St} {H : Hp} {s : Shared} {ea C R : Addr} {B : Heap} {a0 : Value} {x n : Str} {i : Nat} {np pos : Pos} {b0 : Stmt} {suite : List Stmt} {rest : List ExceptHandler} {ts : TS} {D : Ends}
end
section
variable {X : Cx}
end
end L2
namespace L2
open PySem PySem.Spec PyProof.Rows M36
structure Grid (H : Hp) (a : Addr) (rs : List Addr) (g : List (List Int)) : Prop where
 tp : H a = some (.lst (rs.map V.ref))
 row : ∀ (i : Nat) (r : Addr), rs[i]? = some r -> ∃ ns : List Int, g[i]? = some ns /\ H r = some (.lst (ns.map V.int))
 len : rs.length = g.length
 nd : rs.Nodup
 na : a ∉ rs
def dI (ns : List Int) : List PyData := ns.map PyData.int
theorem dens_ints {K : W.Frag} {H : Hp} : ∀ (ns : List Int), Dens K H (ns.map V.int) (dI ns)
 | [] => .nil
 | o :: r => .cons (.int _) (dens_ints r)
theorem lay_ints : ∀ (ns : List Int), PyData.canLayAll0 (dI ns) = true
 | [] => rfl
 | o :: r => by
  show (PyData.canLay0 (.int _) && PyData.canLayAll0 (dI r)) = true
  rw [lay_ints r]; rfl
theorem depth_ints : ∀ (ns : List Int), PyData.depthAll (dI ns) = 0
 | [] => rfl
 | o :: r => by
  show max (PyData.depth (.int _)) (PyData.depthAll (dI r)) = 0
  rw [depth_ints r]; rfl
structure Mx2 (H : Hp) (a : Addr) (n c : Nat) (M : Nat -> Nat -> Int) : Prop where
 ex : ∃ rs : List Addr, rs.length = n /\ H a = some (.lst (rs.map V.ref)) /\ ∀ (i : Nat) (r : Addr), rs[i]? = some r -> H r = some (.lst ((rowN c (M i)).map V.int))
theorem Mx2.same {H H' : Hp} {a : Addr} {n c : Nat} {M : Nat -> Nat -> Int} (h : Mx2 H a n c M) (e : Same H H') : Mx2 H' a n c M := by
 obtain ⟨rs, h1, h2, h3⟩ := h
 exact ⟨rs, h1, e _ _ h2, fun i r hi => e _ _ (h3 i r hi)⟩
theorem Mx2.sq {H : Hp} {a : Addr} {n : Nat} {M : Nat -> Nat -> Int} (h : Mx2 H a n n M) : Mx H a n M := ⟨h.ex⟩
theorem Mx.sq {H : Hp} {a : Addr} {n : Nat} {M : Nat -> Nat -> Int} (h : Mx H a n M) : Mx2 H a n n M := ⟨h.ex⟩
structure New2 (H0 H : Hp) (a : Addr) (n c : Nat) (M : Nat -> Nat -> Int) : Prop where
 ex : ∃ rs : List Addr, rs.length = n /\ H a = some (.lst (rs.map V.ref)) /\ ∀ (i : Nat) (r : Addr), rs[i]? = some r -> H r = some (.lst ((rowN c (M i)).map V.int)) /\ H0 r = none
 no : H0 a = none
theorem New2.same {H0 H H' : Hp} {a : Addr} {n c : Nat} {M : Nat -> Nat -> Int} (h : New2 H0 H a n c M) (e : Same H H') : New2 H0 H' a n c M := by
 obtain ⟨⟨rs, h1, h2, h3⟩, h4⟩ := h
 exact ⟨⟨rs, h1, e _ _ h2, fun i r hi => ⟨e _ _ (h3 i r hi).1, (h3 i r hi).2⟩⟩, h4⟩
theorem New2.old {H0 H1 H : Hp} {a : Addr} {n c : Nat} {M : Nat -> Nat -> Int} (h : New2 H1 H a n c M) (e : Same H0 H1) : New2 H0 H a n c M := by
 obtain ⟨⟨rs, h1, h2, h3⟩, h4⟩ := h
 exact ⟨⟨rs, h1, h2, fun i r hi => ⟨(h3 i r hi).1, e.gone (h3 i r hi).2⟩⟩, e.gone h4⟩
def CDivB (i j : Int) : Prop := 0 < j /\ ∃ m : Nat, m < 9000 /\ j < 2 ^ m
theorem op_fdivB {X : Cx} : OpR X (binaryOp .FloorDiv) (rI CDivB fun i j => .int (i / j)) := opI fun i j _ _ _ _ _ hc q => by
 obtain ⟨h1, m, hm, h2⟩ := hc
 have e : ((2 ^ m : Nat) : Int) = 2 ^ m := by simp
 refine floordiv_int (by omega) (by rw [Int.fdiv_eq_ediv_of_nonneg i (by omega)]; exact q) (.inl (PyProof.noPylong_of_log2 ?_))
 have : j.natAbs.log2 < m := (Nat.log2_lt (by omega)).mpr (by omega)
 omega
end L2
namespace L2
open PySem PySem.Spec PyProof.Rows
section
variable {X : Cx} {pins : List (Addr × Obj)} {σ : St} {H : Hp} {s : Shared} {d : Addr} {kvs : List (Key × V)}
end
section
variable {X : Cx}
end
end L2
namespace L2
open PySem PySem.Spec PyProof.Rows
section
variable {X : Cx} {e k : Expr} {te tk : TE} {p2 pos : Pos}
end
end L2
namespace L2
open PySem PySem.Spec PyProof.Rows
section
variable {X : Cx}
end
end L2
namespace L2
open PySem PySem.Spec PyProof.Rows
section
variable {X : Cx}
end
def up (p i : Nat) : Nat := if i < p then i else i + 1
end L2
namespace L2
open PySem PySem.Spec PyProof.Rows
section
variable {X : Cx}
end
end L2
namespace DL
open PySem PySem.Spec PyProof.Rows L2
abbrev D := PyData
def muO : HO -> Bool
 | .lst _ => true
 | .dK _ => true
 | .dT _ => true
 | _ => false
abbrev MuS := {o : HO // muO o = true}
def Mu (H : Hp) (a : Addr) : Prop := ∃ o : MuS, H a = some o.1
theorem Mu.lst {H : Hp} {a : Addr} {us : List V} (h : H a = some (.lst us)) : Mu H a := ⟨⟨.lst us, rfl⟩, h⟩
theorem Mu.of {H : Hp} {a : Addr} {o : HO} (h : H a = some o) (m : muO o = true) : Mu H a := ⟨⟨o, m⟩, h⟩
theorem Mu.no {H : Hp} {a : Addr} {o : HO} (h : Mu H a) (e : H a = some o) (n : muO o = false) : False := by
 obtain ⟨u, q⟩ := h
 rw [e] at q
 have q := Option.some.inj q
 have m := u.2
 rw [← q, n] at m
 cases m
def keyV : Key -> D
 | .inl i => .int i
 | .inr x => .str x
def valD : D -> Option V
 | .none => some .non
 | .bool b => some (.bl b)
 | .int i => some (.int i)
 | .str x => some (.str x)
 | _ => Option.none
def DKps : List (Key × V) -> List (D × D) -> Prop
 | [], [] => True
 | (k, v) :: r, (d, e) :: t => d = keyV k /\ valD e = some v /\ DKps r t
 | _, _ => False
def DTps : List (List Key × V) -> List (D × D) -> Prop
 | [], [] => True
 | (k, v) :: r, (d, e) :: t => d = .tuple (k.map keyV) /\ valD e = some v /\ DTps r t
 | _, _ => False
def DctO : HO -> Bool -> List (D × D) -> Prop
 | .dK kvs, false, kds => DKps kvs kds
 | .dT kvs, true, kds => DTps kvs kds
 | _, _, _ => False
def dctD (b : Bool) (kds : List (D × D)) : D := .dict ((.bool false, .bool b) :: kds)
theorem DctO.mu {o : HO} {b : Bool} {kds : List (D × D)} (h : DctO o b kds) : muO o = true := by cases o <;> first | rfl | (cases b <;> exact h.elim)
mutual
inductive Dn (K : W.Frag) (H : Hp) : V -> D -> Prop
 | non : Dn K H .non .none
 | bl (b) : Dn K H (.bl b) (.bool b)
 | int (i) : Dn K H (.int i) (.int i)
 | str (x) : Dn K H (.str x) (.str x)
 | lst {a us ds} : H a = some (.lst us) -> Dns K H us ds -> Dn K H (.ref a) (.list ds)
 | tup {a us ds} : SqT K H a us -> Dns K H us ds -> Dn K H (.ref a) (.tuple ds)
 | scr {a} (ns : List Int) : SqL K H a (ns.map V.int) -> Dn K H (.ref a) (.dict [(.none, .list (ns.map .int))])
 | opq (a : Addr) : Dn K H (.ref a) (.dict [(.bool true, .int (a : Nat))])
 | dct {a o b kds} : H a = some o -> DctO o b kds -> Dn K H (.ref a) (.dict ((.bool false, .bool b) :: kds))
inductive Dns (K : W.Frag) (H : Hp) : List V -> List D -> Prop
 | nil : Dns K H [] []
 | cons {v vs d ds} : Dn K H v d -> Dns K H vs ds -> Dns K H (v :: vs) (d :: ds)
end
theorem Dn.both {K : W.Frag} {H : Hp} {P : V -> D -> Prop} {Q : List V -> List D -> Prop} (c1 : P .non .none) (c2 : ∀ b, P (.bl b) (.bool b)) (c3 : ∀ i, P (.int i) (.int i)) (c4 : ∀ x, P (.str x) (.str x))
  (c5 : ∀ {a us ds}, H a = some (.lst us) -> Q us ds -> P (.ref a) (.list ds)) (c6 : ∀ {a us ds}, SqT K H a us -> Q us ds -> P (.ref a) (.tuple ds)) (c7 : ∀ {a} (ns : List Int), SqL K H a (ns.map V.int) -> P (.ref a) (.dict [(.none, .list (ns.map .int))]))
  (c8 : ∀ a : Addr, P (.ref a) (.dict [(.bool true, .int (a : Nat))])) (c9 : ∀ {a o b kds}, H a = some o -> DctO o b kds -> P (.ref a) (.dict ((.bool false, .bool b) :: kds))) (n0 : Q [] []) (n1 : ∀ {v vs d ds}, P v d -> Q vs ds -> Q (v :: vs) (d :: ds)) :
  (∀ {v d}, Dn K H v d -> P v d) /\ ∀ {vs ds}, Dns K H vs ds -> Q vs ds :=
 ⟨fun h => Dn.rec (motive_1 := fun v d _ => P v d) (motive_2 := fun vs ds _ => Q vs ds) c1 c2 c3 c4 (fun h _ r => c5 h r) (fun h _ r => c6 h r) (fun ns h => c7 ns h) c8 (fun h r => c9 h r) n0 (fun _ _ p q => n1 p q) h,
  fun h => Dns.rec (motive_1 := fun v d _ => P v d) (motive_2 := fun vs ds _ => Q vs ds) c1 c2 c3 c4 (fun h _ r => c5 h r) (fun h _ r => c6 h r) (fun ns h => c7 ns h) c8 (fun h r => c9 h r) n0 (fun _ _ p q => n1 p q) h⟩
theorem Dn.same2 {K : W.Frag} {H H' : Hp} (e : Same H H') : (∀ {v d}, Dn K H v d -> Dn K H' v d) /\ ∀ {vs ds}, Dns K H vs ds -> Dns K H' vs ds :=
 Dn.both .non .bl .int .str (fun h r => .lst (e _ _ h) r) (fun h r => .tup (e.tup h) r) (fun ns h => .scr ns (e.seq h)) .opq (fun h r => .dct (e _ _ h) r) .nil fun p q => .cons p q
theorem Dn.same {K : W.Frag} {H H' : Hp} (e : Same H H') {v : V} {d : D} (h : Dn K H v d) : Dn K H' v d := (Dn.same2 e).1 h
theorem Dns.same {K : W.Frag} {H H' : Hp} (e : Same H H') {vs : List V} {ds : List D} (h : Dns K H vs ds) : Dns K H' vs ds := (Dn.same2 e).2 h
theorem Dn.deep2 {K : W.Frag} {H : Hp} : (∀ {v d}, Dn K H v d -> d.canLay0 = true -> Den K H v d) /\ ∀ {vs ds}, Dns K H vs ds -> PyData.canLayAll0 ds = true -> Dens K H vs ds :=
 Dn.both (fun _ => .non) (fun b _ => .bl b) (fun b _ => .int b) (fun b _ => .str b) (fun h r q => .lst (SqL.of h) (r (by simpa [PyData.canLay0] using q))) (fun h r q => .tup h (r (by simpa [PyData.canLay0] using q)))
  (fun ns h q => by simp [PyData.canLay0] at q) (fun a q => by simp [PyData.canLay0] at q) (fun h r q => by simp [PyData.canLay0] at q) (fun _ => .nil) fun p r q => by
  simp only [PyData.canLayAll0, Bool.and_eq_true] at q
  exact .cons (p q.1) (r q.2)
theorem Dn.deep {K : W.Frag} {H : Hp} {v : V} {d : D} (h : Dn K H v d) (q : d.canLay0 = true) : Den K H v d := Dn.deep2.1 h q
theorem Dns.deep {K : W.Frag} {H : Hp} {vs : List V} {ds : List D} (h : Dns K H vs ds) (q : PyData.canLayAll0 ds = true) : Dens K H vs ds := Dn.deep2.2 h q
theorem Dns.length {K : W.Frag} {H : Hp} : ∀ {vs ds}, Dns K H vs ds -> vs.length = ds.length
 | _, _, .nil => rfl
 | _, _, .cons _ r => by rw [List.length_cons, List.length_cons, Dns.length r]
theorem Dns.get {K : W.Frag} {H : Hp} : ∀ {vs ds} {i : Nat} {d : D}, Dns K H vs ds -> ds[i]? = some d -> ∃ v, vs[i]? = some v /\ Dn K H v d
 | _, _, 0, _, .cons h r, e => by simp at e; subst e; exact ⟨_, rfl, h⟩
 | _, _, i + 1, d, .cons h r, e => by simp at e ⊢; exact Dns.get r e
theorem Dns.append {K : W.Frag} {H : Hp} : ∀ {vs ds us es}, Dns K H vs ds -> Dns K H us es -> Dns K H (vs ++ us) (ds ++ es)
 | _, _, _, _, .nil, q => q
 | _, _, _, _, .cons h r, q => .cons h (Dns.append r q)
mutual
inductive Ow (K : W.Frag) (H : Hp) : V -> D -> List Addr -> Prop
 | non : Ow K H .non .none []
 | bl (b) : Ow K H (.bl b) (.bool b) []
 | int (i) : Ow K H (.int i) (.int i) []
 | str (x) : Ow K H (.str x) (.str x) []
 | lst {a us ds ns} : H a = some (.lst us) -> Ows K H us ds ns -> Ow K H (.ref a) (.list ds) (a :: ns)
 | tup {a us ds ns} : SqT K H a us -> Ows K H us ds ns -> Ow K H (.ref a) (.tuple ds) ns
 | dct {a o b kds} : H a = some o -> DctO o b kds -> Ow K H (.ref a) (.dict ((.bool false, .bool b) :: kds)) [a]
inductive Ows (K : W.Frag) (H : Hp) : List V -> List D -> List Addr -> Prop
 | nil : Ows K H [] [] []
 | cons {v vs d ds ns ms} : Ow K H v d ns -> Ows K H vs ds ms -> Ows K H (v :: vs) (d :: ds) (ns ++ ms)
end
theorem Ow.both {K : W.Frag} {H : Hp} {P : V -> D -> List Addr -> Prop} {Q : List V -> List D -> List Addr -> Prop} (c1 : P .non .none []) (c2 : ∀ b, P (.bl b) (.bool b) []) (c3 : ∀ i, P (.int i) (.int i) []) (c4 : ∀ x, P (.str x) (.str x) [])
  (c5 : ∀ {a us ds ns}, H a = some (.lst us) -> Q us ds ns -> P (.ref a) (.list ds) (a :: ns)) (c6 : ∀ {a us ds ns}, SqT K H a us -> Q us ds ns -> P (.ref a) (.tuple ds) ns)
  (c9 : ∀ {a o b kds}, H a = some o -> DctO o b kds -> P (.ref a) (.dict ((.bool false, .bool b) :: kds)) [a]) (n0 : Q [] [] []) (n1 : ∀ {v vs d ds ns ms}, P v d ns -> Q vs ds ms -> Q (v :: vs) (d :: ds) (ns ++ ms)) :
  (∀ {v d ns}, Ow K H v d ns -> P v d ns) /\ ∀ {vs ds ns}, Ows K H vs ds ns -> Q vs ds ns :=
 ⟨fun h => Ow.rec (motive_1 := fun v d ns _ => P v d ns) (motive_2 := fun vs ds ns _ => Q vs ds ns) c1 c2 c3 c4 (fun h _ r => c5 h r) (fun h _ r => c6 h r) (fun h r => c9 h r) n0 (fun _ _ p q => n1 p q) h,
  fun h => Ows.rec (motive_1 := fun v d ns _ => P v d ns) (motive_2 := fun vs ds ns _ => Q vs ds ns) c1 c2 c3 c4 (fun h _ r => c5 h r) (fun h _ r => c6 h r) (fun h r => c9 h r) n0 (fun _ _ p q => n1 p q) h⟩
theorem Ow.den2 {K : W.Frag} {H : Hp} : (∀ {v d ns}, Ow K H v d ns -> Dn K H v d) /\ ∀ {v d ns}, Ows K H v d ns -> Dns K H v d :=
 Ow.both .non .bl .int .str (fun h r => .lst h r) (fun h r => .tup h r) (fun h r => .dct h r) .nil fun p q => .cons p q
theorem Ow.den {K : W.Frag} {H : Hp} {v : V} {d : D} {ns : List Addr} (h : Ow K H v d ns) : Dn K H v d := Ow.den2.1 h
theorem Ows.den {K : W.Frag} {H : Hp} {v : List V} {d : List D} {ns : List Addr} (h : Ows K H v d ns) : Dns K H v d := Ow.den2.2 h
theorem Ow.there2 {K : W.Frag} {H : Hp} : (∀ {v d ns}, Ow K H v d ns -> ∀ a ∈ ns, Mu H a) /\ ∀ {v d ns}, Ows K H v d ns -> ∀ a ∈ ns, Mu H a :=
 Ow.both (P := fun _ _ ns => ∀ a ∈ ns, Mu H a) (Q := fun _ _ ns => ∀ a ∈ ns, Mu H a) (fun _ z => nomatch z) (fun _ _ z => nomatch z) (fun _ _ z => nomatch z) (fun _ _ z => nomatch z) (fun h r a ha => (List.mem_cons.mp ha).elim (fun e => e ▸ .lst h) (r a)) (fun _ r => r)
  (fun h r a ha => List.mem_singleton.mp ha ▸ .of h r.mu) (fun _ z => nomatch z) fun p q a ha => (List.mem_append.mp ha).elim (p a) (q a)
theorem Ow.there {K : W.Frag} {H : Hp} {v : V} {d : D} {ns : List Addr} (h : Ow K H v d ns) : ∀ a ∈ ns, Mu H a := Ow.there2.1 h
theorem Ows.there {K : W.Frag} {H : Hp} {v : List V} {d : List D} {ns : List Addr} (h : Ows K H v d ns) : ∀ a ∈ ns, Mu H a := Ow.there2.2 h
def Kept (ns : List Addr) (H H' : Hp) : Prop := (∀ a ∈ ns, H' a = H a) /\ ∀ a o, H a = some o -> muO o = false -> H' a = some o
theorem Kept.sqt {K : W.Frag} {ns : List Addr} {H H' : Hp} (k : Kept ns H H') {a : Addr} {us : List V} (h : SqT K H a us) : SqT K H' a us := by
 rcases h with (h | ⟨o, h⟩) | h
 ·exact .inl (.inl (k.2 _ _ h rfl))
 ·exact .inl (.inr ⟨o, k.2 _ _ h rfl⟩)
 ·exact .inr h
theorem Ow.kept2 {K : W.Frag} {H H' : Hp} : (∀ {v d ns}, Ow K H v d ns -> Kept ns H H' -> Ow K H' v d ns) /\ ∀ {v d ns}, Ows K H v d ns -> Kept ns H H' -> Ows K H' v d ns :=
 Ow.both (P := fun v d ns => Kept ns H H' -> Ow K H' v d ns) (Q := fun v d ns => Kept ns H H' -> Ows K H' v d ns) (fun _ => .non) (fun b _ => .bl b) (fun b _ => .int b) (fun b _ => .str b) (fun h r k => .lst ((k.1 _ List.mem_cons_self).trans h) (r ⟨fun a ha => k.1 a (List.mem_cons_of_mem _ ha), k.2⟩))
  (fun h r k => .tup (k.sqt h) (r k)) (fun h r k => .dct ((k.1 _ List.mem_cons_self).trans h) r) (fun _ => .nil) fun p q k => .cons (p ⟨fun a ha => k.1 a (List.mem_append_left _ ha), k.2⟩) (q ⟨fun a ha => k.1 a (List.mem_append_right _ ha), k.2⟩)
theorem Ow.kept {K : W.Frag} {H H' : Hp} {v : V} {d : D} {ns : List Addr} (h : Ow K H v d ns) (k : Kept ns H H') : Ow K H' v d ns := Ow.kept2.1 h k
theorem Ows.kept {K : W.Frag} {H H' : Hp} {v : List V} {d : List D} {ns : List Addr} (h : Ows K H v d ns) (k : Kept ns H H') : Ows K H' v d ns := Ow.kept2.2 h k
theorem Ow.same2 {K : W.Frag} {H H' : Hp} (e : Same H H') : (∀ {v d ns}, Ow K H v d ns -> Ow K H' v d ns) /\ ∀ {v d ns}, Ows K H v d ns -> Ows K H' v d ns :=
 Ow.both .non .bl .int .str (fun h r => .lst (e _ _ h) r) (fun h r => .tup (e.tup h) r) (fun h r => .dct (e _ _ h) r) .nil fun p q => .cons p q
theorem Ow.same {K : W.Frag} {H H' : Hp} (e : Same H H') {v : V} {d : D} {ns : List Addr} (h : Ow K H v d ns) : Ow K H' v d ns := (Ow.same2 e).1 h
theorem Ows.same {K : W.Frag} {H H' : Hp} (e : Same H H') {v : List V} {d : List D} {ns : List Addr} (h : Ows K H v d ns) : Ows K H' v d ns := (Ow.same2 e).2 h
mutual
def flat : D -> Bool
 | .none => true
 | .bool _ => true
 | .int _ => true
 | .str _ => true
 | .list _ => false
 | .tuple ds => flats ds
 | .dict _ => false
def flats : List D -> Bool
 | [] => true
 | d :: ds => flat d && flats ds
end
theorem ow_flat2 {K : W.Frag} {H : Hp} : (∀ {v d}, Dn K H v d -> flat d = true -> Ow K H v d []) /\ ∀ {v d}, Dns K H v d -> flats d = true -> Ows K H v d [] :=
 Dn.both (fun _ => .non) (fun b _ => .bl b) (fun b _ => .int b) (fun b _ => .str b) (fun _ _ h => nomatch h) (fun h r q => .tup h (r q)) (fun _ _ h => nomatch h) (fun _ h => nomatch h) (fun _ _ h => nomatch h) (fun _ => .nil) fun p r q => by
  rw [flats, Bool.and_eq_true] at q
  exact .cons (ns := []) (ms := []) (p q.1) (r q.2)
theorem ow_flat {K : W.Frag} {H : Hp} {v : V} {d : D} (h : Dn K H v d) (q : flat d = true) : Ow K H v d [] := ow_flat2.1 h q
theorem ows_flat {K : W.Frag} {H : Hp} {v : List V} {d : List D} (h : Dns K H v d) (q : flats d = true) : Ows K H v d [] := ow_flat2.2 h q
theorem den_kept2 {K : W.Frag} {H H' : Hp} (k : ∀ a o, H a = some o -> muO o = false -> H' a = some o) : (∀ {v d}, Dn K H v d -> flat d = true -> Dn K H' v d) /\ ∀ {v d}, Dns K H v d -> flats d = true -> Dns K H' v d :=
 Dn.both (fun _ => .non) (fun b _ => .bl b) (fun b _ => .int b) (fun b _ => .str b) (fun _ _ h => nomatch h) (fun h r q => .tup (Kept.sqt (ns := []) ⟨fun _ z => (by cases z), k⟩ h) (r q)) (fun _ _ h => nomatch h) (fun _ h => nomatch h) (fun _ _ h => nomatch h) (fun _ => .nil) fun p r q => by
  rw [flats, Bool.and_eq_true] at q
  exact .cons (p q.1) (r q.2)
theorem den_kept {K : W.Frag} {H H' : Hp} (k : ∀ a o, H a = some o -> muO o = false -> H' a = some o) {v : V} {d : D} (h : Dn K H v d) (q : flat d = true) : Dn K H' v d := (den_kept2 k).1 h q
theorem dens_kept {K : W.Frag} {H H' : Hp} (k : ∀ a o, H a = some o -> muO o = false -> H' a = some o) {v : List V} {d : List D} (h : Dns K H v d) (q : flats d = true) : Dns K H' v d := (den_kept2 k).2 h q
open Classical in
noncomputable def hid (Z : Addr -> Prop) (H : Hp) : Hp := fun a => if Z a then none else H a
theorem hid_of {Z : Addr -> Prop} {H : Hp} {a : Addr} {o : HO} (h : H a = some o) (z : ¬ Z a) : hid Z H a = some o := by unfold hid; rw [if_neg z]; exact h
theorem of_hid {Z : Addr -> Prop} {H : Hp} {a : Addr} {o : HO} (h : hid Z H a = some o) : H a = some o /\ ¬ Z a := by
 unfold hid at h
 split at h
 ·cases h
 ·exact ⟨h, ‹_›⟩
theorem hid_same {Z : Addr -> Prop} {H : Hp} : Same (hid Z H) H := fun _ _ h => (of_hid h).1
theorem hid_mono {Z : Addr -> Prop} {H H' : Hp} (e : Same H H') : Same (hid Z H) (hid Z H') := fun b o h => hid_of (e b o (of_hid h).1) (of_hid h).2
theorem hid_less {Z Z' : Addr -> Prop} {H : Hp} (h : ∀ a, Z' a -> Z a) : Same (hid Z H) (hid Z' H) := fun b o e => hid_of (of_hid e).1 fun z => (of_hid e).2 (h b z)
theorem den_hid {K : W.Frag} {Z : Addr -> Prop} {H : Hp} {v : V} {d : D} (hl : ∀ a, Z a -> Mu H a) (h : Dn K H v d) (hf : flat d = true) : Dn K (hid Z H) v d :=
 den_kept (fun a o e n => hid_of e fun z => (hl a z).no e n) h hf
theorem ow_hid2 {K : W.Frag} {Z : Addr -> Prop} {H : Hp} (hl : ∀ a, Z a -> Mu H a) : (∀ {v d ns}, Ow K H v d ns -> (∀ a ∈ ns, ¬ Z a) -> Dn K (hid Z H) v d) /\ ∀ {v d ns}, Ows K H v d ns -> (∀ a ∈ ns, ¬ Z a) -> Dns K (hid Z H) v d :=
 Ow.both (P := fun v d ns => (∀ a ∈ ns, ¬ Z a) -> Dn K (hid Z H) v d) (Q := fun v d ns => (∀ a ∈ ns, ¬ Z a) -> Dns K (hid Z H) v d) (fun _ => .non) (fun b _ => .bl b) (fun b _ => .int b) (fun b _ => .str b) (fun h r k => .lst (hid_of h (k _ List.mem_cons_self)) (r fun a ha => k a (List.mem_cons_of_mem _ ha)))
  (fun h r k => .tup (Kept.sqt (ns := []) ⟨fun _ z => (by cases z), fun a o e n => hid_of e fun z => (hl a z).no e n⟩ h) (r k)) (fun h r k => .dct (hid_of h (k _ List.mem_cons_self)) r) (fun _ => .nil) fun p q k => .cons (p fun a ha => k a (List.mem_append_left _ ha)) (q fun a ha => k a (List.mem_append_right _ ha))
theorem ow_hid {K : W.Frag} {Z : Addr -> Prop} {H : Hp} (hl : ∀ a, Z a -> Mu H a) {v : V} {d : D} {ns : List Addr} (h : Ow K H v d ns) (k : ∀ a ∈ ns, ¬ Z a) : Dn K (hid Z H) v d := (ow_hid2 hl).1 h k
theorem ows_hid {K : W.Frag} {Z : Addr -> Prop} {H : Hp} (hl : ∀ a, Z a -> Mu H a) {v : List V} {d : List D} {ns : List Addr} (h : Ows K H v d ns) (k : ∀ a ∈ ns, ¬ Z a) : Dns K (hid Z H) v d := (ow_hid2 hl).2 h k
abbrev Ren := List (Option (Bool × D))
def Z0 : Addr -> Prop := fun _ => False
def Hd (Z : Addr -> Prop) (ν : Nat -> List Addr) : Addr -> Prop := fun a => Z a ∨ ∃ i, a ∈ ν i
structure StOk (K : W.Frag) (Z : Addr -> Prop) (H0 : Hp) (ν : Nat -> List Addr) (ρ : Ren) (σ : L2.St) (H : Hp) : Prop where
 sm : Same H0 H
 len : σ.length = ρ.length
 sl : ∀ i b d, ρ[i]? = some (some (b, d)) -> ∃ v, σ[i]? = some (some v) /\ if b = true then Ow K H v d (ν i) else Dn K (hid (Hd Z ν) H) v d
 nd : ∀ i, (ν i).Nodup
 dj : ∀ i j a, a ∈ ν i -> a ∈ ν j -> i = j
 fr : ∀ i a, a ∈ ν i -> H0 a = none /\ ¬ Z a /\ Mu H a
 zf : ∀ a, Z a -> H0 a = none /\ Mu H a
section
variable {K : W.Frag} {Z : Addr -> Prop} {H0 H H' : Hp} {ν : Nat -> List Addr} {ρ : Ren} {σ : L2.St} {v : V} {d : D}
theorem StOk.hl (S : StOk K Z H0 ν ρ σ H) : ∀ a, Hd Z ν a -> Mu H a := fun a h => by
 rcases h with h | ⟨i, h⟩
 ·exact (S.zf a h).2
 ·exact (S.fr i a h).2.2
theorem StOk.same (S : StOk K Z H0 ν ρ σ H) (e : Same H H') : StOk K Z H0 ν ρ σ H' where
 sm := S.sm.trans e
 len := S.len
 sl := fun i b d h => by
  obtain ⟨v, h1, h2⟩ := S.sl i b d h
  refine ⟨v, h1, ?_⟩
  cases b with
  | true => exact Ow.same e h2
  | false => exact Dn.same (hid_mono e) h2
 nd := S.nd
 dj := S.dj
 fr := fun i a h => by obtain ⟨h1, h2, us, h3⟩ := S.fr i a h; exact ⟨h1, h2, us, e _ _ h3⟩
 zf := fun a h => by obtain ⟨h1, us, h3⟩ := S.zf a h; exact ⟨h1, us, e _ _ h3⟩
theorem StOk.get (S : StOk K Z H0 ν ρ σ H) {i : Nat} {b : Bool} (h : ρ[i]? = some (some (b, d))) : ∃ v, σ[i]? = some (some v) /\ Dn K H v d := by
 obtain ⟨v, h1, h2⟩ := S.sl i b d h
 refine ⟨v, h1, ?_⟩
 cases b with
 | true => exact h2.den
 | false => exact Dn.same hid_same h2
theorem set_get {α : Type} {l : List α} {i j : Nat} {x y : α} (h : (l.set i x)[j]? = some y) : (j = i /\ y = x /\ i < l.length) ∨ (j ≠ i /\ l[j]? = some y) := by
 rw [List.getElem?_set] at h
 split at h
 ·split at h
  ·cases h; exact .inl ⟨by omega, rfl, by omega⟩
  ·cases h
 ·exact .inr ⟨by omega, h⟩
theorem StOk.setOld (S : StOk K Z H0 ν ρ σ H) (i : Nat) (h : Dn K (hid (Hd Z ν) H) v d) : StOk K Z H0 ν (ρ.set i (some (false, d))) (σ.set i (some v)) H where
 sm := S.sm
 len := by rw [List.length_set, List.length_set]; exact S.len
 sl := fun j b e hj => by
  rcases set_get hj with ⟨rfl, h1, h2⟩ | ⟨h1, h2⟩
  ·cases h1
   exact ⟨v, by rw [List.getElem?_set_self (by rw [S.len]; exact h2)], h⟩
  ·obtain ⟨u, q1, q2⟩ := S.sl j b e h2
   exact ⟨u, by rw [List.getElem?_set_ne (Ne.symm h1)]; exact q1, q2⟩
 nd := S.nd
 dj := S.dj
 fr := S.fr
 zf := S.zf
def dropS (ρ : Ren) : List Nat -> Ren
 | [] => ρ
 | i :: r => dropS (ρ.set i none) r
theorem dropS_len : ∀ (s : List Nat) (ρ : Ren), (dropS ρ s).length = ρ.length
 | [], _ => rfl
 | i :: r, ρ => by unfold dropS; rw [dropS_len r, List.length_set]
theorem dropS_get : ∀ (s : List Nat) {ρ : Ren} {i : Nat} {x : Bool × D}, (dropS ρ s)[i]? = some (some x) -> i ∉ s /\ ρ[i]? = some (some x)
 | [], _, _, _, h => ⟨by simp, h⟩
 | j :: r, ρ, i, x, h => by
  obtain ⟨h1, h2⟩ := dropS_get r h
  rcases set_get h2 with ⟨rfl, q, _⟩ | ⟨q1, q2⟩
  ·cases q
  ·exact ⟨by simp [h1, q1], q2⟩
theorem StOk.setOwn (S : StOk K Z H0 ν ρ σ H) (s : List Nat) (i : Nat) {ms : List Addr} (e : Same H H') (h : Ow K H' v d ms) (nd : ms.Nodup) (fr : ∀ a ∈ ms, H a = none ∨ ∃ j ∈ s, a ∈ ν j) :
  StOk K Z H0 (fun j => if j = i then ms else if j ∈ s then [] else ν j) ((dropS ρ s).set i (some (true, d))) (σ.set i (some v)) H' where
 sm := S.sm.trans e
 len := by rw [List.length_set, List.length_set, dropS_len]; exact S.len
 sl := fun j b c hj => by
  rcases set_get hj with ⟨rfl, h1, h2⟩ | ⟨h1, h2⟩
  ·cases h1
   exact ⟨v, by rw [List.getElem?_set_self (by rw [S.len]; rw [dropS_len] at h2; exact h2)], by rw [if_pos rfl]; rw [if_pos rfl]; exact h⟩
  ·obtain ⟨h3, h4⟩ := dropS_get s h2
   obtain ⟨u, q1, q2⟩ := S.sl j b c h4
   refine ⟨u, by rw [List.getElem?_set_ne (Ne.symm h1)]; exact q1, ?_⟩
   cases b with
   | true =>
    rw [if_pos rfl, if_neg h1, if_neg h3]
    exact Ow.same e q2
   | false =>
    refine Dn.same (fun a o ha => ?_) q2
    obtain ⟨g1, g2⟩ := of_hid ha
    refine hid_of (e _ _ g1) fun z => ?_
    rcases z with z | ⟨k, z⟩
    ·exact g2 (.inl z)
    ·dsimp only at z
     split at z
     ·rcases fr a z with z | ⟨l, _, z⟩
      ·rw [g1] at z; cases z
      ·exact g2 (.inr ⟨l, z⟩)
     ·split at z
      ·cases z
      ·exact g2 (.inr ⟨k, z⟩)
 nd := fun j => by
  split
  ·exact nd
  ·split
   ·exact List.nodup_nil
   ·exact S.nd j
 dj := fun j k a hj hk => by
  have key : ∀ l, l ∉ s -> a ∈ ν l -> a ∉ ms := fun l hl ha hm => by
   rcases fr a hm with z | ⟨m, hm, z⟩
   ·obtain ⟨_, _, us, q⟩ := S.fr l a ha
    rw [z] at q; cases q
   ·rw [S.dj l m a ha z] at hl; exact hl hm
  split at hj
  ·split at hk
   ·omega
   ·split at hk
    ·cases hk
    ·exact absurd hj (key k ‹_› hk)
  ·split at hj
   ·cases hj
   ·split at hk
    ·exact absurd hk (key j ‹_› hj)
    ·split at hk
     ·cases hk
     ·exact S.dj j k a hj hk
 fr := fun j a ha => by
  split at ha
  ·have ht := h.there a ha
   rcases fr a ha with z | ⟨m, _, z⟩
   ·exact ⟨S.sm.gone z, (fun q => by obtain ⟨_, us, q⟩ := S.zf a q; rw [z] at q; cases q), ht⟩
   ·obtain ⟨q1, q2, us, q3⟩ := S.fr m a z
    exact ⟨q1, q2, us, e _ _ q3⟩
  ·split at ha
   ·cases ha
   ·obtain ⟨q1, q2, us, q3⟩ := S.fr j a ha
    exact ⟨q1, q2, us, e _ _ q3⟩
 zf := fun a h => by obtain ⟨h1, us, h3⟩ := S.zf a h; exact ⟨h1, us, e _ _ h3⟩
def frz (ρ : Ren) : Ren := ρ.map fun x => x.map fun y => (false, y.2)
theorem frz_get {ρ : Ren} {i : Nat} {b : Bool} {d : D} (h : (frz ρ)[i]? = some (some (b, d))) : b = false /\ ∃ c, ρ[i]? = some (some (c, d)) := by
 unfold frz at h
 rw [List.getElem?_map] at h
 cases q : ρ[i]? with
 | none => rw [q] at h; cases h
 | some x =>
  rw [q] at h
  cases x with
  | none => cases h
  | some y => cases h; exact ⟨rfl, y.1, rfl⟩
theorem StOk.frz (S : StOk K Z H0 ν ρ σ H) : StOk K Z H0 (fun _ => []) (frz ρ) σ H where
 sm := S.sm
 len := by unfold DL.frz; rw [List.length_map]; exact S.len
 sl := fun i b d h => by
  obtain ⟨rfl, c, h⟩ := frz_get h
  obtain ⟨v, h1, h2⟩ := S.sl i c d h
  refine ⟨v, h1, ?_⟩
  have hl : ∀ a, Hd Z (fun _ => []) a -> Mu H a := fun a z => by
   rcases z with z | ⟨_, z⟩
   ·exact (S.zf a z).2
   ·cases z
  cases c with
  | true =>
   refine ow_hid hl h2 fun a ha z => ?_
   rcases z with z | ⟨_, z⟩
   ·exact (S.fr i a ha).2.1 z
   ·cases z
  | false => exact Dn.same (hid_less fun a z => by rcases z with z | ⟨_, z⟩; exact .inl z; cases z) h2
 nd := fun _ => List.nodup_nil
 dj := fun _ _ _ z => by cases z
 fr := fun _ _ z => by cases z
 zf := S.zf
def frz1 (i : Nat) (ρ : Ren) : Ren := match ρ[i]? with
 | some (some (_, d)) => ρ.set i (some (false, d))
 | _ => ρ
theorem StOk.frz1 (S : StOk K Z H0 ν ρ σ H) (i : Nat) : StOk K Z H0 (fun j => if j = i then [] else ν j) (frz1 i ρ) σ H := by
 have hl : ∀ a, Hd Z (fun j => if j = i then [] else ν j) a -> Hd Z ν a := fun a z => by
  rcases z with z | ⟨j, z⟩
  ·exact .inl z
  ·dsimp only at z
   split at z
   ·cases z
   ·exact .inr ⟨j, z⟩
 have sl : ∀ j b d, ρ[j]? = some (some (b, d)) -> j ≠ i -> ∃ v, σ[j]? = some (some v) /\ if b = true then Ow K H v d (if j = i then [] else ν j) else Dn K (hid (Hd Z fun j => if j = i then [] else ν j) H) v d := fun j b d h hj => by
  obtain ⟨v, h1, h2⟩ := S.sl j b d h
  refine ⟨v, h1, ?_⟩
  rw [if_neg hj]
  cases b with
  | true => exact h2
  | false => exact Dn.same (hid_less hl) h2
 refine ⟨S.sm, ?_, ?_, fun j => ?_, fun j k a hj hk => ?_, fun j a ha => ?_, S.zf⟩
 ·unfold DL.frz1
  split
  ·rw [List.length_set]; exact S.len
  ·exact S.len
 ·intro j b d h
  unfold DL.frz1 at h
  split at h
  case h_1 x b' d' e =>
   rcases set_get h with ⟨rfl, h1, h2⟩ | ⟨h1, h2⟩
   ·cases h1
    obtain ⟨v, h1, h2⟩ := S.sl j b' d e
    refine ⟨v, h1, ?_⟩
    cases b' with
    | true =>
     refine ow_hid (fun a z => S.hl a (hl a z)) h2 fun a ha z => ?_
     rcases z with z | ⟨k, z⟩
     ·exact (S.fr j a ha).2.1 z
     ·dsimp only at z
      split at z
      ·cases z
      ·exact absurd (S.dj _ _ _ z ha) ‹_›
    | false => exact Dn.same (hid_less hl) h2
   ·exact sl j b d h2 h1
  case h_2 e =>
   by_cases hj : j = i
   ·subst hj; exact absurd h (fun q => e _ _ q)
   ·exact sl j b d h hj
 ·skip
  split
  ·exact List.nodup_nil
  ·exact S.nd j
 ·skip
  split at hj
  ·cases hj
  ·split at hk
   ·cases hk
   ·exact S.dj _ _ _ hj hk
 ·skip
  split at ha
  ·cases ha
  ·exact S.fr _ _ ha
end
inductive Kd where
 | own (s : List Nat)
 | old
 | mix
def Res (K : W.Frag) (Z : Addr -> Prop) (ν : Nat -> List Addr) (H H' : Hp) : Kd -> V -> D -> Prop
 | .own s, v, d => ∃ ms, Ow K H' v d ms /\ ms.Nodup /\ ∀ a ∈ ms, H a = none ∨ ∃ j ∈ s, a ∈ ν j
 | .old, v, d => Dn K (hid (Hd Z ν) H') v d
 | .mix, v, d => Dn K H' v d
section
variable {K : W.Frag} {Z : Addr -> Prop} {H0 H H1 H' : Hp} {ν : Nat -> List Addr} {ρ : Ren} {σ : L2.St} {v : V} {d : D} {k : Kd}
theorem Res.den (h : Res K Z ν H H' k v d) : Dn K H' v d := by
 cases k with
 | own s => obtain ⟨ms, h, _⟩ := h; exact h.den
 | old => exact Dn.same hid_same h
 | mix => exact h
theorem Res.same (h : Res K Z ν H H1 k v d) (e : Same H1 H') : Res K Z ν H H' k v d := by
 cases k with
 | own s => obtain ⟨ms, h, r⟩ := h; exact ⟨ms, h.same e, r⟩
 | old => exact Dn.same (hid_mono e) h
 | mix => exact Dn.same e h
theorem Res.later (h : Res K Z ν H1 H' k v d) (e : Same H H1) : Res K Z ν H H' k v d := by
 cases k with
 | own s =>
  obtain ⟨ms, h, r, f⟩ := h
  exact ⟨ms, h, r, fun a ha => by rcases f a ha with z | z; exact .inl (e.gone z); exact .inr z⟩
 | old => exact h
 | mix => exact h
theorem Res.flat (h : Dn K H' v d) (hf : DL.flat d = true) (hl : ∀ a, Hd Z ν a -> Mu H' a) (k : Kd) : Res K Z ν H H' k v d := by
 cases k with
 | own s => exact ⟨[], ow_flat h hf, List.nodup_nil, fun _ z => by cases z⟩
 | old => exact den_hid hl h hf
 | mix => exact h
end
end DL
namespace DL
open PySem PySem.Spec PyProof.Rows L2
abbrev QD := D -> Kd -> Prop
abbrev XD := Addr -> Prop
abbrev TD := Ren -> QD -> XD -> Prop
abbrev TDT := Ren -> (Bool -> Prop) -> XD -> Prop
abbrev TDA := Ren -> (List D -> Kd -> Prop) -> XD -> Prop
def RsL (K : W.Frag) (Z : Addr -> Prop) (ν : Nat -> List Addr) (H H' : Hp) : Kd -> List V -> List D -> Prop
 | .own s, v, d => ∃ ms, Ows K H' v d ms /\ ms.Nodup /\ ∀ a ∈ ms, H a = none ∨ ∃ j ∈ s, a ∈ ν j
 | .old, v, d => Dns K (hid (Hd Z ν) H') v d
 | .mix, v, d => Dns K H' v d
def LE (K : W.Frag) (E : XK) (t : TD) : TE := fun σ H Q => ∃ H0 ν ρ Qd Xd, StOk K Z0 H0 ν ρ σ H /\ t ρ Qd Xd /\ (∀ d k v H', Qd d k -> Same H H' -> Res K Z0 ν H H' k v d -> Q v H') /\ ∀ C H', Xd C -> Same H0 H' -> E (.ref C) none H'
def LT (K : W.Frag) (E : XK) (t : TDT) : TT := fun σ H Q => ∃ H0 ν ρ Qd Xd, StOk K Z0 H0 ν ρ σ H /\ t ρ Qd Xd /\ (∀ b H', Qd b -> Same H H' -> Q b H') /\ ∀ C H', Xd C -> Same H0 H' -> E (.ref C) none H'
def LA (K : W.Frag) (E : XK) (t : TDA) : TA := fun σ H Q => ∃ H0 ν ρ Qd Xd, StOk K Z0 H0 ν ρ σ H /\ t ρ Qd Xd /\ (∀ ds k vs H', Qd ds k -> Same H H' -> RsL K Z0 ν H H' k vs ds -> Q vs H') /\ ∀ C H', Xd C -> Same H0 H' -> E (.ref C) none H'
structure DE (X : Cx) (K : W.Frag) (E : XK) (e : Expr) (t : TD) : Prop where
 q : QE X e (LE K E t)
structure DT (X : Cx) (K : W.Frag) (E : XK) (e : Expr) (t : TDT) : Prop where
 q : QT X e (LT K E t)
structure DW (X : Cx) (K : W.Frag) (E : XK) (e : Expr) (t : TDT) : Prop where
 q : QW X e (LT K E t)
structure DA (X : Cx) (K : W.Frag) (E : XK) (e : List Expr) (t : TDA) : Prop where
 q : QA X e (LA K E t)
theorem qe_imp {X : Cx} {e : Expr} {t t' : TE} (h : QE X e t) (i : ∀ σ H Q, t' σ H Q -> t σ H Q) : QE X e t' := ⟨fun pins s σ H Q I w => h.h pins s σ H Q I (i σ H Q w)⟩
theorem qt_imp {X : Cx} {e : Expr} {t t' : TT} (h : QT X e t) (i : ∀ σ H Q, t' σ H Q -> t σ H Q) : QT X e t' := ⟨fun pins s σ H Q I w => h.h pins s σ H Q I (i σ H Q w)⟩
theorem qw_imp {X : Cx} {e : Expr} {t t' : TT} (h : QW X e t) (i : ∀ σ H Q, t' σ H Q -> t σ H Q) : QW X e t' := ⟨fun wh pins s σ H Q I w => h.h wh pins s σ H Q I (i σ H Q w)⟩
theorem qa_imp {X : Cx} {e : List Expr} {t t' : TA} (h : QA X e t) (i : ∀ σ H Q, t' σ H Q -> t σ H Q) : QA X e t' := ⟨fun pos pins s σ H Q I w => h.h pos pins s σ H Q I (i σ H Q w)⟩
theorem qs_imp {X : Cx} {e : Stmt} {t t' : TS} (h : QS X e t) (i : ∀ D σ H, t' D σ H -> t D σ H) : QS X e t' := ⟨fun pins s σ H D I w => h.h pins s σ H D I (i D σ H w)⟩
theorem qss_imp {X : Cx} {e : List Stmt} {t t' : TS} (h : QSs X e t) (i : ∀ D σ H, t' D σ H -> t D σ H) : QSs X e t' := ⟨fun pins s σ H D I w => h.h pins s σ H D I (i D σ H w)⟩
section
variable {X : Cx} {K : W.Frag} {E : XK} {pos : Pos}
def dVar (i : Nat) : TD := fun ρ Q _ => ∃ b d, ρ[i]? = some (some (b, d)) /\ Q d (if b = true then .own [i] else .old)
theorem dpv (i : Nat) {x : Str} (hN : X.N[i]? = some x := by rfl) (hv : Vis X.env.scope x := by first | exact Or.inl rfl | exact Or.inr (Or.inl rfl) | exact Or.inr (Or.inr rfl)) (hd : (x == ("__debug__" : Str)) = false := by decide)
  (hcd : (x == ("__classdict__" : Str)) = false := by decide) : DE X K E (.Name x pos) (dVar i) := ⟨qe_imp (qpv i hN hv hd hcd) fun σ H Q h => by
 obtain ⟨H0, ν, ρ, Qd, Xd, S, ⟨b, d, h1, h2⟩, q, _⟩ := h
 obtain ⟨v, g1, g2⟩ := S.sl i b d h1
 refine ⟨v, g1, q d _ v H h2 (Same.refl H) ?_⟩
 cases b with
 | true => exact ⟨ν i, g2, S.nd i, fun a ha => .inr ⟨i, by simp, ha⟩⟩
 | false => exact g2⟩
def dC (d : D) : TD := fun _ Q _ => Q d .old
theorem dc_of {e : Expr} {v : V} {d : D} (h : QE X e (tC v)) (hd : ∀ H, Dn K H v d) : DE X K E e (dC d) := ⟨qe_imp h fun σ H Q h => by
 obtain ⟨H0, ν, ρ, Qd, Xd, S, h1, q, _⟩ := h
 exact q d _ v H h1 (Same.refl H) (hd _)⟩
theorem dpe_int {i : Int} {j} : DE X K E (.Constant (.int i) j pos) (dC (.int i)) := dc_of qpe_int fun _ => .int _
theorem dpe_bl {i : Bool} {j} : DE X K E (.Constant (.bool i) j pos) (dC (.bool i)) := dc_of qpe_bl fun _ => .bl _
theorem dpe_str {x : Str} {j} : DE X K E (.Constant (.str x) j pos) (dC (.str x)) := dc_of qpe_str fun _ => .str _
abbrev F2 := D -> Kd -> D -> Kd -> QD -> Prop
def Prim2 (K : W.Frag) (r : R2) (f : F2) : Prop := ∀ (Z : Addr -> Prop) (ν : Nat -> List Addr) (Hs H : Hp) (x y : V) (d : D) (k : Kd) (e : D) (l : Kd) (Qf : QD) (Q : VK), (∀ a, Hd Z ν a -> Mu H a) -> (∀ a, Hd Z ν a -> Mu Hs a) -> Same Hs H -> Res K Z ν Hs H k x d -> Res K Z ν Hs H l y e ->
 f d k e l Qf -> (∀ d k v H', Qf d k -> Same H H' -> Res K Z ν Hs H' k v d -> Q v H') -> r x y H Q
structure DOp (X : Cx) (K : W.Frag) (f : Value -> Value -> Sem Value) (g : F2) : Prop where
 ex : ∃ r, OpR X f r /\ Prim2 K r g
structure DIx (X : Cx) (K : W.Frag) (g : F2) : Prop where
 ex : ∃ r, IxR X r /\ Prim2 K r g
def dOp (f : F2) (ta tb : TD) : TD := fun ρ Q Xd => ta ρ (fun d k => tb ρ (fun e l => f d k e l Q) Xd) Xd
theorem le_two {r : R2} {f : F2} {ta tb : TD} (p : Prim2 K r f) : ∀ σ H Q, LE K E (dOp f ta tb) σ H Q -> tOp r (LE K E ta) (LE K E tb) σ H Q := fun σ H Q h => by
 obtain ⟨H0, ν, ρ, Qd, Xd, S, h1, q, x⟩ := h
 refine ⟨H0, ν, ρ, _, Xd, S, h1, fun d k v H1 hd e1 r1 => ?_, x⟩
 refine ⟨H0, ν, ρ, _, Xd, S.same e1, hd, fun d2 k2 v2 H2 hd2 e2 r2 => ?_, x⟩
 refine p Z0 ν H H2 v v2 d k d2 k2 Qd Q (S.same (e1.trans e2)).hl S.hl (e1.trans e2) (r1.same e2) (r2.later e1) hd2 fun d3 k3 v3 H3 g1 g2 g3 => q d3 k3 v3 H3 g1 ((e1.trans e2).trans g2) g3
theorem dpe_op {op : Operator} {f : F2} {a b : Expr} {ta tb : TD} (ho : DOp X K (binaryOp op) f) (ha : DE X K E a ta) (hb : DE X K E b tb) : DE X K E (.BinOp a op b pos) (dOp f ta tb) := by
 obtain ⟨r, o, p⟩ := ho.ex
 exact ⟨qe_imp (qpe_op o ha.q hb.q) (le_two p)⟩
theorem dpe_cmp {op : CmpOp} {f : F2} {a b : Expr} {ta tb : TD} (ho : DOp X K (compareOp op) f) (ha : DE X K E a ta) (hb : DE X K E b tb) (hm : behindInMarks op b = false) : DE X K E (.Compare a [op] [b] pos) (dOp f ta tb) := by
 obtain ⟨r, o, p⟩ := ho.ex
 exact ⟨qe_imp (qpe_cmpR o ha.q hb.q hm) (le_two p)⟩
theorem dpe_ix {f : F2} {a b : Expr} {ta tb : TD} (ho : DIx X K f) (ha : DE X K E a ta) (hb : DE X K E b tb) (hs : PlainIx b) : DE X K E (.Subscript a b pos) (dOp f ta tb) := by
 obtain ⟨r, o, p⟩ := ho.ex
 exact ⟨qe_imp (qpe_ix o ha.q hb.q hs) (le_two p)⟩
theorem DOp.or {h : Value -> Value -> Sem Value} {f g : F2} (a : DOp X K h f) (b : DOp X K h g) : DOp X K h (fun d k e l Q => f d k e l Q ∨ g d k e l Q) := by
 obtain ⟨r, o, p⟩ := a.ex
 obtain ⟨r', o', p'⟩ := b.ex
 refine ⟨_, o.or o', fun Z ν Hs H x y d k e l Qf Q h1 h0 h2 h3 h4 h5 h6 => ?_⟩
 rcases h5 with h5 | h5
 ·exact .inl (p Z ν Hs H x y d k e l Qf Q h1 h0 h2 h3 h4 h5 h6)
 ·exact .inr (p' Z ν Hs H x y d k e l Qf Q h1 h0 h2 h3 h4 h5 h6)
theorem DOp.mono {h : Value -> Value -> Sem Value} {f g : F2} (a : DOp X K h f) (i : ∀ d k e l Q, g d k e l Q -> f d k e l Q) : DOp X K h g := by
 obtain ⟨r, o, p⟩ := a.ex
 exact ⟨r, o, fun Z ν Hs H x y d k e l Qf Q h1 h0 h2 h3 h4 h5 h6 => p Z ν Hs H x y d k e l Qf Q h1 h0 h2 h3 h4 (i _ _ _ _ _ h5) h6⟩
def fI (C : Int -> Int -> Prop) (g : Int -> Int -> D) : F2 := fun d _ e _ Q => match d, e with
 | .int i, .int j => C i j /\ Q (g i j) .old
 | _, _ => False
theorem prim_int {C : Int -> Int -> Prop} {g : Int -> Int -> Int} : Prim2 K (rI C fun i j => .int (g i j)) (fI C fun i j => .int (g i j)) := fun Z ν Hs H x y d k e l Qf Q _ _ _ h3 h4 h5 h6 => by
 unfold fI at h5
 split at h5
 ·have a := h3.den
  have b := h4.den
  cases a
  cases b
  exact ⟨_, _, rfl, rfl, h5.1, h6 _ _ _ _ h5.2 (Same.refl H) (.int _)⟩
 ·exact h5.elim
def T2 (_ _ : Int) : Prop := True
theorem prim_int0 {g : Int -> Int -> Int} : Prim2 K (rI0 fun i j => .int (g i j)) (fI T2 fun i j => .int (g i j)) := fun Z ν Hs H x y d k e l Qf Q _ _ _ h3 h4 h5 h6 => by
 unfold fI at h5
 split at h5
 ·have a := h3.den
  have b := h4.den
  cases a
  cases b
  exact ⟨_, _, rfl, rfl, h6 _ _ _ _ h5.2 (Same.refl H) (.int _)⟩
 ·exact h5.elim
theorem prim_bool0 {g : Int -> Int -> Bool} : Prim2 K (rI0 fun i j => .bl (g i j)) (fI T2 fun i j => .bool (g i j)) := fun Z ν Hs H x y d k e l Qf Q _ _ _ h3 h4 h5 h6 => by
 unfold fI at h5
 split at h5
 ·have a := h3.den
  have b := h4.den
  cases a
  cases b
  exact ⟨_, _, rfl, rfl, h6 _ _ _ _ h5.2 (Same.refl H) (.bl _)⟩
 ·exact h5.elim
theorem dop_sub : DOp X K (binaryOp .Sub) (fI T2 fun i j => .int (i - j)) := ⟨_, op_sub, prim_int0⟩
theorem dop_mul : DOp X K (binaryOp .Mult) (fI IntMulOk fun i j => .int (i * j)) := ⟨_, op_mulB, prim_int⟩
theorem dop_fdiv : DOp X K (binaryOp .FloorDiv) (fI CDiv fun i j => .int (i / j)) := ⟨_, op_fdiv, prim_int⟩
theorem dop_mod : DOp X K (binaryOp .Mod) (fI (fun _ j => 0 < j) fun i j => .int (i % j)) := ⟨_, op_mod, prim_int⟩
theorem dop_pow : DOp X K (binaryOp .Pow) (fI CPow fun i j => .int (i ^ j.toNat)) := ⟨_, op_pow, prim_int⟩
theorem dop_lt : DOp X K (compareOp .Lt) (fI T2 fun i j => .bool (decide (i < j))) := ⟨_, op_lt, prim_bool0⟩
theorem dop_gt : DOp X K (compareOp .Gt) (fI T2 fun i j => .bool (decide (j < i))) := ⟨_, op_gt, prim_bool0⟩
theorem dop_ge : DOp X K (compareOp .GtE) (fI T2 fun i j => .bool (decide (j <= i))) := ⟨_, op_ge, prim_bool0⟩
def fEq (f : Bool -> Bool) : F2 := fun d _ e _ Q => d.canLay0 = true /\ e.canLay0 = true /\ d.depth <= 32 /\ Q (.bool (f (PyData.eqv d e))) .old
theorem prim_eq {f : Bool -> Bool} : Prim2 K (rEqD K f) (fEq f) := fun Z ν Hs H x y d k e l Qf Q _ _ _ h3 h4 h5 h6 =>
 ⟨d, e, h3.den.deep h5.1, h4.den.deep h5.2.1, h5.1, h5.2.1, h5.2.2.1, h6 _ _ _ _ h5.2.2.2 (Same.refl H) (.bl _)⟩
theorem dop_eq (hK : X.K = K) (hu : X.A.units + 64 < cLine) : DOp X K (compareOp .Eq) (fEq id) := ⟨_, op_eqK K hK hu, prim_eq⟩
theorem dop_ne (hK : X.K = K) (hu : X.A.units + 64 < cLine) : DOp X K (compareOp .NotEq) (fEq not) := ⟨_, op_neK K hK hu, prim_eq⟩
end
end DL
namespace DL
open PySem PySem.Spec PyProof.Rows L2
def Kd.isOld : Kd -> Bool
 | .old => true
 | .own [] => true
 | _ => false
def kels (ds : List D) (k : Kd) : Kd := if flats ds = true then .own [] else if k.isOld = true then .old else .mix
def kels2 (ds : List D) (k : Kd) (es : List D) (l : Kd) : Kd := if (flats ds && flats es) = true then .own [] else if (k.isOld && l.isOld) = true then .old else .mix
def Kd.sub : Kd -> Kd
 | .own [] => .own []
 | .old => .old
 | _ => .mix
section
variable {K : W.Frag} {Z : Addr -> Prop} {Hs H H' : Hp} {ν : Nat -> List Addr} {v : V} {d : D} {k l : Kd} {us vs : List V} {ds es : List D} {a p : Addr}
theorem Res.old (hl : ∀ a, Hd Z ν a -> Mu H a) (hn : ∀ a, Hd Z ν a -> Mu Hs a) (h : Res K Z ν Hs H k v d) (hk : k.isOld = true) : Dn K (hid (Hd Z ν) H) v d := by
 cases k with
 | own s =>
  cases s with
  | nil =>
   obtain ⟨ms, h1, _, h3⟩ := h
   refine ow_hid hl h1 fun a ha z => ?_
   rcases h3 a ha with q | ⟨j, q, _⟩
   ·obtain ⟨us, z⟩ := hn a z; rw [q] at z; cases z
   ·cases q
  | cons => cases hk
 | old => exact h
 | mix => cases hk
theorem RsL.dens (h : RsL K Z ν Hs H k vs ds) : Dns K H vs ds := by
 cases k with
 | own s => obtain ⟨ms, h, _⟩ := h; exact h.den
 | old => exact Dns.same hid_same h
 | mix => exact h
theorem RsL.same (h : RsL K Z ν Hs H k vs ds) (e : Same H H') : RsL K Z ν Hs H' k vs ds := by
 cases k with
 | own s => obtain ⟨ms, h, r⟩ := h; exact ⟨ms, h.same e, r⟩
 | old => exact Dns.same (hid_mono e) h
 | mix => exact Dns.same e h
theorem res_newL (hl : ∀ a, Hd Z ν a -> Mu H a) (hs : Same Hs H) (hp : H p = none) (h : RsL K Z ν Hs H k vs ds) : Res K Z ν Hs (upd H p (.lst vs)) k (.ref p) (.list ds) := by
 have sm : Same H (upd H p (.lst vs)) := Same.new hp
 cases k with
 | own s =>
  obtain ⟨ms, h1, h2, h3⟩ := h
  refine ⟨p :: ms, .lst upd_same (h1.same sm), List.nodup_cons.mpr ⟨fun hm => ?_, h2⟩, fun a ha => ?_⟩
  ·obtain ⟨us, q⟩ := h1.there p hm; rw [hp] at q; cases q
  ·rcases List.mem_cons.mp ha with rfl | ha
   ·exact .inl (hs.gone hp)
   ·exact h3 a ha
 | old =>
  have hz : ¬ Hd Z ν p := fun z => by obtain ⟨us, q⟩ := hl p z; rw [hp] at q; cases q
  exact .lst (hid_of upd_same hz) (Dns.same (hid_mono sm) h)
 | mix => exact .lst upd_same (Dns.same sm h)
theorem res_newT (hl : ∀ a, Hd Z ν a -> Mu H a) (hs : Same Hs H) (hp : H p = none) (h : RsL K Z ν Hs H k vs ds) : Res K Z ν Hs (upd H p (.tup vs)) k (.ref p) (.tuple ds) := by
 have sm : Same H (upd H p (.tup vs)) := Same.new hp
 cases k with
 | own s =>
  obtain ⟨ms, h1, h2, h3⟩ := h
  exact ⟨ms, .tup (SqT.of upd_same) (h1.same sm), h2, h3⟩
 | old =>
  have hz : ¬ Hd Z ν p := fun z => by obtain ⟨us, q⟩ := hl p z; rw [hp] at q; cases q
  exact .tup (SqT.of (hid_of upd_same hz)) (Dns.same (hid_mono sm) h)
 | mix => exact .tup (SqT.of upd_same) (Dns.same sm h)
theorem dns_of_lst {v : V} (h : Dn K H v (.list ds)) : ∃ a us, v = .ref a /\ H a = some (.lst us) /\ Dns K H us ds := by
 cases h with
 | lst h r => exact ⟨_, _, rfl, h, r⟩
theorem dns_of_tup {v : V} (h : Dn K H v (.tuple ds)) : ∃ a us, v = .ref a /\ SqT K H a us /\ Dns K H us ds := by
 cases h with
 | tup h r => exact ⟨_, _, rfl, h, r⟩
theorem res_list (hl : ∀ a, Hd Z ν a -> Mu H a) (hn : ∀ a, Hd Z ν a -> Mu Hs a) (h : Res K Z ν Hs H k v (.list ds)) : ∃ a us, v = .ref a /\ H a = some (.lst us) /\ Dns K H us ds /\ RsL K Z ν Hs H (kels ds k) us ds := by
 obtain ⟨a, us, rfl, h1, h2⟩ := dns_of_lst h.den
 refine ⟨a, us, rfl, h1, h2, ?_⟩
 unfold kels
 split
 ·exact ⟨[], ows_flat h2 ‹_›, List.nodup_nil, fun _ z => by cases z⟩
 ·split
  ·have q := h.old hl hn ‹_›
   obtain ⟨a', us', e, q1, q2⟩ := dns_of_lst q
   cases e
   have := (of_hid q1).1
   rw [h1] at this; cases this
   exact q2
  ·exact h2
theorem dns_hid {Z : Addr -> Prop} (hl : ∀ a, Z a -> Mu H a) (h : Dns K H us ds) (hf : flats ds = true) : Dns K (hid Z H) us ds :=
 dens_kept (fun a o e n => hid_of e fun z => (hl a z).no e n) h hf
theorem flats_app : flats ds = true -> flats es = true -> flats (ds ++ es) = true := by
 intro h1 h2
 induction ds with
 | nil => exact h2
 | cons x r ih =>
  simp only [flats, Bool.and_eq_true] at h1
  show (flat x && flats (r ++ es)) = true
  rw [h1.1, ih h1.2]; rfl
theorem rsl_old (hl : ∀ a, Hd Z ν a -> Mu H a) (hk : k.isOld = true) (h : RsL K Z ν Hs H (kels ds k) us ds) : Dns K (hid (Hd Z ν) H) us ds := by
 have A := h.dens
 unfold kels at h
 split at h
 ·exact dns_hid hl A ‹_›
 ·exact h
theorem rsl_app (hl : ∀ a, Hd Z ν a -> Mu H a) (h : RsL K Z ν Hs H (kels ds k) us ds) (g : RsL K Z ν Hs H (kels es l) vs es) : RsL K Z ν Hs H (kels2 ds k es l) (us ++ vs) (ds ++ es) := by
 have A := h.dens
 have B := g.dens
 unfold kels2
 split
 case isTrue e =>
  rw [Bool.and_eq_true] at e
  exact ⟨[], ows_flat (A.append B) (flats_app e.1 e.2), List.nodup_nil, fun _ z => by cases z⟩
 case isFalse e =>
  split
  case isFalse => exact A.append B
  case isTrue q =>
   rw [Bool.and_eq_true] at q
   exact (rsl_old hl q.1 h).append (rsl_old hl q.2 g)
theorem rsl_part (hl : ∀ a, Hd Z ν a -> Mu H a) (h : RsL K Z ν Hs H (kels ds k) us ds) {us' : List V} {ds' : List D} (p : ∀ {G : Hp}, Dns K G us ds -> Dns K G us' ds') (hf : flats ds = true -> flats ds' = true) : RsL K Z ν Hs H (kels ds' k) us' ds' := by
 have A := p h.dens
 unfold kels
 split
 ·exact ⟨[], ows_flat A ‹_›, List.nodup_nil, fun _ z => by cases z⟩
 ·split
  ·exact p (rsl_old hl ‹_› h)
  ·exact A
end
section
variable {X : Cx} {K : W.Frag} {E : XK} {pos : Pos}
def fCat : F2 := fun d k e l Q => match d, e with
 | .list ds, .list es => ds.length + es.length <= 1000000 /\ Q (.list (ds ++ es)) (kels2 ds k es l)
 | _, _ => False
theorem million : (1000000 : Nat) <= sizeLine := by decide
theorem prim_cat : Prim2 K rCat fCat := fun Z ν Hs H x y d k e l Qf Q hl hn hs h3 h4 h5 h6 => by
 unfold fCat at h5
 split at h5
 ·obtain ⟨a, us, rfl, a1, a2, a3⟩ := res_list hl hn h3
  obtain ⟨b, vs, rfl, b1, b2, b3⟩ := res_list hl hn h4
  refine ⟨a, b, us, vs, rfl, rfl, a1, b1, ?_, fun p hp => ?_⟩
  ·rw [a2.length, b2.length]; exact Nat.le_trans h5.1 million
  ·exact h6 _ _ _ _ h5.2 (Same.new hp) (res_newL hl hs hp (rsl_app hl a3 b3))
 ·exact h5.elim
end
end DL
namespace DL
open PySem PySem.Spec PyProof.Rows L2
section
variable {X : Cx} {K : W.Frag} {E : XK} {pos : Pos}
def fStr : F2 := fun d _ e _ Q => match d, e with
 | .str x, .str y => x.length + y.length <= 1000000 /\ Q (.str (x ++ y)) .old
 | _, _ => False
theorem dop_addS : DOp X K (binaryOp .Add) fStr := ⟨_, op_add_str, fun Z ν Hs H x y d k e l Qf Q _ _ _ h3 h4 h5 h6 => by
 unfold fStr at h5
 split at h5
 ·have a := h3.den
  have b := h4.den
  cases a
  cases b
  exact ⟨_, _, rfl, rfl, Nat.le_trans h5.1 million, h6 _ _ _ _ h5.2 (Same.refl H) (.str _)⟩
 ·exact h5.elim⟩
def fAdd : F2 := fun d k e l Q => match d, e with
 | .int i, .int j => Q (.int (i + j)) .old
 | .list ds, .list es => ds.length + es.length <= 1000000 /\ Q (.list (ds ++ es)) (kels2 ds k es l)
 | .str x, .str y => x.length + y.length <= 1000000 /\ Q (.str (x ++ y)) .old
 | _, _ => False
theorem dop_add : DOp X K (binaryOp .Add) fAdd := DOp.mono (DOp.or ⟨_, op_add, prim_int0⟩ (DOp.or ⟨_, op_cat, prim_cat⟩ dop_addS)) fun d k e l Q h => by
 unfold fAdd at h
 split at h
 ·exact .inl ⟨trivial, h⟩
 ·exact .inr (.inl h)
 ·exact .inr (.inr h)
 ·exact h.elim
def fIx : F2 := fun d k e _ Q => match d, e with
 | .list ds, .int i => ∃ x, atI ds i = some x /\ Q x k.sub
 | .tuple ds, .int i => ∃ x, atI ds i = some x /\ Q x k.sub
 | .str z, .int i => z.length <= 1000000 /\ ∃ c, atI z.cps.toList i = some c /\ Q (.str ⟨#[c]⟩) .old
 | .dict [(.none, .list ds)], .int i => ∃ x, atI ds i = some x /\ Q x .old
 | _, _ => False
theorem ows_get {H : Hp} : ∀ {us : List V} {ds : List D} {ns : List Addr} {j : Nat} {x : D}, Ows K H us ds ns -> ds[j]? = some x -> ∃ u ms, us[j]? = some u /\ Ow K H u x ms /\ (∀ a ∈ ms, a ∈ ns) /\ (ns.Nodup -> ms.Nodup)
 | _, _, _, 0, x, .cons h r, e => by simp at e; subst e; exact ⟨_, _, rfl, h, fun a ha => List.mem_append_left _ ha, fun n => (List.nodup_append.mp n).1⟩
 | _, _, _, j + 1, x, .cons h r, e => by
  simp at e
  obtain ⟨u, ms, h1, h2, h3, h4⟩ := ows_get r e
  exact ⟨u, ms, by simpa using h1, h2, fun a ha => List.mem_append_right _ (h3 a ha), fun n => h4 (List.nodup_append.mp n).2.1⟩
theorem atI_nth {α : Type} {xs : List α} {i : Int} {x : α} (h : atI xs i = some x) : ∃ j, ixN xs.length i = some j /\ xs[j]? = some x := by
 unfold atI at h
 cases e : ixN xs.length i with
 | none => rw [e] at h; cases h
 | some j => rw [e] at h; exact ⟨j, rfl, h⟩
theorem atI_of {α : Type} {xs : List α} {i : Int} {j : Nat} {x : α} (h : ixN xs.length i = some j) (g : xs[j]? = some x) : atI xs i = some x := by
 unfold atI; rw [h]; exact g
theorem items_own {Z : Addr -> Prop} {ν : Nat -> List Addr} {Hs H : Hp} {us : List V} {ds : List D} {ms : List Addr} (h : Ows K H us ds ms) (nd : ms.Nodup) (fr : ∀ a ∈ ms, Hs a = none ∨ ∃ j ∈ ([] : List Nat), a ∈ ν j) : ∀ (j : Nat) x, ds[j]? = some x -> ∃ u, us[j]? = some u /\ Res K Z ν Hs H (.own []) u x := fun j x e => by
 obtain ⟨u, ns, r1, r2, r3, r4⟩ := ows_get h e
 exact ⟨u, r1, ns, r2, r4 nd, fun a ha => fr a (r3 a ha)⟩
theorem items_den {H : Hp} {us : List V} {ds : List D} (h : Dns K H us ds) : ∀ (j : Nat) x, ds[j]? = some x -> ∃ u, us[j]? = some u /\ Dn K H u x := fun j x e => h.get e
theorem res_itemsT {Z : Addr -> Prop} {ν : Nat -> List Addr} {Hs H : Hp} {k : Kd} {v : V} {ds : List D} (h : Res K Z ν Hs H k v (.tuple ds)) : ∃ a us, v = .ref a /\ SqT K H a us /\ us.length = ds.length /\ Dns K H us ds /\ ∀ (j : Nat) x, ds[j]? = some x -> ∃ u, us[j]? = some u /\ Res K Z ν Hs H k.sub u x := by
 unfold Kd.sub
 split
 ·obtain ⟨ms, h1, h2, h3⟩ := h
  cases h1 with
  | tup q1 q2 => exact ⟨_, _, rfl, q1, q2.den.length, q2.den, items_own q2 h2 h3⟩
 ·obtain ⟨a, us, rfl, q1, q2⟩ := dns_of_tup (show Dn K _ _ _ from h)
  exact ⟨a, us, rfl, Same.tup hid_same q1, q2.length, Dns.same hid_same q2, items_den q2⟩
 ·obtain ⟨a, us, rfl, q1, q2⟩ := dns_of_tup h.den
  exact ⟨a, us, rfl, q1, q2.length, q2, items_den q2⟩
theorem res_itemsL {Z : Addr -> Prop} {ν : Nat -> List Addr} {Hs H : Hp} {k : Kd} {v : V} {ds : List D} (h : Res K Z ν Hs H k v (.list ds)) : ∃ a us, v = .ref a /\ H a = some (.lst us) /\ us.length = ds.length /\ Dns K H us ds /\ ∀ (j : Nat) x, ds[j]? = some x -> ∃ u, us[j]? = some u /\ Res K Z ν Hs H k.sub u x := by
 unfold Kd.sub
 split
 ·obtain ⟨ms, h1, h2, h3⟩ := h
  cases h1 with
  | lst q1 q2 => exact ⟨_, _, rfl, q1, q2.den.length, q2.den, items_own q2 (List.nodup_cons.mp h2).2 fun a ha => h3 a (List.mem_cons_of_mem _ ha)⟩
 ·obtain ⟨a, us, rfl, q1, q2⟩ := dns_of_lst (show Dn K _ _ _ from h)
  exact ⟨a, us, rfl, (of_hid q1).1, q2.length, Dns.same hid_same q2, items_den q2⟩
 ·obtain ⟨a, us, rfl, q1, q2⟩ := dns_of_lst h.den
  exact ⟨a, us, rfl, q1, q2.length, q2, items_den q2⟩
theorem dix (hK : X.K = K) : DIx X K fIx := by
 subst hK
 refine ⟨_, ix_seq, fun Z ν Hs H x y d k e l Qf Q hl hn hs h3 h4 h5 h6 => ?_⟩
 unfold fIx at h5
 split at h5
 ·obtain ⟨z, e1, q⟩ := h5
  obtain ⟨j, e2, e3⟩ := atI_nth e1
  obtain ⟨a, us, rfl, g1, g2, _, g3⟩ := res_itemsL h3
  obtain ⟨u, g4, g5⟩ := g3 j z e3
  have := h4.den
  cases this
  exact .inl ⟨a, us, _, u, rfl, rfl, SqL.of g1, atI_of (by rw [g2]; exact e2) g4, h6 _ _ _ _ q (Same.refl H) g5⟩
 ·obtain ⟨z, e1, q⟩ := h5
  obtain ⟨j, e2, e3⟩ := atI_nth e1
  obtain ⟨a, us, rfl, g1, g2, _, g3⟩ := res_itemsT h3
  obtain ⟨u, g4, g5⟩ := g3 j z e3
  have := h4.den
  cases this
  exact .inr (.inl ⟨a, us, _, u, rfl, rfl, g1, atI_of (by rw [g2]; exact e2) g4, h6 _ _ _ _ q (Same.refl H) g5⟩)
 ·have a := h3.den
  have b := h4.den
  cases a
  cases b
  obtain ⟨h0, c, e1, q⟩ := h5
  exact .inr (.inr ⟨_, _, c, rfl, rfl, Nat.le_trans h0 million, e1, h6 _ _ _ _ q (Same.refl H) (.str _)⟩)
 ·obtain ⟨z, e1, q⟩ := h5
  obtain ⟨j, e2, e3⟩ := atI_nth e1
  have b := h4.den
  cases b
  have a := h3.den
  cases a with
  | scr ns h =>
   rw [List.getElem?_map] at e3
   cases en : ns[j]? with
   | none => rw [en] at e3; cases e3
   | some n =>
    rw [en] at e3; cases e3
    exact .inl ⟨_, _, _, V.int n, rfl, rfl, h, atI_of (by rw [List.length_map]; rw [List.length_map] at e2; exact e2) (by rw [List.getElem?_map, en]; rfl), h6 _ _ _ _ q (Same.refl H) (.int _)⟩
 ·exact h5.elim
def cutD (xs : List D) (lo hi : Option Int) : List D := (xs.drop (HT.sIx xs.length 0 lo)).take (HT.sIx xs.length xs.length hi - HT.sIx xs.length 0 lo)
theorem Dns.take {H : Hp} : ∀ {us : List V} {ds : List D} (n : Nat), Dns K H us ds -> Dns K H (us.take n) (ds.take n)
 | _, _, 0, _ => by rw [List.take_zero, List.take_zero]; exact .nil
 | _, _, n + 1, .nil => .nil
 | _, _, n + 1, .cons h r => .cons h (Dns.take n r)
theorem Dns.drop {H : Hp} : ∀ {us : List V} {ds : List D} (n : Nat), Dns K H us ds -> Dns K H (us.drop n) (ds.drop n)
 | _, _, 0, h => h
 | _, _, n + 1, .nil => .nil
 | _, _, n + 1, .cons h r => Dns.drop n r
theorem flats_iff : ∀ {ds : List D}, flats ds = true ↔ ∀ d ∈ ds, flat d = true
 | [] => by simp [flats]
 | d :: r => by simp [flats, flats_iff (ds := r)]
def TDO := Ren -> (Option Int -> Prop) -> XD -> Prop
def LO (K : W.Frag) (E : XK) (t : TDO) : TO := fun σ H Q => ∃ H0 ν ρ Qd Xd, StOk K Z0 H0 ν ρ σ H /\ t ρ Qd Xd /\ (∀ b H', Qd b -> Same H H' -> Q b H') /\ ∀ C H', Xd C -> Same H0 H' -> E (.ref C) none H'
structure DO (X : Cx) (K : W.Frag) (E : XK) (e : Option Expr) (t : TDO) : Prop where
 q : QO X e (LO K E t)
def dNoPart : TDO := fun _ Q _ => Q none
def dPart (t : TD) : TDO := fun ρ Q Xd => t ρ (fun d _ => match d with | .int i => Q (some i) | _ => False) Xd
theorem dpo_none : DO X K E none dNoPart := ⟨⟨fun pins s σ H Q I h => qpo_none.h pins s σ H Q I (by
 obtain ⟨H0, ν, ρ, Qd, Xd, S, h1, q, _⟩ := h
 exact q _ _ h1 (Same.refl H))⟩⟩
theorem dpo_some {e : Expr} {t : TD} (he : DE X K E e t) : DO X K E (some e) (dPart t) := ⟨⟨fun pins s σ H Q I h => (qpo_some he.q).h pins s σ H Q I (by
 obtain ⟨H0, ν, ρ, Qd, Xd, S, h1, q, x⟩ := h
 refine ⟨H0, ν, ρ, _, Xd, S, h1, fun d k v H' g1 g2 g3 => ?_, x⟩
 have := g3.den
 cases d with
 | int i => cases this; exact ⟨i, rfl, q _ _ g1 g2⟩
 | _ => exact g1.elim)⟩⟩
abbrev F3 := D -> Kd -> Option Int -> Option Int -> QD -> Prop
def fSl : F3 := fun d k lo hi Q => match d with
 | .list ds => Q (.list (cutD ds lo hi)) (kels (cutD ds lo hi) k)
 | _ => False
def dSl (f : F3) (te : TD) (tl th : TDO) : TD := fun ρ Q Xd => te ρ (fun d k => tl ρ (fun l => th ρ (fun h => f d k l h Q) Xd) Xd) Xd
theorem dpe_slice {e : Expr} {lo hi : Option Expr} {te : TD} {tl th : TDO} {p2 : Pos} (hK : X.K = K) (he : DE X K E e te) (hl : DO X K E lo tl) (hu : DO X K E hi th) : DE X K E (.Subscript e (.Slice lo hi none p2) pos) (dSl fSl te tl th) := ⟨by
 subst hK
 refine qe_imp (qpe_slice sl_list he.q hl.q hu.q) fun σ H Q h => ?_
 obtain ⟨H0, ν, ρ, Qd, Xd, S, h1, q, x⟩ := h
 refine ⟨H0, ν, ρ, _, Xd, S, h1, fun d k v H1 g1 e1 r1 => ?_, x⟩
 refine ⟨H0, ν, ρ, _, Xd, S.same e1, g1, fun l H2 g2 e2 => ?_, x⟩
 refine ⟨H0, ν, ρ, _, Xd, S.same (e1.trans e2), g2, fun u H3 g3 e3 => ?_, x⟩
 have e03 := (e1.trans e2).trans e3
 have r3 := (r1.same e2).same e3
 have hl3 := (S.same e03).hl
 cases d with
 | list ds =>
  obtain ⟨a, us, rfl, a1, a2, a3⟩ := res_list hl3 S.hl r3
  refine ⟨a, us, rfl, SqL.of a1, fun p hp => q _ _ _ _ g3 (e03.trans (Same.new hp)) (res_newL hl3 e03 hp ?_)⟩
  refine rsl_part hl3 a3 (fun {G} hd => ?_) fun hf => flats_iff.mpr fun d hd => flats_iff.mp hf d (List.mem_of_mem_drop (List.mem_of_mem_take hd))
  unfold cutV cutD
  rw [hd.length]
  exact (hd.drop _).take _
 | _ => exact g3.elim⟩
def disj (s t : List Nat) : Bool := s.all fun i => !t.contains i
def kcons (d : D) (k : Kd) (l : Kd) : Kd := match (if flat d = true then Kd.own [] else k), l with
 | .own s, .own t => if disj s t = true then .own (s ++ t) else .mix
 | .own [], .old => .old
 | .old, .own [] => .old
 | .old, .old => .old
 | _, _ => .mix
def dNil : TDA := fun _ Q _ => Q [] (.own [])
def dCons (ta : TD) (tr : TDA) : TDA := fun ρ Q Xd => ta ρ (fun d k => tr ρ (fun ds l => Q (d :: ds) (kcons d k l)) Xd) Xd
theorem RsL.old0 {Z : Addr -> Prop} {ν : Nat -> List Addr} {Hs H : Hp} {k : Kd} {us : List V} {ds : List D} (hl : ∀ a, Hd Z ν a -> Mu H a) (hn : ∀ a, Hd Z ν a -> Mu Hs a) (h : RsL K Z ν Hs H k us ds) (hk : k.isOld = true) : Dns K (hid (Hd Z ν) H) us ds := by
 cases k with
 | own s =>
  cases s with
  | nil =>
   obtain ⟨ms, h1, _, h3⟩ := h
   refine ows_hid hl h1 fun a ha z => ?_
   rcases h3 a ha with q | ⟨j, q, _⟩
   ·obtain ⟨us, z⟩ := hn a z; rw [q] at z; cases z
   ·cases q
  | cons => cases hk
 | old => exact h
 | mix => cases hk
theorem rsl_cons {Z : Addr -> Prop} {ν : Nat -> List Addr} {Hs H1 H2 : Hp} {k l : Kd} {v : V} {d : D} {us : List V} {ds : List D} (hn : ∀ a, Hd Z ν a -> Mu Hs a) (dj : ∀ i j a, a ∈ ν i -> a ∈ ν j -> i = j) (e1 : Same Hs H1) (e2 : Same H1 H2) (h : Res K Z ν Hs H1 k v d) (g : RsL K Z ν H1 H2 l us ds) :
  RsL K Z ν Hs H2 (kcons d k l) (v :: us) (d :: ds) := by
 have hl1 : ∀ a, Hd Z ν a -> Mu H1 a := fun a z => by obtain ⟨us, q⟩ := hn a z; exact ⟨us, e1 _ _ q⟩
 have hl2 : ∀ a, Hd Z ν a -> Mu H2 a := fun a z => by obtain ⟨us, q⟩ := hl1 a z; exact ⟨us, e2 _ _ q⟩
 have h' : Res K Z ν Hs H1 (if flat d = true then Kd.own [] else k) v d := by
  split
  ·exact Res.flat h.den ‹_› hl1 _
  ·exact h
 have all : Dns K H2 (v :: us) (d :: ds) := .cons (Dn.same e2 h.den) g.dens
 have old : ∀ {k' : Kd}, Res K Z ν Hs H1 k' v d -> k'.isOld = true -> l.isOld = true -> Dns K (hid (Hd Z ν) H2) (v :: us) (d :: ds) := fun {k'} r1 q1 q2 => .cons ((r1.same e2).old hl2 hn q1) (g.old0 hl2 hl1 q2)
 unfold kcons
 generalize (if flat d = true then Kd.own [] else k) = k' at h'
 split
 ·split
  case isTrue q =>
   obtain ⟨ms, a1, a2, a3⟩ := h'
   obtain ⟨ns, b1, b2, b3⟩ := g
   rename_i s t
   refine ⟨ms ++ ns, .cons (a1.same e2) b1, List.nodup_append.mpr ⟨a2, b2, fun x hx y hy e => ?_⟩, fun a ha => ?_⟩
   ·subst e
    obtain ⟨us', z1⟩ := a1.there x hx
    rcases b3 x hy with z | ⟨j, hj, z⟩
    ·rw [z1] at z; cases z
    ·rcases a3 x hx with z' | ⟨i, hi, z'⟩
     ·obtain ⟨us'', z''⟩ := hn x (.inr ⟨j, z⟩)
      rw [z'] at z''; cases z''
     ·have := dj i j x z' z
      subst this
      unfold disj at q
      have := List.all_eq_true.mp q i hi
      simp at this
      exact this hj
   ·rcases List.mem_append.mp ha with ha | ha
    ·rcases a3 a ha with z | ⟨j, hj, z⟩
     ·exact .inl z
     ·exact .inr ⟨j, List.mem_append_left _ hj, z⟩
    ·rcases b3 a ha with z | ⟨j, hj, z⟩
     ·exact .inl (e1.gone z)
     ·exact .inr ⟨j, List.mem_append_right _ hj, z⟩
  case isFalse => exact all
 ·exact old h' rfl rfl
 ·exact old h' rfl rfl
 ·exact old h' rfl rfl
 ·exact all
theorem dpa_nil : DA X K E [] dNil := ⟨qa_imp qpa_nil fun σ H Q h => by
 obtain ⟨H0, ν, ρ, Qd, Xd, S, h1, q, x⟩ := h
 exact q _ _ _ _ h1 (Same.refl H) ⟨[], .nil, List.nodup_nil, fun _ z => by cases z⟩⟩
theorem dpa_cons {e : Expr} {es : List Expr} {te : TD} {t : TDA} (ha : DE X K E e te) (hr : DA X K E es t) (hs : starEach (e :: es) X.env = (false, eval e X.env) :: starEach es X.env := by rfl) : DA X K E (e :: es) (dCons te t) := ⟨qa_imp (qpa_cons ha.q hr.q hs) fun σ H Q h => by
 obtain ⟨H0, ν, ρ, Qd, Xd, S, h1, q, x⟩ := h
 refine ⟨H0, ν, ρ, _, Xd, S, h1, fun d k v H1 g1 e1 r1 => ?_, x⟩
 refine ⟨H0, ν, ρ, _, Xd, S.same e1, g1, fun ds l us H2 g2 e2 r2 => ?_, x⟩
 exact q _ _ _ _ g2 (e1.trans e2) (rsl_cons S.hl S.dj e1 e2 r1 r2)⟩
def dTup (t : TDA) : TD := fun ρ Q Xd => t ρ (fun ds k => ds.length <= 1000 /\ Q (.tuple ds) k) Xd
def dLst (t : TDA) : TD := fun ρ Q Xd => t ρ (fun ds k => ds.length <= 1000 /\ Q (.list ds) k) Xd
theorem dpe_tup {es : List Expr} {t : TDA} {x1} (h : DA X K E es t) : DE X K E (.Tuple es x1 pos) (dTup t) := ⟨qe_imp (qpe_tup h.q) fun σ H Q h => by
 obtain ⟨H0, ν, ρ, Qd, Xd, S, h1, q, x⟩ := h
 refine ⟨H0, ν, ρ, _, Xd, S, h1, fun ds k us H1 g1 e1 r1 => ?_, x⟩
 refine ⟨by rw [r1.dens.length]; exact Nat.le_trans g1.1 (by decide), fun p hp => q _ _ _ _ g1.2 (e1.trans (Same.new hp)) (res_newT (S.same e1).hl e1 hp r1)⟩⟩
theorem dpe_lst {es : List Expr} {t : TDA} (h : DA X K E es t) : DE X K E (.List es pos) (dLst t) := ⟨qe_imp (qpe_lst h.q) fun σ H Q h => by
 obtain ⟨H0, ν, ρ, Qd, Xd, S, h1, q, x⟩ := h
 refine ⟨H0, ν, ρ, _, Xd, S, h1, fun ds k us H1 g1 e1 r1 => ?_, x⟩
 refine ⟨by rw [r1.dens.length]; exact Nat.le_trans g1.1 (by decide), fun p hp => q _ _ _ _ g1.2 (e1.trans (Same.new hp)) (res_newL (S.same e1).hl e1 hp r1)⟩⟩
end
end DL
namespace DL
open PySem PySem.Spec PyProof.Rows L2
section
variable {X : Cx} {K : W.Frag} {E : XK} {pos : Pos} {a b c e : Expr} {rest : List Expr} {ta tb tc : TD} {tA tB : TDT}
theorem dn_bool {H : Hp} {v : V} {x : Bool} (h : Dn K H v (.bool x)) : v = .bl x := by cases h; rfl
theorem dn_int {H : Hp} {v : V} {x : Int} (h : Dn K H v (.int x)) : v = .int x := by cases h; rfl
def dNeg (ta : TD) : TD := fun ρ Q Xd => ta ρ (fun d _ => match d with | .int i => Q (.int (-i)) .old | _ => False) Xd
def dNotV (ta : TD) : TD := fun ρ Q Xd => ta ρ (fun d _ => match d with | .bool i => Q (.bool (!i)) .old | _ => False) Xd
def dAndV (ta tb : TD) : TD := fun ρ Q Xd => ta ρ (fun d _ => match d with | .bool i => if i = true then tb ρ Q Xd else Q (.bool false) .old | _ => False) Xd
def dOrV (ta tb : TD) : TD := fun ρ Q Xd => ta ρ (fun d _ => match d with | .bool i => if i = true then Q (.bool true) .old else tb ρ Q Xd | _ => False) Xd
theorem dpe_one {op} (h : DE X K E a ta) : DE X K E (.BoolOp op [a] pos) ta := ⟨qpe_one h.q⟩
theorem dpe_and (ha : DE X K E a ta) (hb : DE X K E (.BoolOp .And (b :: rest) pos) tb) : DE X K E (.BoolOp .And (a :: b :: rest) pos) (dAndV ta tb) := ⟨qe_imp (qpe_and ha.q hb.q) fun σ H Q h => by
 obtain ⟨H0, ν, ρ, Qd, Xd, S, h1, q, x⟩ := h
 refine ⟨H0, ν, ρ, _, Xd, S, h1, fun d k v H' g1 g2 g3 => ?_, x⟩
 cases d with
 | bool i =>
  refine ⟨i, dn_bool g3.den, ?_⟩
  cases i with
  | true => exact ⟨H0, ν, ρ, Qd, Xd, S.same g2, g1, fun d k v H'' a1 a2 a3 => q d k v H'' a1 (g2.trans a2) (a3.later g2), x⟩
  | false => exact q _ _ _ _ g1 g2 (.bl _)
 | _ => exact g1.elim⟩
theorem dpe_or (ha : DE X K E a ta) (hb : DE X K E (.BoolOp .Or (b :: rest) pos) tb) : DE X K E (.BoolOp .Or (a :: b :: rest) pos) (dOrV ta tb) := ⟨qe_imp (qpe_or ha.q hb.q) fun σ H Q h => by
 obtain ⟨H0, ν, ρ, Qd, Xd, S, h1, q, x⟩ := h
 refine ⟨H0, ν, ρ, _, Xd, S, h1, fun d k v H' g1 g2 g3 => ?_, x⟩
 cases d with
 | bool i =>
  refine ⟨i, dn_bool g3.den, ?_⟩
  cases i with
  | false => exact ⟨H0, ν, ρ, Qd, Xd, S.same g2, g1, fun d k v H'' a1 a2 a3 => q d k v H'' a1 (g2.trans a2) (a3.later g2), x⟩
  | true => exact q _ _ _ _ g1 g2 (.bl _)
 | _ => exact g1.elim⟩
def dB (ta : TD) : TDT := fun ρ Q Xd => ta ρ (fun d _ => match d with | .bool i => Q i | _ => False) Xd
theorem le_b : ∀ {σ : L2.St} {H : Hp} {Q : Bool -> Hp -> Prop}, LT K E (dB ta) σ H Q -> L2.tB (LE K E ta) σ H Q := fun {σ H Q} h => by
 obtain ⟨H0, ν, ρ, Qd, Xd, S, h1, q, x⟩ := h
 refine ⟨H0, ν, ρ, _, Xd, S, h1, fun d k v H' g1 g2 g3 => ?_, x⟩
 cases d with
 | bool i => exact ⟨i, dn_bool g3.den, q _ _ g1 g2⟩
 | _ => exact g1.elim
theorem dpt_val (h : DE X K E e ta) (he : ∀ whole, isTrue e X.env whole = (do let v ← whole; standAt e.pos; holding [v] (truthy v)) := by intro _; rfl) : DT X K E e (dB ta) := ⟨qt_imp (qpt_val h.q he) fun σ H Q h => le_b h⟩
theorem dpt_cmp {op : CmpOp} {f : F2} (ho : DOp X K (compareOp op) f) (ha : DE X K E a ta) (hb : DE X K E b tb) (hm : behindInMarks op b = false) : DT X K E (.Compare a [op] [b] pos) (dB (dOp f ta tb)) := by
 obtain ⟨r, o, p⟩ := ho.ex
 refine ⟨qt_imp (qpt_cmpR o ha.q hb.q hm) fun σ H Q h => ?_⟩
 obtain ⟨H0, ν, ρ, Qd, Xd, S, h1, q, x⟩ := h
 refine le_two p σ H _ ⟨H0, ν, ρ, _, Xd, S, h1, fun d k v H' g1 g2 g3 => ?_, x⟩
 cases d with
 | bool i => exact ⟨i, dn_bool g3.den, q _ _ g1 g2⟩
 | _ => exact g1.elim
def dAnd (tA tB : TDT) : TDT := fun ρ Q Xd => tA ρ (fun b => if b = true then tB ρ Q Xd else Q false) Xd
def dOr (tA tB : TDT) : TDT := fun ρ Q Xd => tA ρ (fun b => if b = true then Q true else tB ρ Q Xd) Xd
def dNot (tA : TDT) : TDT := fun ρ Q Xd => tA ρ (fun b => Q (!b)) Xd
theorem dPWpt (h : DW X K E e tA) : DT X K E e tA := ⟨qPWpt h.q⟩
theorem dpw_and1 (ha : DT X K E a tA) : DW X K E (.BoolOp .And [a] pos) tA := ⟨qpw_and1 ha.q⟩
theorem dpw_or1 (ha : DT X K E a tA) : DW X K E (.BoolOp .Or [a] pos) tA := ⟨qpw_or1 ha.q⟩
theorem lt_and : ∀ σ H Q, LT K E (dAnd tA tB) σ H Q -> tAnd (LT K E tA) (LT K E tB) σ H Q := fun σ H Q h => by
 obtain ⟨H0, ν, ρ, Qd, Xd, S, h1, q, x⟩ := h
 refine ⟨H0, ν, ρ, _, Xd, S, h1, fun b H' g1 g2 => ?_, x⟩
 cases b with
 | true => exact ⟨H0, ν, ρ, Qd, Xd, S.same g2, g1, fun b H'' a1 a2 => q b H'' a1 (g2.trans a2), x⟩
 | false => exact q _ _ g1 g2
theorem lt_or : ∀ σ H Q, LT K E (dOr tA tB) σ H Q -> tOr (LT K E tA) (LT K E tB) σ H Q := fun σ H Q h => by
 obtain ⟨H0, ν, ρ, Qd, Xd, S, h1, q, x⟩ := h
 refine ⟨H0, ν, ρ, _, Xd, S, h1, fun b H' g1 g2 => ?_, x⟩
 cases b with
 | false => exact ⟨H0, ν, ρ, Qd, Xd, S.same g2, g1, fun b H'' a1 a2 => q b H'' a1 (g2.trans a2), x⟩
 | true => exact q _ _ g1 g2
theorem dpw_and (ha : DT X K E a tA) (hb : DW X K E (.BoolOp .And (b :: rest) pos) tB) : DW X K E (.BoolOp .And (a :: b :: rest) pos) (dAnd tA tB) := ⟨qw_imp (qpw_and ha.q hb.q) lt_and⟩
theorem dpw_or (ha : DT X K E a tA) (hb : DW X K E (.BoolOp .Or (b :: rest) pos) tB) : DW X K E (.BoolOp .Or (a :: b :: rest) pos) (dOr tA tB) := ⟨qw_imp (qpw_or ha.q hb.q) lt_or⟩
theorem dpt_not (ha : DT X K E a tA) : DT X K E (.UnaryOp .Not a pos) (dNot tA) := ⟨qt_imp (qpt_not ha.q) fun σ H Q h => by
 obtain ⟨H0, ν, ρ, Qd, Xd, S, h1, q, x⟩ := h
 exact ⟨H0, ν, ρ, _, Xd, S, h1, fun b H' g1 g2 => q _ _ g1 g2, x⟩⟩
abbrev SpD := List D -> (D -> Bool -> Prop) -> XD -> Prop
def RR (K : W.Frag) (H H' : Hp) : Bool -> V -> D -> Prop
 | true, v, d => ∃ ms, Ow K H' v d ms /\ ms.Nodup /\ ∀ a ∈ ms, H a = none
 | false, v, d => Dn K H' v d
def SpL (K : W.Frag) (sp : SpD) : Sp := fun vs H Q E => ∃ ds Qd Xd, Dns K H vs ds /\ sp ds Qd Xd /\ (∀ d o v H', Qd d o -> Same H H' -> RR K H H' o v d -> Q v H') /\ ∀ C H', Xd C -> Same H H' -> E (.ref C) none H'
def kRet (o : Bool) : Kd := if o = true then .own [] else .mix
theorem rr_res {Z : Addr -> Prop} {ν : Nat -> List Addr} {Hs H H' : Hp} {o : Bool} {v : V} {d : D} (e : Same Hs H) (h : RR K H H' o v d) : Res K Z ν Hs H' (kRet o) v d := by
 cases o with
 | true => obtain ⟨ms, h1, h2, h3⟩ := h; exact ⟨ms, h1, h2, fun a ha => .inl (e.gone (h3 a ha))⟩
 | false => exact h
def dCall0 (sp : SpD) (t : TDA) : TD := fun ρ Q Xd => t ρ (fun ds _ => sp ds (fun d o => Q d (kRet o)) (fun _ => False)) Xd
theorem le_call0 {sp : SpD} {t : TDA} : ∀ σ H Q, LE K E (dCall0 sp t) σ H Q -> LA K E t σ H fun vs H1 => SpL K sp vs H1 Q E0 := fun σ H Q h => by
 obtain ⟨H0, ν, ρ, Qd, Xd, S, h1, q, x⟩ := h
 refine ⟨H0, ν, ρ, _, Xd, S, h1, fun ds k vs H1 g1 e1 r1 => ?_, x⟩
 exact ⟨ds, _, _, r1.dens, g1, fun d o v H' a1 a2 a3 => q _ _ _ _ a1 (e1.trans a2) (rr_res e1 a3), fun C H' z _ => z.elim⟩
theorem dpe_df {x : Str} {ps : List Str} {k : Nat} {sp : SpD} {p : Pos} {es : List Expr} {t : TDA} (D : Df X.prog X.w X.K X.mg X.base x ps k (SpL K sp)) (hr : Room k X.A) (ha : DA X K E (e :: es) t) (hg : Gl X x := by rfl) (hdb : (x == ("__debug__" : Str)) = false := by decide)
  (he : starEach (e :: es) X.env = (false, eval e X.env) :: starEach es X.env := by rfl) (hpl : (backTo pos (starEach es X.env)).any (·.1) = false := by rfl) : DE X K E (.Call (.Name x p) (e :: es) [] pos) (dCall0 sp t) :=
 ⟨qe_imp (qpe_df D hr ha.q hg hdb he hpl) fun σ H Q h => by
  show LA K E t σ H fun vs H1 => SpL K sp (vs ++ []) H1 Q E0
  simp only [List.append_nil]
  exact le_call0 σ H Q h⟩
abbrev FA := List D -> Kd -> QD -> Prop
def PrimA (K : W.Frag) (r : List V -> Hp -> VK -> Prop) (f : FA) : Prop := ∀ (Z : Addr -> Prop) (ν : Nat -> List Addr) (Hs H : Hp) (xs : List V) (ds : List D) (k : Kd) (Qf : QD) (Q : VK), (∀ a, Hd Z ν a -> Mu H a) -> (∀ a, Hd Z ν a -> Mu Hs a) -> Same Hs H -> RsL K Z ν Hs H k xs ds ->
 f ds k Qf -> (∀ d k v H', Qf d k -> Same H H' -> Res K Z ν Hs H' k v d -> Q v H') -> r xs H Q
structure DCl (X : Cx) (K : W.Frag) (f : Value) (g : FA) : Prop where
 ex : ∃ r, CallR X f r /\ PrimA K r g
def dCB (g : FA) (t : TDA) : TD := fun ρ Q Xd => t ρ (fun ds k => g ds k Q) Xd
theorem le_cb {r : List V -> Hp -> VK -> Prop} {g : FA} {t : TDA} (p : PrimA K r g) : ∀ σ H Q, LE K E (dCB g t) σ H Q -> tCB r (LA K E t) σ H Q := fun σ H Q h => by
 obtain ⟨H0, ν, ρ, Qd, Xd, S, h1, q, x⟩ := h
 refine ⟨H0, ν, ρ, _, Xd, S, h1, fun ds k vs H1 g1 e1 r1 => ?_, x⟩
 exact p Z0 ν H H1 vs ds k _ _ (S.same e1).hl S.hl e1 r1 g1 fun d k v H' a1 a2 a3 => q d k v H' a1 (e1.trans a2) a3
theorem dpe_callB {id : String} {g : FA} {x : Str} {p : Pos} {es : List Expr} {t : TDA} (hc : DCl X K (.builtin id) g) (hg : Gl X x) (hm : X.mg x = none) (hv : bootBuiltins x = some (.builtin id)) (ha : DA X K E (e :: es) t) (hn : x ≠ "__name__" := by decide) (hdb : (x == ("__debug__" : Str)) = false := by decide)
  (he : starEach (e :: es) X.env = (false, eval e X.env) :: starEach es X.env := by rfl) (hpl : (backTo pos (starEach es X.env)).any (·.1) = false := by rfl) : DE X K E (.Call (.Name x p) (e :: es) [] pos) (dCB g t) := by
 obtain ⟨r, c, pr⟩ := hc.ex
 exact ⟨qe_imp (qpe_callB c hg hm hv ha.q hn hdb he hpl) (le_cb pr)⟩
theorem dpe_callTy {T : String} {g : FA} {x : Str} {p : Pos} {es : List Expr} {t : TDA} (hc : DCl X K (.type T) g) (hg : Gl X x) (hm : X.mg x = none) (hv : bootBuiltins x = some (.type T)) (ha : DA X K E (e :: es) t) (hn : x ≠ "__name__" := by decide) (hdb : (x == ("__debug__" : Str)) = false := by decide)
  (he : starEach (e :: es) X.env = (false, eval e X.env) :: starEach es X.env := by rfl) (hpl : (backTo pos (starEach es X.env)).any (·.1) = false := by rfl) : DE X K E (.Call (.Name x p) (e :: es) [] pos) (dCB g t) := by
 obtain ⟨r, c, pr⟩ := hc.ex
 exact ⟨qe_imp (qpe_callTy c hg hm hv ha.q hn hdb he hpl) (le_cb pr)⟩
theorem dns1 {H : Hp} {xs : List V} {d : D} (h : Dns K H xs [d]) : ∃ v, xs = [v] /\ Dn K H v d := by
 cases h with
 | cons h r => cases r; exact ⟨_, rfl, h⟩
def fLen : FA := fun ds _ Q => match ds with
 | [.list xs] => Q (.int xs.length) .old
 | [.tuple xs] => Q (.int xs.length) .old
 | [.dict [(.none, .list xs)]] => Q (.int xs.length) .old
 | _ => False
theorem dns_of_scr {H : Hp} {v : V} {ds : List D} (h : Dn K H v (.dict [(.none, .list ds)])) : ∃ (a : Addr) (ns : List Int), v = .ref a /\ SqL K H a (ns.map V.int) /\ ds = ns.map PyData.int := by
 cases h with
 | scr ns h => exact ⟨_, _, rfl, h, rfl⟩
theorem dcl_len (hK : X.K = K) : DCl X K (.builtin "len") fLen := ⟨_, call_lenK K hK, fun Z ν Hs H xs ds k Qf Q _ _ _ h g q => by
 unfold fLen at g
 split at g
 ·obtain ⟨v, rfl, h1⟩ := dns1 h.dens
  obtain ⟨a, us, rfl, g1, g2⟩ := dns_of_lst h1
  exact ⟨a, us, rfl, .inl (SqL.of g1), q _ _ _ _ g (Same.refl H) (by rw [g2.length]; exact .int _)⟩
 ·obtain ⟨v, rfl, h1⟩ := dns1 h.dens
  obtain ⟨a, us, rfl, g1, g2⟩ := dns_of_tup h1
  exact ⟨a, us, rfl, .inr g1, q _ _ _ _ g (Same.refl H) (by rw [g2.length]; exact .int _)⟩
 ·obtain ⟨v, rfl, h1⟩ := dns1 h.dens
  obtain ⟨a, ns, rfl, g1, rfl⟩ := dns_of_scr h1
  exact ⟨a, _, rfl, .inl g1, q _ _ _ _ g (Same.refl H) (by rw [List.length_map, List.length_map]; exact .int _)⟩
 ·exact g.elim⟩
def intsD : List D -> Option (List Int)
 | [] => some []
 | .int i :: r => (intsD r).map (i :: ·)
 | _ => Option.none
def boolsD : List D -> Option (List Bool)
 | [] => some []
 | .bool i :: r => (boolsD r).map (i :: ·)
 | _ => Option.none
theorem dns_ints {H : Hp} : ∀ {us : List V} {ds : List D} {ns : List Int}, Dns K H us ds -> intsD ds = some ns -> us = ns.map V.int
 | _, _, _, .nil, e => by cases e; rfl
 | _, _, ns, .cons h r, e => by
  cases h <;> first | (simp only [dctD, intsD] at e; first | cases e | (rw [Option.map_eq_some_iff] at e; obtain ⟨ms, e1, rfl⟩ := e; rw [dns_ints r e1]; rfl))
theorem dns_bools {H : Hp} : ∀ {us : List V} {ds : List D} {ns : List Bool}, Dns K H us ds -> boolsD ds = some ns -> us = ns.map V.bl
 | _, _, _, .nil, e => by cases e; rfl
 | _, _, ns, .cons h r, e => by
  cases h <;> first | (simp only [dctD, boolsD] at e; first | cases e | (rw [Option.map_eq_some_iff] at e; obtain ⟨ms, e1, rfl⟩ := e; rw [dns_bools r e1]; rfl))
def fSum : FA := fun ds _ Q => match ds with
 | [.list xs] => ∃ ns, intsD xs = some ns /\ Q (.int ns.sum) .old
 | _ => False
def fBls (f : List Bool -> Bool) : FA := fun ds _ Q => match ds with
 | [.list xs] => ∃ ns, boolsD xs = some ns /\ Q (.bool (f ns)) .old
 | _ => False
theorem dcl_all (hK : X.K = K) (hc : X.calm = true) : DCl X K (.builtin "all") (fBls fun l => l.all id) := ⟨_, call_allK K hK hc, fun Z ν Hs H xs ds k Qf Q _ _ _ h g q => by
 unfold fBls at g
 split at g
 ·obtain ⟨v, rfl, h1⟩ := dns1 h.dens
  obtain ⟨a, us, rfl, g1, g2⟩ := dns_of_lst h1
  obtain ⟨ns, e, g⟩ := g
  exact ⟨a, ns, rfl, SqL.of (by rw [g1, dns_bools g2 e]), q _ _ _ _ g (Same.refl H) (.bl _)⟩
 ·exact g.elim⟩
end
end DL
namespace DL
open PySem PySem.Spec PyProof.Rows L2
section
variable {X : Cx} {K : W.Frag} {E : XK} {pos : Pos} {a b c e : Expr} {rest : List Expr} {ta tb tc : TD} {tA tB : TDT}
theorem rsl_one {Z : Addr -> Prop} {ν : Nat -> List Addr} {Hs H : Hp} {k : Kd} {v : V} {d : D} (h : RsL K Z ν Hs H k [v] [d]) : Res K Z ν Hs H k v d := by
 cases k with
 | own s =>
  obtain ⟨ms, h1, h2, h3⟩ := h
  cases h1 with
  | cons h r => cases r; rw [List.append_nil] at h2 h3; exact ⟨_, h, h2, h3⟩
 | old => cases (show Dns K _ [v] [d] from h) with | cons h r => exact h
 | mix => cases (show Dns K _ [v] [d] from h) with | cons h r => exact h
def fList : FA := fun ds k Q => match ds with
 | [.list xs] => Q (.list xs) (kels xs k)
 | _ => False
theorem dcl_list (hK : X.K = K) : DCl X K (.type "list") fList := ⟨_, call_listK K hK, fun Z ν Hs H xs ds k Qf Q hl hn hs h g q => by
 unfold fList at g
 split at g
 ·obtain ⟨v, rfl, _⟩ := dns1 h.dens
  obtain ⟨a, us, rfl, g1, g2, g3⟩ := res_list hl hn (rsl_one h)
  exact ⟨a, us, rfl, .inl (SqL.of g1), fun p hp => q _ _ _ _ g (Same.new hp) (res_newL hl hs hp g3)⟩
 ·exact g.elim⟩
def tyN : D -> String
 | .none => "NoneType"
 | .bool _ => "bool"
 | .int _ => "int"
 | .str _ => "str"
 | .list _ => "list"
 | .tuple _ => "tuple"
 | .dict _ => "dict"
def isInt : D -> Bool
 | .int _ => true
 | .bool _ => true
 | _ => false
def isBool : D -> Bool
 | .bool _ => true
 | _ => false
def isList : D -> Bool
 | .list _ => true
 | _ => false
def noDict : D -> Bool
 | .dict _ => false
 | _ => true
def KitT (K : W.Frag) (T : String) (f : D -> Bool) : Prop := ∀ d, noDict d = true -> PySem.W.kitOne K (.type (tyN d)) (.type T) = some (f d)
theorem kit_bool : KitT K "bool" isBool := by intro d h; cases d <;> first | rfl | simp [noDict] at h
def rIsD (K : W.Frag) (T : String) (f : D -> Bool) : List V -> Hp -> VK -> Prop := fun xs H Q => ∃ x d, xs = [x, .ty T] /\ Dn K H x d /\ noDict d = true /\ Q (.bl (f d)) H
theorem call_isD {T : String} {f : D -> Bool} (hK : X.K = K) (kt : KitT K T f) : CallR X (.builtin "isinstance") (rIsD K T f) := by
 subst hK
 intro pins s σ H xs us Q I r h
 obtain ⟨x, d, rfl, hd, nd, q⟩ := h
 obtain ⟨u, w', rfl, r1, r2⟩ := vals2 r
 cases r2
 have k := kt d nd
 cases hd with
 | non => exact isinst_ok I r1 .non k fun tk => ⟨.bl _, H, I.tok _, rfl, q⟩
 | bl i => exact isinst_ok I r1 (.bl _) k fun tk => ⟨.bl _, H, I.tok _, rfl, q⟩
 | int i => exact isinst_ok I r1 (.int _) k fun tk => ⟨.bl _, H, I.tok _, rfl, q⟩
 | str i => exact isinst_ok I r1 (.str _) k fun tk => ⟨.bl _, H, I.tok _, rfl, q⟩
 | lst h _ => exact isinst_ok I r1 (.lst h) k fun tk => ⟨.bl _, H, I.tok _, rfl, q⟩
 | tup h _ =>
  cases r1
  obtain ⟨its, rv, ⟨o, e, c, n, d⟩, _⟩ := I.tuple h
  exact PySem.W.kia_one PySem.W.kitx_tuple I.kIn ⟨o, e, c⟩ k (fun z => nomatch z) fun tk => ⟨.bl _, H, I.tok _, rfl, q⟩
 | scr _ _ => cases nd
 | opq _ => cases nd
 | dct _ _ => cases nd
def dIs (f : D -> Bool) (ta : TD) : TD := fun ρ Q Xd => ta ρ (fun d _ => noDict d = true /\ Q (.bool (f d)) .old) Xd
theorem dpe_isi {T : String} {f : D -> Bool} {y : Str} {p p2 : Pos} (hK : X.K = K) (kt : KitT K T f) (hg : Gl X "isinstance") (hm : X.mg "isinstance" = none) (ha : DE X K E a ta) (hg2 : Gl X y) (hm2 : X.mg y = none) (hv2 : bootBuiltins y = some (.type T)) (hn : y ≠ "__name__" := by decide) (hd : (y == ("__debug__" : Str)) = false := by decide)
  (he : starEach [a, .Name y p2] X.env = (false, eval a X.env) :: starEach [.Name y p2] X.env := by rfl) (hpl : (backTo pos (starEach [.Name y p2] X.env)).any (·.1) = false := by rfl) : DE X K E (.Call (.Name "isinstance" p) [a, .Name y p2] [] pos) (dIs f ta) :=
 ⟨qe_imp (qpe_callB (call_isD hK kt) hg hm (by decide +kernel) (qpa_cons ha.q (hs := he) (qpa_cons (qpe_bltn (v := .ty T) hg2 hm2 hv2 rfl hn hd) qpa_nil)) (by decide) (by decide) he hpl) fun σ H Q h => by
  obtain ⟨H0, ν, ρ, Qd, Xd, S, h1, q, x⟩ := h
  refine ⟨H0, ν, ρ, _, Xd, S, h1, fun d k v H' g1 g2 g3 => ?_, x⟩
  exact ⟨v, d, rfl, g3.den, g1.1, q _ _ _ _ g1.2 g2 (.bl _)⟩⟩
def scalD : D -> Bool
 | .none => true
 | .bool _ => true
 | .int _ => true
 | .str _ => true
 | _ => false
theorem flatV_of {H : Hp} {v : V} {d : D} (h : Dn K H v d) (s : scalD d = true) : flatV v = true := by
 cases h <;> first | rfl | simp [scalD, dctD] at s
theorem eqV_of {H : Hp} {v u : V} {d e : D} (h : Dn K H v d) (g : Dn K H u e) (s : scalD d = true) (t : scalD e = true) : eqV v u = PyData.eqv d e := by
 cases h <;> first | (simp [scalD, dctD] at s; done) | (cases g <;> first | (simp [scalD, dctD] at t; done) | rfl | (simp [eqV, PyData.eqv]; done))
def inD (x : D) (xs : List D) : Bool := xs.any fun y => PyData.eqv y x
def fIn (f : Bool -> Bool) : F2 := fun d _ e _ Q => scalD d = true /\ match e with
 | .list es => es.all scalD = true /\ Q (.bool (f (inD d es))) .old
 | .tuple es => es.all scalD = true /\ Q (.bool (f (inD d es))) .old
 | _ => False
theorem in_items {H : Hp} {v : V} {d : D} (h : Dn K H v d) (s : scalD d = true) : ∀ {us : List V} {es : List D}, Dns K H us es -> es.all scalD = true -> us.all flatV = true /\ inV v us = inD d es
 | _, _, .nil, _ => ⟨rfl, rfl⟩
 | _, _, .cons g r, t => by
  rw [List.all_cons, Bool.and_eq_true] at t
  obtain ⟨h1, h2⟩ := in_items h s r t.2
  refine ⟨by rw [List.all_cons, flatV_of g t.1, h1]; rfl, ?_⟩
  unfold inV inD at h2 ⊢
  rw [List.any_cons, List.any_cons, h2, eqV_of g h t.1 s]
theorem prim_in {neg : Bool} {f : Bool -> Bool} (hf : ∀ b, f b = if neg then !b else b) : Prim2 K (rIn K neg) (fIn f) := fun Z ν Hs H x y d k e l Qf Q _ _ _ h3 h4 h5 h6 => by
 obtain ⟨h0, h5⟩ := h5
 split at h5
 ·obtain ⟨a, us, rfl, g1, g2⟩ := dns_of_lst h4.den
  obtain ⟨q1, q2⟩ := in_items h3.den h0 g2 h5.1
  refine ⟨a, us, rfl, .inl (SqL.of g1), flatV_of h3.den h0, q1, h6 _ _ _ _ h5.2 (Same.refl H) ?_⟩
  rw [q2, hf]; cases neg <;> exact .bl _
 ·obtain ⟨a, us, rfl, g1, g2⟩ := dns_of_tup h4.den
  obtain ⟨q1, q2⟩ := in_items h3.den h0 g2 h5.1
  refine ⟨a, us, rfl, .inr g1, flatV_of h3.den h0, q1, h6 _ _ _ _ h5.2 (Same.refl H) ?_⟩
  rw [q2, hf]; cases neg <;> exact .bl _
 ·exact h5.elim
theorem dop_in (hK : X.K = K) : DOp X K (compareOp .In) (fIn id) := ⟨_, op_inK K hK, prim_in fun b => rfl⟩
end
end DL
namespace DL
open PySem PySem.Spec PyProof.Rows L2
structure EndsD where
 nx : Ren -> Prop
 rt : D -> Bool -> Prop
 bk : Ren -> Prop := fun _ => False
 ct : Ren -> Prop := fun _ => False
abbrev TSD := EndsD -> Ren -> XD -> Prop
structure EndsOk (K : W.Frag) (H0 : Hp) (En : Ends) (Dd : EndsD) : Prop where
 nx : ∀ ν ρ σ H, Dd.nx ρ -> StOk K Z0 H0 ν ρ σ H -> En.nx σ H
 bk : ∀ ν ρ σ H, Dd.bk ρ -> StOk K Z0 H0 ν ρ σ H -> En.bk σ H
 ct : ∀ ν ρ σ H, Dd.ct ρ -> StOk K Z0 H0 ν ρ σ H -> En.ct σ H
 rt : ∀ d o v H, Dd.rt d o -> Same H0 H -> RR K H0 H o v d -> En.rt v H
def LS (K : W.Frag) (E : XK) (t : TSD) : TS := fun En σ H => ∃ H0 ν ρ Dd Xd, StOk K Z0 H0 ν ρ σ H /\ t Dd ρ Xd /\ EndsOk K H0 En Dd /\ ∀ C H', Xd C -> Same H0 H' -> E (.ref C) none H'
structure DS (X : Cx) (K : W.Frag) (E : XK) (s : Stmt) (t : TSD) : Prop where
 q : QS X s (LS K E t)
structure DSs (X : Cx) (K : W.Frag) (E : XK) (s : List Stmt) (t : TSD) : Prop where
 q : QSs X s (LS K E t)
def setK (ρ : Ren) (i : Nat) (d : D) (k : Kd) : Ren := if flat d = true then ρ.set i (some (false, d)) else match k with
 | .own s => (dropS ρ s).set i (some (true, d))
 | .old => ρ.set i (some (false, d))
 | .mix => (frz ρ).set i (some (false, d))
section
variable {K : W.Frag} {H0 H H' : Hp} {ν : Nat -> List Addr} {ρ : Ren} {σ : L2.St} {v : V} {d : D} {k : Kd}
theorem hid_z0 {H : Hp} : Same H (hid (Hd Z0 fun _ => []) H) := fun a o h => hid_of h fun z => by
 rcases z with z | ⟨_, z⟩
 ·exact z
 ·cases z
theorem StOk.setK (S : StOk K Z0 H0 ν ρ σ H) (e : Same H H') (h : Res K Z0 ν H H' k v d) (i : Nat) : ∃ ν', StOk K Z0 H0 ν' (setK ρ i d k) (σ.set i (some v)) H' := by
 unfold DL.setK
 split
 ·exact ⟨_, (S.same e).setOld i (den_hid (S.same e).hl h.den ‹_›)⟩
 ·cases k with
  | own s =>
   obtain ⟨ms, h1, h2, h3⟩ := h
   exact ⟨_, S.setOwn s i e h1 h2 h3⟩
  | old => exact ⟨_, (S.same e).setOld i h⟩
  | mix => exact ⟨_, (S.same e).frz.setOld i (Dn.same hid_z0 h)⟩
def rtK (d : D) (k : Kd) : Bool := flat d || match k with
 | .own _ => true
 | _ => false
theorem rr_of (S : StOk K Z0 H0 ν ρ σ H) (e : Same H H') (h : Res K Z0 ν H H' k v d) : RR K H0 H' (rtK d k) v d := by
 unfold rtK
 cases hf : flat d with
 | true => exact ⟨[], ow_flat h.den hf, List.nodup_nil, fun _ z => by cases z⟩
 | false =>
  cases k with
  | own s =>
   obtain ⟨ms, h1, h2, h3⟩ := h
   refine ⟨ms, h1, h2, fun a ha => ?_⟩
   rcases h3 a ha with z | ⟨j, _, z⟩
   ·exact S.sm.gone z
   ·exact (S.fr j a z).1
  | old => exact Dn.same hid_same h
  | mix => exact h
theorem StOk.low {Z : Addr -> Prop} {H1 : Hp} (S : StOk K Z H1 ν ρ σ H) (e : Same H0 H1) : StOk K Z H0 ν ρ σ H :=
 ⟨e.trans S.sm, S.len, S.sl, S.nd, S.dj, fun i a h => ⟨e.gone (S.fr i a h).1, (S.fr i a h).2⟩, fun a h => ⟨e.gone (S.zf a h).1, (S.zf a h).2⟩⟩
theorem StOk.base {Z : Addr -> Prop} (S : StOk K Z H0 ν ρ σ H) : Same H0 (hid (Hd Z ν) H) := fun a o h => hid_of (S.sm a o h) fun z => by
 rcases z with z | ⟨i, z⟩
 ·rw [(S.zf a z).1] at h; cases h
 ·rw [(S.fr i a z).1] at h; cases h
theorem StOk.high {Z : Addr -> Prop} (S : StOk K Z H0 ν ρ σ H) : StOk K Z (hid (Hd Z ν) H) ν ρ σ H :=
 ⟨hid_same, S.len, S.sl, S.nd, S.dj, fun i a h => ⟨by unfold hid; rw [if_pos (.inr ⟨i, h⟩)], (S.fr i a h).2⟩, fun a h => ⟨by unfold hid; rw [if_pos (.inl h)], (S.zf a h).2⟩⟩
theorem RR.low {H1 : Hp} {o : Bool} (h : RR K H1 H o v d) (e : Same H0 H1) : RR K H0 H o v d := by
 cases o with
 | true => obtain ⟨ms, h1, h2, h3⟩ := h; exact ⟨ms, h1, h2, fun a ha => e.gone (h3 a ha)⟩
 | false => exact h
theorem EndsOk.high {En : Ends} {Dd : EndsD} {H1 : Hp} (h : EndsOk K H0 En Dd) (e : Same H0 H1) : EndsOk K H1 En Dd :=
 ⟨fun ν ρ σ H a S => h.nx ν ρ σ H a (S.low e), fun ν ρ σ H a S => h.bk ν ρ σ H a (S.low e), fun ν ρ σ H a S => h.ct ν ρ σ H a (S.low e), fun d o v H a b c => h.rt d o v H a (e.trans b) (c.low e)⟩
end
section
variable {X : Cx} {K : W.Frag} {E : XK} {pos : Pos} {a b c e : Expr} {te : TD} {tA : TDT} {t u : TSD}
def dSet (i : Nat) (te : TD) : TSD := fun Dd ρ Xd => te ρ (fun d k => Dd.nx (setK ρ i d k)) Xd
theorem dpset (i : Nat) {x : Str} {pos' : Pos} (hN : X.N.Nodup) (he : DE X K E e te) (hi : X.N[i]? = some x := by rfl) (hx : Loc X.env.scope x := by first | exact Or.inl rfl | exact Or.inr rfl) (hs : swapsWith e (some (.Name x pos')) pos.line X.env = pure false := by rfl) (hf : X.fn x = true ∨ X.env.scope.names.lookup x = some .local := by first | exact .inl rfl | exact .inr rfl | assumption) :
  DS X K E (.Assign [.Name x pos'] e pos) (dSet i te) := ⟨qs_imp (qpset i hN he.q hi hx hs hf) fun En σ H h => by
 obtain ⟨H0, ν, ρ, Dd, Xd, S, h1, ok, x⟩ := h
 refine ⟨H0, ν, ρ, _, Xd, S, h1, fun d k v H' g1 g2 g3 => ?_, x⟩
 obtain ⟨ν', S'⟩ := S.setK g2 g3 i
 exact ok.nx _ _ _ _ g1 S'⟩
def dRet (te : TD) : TSD := fun Dd ρ Xd => te ρ (fun d k => Dd.rt d (rtK d k)) Xd
theorem dps_ret (he : DE X K E e te) : DS X K E (.Return (some e) pos) (dRet te) := ⟨qs_imp (qps_ret he.q) fun En σ H h => by
 obtain ⟨H0, ν, ρ, Dd, Xd, S, h1, ok, x⟩ := h
 exact ⟨H0, ν, ρ, _, Xd, S, h1, fun d k v H' g1 g2 g3 => ok.rt _ _ _ _ g1 (S.sm.trans g2) (rr_of S g2 g3), x⟩⟩
def dNext : TSD := fun Dd ρ _ => Dd.nx ρ
def dIfS (tA : TDT) (t u : TSD) : TSD := fun Dd ρ Xd => tA ρ (fun b => if b = true then t Dd ρ Xd else u Dd ρ Xd) Xd
theorem dps_if {as bs : List Stmt} (hc : DT X K E c tA) (ha : DSs X K E as t) (hb : DSs X K E bs u) : DS X K E (.If c as bs pos) (dIfS tA t u) := ⟨qs_imp (qps_if hc.q ha.q hb.q) fun En σ H h => by
 obtain ⟨H0, ν, ρ, Dd, Xd, S, h1, ok, x⟩ := h
 refine ⟨H0, ν, ρ, _, Xd, S, h1, fun b H' g1 g2 => ?_, x⟩
 cases b with
 | true => exact ⟨H0, ν, ρ, Dd, Xd, S.same g2, g1, ok, x⟩
 | false => exact ⟨H0, ν, ρ, Dd, Xd, S.same g2, g1, ok, x⟩⟩
def dSeq (t u : TSD) : TSD := fun Dd ρ Xd => t { Dd with nx := fun ρ' => u Dd ρ' Xd } ρ Xd
theorem dpss_nil : DSs X K E [] dNext := ⟨qss_imp qpss_nil fun En σ H h => by
 obtain ⟨H0, ν, ρ, Dd, Xd, S, h1, ok, x⟩ := h
 exact ok.nx _ _ _ _ h1 S⟩
theorem dpss_one {st : Stmt} (h1 : DS X K E st t) : DSs X K E [st] t := ⟨qpss_one h1.q⟩
theorem dpss_cons {st : Stmt} {rest : List Stmt} (h1 : DS X K E st t) (h2 : DSs X K E rest u) : DSs X K E (st :: rest) (dSeq t u) := ⟨qss_imp (qpss_cons h1.q h2.q) fun En σ H h => by
 obtain ⟨H0, ν, ρ, Dd, Xd, S, h1, ok, x⟩ := h
 exact ⟨H0, ν, ρ, _, Xd, S, h1, ⟨fun ν' ρ' σ' H' a S' => ⟨H0, ν', ρ', Dd, Xd, S', a, ok, x⟩, ok.bk, ok.ct, ok.rt⟩, x⟩⟩
def dFrz (i : Nat) (t : TSD) : TSD := fun Dd ρ Xd => t Dd (frz1 i ρ) Xd
theorem dps_frz (i : Nat) {s : Stmt} (h : DS X K E s t) : DS X K E s (dFrz i t) := ⟨qs_imp h.q fun En σ H h => by
 obtain ⟨H0, ν, ρ, Dd, Xd, S, h1, ok, x⟩ := h
 exact ⟨H0, _, _, Dd, Xd, S.frz1 i, h1, ok, x⟩⟩
def dWhile (tc : TDT) (tb : TSD) : TSD := fun Dd ρ Xd => ∃ W : Nat -> Ren -> Prop, (∃ m, W m ρ) /\ ∀ m ρ, W m ρ -> tc ρ (fun b => if b = true then tb { Dd with nx := fun ρ' => ∃ m', m' < m /\ W m' ρ', ct := fun ρ' => ∃ m', m' < m /\ W m' ρ', bk := Dd.nx } ρ Xd else Dd.nx ρ) Xd
theorem dps_while {body : List Stmt} {tb : TSD} (hp : PassesOwn (model X.prog X.w) X.A X.env X.xe) (hc : DT X K E c tA) (hb : DSs X K E body tb) : DS X K E (.While c body [] pos) (dWhile tA tb) := ⟨qs_imp (qps_while hp hc.q hb.q) fun En σ H h => by
 obtain ⟨H0, ν, ρ, Dd, Xd, S, ⟨W, ⟨m0, w0⟩, turn⟩, ok, x⟩ := h
 refine ⟨fun m σ H => ∃ ν ρ, StOk K Z0 H0 ν ρ σ H /\ W m ρ, ⟨m0, ν, ρ, S, w0⟩, ?_⟩
 rintro m σ1 H1 ⟨ν1, ρ1, S1, w1⟩
 refine ⟨H0, ν1, ρ1, _, Xd, S1, turn m ρ1 w1, fun b H' g1 g2 => ?_, x⟩
 cases b with
 | true =>
  rw [if_pos rfl] at g1 ⊢
  refine ⟨fun σ' H' => ∃ m', m' < m /\ ∃ ν ρ, StOk K Z0 H0 ν ρ σ' H' /\ W m' ρ, fun σ' H' z => z, H0, ν1, ρ1, _, Xd, S1.same g2, g1, ⟨fun ν ρ σ H a S => ?_, fun ν ρ σ H a S => ok.nx ν ρ σ H a S, fun ν ρ σ H a S => ?_, ok.rt⟩, x⟩
  ·obtain ⟨m', hm, w'⟩ := a; exact ⟨m', hm, ν, ρ, S, w'⟩
  ·obtain ⟨m', hm, w'⟩ := a; exact ⟨m', hm, ν, ρ, S, w'⟩
 | false =>
  rw [if_neg Bool.false_ne_true] at g1 ⊢
  exact ok.nx _ _ _ _ g1 (S1.same g2)⟩
end
end DL
namespace DL
open PySem PySem.Spec PyProof.Rows L2
abbrev TGD := D -> Ren -> (Ren -> Prop) -> Prop
abbrev TGsD := List D -> Ren -> (Ren -> Prop) -> Prop
def noOwn (ρ : Ren) : Prop := ∀ (i : Nat) d, ρ[i]? ≠ some (some (true, d))
theorem noOwn_set {ρ : Ren} (h : noOwn ρ) (i : Nat) (d : D) : noOwn (ρ.set i (some (false, d))) := fun j e z => by
 rcases set_get z with ⟨_, z, _⟩ | ⟨_, z⟩
 ·cases z
 ·exact h j e z
def Agr (T : List Nat) (ρ ρ' : Ren) : Prop := ρ'.length = ρ.length /\ ∀ i, i ∉ T -> ρ'[i]? = ρ[i]?
def BndOk (K : W.Frag) (g : TG) (T : List Nat) (bnd : TGD) : Prop := ∀ (H0 : Hp) (ν : Nat -> List Addr) (ρ : Ren) (σ : L2.St) (H : Hp) (v : V) (d : D) (Qd : Ren -> Prop) (Q : L2.St -> Hp -> Prop), StOk K Z0 H0 ν ρ σ H -> Dn K (hid (Hd Z0 ν) H) v d -> bnd d ρ Qd ->
 (∀ ρ' σ', Qd ρ' -> StOk K Z0 H0 ν ρ' σ' H -> Agr T ρ ρ' -> (noOwn ρ -> noOwn ρ') -> Q σ' H) -> g v σ H Q
def BndsOk (K : W.Frag) (g : TGs) (T : List Nat) (bnd : TGsD) : Prop := ∀ (H0 : Hp) (ν : Nat -> List Addr) (ρ : Ren) (σ : L2.St) (H : Hp) (vs : List V) (ds : List D) (Qd : Ren -> Prop) (Q : L2.St -> Hp -> Prop), StOk K Z0 H0 ν ρ σ H -> Dns K (hid (Hd Z0 ν) H) vs ds -> bnd ds ρ Qd ->
 (∀ ρ' σ', Qd ρ' -> StOk K Z0 H0 ν ρ' σ' H -> Agr T ρ ρ' -> (noOwn ρ -> noOwn ρ') -> Q σ' H) -> g vs σ H Q
structure DG (X : Cx) (K : W.Frag) (tg : Expr) (T : List Nat) (bnd : TGD) : Prop where
 ex : ∃ g, QG X tg g /\ BndOk K g T bnd
structure DGs (X : Cx) (K : W.Frag) (tg : List Expr) (T : List Nat) (bnd : TGsD) : Prop where
 ex : ∃ g, QGs X tg g /\ BndsOk K g T bnd
def bName (i : Nat) : TGD := fun d ρ Q => Q (ρ.set i (some (false, d)))
def bNil : TGsD := fun ds ρ Q => ds = [] /\ Q ρ
def bCons (b : TGD) (bs : TGsD) : TGsD := fun ds ρ Q => match ds with
 | d :: r => b d ρ fun ρ' => bs r ρ' Q
 | [] => False
def bTup (n : Nat) (bs : TGsD) : TGD := fun d ρ Q => match d with
 | .tuple ds => ds.length = n /\ bs ds ρ Q
 | _ => False
section
variable {X : Cx} {K : W.Frag} {E : XK} {pos : Pos}
theorem Agr.trans {T U : List Nat} {a b c : Ren} (h : Agr T a b) (g : Agr U b c) : Agr (T ++ U) a c := ⟨g.1.trans h.1, fun i hi => by
 rw [List.mem_append, not_or] at hi
 rw [g.2 i hi.2, h.2 i hi.1]⟩
theorem dpgn (i : Nat) {x : Str} (hN : X.N.Nodup) (hi : X.N[i]? = some x := by rfl) (hx : Loc X.env.scope x := by first | exact Or.inl rfl | exact Or.inr rfl) (hf : X.fn x = true ∨ X.env.scope.names.lookup x = some .local := by first | exact .inl rfl | exact .inr rfl | assumption) : DG X K (.Name x pos) [i] (bName i) :=
 ⟨_, qpgn i hN hi hx hf, fun H0 ν ρ σ H v d Qd Q S h b q => q _ _ b (S.setOld i h) ⟨List.length_set, fun j hj => List.getElem?_set_ne (by simpa using Ne.symm (by simpa using hj))⟩ fun n => noOwn_set n i d⟩
theorem dpgs_nil : DGs X K [] [] bNil := ⟨_, qpgs_nil, fun H0 ν ρ σ H vs ds Qd Q S h b q => by
 obtain ⟨rfl, b⟩ := b
 cases h
 exact ⟨rfl, q _ _ b S ⟨rfl, fun _ _ => rfl⟩ id⟩⟩
theorem dpgs_cons {e : Expr} {es : List Expr} {T U : List Nat} {b : TGD} {bs : TGsD} (h1 : DG X K e T b) (h2 : DGs X K es U bs) (hs : (assignEach (e :: es) X.env).map (·.2) = assign e X.env :: (assignEach es X.env).map (·.2) := by rfl) : DGs X K (e :: es) (T ++ U) (bCons b bs) := by
 obtain ⟨g, q1, o1⟩ := h1.ex
 obtain ⟨gs, q2, o2⟩ := h2.ex
 refine ⟨_, qpgs_cons q1 q2 hs, fun H0 ν ρ σ H vs ds Qd Q S h b q => ?_⟩
 cases h with
 | nil => exact b.elim
 | cons h r =>
  refine ⟨_, _, rfl, o1 H0 ν ρ σ H _ _ _ _ S h b fun ρ' σ' b' S' A n1 => ?_⟩
  exact o2 H0 ν ρ' σ' H _ _ _ _ S' r b' fun ρ'' σ'' b'' S'' A' n2 => q _ _ b'' S'' (A.trans A') fun n => n2 (n1 n)
theorem dpg_tup (n : Nat) {es : List Expr} {k : Nat} {T : List Nat} {bs : TGsD} (hK : X.K = K) (hc : X.calm = true) (h : DGs X K es T bs) (hn : (assignEach es X.env).length = n) (hst : (assignEach es X.env).findIdx? (·.1) = none) : DG X K (.Tuple es k pos) T (bTup n bs) := by
 obtain ⟨gs, q1, o1⟩ := h.ex
 refine ⟨_, qpg_tupK K n hK hc q1 hn hst, fun H0 ν ρ σ H v d Qd Q S h b q => ?_⟩
 unfold bTup at b
 split at b
 ·obtain ⟨a, us, rfl, g1, g2⟩ := dns_of_tup h
  exact ⟨a, us, rfl, Same.tup hid_same g1, by rw [g2.length]; exact b.1, o1 H0 ν ρ σ H _ _ _ _ S g2 b.2 q⟩
 ·exact b.elim
end
def ItOk (K : W.Frag) (F0 : Hp) (J : It) (ds : List D) : Prop := ∀ (W : Addr -> Prop) (H2 : Hp), (∀ a, W a -> Mu H2 a) -> Same F0 (hid W H2) ->
 J.stop ds.length H2 /\ ∀ i d, ds[i]? = some d -> J.go i H2 /\ ∀ x H', J.yld i H2 x H' -> Same H2 H' /\ Dn K (hid W H') x d
abbrev TDI := Ren -> (List D -> Bool -> Prop) -> XD -> Prop
noncomputable def fz (b : Bool) (ν : Nat -> List Addr) (H : Hp) : Hp := if b = true then hid (Hd Z0 ν) H else H
def LI (K : W.Frag) (E : XK) (t : TDI) : TI := fun σ H R => ∃ H0 ν ρ Qd Xd, StOk K Z0 H0 ν ρ σ H /\ t ρ Qd Xd /\ (∀ ds b J H1, Qd ds b -> Same H H1 -> ItOk K (fz b ν H1) J ds -> R J H1) /\ ∀ C H', Xd C -> Same H0 H' -> E (.ref C) none H'
structure DI (X : Cx) (K : W.Frag) (E : XK) (tg e : Expr) (t : TDI) : Prop where
 q : QI X tg e (LI K E t)
theorem qi_imp {X : Cx} {tg e : Expr} {t t' : TI} (h : QI X tg e t) (i : ∀ σ H Q, t' σ H Q -> t σ H Q) : QI X tg e t' := ⟨fun pins s σ H Q I w => h.h pins s σ H Q I (i σ H Q w)⟩
section
variable {X : Cx} {K : W.Frag} {E : XK} {pos : Pos} {tg l : Expr} {te : TD} {ta : TDA}
theorem itok_list {F0 : Hp} {a : Addr} {us : List V} {ds : List D} (h : F0 a = some (.lst us)) (r : Dns K F0 us ds) : ItOk K F0 (Itl K a) ds := fun W H2 hl sm => by
 have h2 : H2 a = some (.lst us) := (of_hid (sm _ _ h)).1
 refine ⟨⟨us, SqL.of h2, by rw [r.length]; exact Nat.le_refl _⟩, fun i d hd => ?_⟩
 obtain ⟨u, h3, h4⟩ := r.get hd
 refine ⟨⟨us, u, SqL.of h2, h3⟩, fun x H' y => ?_⟩
 obtain ⟨rfl, y⟩ := y
 have := y us (SqL.of h2)
 rw [h3] at this; cases this
 exact ⟨Same.refl _, Dn.same sm h4⟩
theorem res_fz {ν : Nat -> List Addr} {Hs H : Hp} {k : Kd} {v : V} {d : D} (hl : ∀ a, Hd Z0 ν a -> Mu H a) (hn : ∀ a, Hd Z0 ν a -> Mu Hs a) (h : Res K Z0 ν Hs H k v d) : Dn K (fz k.isOld ν H) v d := by
 unfold fz
 split
 ·exact h.old hl hn ‹_›
 ·exact h.den
def iL (te : TD) : TDI := fun ρ Q Xd => te ρ (fun d k => match d with
 | .list ds => Q ds k.isOld
 | _ => False) Xd
theorem dpi_list (hK : X.K = K) (hl : DE X K E l te) : DI X K E tg l (iL te) := ⟨qi_imp (qpi_listK K hK hl.q) fun σ H R h => by
 obtain ⟨H0, ν, ρ, Qd, Xd, S, h1, q, x⟩ := h
 refine ⟨H0, ν, ρ, _, Xd, S, h1, fun d k v H' g1 g2 g3 => ?_, x⟩
 cases d with
 | list ds =>
  have hf := res_fz (S.same g2).hl S.hl g3
  obtain ⟨a, us, rfl, q1, q2⟩ := dns_of_lst hf
  have q0 : H' a = some (.lst us) := by unfold fz at q1; split at q1; exact (of_hid q1).1; exact q1
  exact ⟨a, rfl, ⟨us, SqL.of q0⟩, q ds _ _ H' g1 g2 (itok_list q1 q2)⟩
 | _ => exact g1.elim⟩
def rngD (lo : Int) (n : Nat) : List D := (List.range n).map fun (i : Nat) => PyData.int (lo + i)
theorem itok_rng {F0 : Hp} {lo : Int} {n : Nat} : ItOk K F0 (Itr lo n) (rngD lo n) := fun W H2 hl sm => by
 refine ⟨?_, fun i d hd => ?_⟩
 ·show n <= _
  unfold rngD; rw [List.length_map, List.length_range]; exact Nat.le_refl _
 ·unfold rngD at hd
  rw [List.getElem?_map] at hd
  cases e : (List.range n)[i]? with
  | none => rw [e] at hd; cases hd
  | some j =>
   rw [e] at hd; cases hd
   obtain ⟨h1, h2⟩ := List.getElem?_eq_some_iff.mp e
   rw [List.getElem_range] at h2
   subst h2
   rw [List.length_range] at h1
   refine ⟨h1, fun x H' y => ?_⟩
   obtain ⟨rfl, rfl⟩ := y
   exact ⟨Same.refl _, .int _⟩
def iR1 (ta : TDA) : TDI := fun ρ Q Xd => ta ρ (fun ds _ => match ds with
 | [.int j] => -(2 ^ 62) <= j /\ j < 2 ^ 62 /\ Q (rngD 0 j.toNat) true
 | _ => False) Xd
theorem dpi_range1 {a : Expr} {p : Pos} (hg : Gl X "range") (hm : X.mg "range" = none) (ha : DA X K E [a] ta) (hs : starEach [a] X.env = [(false, eval a X.env)] := by rfl) : DI X K E tg (.Call (.Name "range" p) [a] [] pos) (iR1 ta) := ⟨qi_imp (qpi_range1 hg hm ha.q hs) fun σ H R h => by
 obtain ⟨H0, ν, ρ, Qd, Xd, S, h1, q, x⟩ := h
 refine ⟨H0, ν, ρ, _, Xd, S, h1, fun ds k vs H' g1 g2 g3 => ?_, x⟩
 split at g1
 ·obtain ⟨v, rfl, h2⟩ := dns1 g3.dens
  exact ⟨_, by rw [dn_int h2], g1.1, g1.2.1, q _ _ _ H' g1.2.2 g2 itok_rng⟩
 ·exact g1.elim⟩
end
end DL
namespace DL
open PySem PySem.Spec PyProof.Rows L2
section
variable {X : Cx} {K : W.Frag} {E : XK} {pos : Pos} {tg l : Expr} {te : TD} {ta : TDA}
def dFor (ti : TDI) (bnd : TGD) (tb : TSD) : TSD := fun Dd ρ Xd => ti ρ (fun ds b => b = true /\ ∃ W : Nat -> Ren -> Prop, W 0 ρ /\ (∀ i d ρ, ds[i]? = some d -> W i ρ -> bnd d ρ fun ρ' => tb { Dd with nx := W (i + 1), ct := W (i + 1), bk := Dd.nx } ρ' Xd) /\ ∀ ρ, W ds.length ρ -> Dd.nx ρ) Xd
theorem dps_for {iter : Expr} {body : List Stmt} {ti : TDI} {T : List Nat} {bnd : TGD} {tb : TSD} (hp : PassesOwn (model X.prog X.w) X.A X.env X.xe) (hc : X.calm = true) (hi : DI X K E tg iter ti) (hg : DG X K tg T bnd) (hb : DSs X K E body tb) (hs : ∀ x, foldedSetIterable iter X.env x = pure x := by intro _; rfl) :
  DS X K E (.For tg iter body [] pos) (dFor ti bnd tb) := by
 obtain ⟨g, qg, og⟩ := hg.ex
 refine ⟨qs_imp (qps_for hp hc hi.q qg hb.q hs) fun En σ H h => ?_⟩
 obtain ⟨H0, ν, ρ, Dd, Xd, S, h1, ok, x⟩ := h
 refine ⟨H0, ν, ρ, _, Xd, S, h1, fun ds b J H1 g1 e1 it => ?_, x⟩
 obtain ⟨rfl, W, w0, step, done⟩ := g1
 have S1 := (S.same e1).high
 have eb : Same H0 (hid (Hd Z0 ν) H1) := (S.same e1).base
 have ok1 := ok.high eb
 have x1 : ∀ C H', Xd C -> Same (hid (Hd Z0 ν) H1) H' -> E (.ref C) none H' := fun C H' a b => x C H' a (eb.trans b)
 have it : ItOk K (hid (Hd Z0 ν) H1) J ds := it
 refine ⟨fun i m σ H => m = ds.length - i /\ i <= ds.length /\ ∃ ν' ρ', StOk K Z0 (hid (Hd Z0 ν) H1) ν' ρ' σ H /\ W i ρ', ⟨ds.length, by simp, Nat.zero_le _, ν, ρ, S1, w0⟩, ?_⟩
 rintro i m σ2 H2 ⟨rfl, hi, ν2, ρ2, S2, w2⟩
 obtain ⟨i1, i2⟩ := it (Hd Z0 ν2) H2 S2.hl S2.base
 by_cases hlt : i < ds.length
 ·obtain ⟨j1, j2⟩ := i2 i ds[i] (List.getElem?_eq_getElem hlt)
  refine .inr ⟨j1, fun σ' H' => ∃ ν' ρ', StOk K Z0 (hid (Hd Z0 ν) H1) ν' ρ' σ' H' /\ W (i + 1) ρ', fun σ' H' ⟨ν', ρ', S', w'⟩ => ⟨_, by omega, rfl, hlt, ν', ρ', S', w'⟩, fun y H' hy => ?_⟩
  obtain ⟨k1, k2⟩ := j2 y H' hy
  refine og _ ν2 ρ2 σ2 H' y _ _ _ (S2.same k1) k2 (step i _ ρ2 (List.getElem?_eq_getElem hlt) w2) fun ρ3 σ3 b3 S3 A _ => ?_
  exact ⟨_, ν2, ρ3, _, Xd, S3, b3, ⟨fun ν ρ σ H a S => ⟨ν, ρ, S, a⟩, fun ν ρ σ H a S => ok1.nx ν ρ σ H a S, fun ν ρ σ H a S => ⟨ν, ρ, S, a⟩, ok1.rt⟩, x1⟩
 ·have e : i = ds.length := by omega
  subst e
  exact .inl ⟨i1, ok1.nx _ _ _ _ (done ρ2 w2) S2⟩
end
end DL
namespace DL
open PySem PySem.Spec PyProof.Rows L2
abbrev Els := List (D × Bool)
abbrev TB := Ren -> Els -> (Els -> Prop) -> Prop
def Xf : XD := fun _ => False
structure In (K : W.Frag) (Hs Hm H0 : Hp) (ν : Nat -> List Addr) (acc : Addr) (ρ : Ren) (σ : L2.St) (H : Hp) (es : Els) : Prop where
 st : StOk K Z0 H0 ν ρ σ H
 sm : Same Hm H
 nm : Hm acc = none
 hs : ∃ o, Hs acc = some o
 sh : ∀ a, H a = none -> Hs a = none
 hd : ∃ j, acc ∈ ν j
 no : noOwn ρ
 ac : ∃ us, H acc = some (.lst us) /\ Dns K (hid (Hd Z0 ν) H) us (es.map (·.1)) /\ (es.all (·.2) = true -> ∃ ms, Ows K H us (es.map (·.1)) ms /\ ms.Nodup /\ ∀ a ∈ ms, Hs a = none)
section
variable {K : W.Frag} {Hs Hm H0 H H' : Hp} {ν : Nat -> List Addr} {acc : Addr} {ρ ρ' : Ren} {σ : L2.St} {es : Els}
theorem In.same (I : In K Hs Hm H0 ν acc ρ σ H es) (e : Same H H') : In K Hs Hm H0 ν acc ρ σ H' es := by
 obtain ⟨us, h1, h2, h3⟩ := I.ac
 refine ⟨I.st.same e, I.sm.trans e, I.nm, I.hs, fun a h => I.sh a (e.gone h), I.hd, I.no, us, e _ _ h1, Dns.same (hid_mono e) h2, fun q => ?_⟩
 obtain ⟨ms, g1, g2, g3⟩ := h3 q
 exact ⟨ms, g1.same e, g2, g3⟩
theorem In.ren {σ' : L2.St} (I : In K Hs Hm H0 ν acc ρ σ H es) (S : StOk K Z0 H0 ν ρ' σ' H) (no : noOwn ρ') : In K Hs Hm H0 ν acc ρ' σ' H es := ⟨S, I.sm, I.nm, I.hs, I.sh, I.hd, no, I.ac⟩
theorem ows_snoc {vs : List V} {ds : List D} {v : V} {d : D} {ns ms : List Addr} (h : Ow K H v d ns) (r : Ows K H vs ds ms) : Ows K H (vs ++ [v]) (ds ++ [d]) (ms ++ ns) := by
 induction vs generalizing ds ms with
 | nil =>
  cases r
  rw [List.nil_append, List.nil_append, List.nil_append]
  have := Ows.cons h (.nil (K := K) (H := H))
  rw [List.append_nil] at this; exact this
 | cons u us ih =>
  cases r with
  | cons a b => rw [List.append_assoc]; exact .cons a (ih b)
theorem StOk.updH {ws : List V} (S : StOk K Z0 H0 ν ρ σ H) (hd : ∃ j, acc ∈ ν j) (no : noOwn ρ) : StOk K Z0 H0 ν ρ σ (upd H acc (.lst ws)) where
 sm := by obtain ⟨j, hj⟩ := hd; exact S.sm.put (S.fr j acc hj).1
 len := S.len
 sl := fun i b d h => by
  obtain ⟨v, h1, h2⟩ := S.sl i b d h
  refine ⟨v, h1, ?_⟩
  cases b with
  | true => exact absurd h (no i d)
  | false =>
   refine Dn.same (fun a o ha => ?_) h2
   obtain ⟨g1, g2⟩ := of_hid ha
   have : a ≠ acc := fun z => g2 (.inr (by rw [z]; exact hd))
   exact hid_of (by rw [upd_ne this]; exact g1) g2
 nd := S.nd
 dj := S.dj
 fr := fun i a h => by
  obtain ⟨g1, g2, us, g3⟩ := S.fr i a h
  by_cases z : a = acc
  ·subst z; exact ⟨g1, g2, Mu.lst upd_same⟩
  ·exact ⟨g1, g2, us, by rw [upd_ne z]; exact g3⟩
 zf := fun a h => h.elim
theorem In.emit {He : Hp} {k : Kd} {v : V} {d : D} (I : In K Hs Hm H0 ν acc ρ σ H es) (e : Same H H') (r : Res K Z0 ν H H' k v d) (hk : (if flat d = true then Kd.own [] else k).isOld = true) (b : Bool) (hb : b = true -> (if flat d = true then Kd.own [] else k) = .own []) :
  ∃ us, H' acc = some (.lst us) /\ us.length = es.length /\ In K Hs Hm H0 ν acc ρ σ (upd H' acc (.lst (us ++ [v]))) (es ++ [(d, b)]) := by
 have I' := I.same e
 obtain ⟨us, h1, h2, h3⟩ := I'.ac
 have hl := I'.st.hl
 have r' : Res K Z0 ν H H' (if flat d = true then Kd.own [] else k) v d := by
  split
  ·exact Res.flat r.den ‹_› hl _
  ·exact r
 generalize (if flat d = true then Kd.own [] else k) = k' at hk hb r'
 refine ⟨us, h1, by rw [h2.length, List.length_map], I'.st.updH I'.hd I'.no, I'.sm.put I'.nm, I'.nm, I'.hs, fun a h => ?_, I'.hd, I'.no, us ++ [v], upd_same, ?_, fun q => ?_⟩
 ·by_cases z : a = acc
  ·subst z; rw [upd_same] at h; cases h
  ·rw [upd_ne z] at h; exact I'.sh a h
 ·rw [List.map_append]
  have ho := r'.old hl I.st.hl hk
  have all : Dns K (hid (Hd Z0 ν) H') (us ++ [v]) (es.map (·.1) ++ [d]) := h2.append (.cons ho .nil)
  refine Dns.same (fun a o ha => ?_) all
  obtain ⟨g1, g2⟩ := of_hid ha
  have : a ≠ acc := fun z => g2 (.inr (by rw [z]; exact I'.hd))
  exact hid_of (by rw [upd_ne this]; exact g1) g2
 ·rw [List.all_append, Bool.and_eq_true] at q
  obtain ⟨q1, q2⟩ := q
  have hb' := hb (by simpa using q2)
  subst hb'
  obtain ⟨ms, g1, g2, g3⟩ := h3 q1
  obtain ⟨ns, k1, k2, k3⟩ := r'
  have frn : ∀ a ∈ ns, H a = none := fun a ha => by
   rcases k3 a ha with z | ⟨j, z, _⟩
   ·exact z
   ·cases z
  obtain ⟨us0, _, _, h30⟩ := I.ac
  obtain ⟨ms0, g10, g20, g30⟩ := h30 q1
  refine ⟨ms0 ++ ns, ?_, List.nodup_append.mpr ⟨g20, k2, fun x hx y hy e' => ?_⟩, fun a ha => ?_⟩
  ·have hu : us0 = us := by
    obtain ⟨us1, z1, _⟩ := I.ac
    have z2 := e _ _ z1
    rw [h1] at z2; cases z2
    rename_i hh _
    have : H acc = some (.lst us0) := by assumption
    rw [z1] at this; cases this; rfl
   subst hu
   rw [List.map_append]
   have hacc : ∀ a ∈ ms0 ++ ns, a ≠ acc := fun a ha z => by
    obtain ⟨o, ho⟩ := I.hs
    rcases List.mem_append.mp ha with ha | ha
    ·have := g30 a ha; rw [z, ho] at this; cases this
    ·have := I.sh a (frn a ha); rw [z, ho] at this; cases this
   refine (ows_snoc k1 (g10.same e)).kept ⟨fun a ha => upd_ne (hacc a ha), fun a o ha hn => ?_⟩
   have : a ≠ acc := fun z => by rw [z, h1] at ha; cases ha; cases (show true = false from hn)
   rw [upd_ne this]; exact ha
  ·subst e'
   obtain ⟨ws, z⟩ := g10.there x hx
   rw [frn x hy] at z; cases z
  ·rcases List.mem_append.mp ha with ha | ha
   ·exact g30 a ha
   ·exact I.sh a (frn a ha)
end
end DL
namespace DL
open PySem PySem.Spec PyProof.Rows L2
def go (f : D -> Els -> (Els -> Prop) -> Prop) : List D -> Els -> (Els -> Prop) -> Prop
 | [], es, Q => Q es
 | d :: r, es, Q => f d es fun es' => go f r es' Q
def LB (K : W.Frag) (acc : Addr) (T : List Nat) (tb : TB) : TS := fun En σ H => ∃ Hs Hm H0 ν ρ es Qd, In K Hs Hm H0 ν acc ρ σ H es /\ tb ρ es Qd /\ ∀ es' ρ' σ' H', Qd es' -> In K Hs Hm H0 ν acc ρ' σ' H' es' -> Agr T ρ ρ' -> En.nx σ' H'
def LG (K : W.Frag) (T : List Nat) (bnd : TGD) : TG := fun v σ H Q => ∃ H0 ν ρ d Qd, StOk K Z0 H0 ν ρ σ H /\ Dn K (hid (Hd Z0 ν) H) v d /\ bnd d ρ Qd /\ ∀ ρ' σ', Qd ρ' -> StOk K Z0 H0 ν ρ' σ' H -> Agr T ρ ρ' -> (noOwn ρ -> noOwn ρ') -> Q σ' H
structure DB (Y : Cx) (K : W.Frag) (elt : Expr) (gens : List Comprehension) (scope : Scope) (pos : Pos) (d : Nat) (acc : Addr) (T : List Nat) (tb : TB) : Prop where
 q : QB Y elt gens scope pos d acc (LB K acc T tb)
structure DTs (Y : Cx) (K : W.Frag) (ifs : List Expr) (t : TDT) : Prop where
 q : QTs Y ifs (LT K E0 t)
theorem qg_imp {X : Cx} {e : Expr} {g g' : TG} (h : QG X e g) (i : ∀ v σ H Q, g' v σ H Q -> g v σ H Q) : QG X e g' := ⟨fun pins s σ H x u Q I r w => h.h pins s σ H x u Q I r (i x σ H Q w)⟩
theorem qb_imp {Y : Cx} {elt : Expr} {gens : List Comprehension} {scope : Scope} {pos : Pos} {d : Nat} {acc : Addr} {t t' : TS} (h : QB Y elt gens scope pos d acc t) (i : ∀ En σ H, t' En σ H -> t En σ H) : QB Y elt gens scope pos d acc t' := ⟨fun pins s σ H D I w => h.h pins s σ H D I (i D σ H w)⟩
theorem DG.lift {X : Cx} {K : W.Frag} {tg : Expr} {T : List Nat} {bnd : TGD} (h : DG X K tg T bnd) : QG X tg (LG K T bnd) := by
 obtain ⟨g, q, o⟩ := h.ex
 refine qg_imp q fun v σ H Q w => ?_
 obtain ⟨H0, ν, ρ, d, Qd, S, h1, h2, h3⟩ := w
 exact o H0 ν ρ σ H v d Qd Q S h1 h2 h3
def dTrue : TDT := fun _ Q _ => Q true
def isOwnK : Kd -> Bool
 | .own [] => true
 | _ => false
def eff (d : D) (k : Kd) : Kd := if flat d = true then Kd.own [] else k
def dEmit (te : TD) : TB := fun ρ es Q => te ρ (fun d k => es.length < 1000000 /\ (eff d k).isOld = true /\ Q (es ++ [(d, isOwnK (eff d k))])) Xf
section
variable {Y : Cx} {K : W.Frag} {pos : Pos} {elt : Expr} {gens : List Comprehension} {scope : Scope} {dep : Nat} {acc : Addr}
theorem dpts_nil : DTs Y K [] dTrue := ⟨⟨fun pins s σ H Q I h => qpts_nil.h pins s σ H Q I (by
 obtain ⟨H0, ν, ρ, Qd, Xd, S, h1, q, x⟩ := h
 exact q _ _ h1 (Same.refl H))⟩⟩
theorem dpts_one {c : Expr} {t : TDT} (h : DT Y K E0 c t) : DTs Y K [c] t := ⟨qpts_one h.q⟩
theorem dpb_emit {te : TD} (hg : gens[dep + 1]? = none) (hx : Y.xe = fun _ _ => False) (he : DE Y K E0 elt te) : DB Y K elt gens scope pos dep acc [] (dEmit te) := ⟨qb_imp (qpb_emit hg hx he.q) fun En σ H h => by
 obtain ⟨Hs, Hm, H0, ν, ρ, es, Qd, I, h1, q⟩ := h
 refine ⟨H0, ν, ρ, _, _, I.st, h1, fun d k v H' g1 g2 g3 => ?_, fun C H' z _ => z.elim⟩
 obtain ⟨g0, g4, g5⟩ := g1
 obtain ⟨us, k1, k2, I'⟩ := I.emit (He := H) g2 g3 g4 (isOwnK (eff d k)) (fun z => by
  change eff d k = _
  generalize eff d k = k' at z
  unfold isOwnK at z
  split at z
  ·rfl
  ·cases z)
 exact ⟨us, k1, by rw [k2]; exact Nat.lt_of_lt_of_le g0 million, q _ _ _ _ g5 I' ⟨rfl, fun _ _ => rfl⟩⟩⟩
theorem noOwn_drop {ρ : Ren} {T : List Nat} (h : noOwn ρ) : noOwn (dropS ρ T) := fun i d z => h i d (dropS_get T z).2
theorem StOk.agr {H0 : Hp} {ν : Nat -> List Addr} {ρ ρ' : Ren} {σ : L2.St} {H : Hp} {T : List Nat} (S : StOk K Z0 H0 ν ρ' σ H) (A : Agr T ρ ρ') : StOk K Z0 H0 ν (dropS ρ T) σ H :=
 ⟨S.sm, by rw [dropS_len, S.len, A.1], fun i b d h => by
  obtain ⟨h1, h2⟩ := dropS_get T h
  exact S.sl i b d (by rw [A.2 i h1]; exact h2), S.nd, S.dj, S.fr, S.zf⟩
theorem Agr.drop {ρ : Ren} {T : List Nat} : Agr T ρ (dropS ρ T) := by
 refine ⟨dropS_len T ρ, fun i hi => ?_⟩
 induction T generalizing ρ with
 | nil => rfl
 | cons j r ih =>
  rw [List.mem_cons, not_or] at hi
  show (dropS (ρ.set j none) r)[i]? = _
  rw [ih hi.2, List.getElem?_set_ne (Ne.symm hi.1)]
theorem Agr.same {ρ ρ' ρ'' : Ren} {T : List Nat} (h : Agr T ρ ρ') (g : Agr T ρ' ρ'') : Agr T ρ ρ'' := ⟨g.1.trans h.1, fun i hi => by rw [g.2 i hi, h.2 i hi]⟩
theorem Agr.less {ρ ρ' : Ren} {T U : List Nat} (h : Agr T ρ ρ') (s : ∀ i ∈ T, i ∈ U) : Agr U ρ ρ' := ⟨h.1, fun i hi => h.2 i fun z => hi (s i z)⟩
end
section
variable {Y : Cx} {K : W.Frag} {pos : Pos} {elt : Expr} {gens : List Comprehension} {scope : Scope} {dep : Nat} {acc : Addr}
theorem In.agr {Hs Hm H0 H : Hp} {ν : Nat -> List Addr} {ρ ρ' : Ren} {σ : L2.St} {es : Els} {T : List Nat} (I : In K Hs Hm H0 ν acc ρ' σ H es) (A : Agr T ρ ρ') (n : noOwn ρ) : In K Hs Hm H0 ν acc (dropS ρ T) σ H es := I.ren (I.st.agr A) (noOwn_drop n)
theorem go_loop {Hs Hm H0 H F0 : Hp} {ν : Nat -> List Addr} {ρ : Ren} {σ : L2.St} {es : Els} {J : It} {ds : List D} {T Tb : List Nat} {bnd : TGD} {tif : TDT} {tb : TB} {Qd : Els -> Prop} {En : Ends} (I : In K Hs Hm H0 ν acc ρ σ H es) (it : ItOk K F0 J ds) (hf : Same F0 H0) (hT : ∀ i ∈ T, i ∈ T ++ Tb)
  (h : go (fun d es Q' => bnd d (dropS ρ (T ++ Tb)) fun ρ' => tif ρ' (fun c => if c = true then tb ρ' es Q' else Q' es) Xf) ds es Qd)
  (q : ∀ es' ρ' σ' H', Qd es' -> In K Hs Hm H0 ν acc ρ' σ' H' es' -> Agr (T ++ Tb) ρ ρ' -> En.nx σ' H') :
  loopT J (LG K T bnd) (tIfB (LT K E0 tif) (LB K acc Tb tb)) En σ H := by
 refine ⟨fun i m σ H => m = ds.length - i /\ i <= ds.length /\ ∃ es, In K Hs Hm H0 ν acc (dropS ρ (T ++ Tb)) σ H es /\ go (fun d es Q' => bnd d (dropS ρ (T ++ Tb)) fun ρ' => tif ρ' (fun c => if c = true then tb ρ' es Q' else Q' es) Xf) (ds.drop i) es Qd,
  ⟨ds.length, by simp, Nat.zero_le _, es, I.ren (I.st.agr ⟨rfl, fun _ _ => rfl⟩) (noOwn_drop I.no), by simpa using h⟩, ?_⟩
 rintro i m σ2 H2 ⟨rfl, hi, es2, I2, w2⟩
 obtain ⟨i1, i2⟩ := it (Hd Z0 ν) H2 I2.st.hl (hf.trans I2.st.base)
 by_cases hlt : i < ds.length
 ·obtain ⟨j1, j2⟩ := i2 i ds[i] (List.getElem?_eq_getElem hlt)
  rw [List.drop_eq_getElem_cons hlt] at w2
  have back : ∀ es3 ρ3 σ3 H3, go (fun d es Q' => bnd d (dropS ρ (T ++ Tb)) fun ρ' => tif ρ' (fun c => if c = true then tb ρ' es Q' else Q' es) Xf) (ds.drop (i + 1)) es3 Qd -> In K Hs Hm H0 ν acc ρ3 σ3 H3 es3 -> Agr (T ++ Tb) (dropS ρ (T ++ Tb)) ρ3 ->
    ∃ es, In K Hs Hm H0 ν acc (dropS ρ (T ++ Tb)) σ3 H3 es /\ go (fun d es Q' => bnd d (dropS ρ (T ++ Tb)) fun ρ' => tif ρ' (fun c => if c = true then tb ρ' es Q' else Q' es) Xf) (ds.drop (i + 1)) es Qd := fun es3 ρ3 σ3 H3 g3 I3 A3 => ⟨es3, I3.agr (Agr.same Agr.drop A3) I.no, g3⟩
  refine .inr ⟨j1, fun σ' H' => ∃ es, In K Hs Hm H0 ν acc (dropS ρ (T ++ Tb)) σ' H' es /\ go (fun d es Q' => bnd d (dropS ρ (T ++ Tb)) fun ρ' => tif ρ' (fun c => if c = true then tb ρ' es Q' else Q' es) Xf) (ds.drop (i + 1)) es Qd, fun σ' H' ⟨es', a, b⟩ => ⟨_, by omega, rfl, hlt, es', a, b⟩, fun y H' hy => ?_⟩
  obtain ⟨k1, k2⟩ := j2 y H' hy
  refine ⟨H0, ν, _, _, _, (I2.same k1).st, k2, w2, fun ρ3 σ3 b3 S3 A3 n3 => ?_⟩
  have I3 := (I2.same k1).ren S3 (n3 I2.no)
  have A3' : Agr (T ++ Tb) (dropS ρ (T ++ Tb)) ρ3 := A3.less hT
  refine ⟨H0, ν, ρ3, _, _, S3, b3, fun c H4 g4 e4 => ?_, fun C H' z _ => z.elim⟩
  cases c with
  | true =>
   rw [if_pos rfl] at g4 ⊢
   exact ⟨Hs, Hm, H0, ν, ρ3, es2, _, I3.same e4, g4, fun es5 ρ5 σ5 H5 g5 I5 A5 => back es5 ρ5 σ5 H5 g5 I5 (Agr.same A3' (A5.less fun i hi => List.mem_append_right _ hi))⟩
  | false =>
   rw [if_neg Bool.false_ne_true] at g4 ⊢
   exact back es2 ρ3 σ3 H4 g4 (I3.same e4) A3'
 ·have e : i = ds.length := by omega
  subst e
  rw [List.drop_length] at w2
  exact .inl ⟨i1, q es2 _ σ2 H2 w2 I2 Agr.drop⟩
end
def capR (own : List Str) (cap : List (Str × Nat)) (ρ : Ren) : Ren := own.map (fun _ => none) ++ cap.map fun p => ((ρ[p.2]?).join).map fun y => (false, y.2)
def capOk (cap : List (Str × Nat)) (ρ : Ren) : Bool := cap.all fun p => match (ρ[p.2]?).join with
 | some (true, _) => false
 | _ => true
def dLC (ti : TDI) (T : List Nat) (bnd : TGD) (tif : TDT) (tb : TB) (own : List Str) (cap : List (Str × Nat)) : TD := fun ρ Q Xd => ti ρ (fun ds b =>
 go (fun d es Q' => bnd d (dropS (capR own cap ρ) T) fun ρ' => tif ρ' (fun c => if c = true then tb ρ' es Q' else Q' es) Xf) ds [] fun es => Q (.list (es.map (·.1))) (if es.all (·.2) = true then .own [] else if (b && capOk cap ρ) = true then .old else .mix)) Xd
end DL
namespace DL
open PySem PySem.Spec PyProof.Rows L2
section
variable {K : W.Frag}
theorem capR_get {own : List Str} {cap : List (Str × Nat)} {ρ : Ren} {i : Nat} {b : Bool} {d : D} (h : (capR own cap ρ)[i]? = some (some (b, d))) : b = false /\ ∃ p c, cap[i - own.length]? = some p /\ own.length <= i /\ ρ[p.2]? = some (some (c, d)) := by
 unfold capR at h
 by_cases hi : i < own.length
 ·rw [List.getElem?_append_left (by simpa using hi), List.getElem?_map] at h
  cases e : own[i]? with
  | none => rw [e] at h; cases h
  | some _ => rw [e] at h; cases h
 ·rw [List.getElem?_append_right (by simpa using Nat.le_of_not_lt hi), List.length_map, List.getElem?_map] at h
  cases e : cap[i - own.length]? with
  | none => rw [e] at h; cases h
  | some p =>
   rw [e] at h
   simp only [Option.map_some, Option.some.injEq] at h
   cases e2 : ρ[p.2]? with
   | none => rw [e2] at h; cases h
   | some x =>
    rw [e2] at h
    cases x with
    | none => cases h
    | some y => cases h; exact ⟨rfl, p, y.1, rfl, Nat.le_of_not_lt hi, e2⟩
theorem capS_get {own : List Str} {cap : List (Str × Nat)} {σ : L2.St} {i : Nat} {p : Str × Nat} {v : V} (h : cap[i - own.length]? = some p) (hi : own.length <= i) (hv : σ[p.2]? = some (some v)) : (capS own cap σ)[i]? = some (some v) := by
 unfold capS
 rw [List.getElem?_append_right (by simpa using hi), List.length_map, List.getElem?_map, h]
 simp [hv]
theorem capR_no {own : List Str} {cap : List (Str × Nat)} {ρ : Ren} : noOwn (capR own cap ρ) := fun i d h => by
 have := (capR_get h).1; cases this
def capN (ok : Bool) (acc : Addr) (ν : Nat -> List Addr) : Nat -> List Addr
 | 0 => [acc]
 | i + 1 => if ok = true then ν i else []
theorem capN_succ {ok : Bool} {acc : Addr} {ν : Nat -> List Addr} {i : Nat} : capN ok acc ν (i + 1) = if ok = true then ν i else [] := rfl
theorem lc_start {own : List Str} {cap : List (Str × Nat)} {H0 H1 : Hp} {ν : Nat -> List Addr} {ρ : Ren} {σ : L2.St} {acc : Addr} (S : StOk K Z0 H0 ν ρ σ H1) (ha : H1 acc = none) (ok : Bool) (hok : ok = true -> capOk cap ρ = true) :
  In K (upd H1 acc (.lst [])) H1 (fz ok ν H1) (capN ok acc ν) acc (capR own cap ρ) (capS own cap σ) (upd H1 acc (.lst [])) [] := by
 have sm : Same H1 (upd H1 acc (.lst [])) := Same.new ha
 have fzs : Same (fz ok ν H1) H1 := by unfold fz; split; exact hid_same; exact Same.refl _
 have nacc : ∀ i, acc ∉ ν i := fun i z => by obtain ⟨_, _, us, q⟩ := S.fr i acc z; rw [ha] at q; cases q
 refine ⟨⟨fzs.trans sm, ?_, ?_, ?_, ?_, ?_, fun a z => z.elim⟩, sm, ha, ⟨_, upd_same⟩, fun a h => h, ⟨0, by simp [capN]⟩, capR_no, [], upd_same, .nil, fun _ => ⟨[], .nil, List.nodup_nil, fun _ z => by cases z⟩⟩
 ·unfold capS capR; simp
 ·intro i b d h
  obtain ⟨rfl, p, c, h1, h2, h3⟩ := capR_get h
  obtain ⟨v, g1, g2⟩ := S.sl p.2 c d h3
  refine ⟨v, capS_get h1 h2 g1, ?_⟩
  cases ok with
  | true =>
   have hc := hok rfl
   unfold capOk at hc
   have hc := List.all_eq_true.mp hc p (List.mem_of_getElem? h1)
   rw [h3] at hc
   cases c with
   | true => cases hc
   | false =>
    refine Dn.same (fun a o q => ?_) (show Dn K (hid (Hd Z0 ν) H1) v d from g2)
    obtain ⟨q1, q2⟩ := of_hid q
    refine hid_of (sm _ _ q1) fun z => ?_
    rcases z with z | ⟨j, z⟩
    ·exact z
    ·cases j with
     | zero => rw [show capN true acc ν 0 = [acc] from rfl, List.mem_singleton] at z; rw [z, ha] at q1; cases q1
     | succ j => exact q2 (.inr ⟨j, z⟩)
  | false =>
   have gd : Dn K H1 v d := by
    cases c with
    | true => exact Ow.den g2
    | false => exact Dn.same hid_same g2
   refine Dn.same (fun a o q => ?_) gd
   refine hid_of (sm _ _ q) fun z => ?_
   rcases z with z | ⟨j, z⟩
   ·exact z
   ·cases j with
    | zero => rw [show capN false acc ν 0 = [acc] from rfl, List.mem_singleton] at z; rw [z, ha] at q; cases q
    | succ j => cases z
 ·intro i
  cases i with
  | zero => simp [capN]
  | succ i => rw [capN_succ]; split; exact S.nd i; exact List.nodup_nil
 ·intro i j a hi hj
  cases i with
  | zero =>
   have e : a = acc := by simpa [capN] using hi
   cases j with
   | zero => rfl
   | succ j =>
    rw [capN_succ] at hj
    split at hj
    ·rw [e] at hj; exact absurd hj (nacc j)
    ·cases hj
  | succ i =>
   rw [capN_succ] at hi
   split at hi
   case isFalse => cases hi
   case isTrue =>
    cases j with
    | zero =>
     have e : a = acc := by simpa [capN] using hj
     rw [e] at hi; exact absurd hi (nacc i)
    | succ j =>
     rename_i hk
     rw [capN_succ, if_pos hk] at hj
     rw [S.dj i j a hi hj]
 ·intro i a h
  cases i with
  | zero =>
   have e : a = acc := by simpa [capN] using h
   subst e
   exact ⟨fzs.gone ha, fun z => z, Mu.lst upd_same⟩
  | succ i =>
   rw [capN_succ] at h
   split at h
   case isFalse => cases h
   case isTrue hk =>
    obtain ⟨_, _, us, q⟩ := S.fr i a h
    refine ⟨?_, fun z => z, us, sm _ _ q⟩
    unfold fz; rw [if_pos hk]; unfold hid; rw [if_pos (.inr ⟨i, h⟩)]
theorem lc_end {H0 Hs H1 H' Hq : Hp} {ν : Nat -> List Addr} {ρ ρr : Ren} {σ σr : L2.St} {acc : Addr} {es : Els} {ok : Bool} (S : StOk K Z0 H0 ν ρ σ Hs) (e1 : Same Hs H1) (ha : H1 acc = none) (I : In K (upd H1 acc (.lst [])) H1 Hq (capN ok acc ν) acc ρr σr H' es) :
  Res K Z0 ν Hs H' (if es.all (·.2) = true then .own [] else if ok = true then .old else .mix) (.ref acc) (.list (es.map (·.1))) := by
 obtain ⟨us, h1, h2, h3⟩ := I.ac
 split
 ·obtain ⟨ms, g1, g2, g3⟩ := h3 ‹_›
  refine ⟨acc :: ms, .lst h1 g1, List.nodup_cons.mpr ⟨fun z => ?_, g2⟩, fun a hm => .inl ?_⟩
  ·have := g3 acc z; rw [upd_same] at this; cases this
  ·rcases List.mem_cons.mp hm with rfl | hm
   ·exact e1.gone ha
   ·have := g3 a hm
    by_cases z : a = acc
    ·subst z; exact e1.gone ha
    ·rw [upd_ne z] at this; exact e1.gone this
 ·split
  case isTrue hk =>
   have hz : ¬ Hd Z0 ν acc := fun z => by obtain ⟨us, q⟩ := S.hl acc z; rw [e1.gone ha] at q; cases q
   refine .lst (hid_of h1 hz) (Dns.same (hid_less fun a z => ?_) h2)
   rcases z with z | ⟨j, z⟩
   ·exact z.elim
   ·exact .inr ⟨j + 1, by rw [capN_succ, if_pos hk]; exact z⟩
  case isFalse => exact .lst h1 (Dns.same hid_same h2)
end
section
variable {X : Cx} {K : W.Frag} {E : XK} {pos : Pos} {elt tg iter : Expr} {ifs : List Expr} {rest : List Comprehension} {scope : Scope} {ti : TDI} {T Tb : List Nat} {bnd : TGD} {tif : TDT} {tb : TB}
theorem le_lc {own : List Str} {cap : List (Str × Nat)} : ∀ σ H Q, LE K E (dLC ti (T ++ Tb) bnd tif tb own cap) σ H Q -> tLC (LI K E ti) (LG K T bnd) (LT K E0 tif) (fun acc => LB K acc Tb tb) own cap σ H Q := fun σ H Q h => by
 obtain ⟨H0, ν, ρ, Qd, Xd, S, h1, q, x⟩ := h
 refine ⟨H0, ν, ρ, _, Xd, S, h1, fun ds b J H1 g1 e1 it => ?_, x⟩
 intro acc ha
 obtain ⟨ok, hk⟩ : ∃ ok, ok = (b && capOk cap ρ) := ⟨_, rfl⟩
 have I := lc_start (own := own) (S.same e1) ha ok (fun z => by rw [hk, Bool.and_eq_true] at z; exact z.2)
 have hf : Same (fz b ν H1) (fz ok ν H1) := by
  cases ok with
  | true =>
   have : b = true := by rw [Eq.comm, Bool.and_eq_true] at hk; exact hk.1
   rw [this]; exact Same.refl _
  | false => unfold fz; split; exact hid_same; exact Same.refl _
 refine go_loop I it hf (fun i hi => List.mem_append_left _ hi) g1 fun es' ρ' σ' H' a I' A => ?_
 rw [← hk] at a
 exact q _ _ _ H' a (e1.trans I'.sm) (lc_end S e1 ha I')
theorem dpe_lc (own : List Str) (cap : List (Str × Nat)) (hc : X.calm = true) (L : LcScope X scope own cap) (hi : DI X K E tg iter ti)
  (hin : ∀ (s₃ : Shared) (H₃ : Hp) (fp : List Addr) (acc : Addr), DG (X.inn scope (L2.capN own cap) s₃ H₃ fp) K tg T bnd /\ DTs (X.inn scope (L2.capN own cap) s₃ H₃ fp) K ifs tif /\ DB (X.inn scope (L2.capN own cap) s₃ H₃ fp) K elt (⟨tg, iter, ifs, 0⟩ :: rest) scope pos 0 acc Tb tb)
  (hs : ∀ x, foldedSetIterable iter X.env x = pure x := by intro _; rfl) : DE X K E (.ListComp elt (⟨tg, iter, ifs, 0⟩ :: rest) scope pos) (dLC ti (T ++ Tb) bnd tif tb own cap) :=
 ⟨qe_imp (qpe_lc own cap hc L hi.q (fun a b c d => ⟨(hin a b c d).1.lift, (hin a b c d).2.1.q, (hin a b c d).2.2.q⟩) hs) le_lc⟩
theorem dps_setlc {i : Nat} {y : Str} {py spos : Pos} (own : List Str) (cap : List (Str × Nat)) (hN : X.N.Nodup) (hyi : X.N[i]? = some y) (hy : X.env.scope.names.lookup y = some .local) (hc : X.calm = true) (L : LcScope X scope own cap) (hi : DI X K E tg iter ti)
  (hin : ∀ (s₃ : Shared) (H₃ : Hp) (fp : List Addr) (acc : Addr), DG (X.inn scope (L2.capN own cap) s₃ H₃ fp) K tg T bnd /\ DTs (X.inn scope (L2.capN own cap) s₃ H₃ fp) K ifs tif /\ DB (X.inn scope (L2.capN own cap) s₃ H₃ fp) K elt (⟨tg, iter, ifs, 0⟩ :: rest) scope pos 0 acc Tb tb)
  (hsw : swapsWith (.ListComp elt (⟨tg, iter, ifs, 0⟩ :: rest) scope pos) (some (.Name y py)) spos.line X.env = pure true := by rfl) (hs : ∀ x, foldedSetIterable iter X.env x = pure x := by intro _; rfl) :
  DS X K E (.Assign [.Name y py] (.ListComp elt (⟨tg, iter, ifs, 0⟩ :: rest) scope pos) spos) (dSet i (dLC ti (T ++ Tb) bnd tif tb own cap)) :=
 ⟨qs_imp (qps_setlc own cap hN hyi hy hc L hi.q (fun a b c d => ⟨(hin a b c d).1.lift, (hin a b c d).2.1.q, (hin a b c d).2.2.q⟩) hsw hs) fun En σ H h => by
  obtain ⟨H0, ν, ρ, Dd, Xd, S, h1, ok, x⟩ := h
  refine le_lc σ H _ ⟨H0, ν, ρ, _, Xd, S, h1, fun d k v H' g1 g2 g3 => ?_, x⟩
  obtain ⟨ν', S'⟩ := S.setK g2 g3 i
  exact ok.nx _ _ _ _ g1 S'⟩
end
end DL
namespace DL
open PySem PySem.Spec PyProof.Rows L2
section
variable {K : W.Frag} {H0 H H' : Hp} {ν : Nat -> List Addr} {ρ : Ren} {σ : L2.St} {v : V} {d : D}
theorem StOk.mut (S : StOk K Z0 H0 ν ρ σ H) (s : List Nat) (i : Nat) {ms : List Addr} (hi : σ[i]? = some (some v)) (hr : i < ρ.length) (k : ∀ a o, H a = some o -> a ∉ ν i -> H' a = some o) (h : Ow K H' v d ms) (nd : ms.Nodup) (fr : ∀ a ∈ ms, a ∈ ν i ∨ H a = none ∨ ∃ j ∈ s, a ∈ ν j) (hs : i ∉ s)
  (gone : ∀ j ∈ s, ∀ a ∈ ν j, Mu H' a) :
  StOk K Z0 H0 (fun j => if j = i then ms else if j ∈ s then [] else ν j) ((dropS ρ s).set i (some (true, d))) σ H' where
 sm := fun a o ha => k a o (S.sm a o ha) fun z => by rw [(S.fr i a z).1] at ha; cases ha
 len := by rw [List.length_set, dropS_len]; exact S.len
 sl := fun j b c hj => by
  rcases set_get hj with ⟨rfl, h1, h2⟩ | ⟨h1, h2⟩
  ·cases h1
   exact ⟨v, hi, by rw [if_pos rfl]; rw [if_pos rfl]; exact h⟩
  ·obtain ⟨h3, h4⟩ := dropS_get s h2
   obtain ⟨u, q1, q2⟩ := S.sl j b c h4
   refine ⟨u, q1, ?_⟩
   cases b with
   | true =>
    rw [if_pos rfl, if_neg h1, if_neg h3]
    have q2 : Ow K H u c (ν j) := q2
    refine q2.kept ⟨fun a ha => ?_, fun a o ha hn => k a o ha fun z => ?_⟩
    ·obtain ⟨us, q⟩ := q2.there a ha
     rw [k a _ q fun z => h1 (S.dj j i a ha z), q]
    ·exact (S.fr i a z).2.2.no ha hn
   | false =>
    refine Dn.same (fun a o ha => ?_) q2
    obtain ⟨g1, g2⟩ := of_hid ha
    refine hid_of (k a o g1 fun z => g2 (.inr ⟨i, z⟩)) fun z => ?_
    rcases z with z | ⟨l, z⟩
    ·exact z
    ·have z : a ∈ (if l = i then ms else if l ∈ s then [] else ν l) := z
     split at z
     ·rcases fr a z with z | z | ⟨l, _, z⟩
      ·exact g2 (.inr ⟨i, z⟩)
      ·rw [g1] at z; cases z
      ·exact g2 (.inr ⟨l, z⟩)
     ·split at z
      ·cases z
      ·exact g2 (.inr ⟨l, z⟩)
 nd := fun j => by
  split
  ·exact nd
  ·split
   ·exact List.nodup_nil
   ·exact S.nd j
 dj := fun j l a hj hl => by
  have key : ∀ m, m ≠ i -> m ∉ s -> a ∈ ν m -> a ∉ ms := fun m hm hms ha hz => by
   rcases fr a hz with z | z | ⟨n, hn, z⟩
   ·exact hm (S.dj m i a ha z)
   ·obtain ⟨_, _, us, q⟩ := S.fr m a ha; rw [z] at q; cases q
   ·rw [S.dj m n a ha z] at hms; exact hms hn
  split at hj
  ·split at hl
   ·omega
   ·split at hl
    ·cases hl
    ·exact absurd hj (key l ‹_› ‹_› hl)
  ·split at hj
   ·cases hj
   ·split at hl
    ·exact absurd hl (key j ‹_› ‹_› hj)
    ·split at hl
     ·cases hl
     ·exact S.dj j l a hj hl
 fr := fun j a ha => by
  split at ha
  ·have ht := h.there a ha
   rcases fr a ha with z | z | ⟨m, _, z⟩
   ·exact ⟨(S.fr i a z).1, (fun q => q), ht⟩
   ·exact ⟨S.sm.gone z, (fun q => q), ht⟩
   ·exact ⟨(S.fr m a z).1, (fun q => q), ht⟩
  ·split at ha
   ·cases ha
   ·obtain ⟨q1, q2, us, q3⟩ := S.fr j a ha
    exact ⟨q1, q2, us, k a _ q3 fun z => absurd (S.dj j i a ha z) ‹_›⟩
 zf := fun a h => h.elim
theorem eff_own {k : Kd} {s : List Nat} {Hs : Hp} (e : eff d k = .own s) (hl : ∀ a, Hd Z0 ν a -> Mu H a) (h : Res K Z0 ν Hs H k v d) : ∃ ms, Ow K H v d ms /\ ms.Nodup /\ ∀ a ∈ ms, Hs a = none ∨ ∃ j ∈ s, a ∈ ν j := by
 have h' : Res K Z0 ν Hs H (eff d k) v d := by
  unfold eff
  split
  ·exact Res.flat h.den ‹_› hl _
  ·exact h
 rw [e] at h'
 exact h'
end
section
variable {X : Cx} {K : W.Frag} {E : XK} {pos apos cpos : Pos} {e : Expr} {te t1 t2 : TD}
def dApp (i : Nat) (te : TD) : TSD := fun Dd ρ Xd => ∃ ds, ρ[i]? = some (some (true, .list ds)) /\ ds.length < 1000000 /\ te ρ (fun d k => match eff d k with
 | .own s => i ∉ s /\ Dd.nx ((dropS ρ s).set i (some (true, .list (ds ++ [d]))))
 | _ => False) Xd
theorem own_list {H0 H : Hp} {ν : Nat -> List Addr} {ρ : Ren} {σ : L2.St} {i : Nat} {ds : List D} (S : StOk K Z0 H0 ν ρ σ H) (h : ρ[i]? = some (some (true, .list ds))) : ∃ a us ns, σ[i]? = some (some (.ref a)) /\ H a = some (.lst us) /\ Ows K H us ds ns /\ ν i = a :: ns /\ a ∉ ns /\ ns.Nodup := by
 obtain ⟨v, h1, h2⟩ := S.sl i true _ h
 have h2 : Ow K H v (.list ds) (ν i) := h2
 have hn := S.nd i
 generalize hv : ν i = n at h2 hn
 cases h2 with
 | lst h r => exact ⟨_, _, _, h1, h, r, rfl, (List.nodup_cons.mp hn).1, (List.nodup_cons.mp hn).2⟩
theorem len_of {α : Type} {l : List α} {i : Nat} {x : α} (h : l[i]? = some x) : i < l.length := (List.getElem?_eq_some_iff.mp h).1
theorem dps_append (i : Nat) {x : Str} {px : Pos} (hK : X.K = K) (ho : QE X (.Name x px) (tVar i)) (he : DE X K E e te) (hs : starEach [e] X.env = [(false, eval e X.env)]) (hbase : attributeBase (.Name x px) "append" X.env (eval (.Name x px) X.env) = eval (.Name x px) X.env) (hline : (apos.endLine == cpos.line) = true)
  (hsw : swapsWith (.Call (.Attribute (.Name x px) "append" apos) [e] [] cpos) none pos.line X.env = pure false := by rfl) : DS X K E (.Expr (.Call (.Attribute (.Name x px) "append" apos) [e] [] cpos) pos) (dApp i te) := ⟨qs_imp (qps_expr (qpm_appendK K hK ho he.q hs hbase hline) hsw) fun En σ H h => by
 obtain ⟨H0, ν, ρ, Dd, Xd, S, ⟨ds, h1, h2, h3⟩, ok, x⟩ := h
 obtain ⟨a, us, ns, g1, g2, g3, g4, g5, g6⟩ := own_list S h1
 refine ⟨_, g1, tyl (SqL.of g2), H0, ν, ρ, _, Xd, S, h3, fun d k v H1 q1 e1 r1 => ?_, x⟩
 split at q1
 case h_2 => exact q1.elim
 case h_1 s es =>
  obtain ⟨ms, m1, m2, m3⟩ := eff_own es (S.same e1).hl r1
  have ha1 : H1 a = some (.lst us) := e1 _ _ g2
  have nm : ∀ b ∈ ms, b ∉ ν i := fun b hb z => by
   rcases m3 b hb with y | ⟨j, hj, y⟩
   ·obtain ⟨_, _, us, w⟩ := S.fr i b z; rw [y] at w; cases w
   ·rw [S.dj i j b z y] at q1; exact q1.1 hj
  have ham : a ∉ ms := fun z => nm a z (by rw [g4]; exact List.mem_cons_self)
  refine ⟨a, us, v, rfl, rfl, ha1, by rw [g3.den.length]; exact Nat.lt_of_lt_of_le h2 million, ?_⟩
  have S1 := S.same e1
  refine ok.nx _ _ _ _ q1.2 (S.mut s i (ms := a :: (ns ++ ms)) (v := .ref a) g1 (len_of h1) (fun b o hb hn => ?_) ?_ ?_ ?_ q1.1 ?_)
  ·rw [upd_ne (fun z => hn (by rw [z, g4]; exact List.mem_cons_self))]; exact e1 _ _ hb
  ·have kp : ∀ l : List Addr, (∀ b ∈ l, b ≠ a) -> Kept l H1 (upd H1 a (.lst (us ++ [v]))) := fun l hl => ⟨fun b hb => upd_ne (hl b hb), fun b o hb hn => by
    have : b ≠ a := fun z => by rw [z, ha1] at hb; cases hb; cases (show true = false from hn)
    rw [upd_ne this]; exact hb⟩
   have A := (g3.same e1).kept (kp ns fun b hb z => g5 (z ▸ hb))
   have B := m1.kept (kp ms fun b hb z => ham (z ▸ hb))
   exact .lst upd_same (ows_snoc B A)
  ·refine List.nodup_cons.mpr ⟨fun z => ?_, List.nodup_append.mpr ⟨g6, m2, fun y hy z hz e => ?_⟩⟩
   ·rcases List.mem_append.mp z with z | z
    ·exact g5 z
    ·exact ham z
   ·subst e; exact nm y hz (by rw [g4]; exact List.mem_cons_of_mem _ hy)
  ·intro b hb
   rcases List.mem_cons.mp hb with rfl | hb
   ·exact .inl (by rw [g4]; exact List.mem_cons_self)
   ·rcases List.mem_append.mp hb with hb | hb
    ·exact .inl (by rw [g4]; exact List.mem_cons_of_mem _ hb)
    ·rcases m3 b hb with y | y
     ·exact .inr (.inl y)
     ·exact .inr (.inr y)
  ·intro j hj b hb
   obtain ⟨_, _, us', w⟩ := S1.fr j b hb
   have : b ≠ a := fun z => by
    have := S.dj i j b (by rw [g4, z]; exact List.mem_cons_self) hb
    rw [this] at q1; exact q1.1 hj
   exact ⟨us', by rw [upd_ne this]; exact w⟩⟩
end
end DL
namespace DL
open PySem PySem.Spec PyProof.Rows L2
section
variable {K : W.Frag}
theorem ows_split {H : Hp} : ∀ {us : List V} {ds : List D} {ns : List Addr} {j : Nat} {c : D}, Ows K H us ds ns -> ds[j]? = some c -> ∃ n1 n2 n3 u, ns = n1 ++ (n2 ++ n3) /\ us[j]? = some u /\ Ow K H u c n2 /\
  (∀ H', Kept n1 H H' -> Kept n3 H H' -> ∀ v d ms, Ow K H' v d ms -> Ows K H' (us.set j v) (ds.set j d) (n1 ++ (ms ++ n3))) /\ ∀ H', Kept n1 H H' -> Kept n3 H H' -> Ows K H' (us.eraseIdx j) (ds.eraseIdx j) (n1 ++ n3)
 | _, _, _, 0, c, .cons (ns := n) (ms := m) h r, e => by
  simp at e; subst e
  exact ⟨[], n, m, _, rfl, rfl, h, fun H' _ k v d ms q => by simpa using Ows.cons q (r.kept k), fun H' _ k => by simpa using r.kept k⟩
 | _, _, _, j + 1, c, .cons (ns := n) (ms := m) h r, e => by
  simp at e
  obtain ⟨n1, n2, n3, u, e1, e2, e3, e4, e5⟩ := ows_split r e
  refine ⟨n ++ n1, n2, n3, u, by rw [e1]; simp, by simpa using e2, e3, fun H' k1 k3 v d ms q => ?_, fun H' k1 k3 => ?_⟩
  ·have := Ows.cons (h.kept ⟨fun a ha => k1.1 a (List.mem_append_left _ ha), k1.2⟩) (e4 H' ⟨fun a ha => k1.1 a (List.mem_append_right _ ha), k1.2⟩ k3 v d ms q)
   simpa using this
  ·have := Ows.cons (h.kept ⟨fun a ha => k1.1 a (List.mem_append_left _ ha), k1.2⟩) (e5 H' ⟨fun a ha => k1.1 a (List.mem_append_right _ ha), k1.2⟩ k3)
   simpa using this
theorem kept_upd {H H1 : Hp} {b : Addr} {o ow : HO} {l : List Addr} (e : Same H H1) (hb : H b = some ow) (hl : ∀ a ∈ l, (Mu H a) /\ a ≠ b) (mb : muO ow = true := by rfl) : Kept l H (upd H1 b o) := ⟨fun a ha => by
 obtain ⟨⟨us, q⟩, z⟩ := hl a ha
 rw [upd_ne z, q]; exact e _ _ q, fun a o' ha hn => by
 have : a ≠ b := fun z => by rw [z, hb] at ha; cases ha; rw [mb] at hn; cases hn
 rw [upd_ne this]; exact e _ _ ha⟩
theorem kept_upd1 {H1 : Hp} {b : Addr} {o ow : HO} {l : List Addr} (hb : H1 b = some ow) (hl : ∀ a ∈ l, a ≠ b) (mb : muO ow = true := by rfl) : Kept l H1 (upd H1 b o) := ⟨fun a ha => upd_ne (hl a ha), fun a o' ha hn => by
 have : a ≠ b := fun z => by rw [z, hb] at ha; cases ha; rw [mb] at hn; cases hn
 rw [upd_ne this]; exact ha⟩
theorem new_out {H0 H : Hp} {ν : Nat -> List Addr} {ρ : Ren} {σ : L2.St} {i : Nat} {s : List Nat} {ms : List Addr} (S : StOk K Z0 H0 ν ρ σ H) (m3 : ∀ b ∈ ms, H b = none ∨ ∃ l ∈ s, b ∈ ν l) (hs : i ∉ s) : ∀ b ∈ ms, b ∉ ν i := fun b hb z => by
 rcases m3 b hb with y | ⟨j, hj, y⟩
 ·obtain ⟨_, _, us, w⟩ := S.fr i b z; rw [y] at w; cases w
 ·rw [S.dj i j b z y] at hs; exact hs hj
theorem gone_ok {H0 H H2 : Hp} {ν : Nat -> List Addr} {ρ : Ren} {σ : L2.St} {i : Nat} {s : List Nat} {a : Addr} {o : HO} (S : StOk K Z0 H0 ν ρ σ H) (hs : i ∉ s) (e : Same H H2) (ha : a ∈ ν i) : ∀ j ∈ s, ∀ b ∈ ν j, Mu (upd H2 a o) b := fun j hj b hb => by
 obtain ⟨_, _, us', w⟩ := S.fr j b hb
 have : b ≠ a := fun z => by
  have := S.dj i j b (by rw [z]; exact ha) hb
  rw [this] at hs; exact hs hj
 exact ⟨us', by rw [upd_ne this]; exact e _ _ w⟩
theorem StOk.put2 {H0 H H1 H2 : Hp} {ν : Nat -> List Addr} {ρ : Ren} {σ : L2.St} {i j l : Nat} {ds es : List D} {a : Addr} {us : List V} {ns ms : List Addr} {s : List Nat} {v : V} {d c : D} (S : StOk K Z0 H0 ν ρ σ H) (h1 : ρ[i]? = some (some (true, .list ds))) (g1 : σ[i]? = some (some (.ref a))) (g2 : H a = some (.lst us)) (g3 : Ows K H us ds ns) (g4 : ν i = a :: ns) (g5 : a ∉ ns) (g6 : ns.Nodup)
  (hj : ds[j]? = some (.list es)) (hl : es[l]? = some c) (e1 : Same H H1) (m1 : Ow K H1 v d ms) (m2 : ms.Nodup) (m3 : ∀ b ∈ ms, H b = none ∨ ∃ l ∈ s, b ∈ ν l) (hs : i ∉ s) (e2 : Same H1 H2) :
  ∃ b ws, us[j]? = some (.ref b) /\ H b = some (.lst ws) /\ ws.length = es.length /\ ∃ ν', StOk K Z0 H0 ν' ((dropS ρ s).set i (some (true, .list (ds.set j (.list (es.set l d)))))) σ (upd H2 b (.lst (ws.set l v))) := by
 obtain ⟨n1, n2, n3, u, q1, q2, q3, q4, _⟩ := ows_split g3 hj
 have e := e1.trans e2
 have nm := new_out S m3 hs
 have nu := g6
 rw [q1, List.nodup_append, List.nodup_append] at nu
 cases q3 with
 | lst hb r =>
  rename_i b ws n2
  obtain ⟨p1, p2, p3, u', r1, r2, r3, r4, _⟩ := ows_split r hl
  have nb := List.nodup_cons.mp nu.2.1.1
  have hbn : b ∈ ns := by rw [q1]; simp
  have inI : ∀ y, y ∈ n1 ∨ y ∈ n3 ∨ y ∈ p1 ∨ y ∈ p3 -> y ∈ ns := fun y hy => by rw [q1, r1]; rcases hy with hy | hy | hy | hy <;> simp [hy]
  have bne : ∀ y, y ∈ n1 ∨ y ∈ n3 ∨ y ∈ p1 ∨ y ∈ p3 -> y ≠ b := fun y hy z => by
   subst z
   rcases hy with hy | hy | hy | hy
   ·exact nu.2.2 y hy y (by simp) rfl
   ·exact nu.2.1.2.2 y (by simp) y hy rfl
   ·exact nb.1 (by rw [r1]; simp [hy])
   ·exact nb.1 (by rw [r1]; simp [hy])
  have hbm : b ∉ ms := fun z => nm b z (by rw [g4]; exact List.mem_cons_of_mem _ hbn)
  have hab : a ≠ b := fun z => g5 (z ▸ hbn)
  have k1 : ∀ (w : List V) (l : List Addr), (∀ y ∈ l, y ∈ n1 ∨ y ∈ n3 ∨ y ∈ p1 ∨ y ∈ p3) -> Kept l H (upd H2 b (.lst w)) := fun w l hl => kept_upd e hb fun y hy => ⟨g3.there y (inI y (hl y hy)), bne y (hl y hy)⟩
  have B := (m1.same e2).kept (kept_upd1 (o := .lst (ws.set l v)) (e _ _ hb) fun y hy z => hbm (z ▸ hy))
  have C : Ow K (upd H2 b (.lst (ws.set l v))) (.ref b) (.list (es.set l d)) (b :: (p1 ++ (ms ++ p3))) := .lst upd_same (r4 _ (k1 _ p1 fun y hy => .inr (.inr (.inl hy))) (k1 _ p3 fun y hy => .inr (.inr (.inr hy))) v d ms B)
  have us' : us.set j (.ref b) = us := by
   apply List.ext_getElem?
   intro m
   by_cases z : m = j
   ·subst z; rw [List.getElem?_set_self (len_of q2), q2]
   ·rw [List.getElem?_set_ne (Ne.symm z)]
  have A := q4 _ (k1 (ws.set l v) n1 fun y hy => .inl hy) (k1 _ n3 fun y hy => .inr (.inl hy)) (.ref b) _ _ C
  rw [us'] at A
  have np := nb.2
  rw [r1, List.nodup_append, List.nodup_append] at np
  refine ⟨b, ws, q2, hb, r.den.length, _, S.mut s i (ms := a :: (n1 ++ ((b :: (p1 ++ (ms ++ p3))) ++ n3))) (v := .ref a) g1 (len_of h1) (fun y o hy hn => ?_) (.lst (by rw [upd_ne hab]; exact e _ _ g2) A) ?_ ?_ hs (gone_ok S hs e (by rw [g4]; exact List.mem_cons_of_mem _ hbn))⟩
  ·rw [upd_ne (fun z => hn (by rw [z, g4]; exact List.mem_cons_of_mem _ hbn))]; exact e _ _ hy
  ·have inn : ∀ y, y ∈ p1 ∨ y ∈ p3 -> y ∈ n2 := fun y hy => by rw [r1]; rcases hy with hy | hy <;> simp [hy]
   have out : ∀ y ∈ ms, y ∉ ns := fun y hy z => nm y hy (by rw [g4]; exact List.mem_cons_of_mem _ z)
   have nin : (b :: (p1 ++ (ms ++ p3))).Nodup := by
    refine List.nodup_cons.mpr ⟨fun z => ?_, List.nodup_append.mpr ⟨np.1, List.nodup_append.mpr ⟨m2, np.2.1.2.1, fun x hx y hy z => ?_⟩, fun x hx y hy z => ?_⟩⟩
    ·rcases List.mem_append.mp z with z | z
     ·exact bne b (.inr (.inr (.inl z))) rfl
     ·rcases List.mem_append.mp z with z | z
      ·exact hbm z
      ·exact bne b (.inr (.inr (.inr z))) rfl
    ·subst z; exact out x hx (inI x (.inr (.inr (.inr hy))))
    ·subst z
     rcases List.mem_append.mp hy with hy | hy
     ·exact out x hy (inI x (.inr (.inr (.inl hx))))
     ·exact np.2.2 x hx x (List.mem_append_right _ hy) rfl
   have cls : ∀ y ∈ b :: (p1 ++ (ms ++ p3)), y ∈ b :: n2 ∨ y ∈ ms := fun y hy => by
    rcases List.mem_cons.mp hy with rfl | hy
    ·exact .inl List.mem_cons_self
    ·rcases List.mem_append.mp hy with hy | hy
     ·exact .inl (List.mem_cons_of_mem _ (inn y (.inl hy)))
     ·rcases List.mem_append.mp hy with hy | hy
      ·exact .inr hy
      ·exact .inl (List.mem_cons_of_mem _ (inn y (.inr hy)))
   refine List.nodup_cons.mpr ⟨fun z => ?_, List.nodup_append.mpr ⟨nu.1, List.nodup_append.mpr ⟨nin, nu.2.1.2.1, fun x hx y hy z => ?_⟩, fun x hx y hy z => ?_⟩⟩
   ·rcases List.mem_append.mp z with z | z
    ·exact g5 (inI a (.inl z))
    ·rcases List.mem_append.mp z with z | z
     ·rcases cls a z with z | z
      ·exact g5 (by rw [q1]; exact List.mem_append_right _ (List.mem_append_left _ z))
      ·exact nm a z (by rw [g4]; exact List.mem_cons_self)
     ·exact g5 (inI a (.inr (.inl z)))
   ·subst z
    rcases cls x hx with w | w
    ·exact nu.2.1.2.2 x w x hy rfl
    ·exact out x w (inI x (.inr (.inl hy)))
   ·subst z
    rcases List.mem_append.mp hy with hy | hy
    ·rcases cls x hy with w | w
     ·exact nu.2.2 x hx x (List.mem_append_left _ w) rfl
     ·exact out x w (inI x (.inl hx))
    ·exact nu.2.2 x hx x (List.mem_append_right _ hy) rfl
  ·intro y hy
   have mine : y ∈ ns -> y ∈ ν i := fun z => by rw [g4]; exact List.mem_cons_of_mem _ z
   rcases List.mem_cons.mp hy with rfl | hy
   ·exact .inl (by rw [g4]; exact List.mem_cons_self)
   ·rcases List.mem_append.mp hy with hy | hy
    ·exact .inl (mine (inI y (.inl hy)))
    ·rcases List.mem_append.mp hy with hy | hy
     ·rcases List.mem_cons.mp hy with rfl | hy
      ·exact .inl (mine hbn)
      ·rcases List.mem_append.mp hy with hy | hy
       ·exact .inl (mine (inI y (.inr (.inr (.inl hy)))))
       ·rcases List.mem_append.mp hy with hy | hy
        ·exact .inr (m3 y hy)
        ·exact .inl (mine (inI y (.inr (.inr (.inr hy)))))
     ·exact .inl (mine (inI y (.inr (.inl hy))))
end
end DL
namespace DL
open PySem PySem.Spec PyProof.Rows L2
section
variable {X : Cx} {K : W.Frag} {E : XK} {pos p1 p2 px : Pos} {e e1 e2 : Expr} {te t1 t2 : TD} {x : Str}
theorem some_of_lt {α : Type} {l : List α} {j : Nat} (h : j < l.length) : ∃ c, l[j]? = some c := ⟨_, List.getElem?_eq_getElem h⟩
theorem ixN_lt {n : Nat} {z : Int} {j : Nat} (h : ixN n z = some j) : j < n := (ixN_seq h).2.1
def dPut1 (i : Nat) (t1 te : TD) : TSD := fun Dd ρ Xd => te ρ (fun d k => ∃ ds, ρ[i]? = some (some (true, .list ds)) /\ t1 ρ (fun y _ => ∃ z j, y = .int z /\ ixN ds.length z = some j /\ match eff d k with
 | .own s => i ∉ s /\ Dd.nx ((dropS ρ s).set i (some (true, .list (ds.set j d))))
 | _ => False) Xd) Xd
def dPut2 (i : Nat) (t1 t2 te : TD) : TSD := fun Dd ρ Xd => te ρ (fun d k => ∃ ds, ρ[i]? = some (some (true, .list ds)) /\ t1 ρ (fun y1 _ => ∃ z1 j1 es, y1 = .int z1 /\ ixN ds.length z1 = some j1 /\ ds[j1]? = some (.list es) /\ t2 ρ (fun y2 _ => ∃ z2 j2, y2 = .int z2 /\ ixN es.length z2 = some j2 /\ match eff d k with
 | .own s => i ∉ s /\ Dd.nx ((dropS ρ s).set i (some (true, .list (ds.set j1 (.list (es.set j2 d))))))
 | _ => False) Xd) Xd) Xd
theorem dps_put2 (i : Nat) (hK : X.K = K) (ho : QE X (.Name x px) (tVar i)) (h1 : DE X K E e1 t1) (h2' : DE X K E e2 t2) (he : DE X K E e te) (hpl : PlainIx e1)
  (ha : ∀ v, assign (.Subscript (.Subscript (.Name x px) e1 p1) e2 p2) X.env v = (do
   let ov ← holding [v] (eval (.Subscript (.Name x px) e1 p1) X.env)
   let iv ← holding [v, ov] (eval e2 X.env)
   standAt p2
   holding [v, ov, iv] (setItem ov iv v)
   release [v, ov, iv] []) := by intro _; rfl)
  (hs : swapsWithSole [.Subscript (.Subscript (.Name x px) e1 p1) e2 p2] e pos.line X.env = pure false := by rfl) (hw : swappedStores [.Subscript (.Subscript (.Name x px) e1 p1) e2 p2] e X.env = pure none := by rfl) (h2 : (assignEach [.Subscript (.Subscript (.Name x px) e1 p1) e2 p2] X.env).map (·.2) = [assign (.Subscript (.Subscript (.Name x px) e1 p1) e2 p2) X.env] := by rfl) :
  DS X K E (.Assign [.Subscript (.Subscript (.Name x px) e1 p1) e2 p2] e pos) (dPut2 i t1 t2 te) := ⟨qs_imp (qps_asg he.q (qpg_sub (qpe_ix (ix_listK K hK) ho h1.q hpl) h2'.q set_list ha) hs hw h2) fun En σ H h => by
 obtain ⟨H0, ν, ρ, Dd, Xd, S, h1, ok, x⟩ := h
 refine ⟨H0, ν, ρ, _, Xd, S, h1, fun d k v H1 q1 e1 r1 => ?_, x⟩
 obtain ⟨ds, h1, q1⟩ := q1
 obtain ⟨a, us, ns, g1, g2, g3, g4, g5, g6⟩ := own_list S h1
 refine ⟨_, g1, H0, ν, ρ, _, Xd, S.same e1, q1, fun y l w H2 q2 e2 r2 => ?_, x⟩
 obtain ⟨z, j, es, rfl, hj, hes, q2⟩ := q2
 obtain ⟨n1, n2, n3, u, _, hu, hw, _⟩ := ows_split g3 hes
 refine ⟨a, us, z, u, rfl, dn_int r2.den, SqL.of ((e1.trans e2) _ _ g2), atI_of (by rw [g3.den.length]; exact hj) hu, H0, ν, ρ, _, Xd, S.same (e1.trans e2), q2, fun y3 l3 w3 H3 q3 e3 r3 => ?_, x⟩
 obtain ⟨z2, j2, rfl, hj2, q3⟩ := q3
 split at q3
 case h_2 => exact q3.elim
 case h_1 s ee =>
  obtain ⟨ms, m1, m2, m3⟩ := eff_own ee (S.same e1).hl r1
  obtain ⟨c, hc⟩ := some_of_lt (ixN_lt hj2)
  obtain ⟨b, ws, k1, k2, k3, ν', S'⟩ := S.put2 h1 g1 g2 g3 g4 g5 g6 hes hc e1 m1 m2 m3 q3.1 (e2.trans e3)
  rw [hu] at k1
  cases k1
  exact ⟨b, ws, z2, j2, rfl, dn_int r3.den, (e1.trans (e2.trans e3)) _ _ k2, by rw [k3]; exact hj2, ok.nx _ _ _ _ q3.2 S'⟩⟩
theorem ixN_nat {n j : Nat} (h : j < n) : ixN n (j : Int) = some j := by
 unfold ixN
 rw [if_pos (by omega), if_pos (by omega)]; simp
def dAugN (i : Nat) (te : TD) (f : Int -> Int -> Int) : TSD := fun Dd ρ Xd => ∃ b a, ρ[i]? = some (some (b, .int a)) /\ te ρ (fun d _ => ∃ c, d = .int c /\ Dd.nx (ρ.set i (some (false, .int (f a c))))) Xd
theorem dps_augN (i : Nat) {op : Operator} {f : Int -> Int -> Int} (hN : X.N.Nodup) (he : DE X K E e te) (hp : PIp X op (ipI f)) (hi : X.N[i]? = some x := by rfl) (hx : Loc X.env.scope x := by first | exact Or.inl rfl | exact Or.inr rfl) (hf : X.fn x = true ∨ X.env.scope.names.lookup x = some .local := by first | exact .inl rfl | exact .inr rfl | assumption) :
  DS X K E (.AugAssign (.Name x px) op e pos) (dAugN i te f) := ⟨qs_imp (qps_aug hN hi hx he.q hp hf) fun En σ H h => by
 obtain ⟨H0, ν, ρ, Dd, Xd, S, ⟨b, a, h1, h2⟩, ok, x⟩ := h
 obtain ⟨v, g1, g2⟩ := S.get h1
 refine ⟨v, g1, H0, ν, ρ, _, Xd, S, h2, fun d k w H1 q1 e1 r1 => ?_, x⟩
 obtain ⟨c, rfl, q1⟩ := q1
 exact ⟨a, c, dn_int g2, dn_int r1.den, ok.nx _ _ _ _ q1 ((S.same e1).setOld i (.int _))⟩⟩
end
end DL
namespace DL
open PySem PySem.Spec PyProof.Rows L2
def startR (N : List Str) (ds : List D) : Ren := ds.map (fun d => some (false, d)) ++ List.replicate (N.length - ds.length) none
theorem start_ok {K : W.Frag} {H : Hp} {vs : List V} {ds : List D} {N : List Str} (h : Dns K H vs ds) : StOk K Z0 H (fun _ => []) (startR N ds) (start N vs) H := by
 have hl := h.length
 refine ⟨Same.refl H, ?_, fun i b d hi => ?_, fun _ => List.nodup_nil, (fun _ _ _ z => by cases z), (fun _ _ z => by cases z), fun _ z => False.elim z⟩
 ·unfold startR L2.start; simp [hl]
 ·unfold startR at hi
  by_cases hlt : i < ds.length
  ·rw [List.getElem?_append_left (by simpa using hlt), List.getElem?_map] at hi
   cases e : ds[i]? with
   | none => rw [e] at hi; cases hi
   | some c =>
    rw [e] at hi; cases hi
    obtain ⟨v, g1, g2⟩ := h.get e
    refine ⟨v, ?_, Dn.same hid_z0 g2⟩
    unfold L2.start
    rw [List.getElem?_append_left (by rw [List.length_map, hl]; exact hlt), List.getElem?_map, g1]; rfl
  ·rw [List.getElem?_append_right (by simpa using Nat.le_of_not_lt hlt), List.getElem?_replicate] at hi
   split at hi <;> cases hi
theorem dmk {X : Cx} {K : W.Frag} {E : XK} {b : List Stmt} {t : TSD} {N : List Str} {vs : List V} {H : Hp} {Q : VK} {ds : List D} {Qd : D -> Bool -> Prop} {Xd : XD} (h : DSs X K E b t) (hd : Dns K H vs ds) (q : ∀ d o v H', Qd d o -> Same H H' -> RR K H H' o v d -> Q v H') (x : ∀ C H', Xd C -> Same H H' -> E (.ref C) none H')
  (r : t { nx := fun _ => Qd .none true, rt := Qd } (startR N ds) Xd) : ∃ t, PSs X b t /\ t { nx := fun _ H' => Q .non H', rt := Q } (start N vs) H :=
 ⟨_, h.q.h, H, _, _, _, Xd, start_ok hd, r, ⟨fun ν ρ σ H' a S => q _ _ _ _ a S.sm ⟨[], .non, List.nodup_nil, fun _ z => by cases z⟩, fun _ _ _ _ z => z.elim, fun _ _ _ _ z => z.elim, q⟩, x⟩
theorem ok0 {P : Program} {w : World} {K : W.Frag} {mg : Str -> Option Value} {base : Heap} {x qual : Str} {st : Stmt} {f : Addr} {fd : FuncData} {N ps : List Str} {k : Nat} {sp : SpD} (F : Fun K x qual st f fd) (S : FnScope N ps (defScope st)) (len : ∀ ds Q X, sp ds Q X -> ds.length = ps.length)
  (hbody : ∀ (cdv : Value) (A : Around) (outer : List Env) (s : Shared) (H : Hp) (E : XK), Room k (A.deeper (envOfC qual (defScope st) s.heap.objs.size f cdv)) -> ∃ t, DSs (cxOf CX0 P w K mg base N qual (defScope st) f cdv A outer s H E).nox K E0 (defBody st) t /\ ∀ ds Qd, sp ds Qd Xf -> t { nx := fun _ => Qd .none true, rt := Qd } (startR N ds) Xf)
  (hx : ∀ ds Qd Xd, sp ds Qd Xd -> sp ds Qd Xf) : FnOk P w K mg base CX0 (k + 1) f fd ps (SpL K sp) := by
 refine F.ok S (fun vs H Q E h => ?_) (fun cdv A outer s H vs Q E hr h => ?_)
 ·obtain ⟨ds, Qd, Xd, h1, h2, _⟩ := h
  rw [h1.length]; exact len ds Qd Xd h2
 ·obtain ⟨ds, Qd, Xd, h1, h2, h3, h4⟩ := h
  obtain ⟨t, D, r⟩ := hbody cdv A outer s H E hr
  exact dmk D h1 h3 (fun _ _ z _ => z.elim) (r ds Qd (hx _ _ _ h2))
section
variable {X : Cx} {K : W.Frag} {E : XK} {pos p1 p2 px apos cpos : Pos} {e e1 e2 : Expr} {te t1 t2 : TD} {x : Str}
theorem StOk.popped {H0 H H1 : Hp} {ν : Nat -> List Addr} {ρ : Ren} {σ : L2.St} {i j : Nat} {ds : List D} {a : Addr} {us : List V} {ns : List Addr} {c : D} (S : StOk K Z0 H0 ν ρ σ H) (h1 : ρ[i]? = some (some (true, .list ds))) (g1 : σ[i]? = some (some (.ref a))) (g2 : H a = some (.lst us)) (g3 : Ows K H us ds ns) (g4 : ν i = a :: ns) (g5 : a ∉ ns) (g6 : ns.Nodup)
  (hj : ds[j]? = some c) (e1 : Same H H1) : ∃ ν' u, us[j]? = some u /\ StOk K Z0 H0 ν' (ρ.set i (some (true, .list (ds.eraseIdx j)))) σ (upd H1 a (.lst (us.eraseIdx j))) /\ Dn K (hid (Hd Z0 ν') (upd H1 a (.lst (us.eraseIdx j)))) u c := by
 obtain ⟨n1, n2, n3, u, q1, q2, q3, _, q4⟩ := ows_split g3 hj
 have nu := g6
 rw [q1, List.nodup_append, List.nodup_append] at nu
 have inI : ∀ b, b ∈ n1 ∨ b ∈ n2 ∨ b ∈ n3 -> b ∈ ns := fun b hb => by rw [q1]; rcases hb with hb | hb | hb <;> simp [hb]
 have k1 : ∀ l : List Addr, (∀ b ∈ l, b ∈ ns) -> Kept l H (upd H1 a (.lst (us.eraseIdx j))) := fun l hl => kept_upd e1 g2 fun b hb => ⟨g3.there b (hl b hb), fun z => g5 (z ▸ hl b hb)⟩
 have S' := S.mut [] i (ms := a :: (n1 ++ n3)) (H' := upd H1 a (.lst (us.eraseIdx j))) (v := .ref a) g1 (len_of h1) (fun b o hb hn => by rw [upd_ne (fun z => hn (by rw [z, g4]; exact List.mem_cons_self))]; exact e1 _ _ hb)
  (.lst upd_same (q4 _ (k1 n1 fun b hb => inI b (.inl hb)) (k1 n3 fun b hb => inI b (.inr (.inr hb)))))
  (List.nodup_cons.mpr ⟨fun z => by rcases List.mem_append.mp z with z | z; exact g5 (inI a (.inl z)); exact g5 (inI a (.inr (.inr z))), List.nodup_append.mpr ⟨nu.1, nu.2.1.2.1, fun x hx y hy z => nu.2.2 x hx y (List.mem_append_right _ hy) z⟩⟩)
  (fun b hb => .inl (by
   rw [g4]
   rcases List.mem_cons.mp hb with rfl | hb
   ·exact List.mem_cons_self
   ·refine List.mem_cons_of_mem _ ?_
    rcases List.mem_append.mp hb with hb | hb
    ·exact inI b (.inl hb)
    ·exact inI b (.inr (.inr hb)))) (by simp) (fun _ z => by cases z)
 refine ⟨_, u, q2, S', ow_hid S'.hl (q3.kept (k1 n2 fun b hb => inI b (.inr (.inl hb)))) fun b hb z => ?_⟩
 rcases z with z | ⟨l, z⟩
 ·exact z
 ·have z : b ∈ (if l = i then a :: (n1 ++ n3) else if l ∈ ([] : List Nat) then [] else ν l) := z
  split at z
  ·rcases List.mem_cons.mp z with z | z
   ·exact g5 (z ▸ inI b (.inr (.inl hb)))
   ·rcases List.mem_append.mp z with z | z
    ·exact nu.2.2 b z b (List.mem_append_left _ hb) rfl
    ·exact nu.2.1.2.2 b hb b z rfl
  ·split at z
   ·cases z
   ·exact absurd (S.dj l i b z (by rw [g4]; exact List.mem_cons_of_mem _ (inI b (.inr (.inl hb))))) ‹_›
theorem popAt {H0 H : Hp} {ν : Nat -> List Addr} {ρ : Ren} {σ : L2.St} {i : Nat} {ds : List D} (S : StOk K Z0 H0 ν ρ σ H) (h1 : ρ[i]? = some (some (true, .list ds))) (hz : ds.length <= 1000000) {z : Int} {j : Nat} {c : D} (hj : ixN ds.length z = some j) (hc : ds[j]? = some c) {a : Addr} (ha : σ[i]? = some (some (.ref a))) {H1 : Hp} (e1 : Same H H1) {Q : VK}
  (q : ∀ ν' u H', StOk K Z0 H0 ν' (ρ.set i (some (true, .list (ds.eraseIdx j)))) σ H' -> Dn K (hid (Hd Z0 ν') H') u c -> Q u H') : rPopAt (.ref a) [.int z] H1 Q := by
 obtain ⟨a', us, ns, g1, g2, g3, g4, g5, g6⟩ := own_list S h1
 rw [ha] at g1; cases g1
 obtain ⟨ν', u, q1, q2, q3⟩ := S.popped h1 ha g2 g3 g4 g5 g6 hc e1
 obtain ⟨k1, k2, k3, k4⟩ := ixN_seq hj
 have hl := g3.den.length
 exact ⟨a, us, z, j, u, rfl, rfl, e1 _ _ g2, by omega, by omega, by rw [hl]; exact k1, q1, q _ _ _ q2 q3⟩
def dAppPop (i l : Nat) (te : TD) : TSD := fun Dd ρ Xd => ∃ ds es, ρ[i]? = some (some (true, .list ds)) /\ i ≠ l /\ ρ[l]? = some (some (true, .list es)) /\ es.length <= 1000000 /\ ds.length < 1000000 /\ te ρ (fun y _ => ∃ z j c, y = .int z /\ ixN es.length z = some j /\ es[j]? = some c /\ flat c = true /\ Dd.nx ((ρ.set l (some (true, .list (es.eraseIdx j)))).set i (some (true, .list (ds ++ [c]))))) Xd
theorem dps_appPop (i l : Nat) {y : Str} {py apos2 cpos2 : Pos} (hK : X.K = K) (ho : QE X (.Name x px) (tVar i)) (ho2 : QE X (.Name y py) (tVar l)) (he : DE X K E e te) (hs : starEach [e] X.env = [(false, eval e X.env)]) (hbase : attributeBase (.Name y py) "pop" X.env (eval (.Name y py) X.env) = eval (.Name y py) X.env) (hline : (apos2.endLine == cpos2.line) = true)
  (hs2 : starEach [.Call (.Attribute (.Name y py) "pop" apos2) [e] [] cpos2] X.env = [(false, eval (.Call (.Attribute (.Name y py) "pop" apos2) [e] [] cpos2) X.env)]) (hbase2 : attributeBase (.Name x px) "append" X.env (eval (.Name x px) X.env) = eval (.Name x px) X.env) (hline2 : (apos.endLine == cpos.line) = true)
  (hsw : swapsWith (.Call (.Attribute (.Name x px) "append" apos) [.Call (.Attribute (.Name y py) "pop" apos2) [e] [] cpos2] [] cpos) none pos.line X.env = pure false := by rfl) :
  DS X K E (.Expr (.Call (.Attribute (.Name x px) "append" apos) [.Call (.Attribute (.Name y py) "pop" apos2) [e] [] cpos2] [] cpos) pos) (dAppPop i l te) := ⟨qs_imp (qps_expr (qpm_appendK K hK ho (qpm_popAtK K hK ho2 he.q hs hbase hline) hs2 hbase2 hline2) hsw) fun En σ H h => by
 obtain ⟨H0, ν, ρ, Dd, Xd, S, ⟨ds, es, h1, hil, h2, hz, hz2, h3⟩, ok, x⟩ := h
 obtain ⟨a, us, ns, g1, g2, g3, g4, g5, g6⟩ := own_list S h1
 obtain ⟨b, ws, ms, k1, k2, k3, k4, k5, k6⟩ := own_list S h2
 refine ⟨_, g1, tyl (SqL.of g2), _, k1, tyl (SqL.of k2), H0, ν, ρ, _, Xd, S, h3, fun y m w H1 q1 e1 r1 => ?_, x⟩
 obtain ⟨z, j, c, rfl, hj, hc, hf, q1⟩ := q1
 have := dn_int r1.den
 subst this
 refine popAt S h2 hz hj hc k1 e1 fun ν' u H' S' hd => ?_
 have h1' : (ρ.set l (some (true, .list (es.eraseIdx j))))[i]? = some (some (true, .list ds)) := by rw [List.getElem?_set_ne (Ne.symm hil)]; exact h1
 obtain ⟨a', us', ns', g1', g2', g3', g4', g5', g6'⟩ := own_list S' h1'
 rw [g1] at g1'; cases g1'
 have C := ow_flat (Dn.same hid_same hd) hf
 refine ⟨a, us', u, rfl, rfl, g2', by rw [g3'.den.length]; exact Nat.lt_of_lt_of_le hz2 million, ?_⟩
 have S3 := S'.mut [] i (ms := a :: (ns' ++ [])) (H' := upd H' a (.lst (us' ++ [u]))) (v := .ref a) (d := .list (ds ++ [c])) g1 (len_of h1') (fun b o hb hn => by rw [upd_ne (fun z => hn (by rw [z, g4']; exact List.mem_cons_self))]; exact hb)
  (.lst upd_same (ows_snoc (C.kept (kept_upd1 g2' fun _ z => by cases z)) (g3'.kept (kept_upd1 g2' fun b hb z => g5' (z ▸ hb))))) (by rw [List.append_nil]; exact List.nodup_cons.mpr ⟨g5', g6'⟩) (fun b hb => .inl (by rw [List.append_nil] at hb; rw [g4']; exact hb)) (by simp) (fun _ z => by cases z)
 exact ok.nx _ _ _ _ q1 S3⟩
end
end DL
namespace DL
open PySem PySem.Spec PyProof.Rows L2
section
variable {X : Cx} {K : W.Frag} {E : XK} {pos p1 p2 px apos cpos : Pos} {e e1 e2 : Expr} {te t1 t2 : TD} {x : Str}
def setAll (b : Bool) : Ren -> List Nat -> List D -> Ren
 | ρ, i :: is, d :: ds => setAll b (ρ.set i (some (b && !flat d, d))) is ds
 | ρ, _, _ => ρ
def unpK (ρ : Ren) (is : List Nat) (ds : List D) (k : Kd) : Ren := match eff (.tuple ds) k with
 | .own [] => setAll true ρ is ds
 | .old => setAll false ρ is ds
 | _ => setAll false (frz ρ) is ds
def sets : L2.St -> List Nat -> List V -> L2.St
 | σ, i :: is, v :: vs => sets (σ.set i (some v)) is vs
 | σ, _, _ => σ
theorem all_old {H0 H : Hp} {ν : Nat -> List Addr} : ∀ {is : List Nat} {vs : List V} {ds : List D} {ρ : Ren} {σ : L2.St}, StOk K Z0 H0 ν ρ σ H -> Dns K (hid (Hd Z0 ν) H) vs ds -> StOk K Z0 H0 ν (setAll false ρ is ds) (sets σ is vs) H
 | [], _, _, _, _, S, _ => S
 | i :: is, _, _, _, _, S, .nil => S
 | i :: is, _, _, _, _, S, .cons h r => by
  have := all_old (is := is) (S.setOld i h) r
  exact this
theorem all_own {H0 H' : Hp} : ∀ (is : List Nat) {vs : List V} {ds : List D} {ρ : Ren} {σ : L2.St} {ν : Nat -> List Addr} {ms : List Addr}, StOk K Z0 H0 ν ρ σ (hid (· ∈ ms) H') -> Ows K H' vs ds ms -> ms.Nodup -> ∃ ν', StOk K Z0 H0 ν' (setAll true ρ is ds) (sets σ is vs) H' := by
 intro is
 induction is with
 | nil => intro vs ds ρ σ ν ms S _ _; exact ⟨ν, by unfold setAll sets; exact S.same hid_same⟩
 | cons i is ih =>
  intro vs ds ρ σ ν ms S r0 nd
  cases r0 with
  | nil => exact ⟨ν, S.same hid_same⟩
  | cons h r =>
   rename_i v vs d ds n m
   rw [List.nodup_append] at nd
   have sm : Same (hid (· ∈ n ++ m) H') (hid (· ∈ m) H') := hid_less fun a z => List.mem_append_right _ z
   have nt : ∀ a o, H' a = some o -> muO o = false -> hid (· ∈ m) H' a = some o := fun a o ha hn => hid_of ha fun z => by
    exact (r.there a z).no ha hn
   have hk : Kept n H' (hid (· ∈ m) H') := ⟨fun a ha => by
    unfold hid
    rw [if_neg fun z => nd.2.2 a ha a z rfl], nt⟩
   show ∃ ν', StOk K Z0 H0 ν' (setAll true (ρ.set i (some (true && !flat d, d))) is _) (sets (σ.set i (some v)) is _) H'
   cases hf : flat d with
   | true =>
    have S1 := (S.same sm).setOld i (v := v) (d := d) (den_hid (S.same sm).hl (den_kept nt h.den hf) hf)
    exact ih S1 r nd.2.1
   | false =>
    have S1 := S.setOwn [] i sm (h.kept hk) nd.1 fun a ha => .inl (by unfold hid; rw [if_pos (List.mem_append_left _ ha)])
    exact ih S1 r nd.2.1
theorem unp_ok {H0 H H' : Hp} {ν : Nat -> List Addr} {ρ : Ren} {σ : L2.St} {k : Kd} {a : Addr} {ds : List D} (S : StOk K Z0 H0 ν ρ σ H) (e : Same H H') (h : Res K Z0 ν H H' k (.ref a) (.tuple ds)) (is : List Nat) : ∃ us ν', SqT K H' a us /\ us.length = ds.length /\ StOk K Z0 H0 ν' (unpK ρ is ds k) (sets σ is us) H' := by
 have h' : Res K Z0 ν H H' (eff (.tuple ds) k) (.ref a) (.tuple ds) := by
  unfold eff
  split
  ·exact Res.flat h.den ‹_› (S.same e).hl _
  ·exact h
 have frzc : ∃ us ν', SqT K H' a us /\ us.length = ds.length /\ StOk K Z0 H0 ν' (setAll false (frz ρ) is ds) (sets σ is us) H' := by
  obtain ⟨a', us, q, q1, q2⟩ := dns_of_tup h.den
  cases q
  exact ⟨us, _, q1, q2.length, all_old (S.same e).frz (Dns.same hid_z0 q2)⟩
 unfold unpK
 generalize eff (.tuple ds) k = k' at h'
 split
 ·obtain ⟨ms, m1, m2, m3⟩ := h'
  cases m1 with
  | tup q1 q2 =>
   have sm : Same H (hid (· ∈ ms) H') := fun b o hb => hid_of (e _ _ hb) fun z => by
    rcases m3 b z with y | ⟨_, y, _⟩
    ·rw [hb] at y; cases y
    ·cases y
   obtain ⟨ν', S'⟩ := all_own is (S.same sm) q2 m2
   exact ⟨_, ν', q1, q2.den.length, S'⟩
 ·obtain ⟨a', us, q, q1, q2⟩ := dns_of_tup (show Dn K _ _ _ from h')
  cases q
  exact ⟨us, ν, Same.tup hid_same q1, q2.length, all_old (S.same e) q2⟩
 ·exact frzc
def gNames : List Nat -> TGs
 | [] => gNil
 | i :: is => gCons (gName i) (gNames is)
theorem gNames_of : ∀ (is : List Nat) (vs : List V) (σ : L2.St) (H : Hp) (Q : L2.St -> Hp -> Prop), vs.length = is.length -> Q (sets σ is vs) H -> gNames is vs σ H Q
 | [], [], σ, H, Q, _, q => ⟨rfl, q⟩
 | i :: is, v :: vs, σ, H, Q, hl, q => ⟨v, vs, rfl, gNames_of is vs _ H Q (by simpa using hl) q⟩
 | [], _ :: _, _, _, _, hl, _ => by cases hl
 | _ :: _, [], _, _, _, hl, _ => by cases hl
def dUnp (is : List Nat) (te : TD) : TSD := fun Dd ρ Xd => te ρ (fun d k => match d with
 | .tuple ds => ds.length = is.length /\ Dd.nx (unpK ρ is ds k)
 | _ => False) Xd
theorem dps_unp (is : List Nat) (n : Nat) {es : List Expr} {kt : Nat} {pt : Pos} (hn' : is.length = n) (hK : X.K = K) (hc : X.calm = true) (hg : QGs X es (gNames is)) (hn : (assignEach es X.env).length = n) (hst : (assignEach es X.env).findIdx? (·.1) = none) (he : DE X K E e te)
  (hs : swapsWithSole [.Tuple es kt pt] e pos.line X.env = pure false := by rfl) (hw : swappedStores [.Tuple es kt pt] e X.env = pure none := by rfl) (h1 : (assignEach [.Tuple es kt pt] X.env).map (·.2) = [assign (.Tuple es kt pt) X.env] := by rfl) :
  DS X K E (.Assign [.Tuple es kt pt] e pos) (dUnp is te) := ⟨qs_imp (qps_asg he.q (qpg_tupK K n hK hc hg hn hst) hs hw h1) fun En σ H h => by
 obtain ⟨H0, ν, ρ, Dd, Xd, S, h1, ok, x⟩ := h
 refine ⟨H0, ν, ρ, _, Xd, S, h1, fun d k v H' q1 e1 r1 => ?_, x⟩
 cases d with
 | tuple ds =>
  obtain ⟨a, us0, rfl, _, _⟩ := dns_of_tup r1.den
  obtain ⟨us, ν', k1, k2, S'⟩ := unp_ok S e1 r1 is
  exact ⟨a, us, rfl, k1, by rw [k2, q1.1, hn'], gNames_of is us σ H' _ (by rw [k2, q1.1]) (ok.nx _ _ _ _ q1.2 S')⟩
 | _ => exact q1.elim⟩
end
end DL
namespace DL
open PySem PySem.Spec PyProof.Rows L2
section
variable {X : Cx} {K : W.Frag} {E : XK} {pos p1 p2 px apos cpos : Pos} {e e1 e2 : Expr} {te t1 t2 : TD} {x : Str}
theorem flats_ints {ns : List Int} : flats (ns.map PyData.int) = true := flats_iff.mpr fun d hd => by
 obtain ⟨n, _, rfl⟩ := List.mem_map.mp hd
 rfl
theorem dns_of_ints {H : Hp} : ∀ (ns : List Int), Dns K H (ns.map V.int) (ns.map PyData.int)
 | [] => .nil
 | n :: r => .cons (.int n) (dns_of_ints r)
def dInts (ns : List Int) : TDA := fun _ Q _ => Q (ns.map PyData.int) (.own [])
theorem dpa_ints {es : List Expr} {ns : List Int} (h : intsOf es = some ns) : DA X K E es (dInts ns) := ⟨qa_imp (qpa_ints h) fun σ H Q h => by
 obtain ⟨H0, ν, ρ, Qd, Xd, S, h1, q, x⟩ := h
 exact q _ _ _ H h1 (Same.refl H) ⟨[], ows_flat (dns_of_ints ns) flats_ints, List.nodup_nil, fun _ z => by cases z⟩⟩
def dLR (ta : TDA) : TD := fun ρ Q Xd => ta ρ (fun ds _ => match ds with
 | [.int z] => ∃ n : Nat, z = n /\ n <= 1000000 /\ Q (.list ((List.range n).map fun (i : Nat) => PyData.int (i : Int))) (.own [])
 | _ => False) Xd
theorem dpe_listrange {a : Expr} {ta : TDA} {p p2 pos2 : Pos} (hc : X.calm = true) (hg : Gl X "list") (hm : X.mg "list" = none) (hg2 : Gl X "range") (hm2 : X.mg "range" = none) (ha : DA X K E [a] ta) (hs : starEach [a] X.env = [(false, eval a X.env)] := by rfl) (hs2 : starEach [(.Call (.Name "range" p2) [a] [] pos2)] X.env = [(false, eval (.Call (.Name "range" p2) [a] [] pos2) X.env)] := by rfl) :
  DE X K E (.Call (.Name "list" p) [.Call (.Name "range" p2) [a] [] pos2] [] pos) (dLR ta) := ⟨qe_imp (qpe_listrange hc hg hm hg2 hm2 ha.q hs hs2) fun σ H Q h => by
 obtain ⟨H0, ν, ρ, Qd, Xd, S, h1, q, x⟩ := h
 refine ⟨H0, ν, ρ, _, Xd, S, h1, fun ds k vs H' q1 e1 r1 => ?_, x⟩
 split at q1
 ·obtain ⟨v, rfl, h2⟩ := dns1 r1.dens
  obtain ⟨n, rfl, hn, q1⟩ := q1
  refine ⟨n, by rw [dn_int h2], hn, fun l hl => q _ _ _ _ q1 (e1.trans (Same.new hl)) (res_newL (S.same e1).hl e1 hl ⟨[], ?_, List.nodup_nil, fun _ z => by cases z⟩)⟩
  have := dns_of_ints (K := K) (H := H') ((List.range n).map fun (i : Nat) => (i : Int))
  rw [List.map_map, List.map_map] at this
  refine ows_flat this ?_
  have := flats_ints (ns := (List.range n).map fun (i : Nat) => (i : Int))
  rw [List.map_map] at this
  exact this
 ·exact q1.elim⟩
end
end DL
namespace DL
open PySem PySem.Spec PyProof.Rows L2
def iD (r : List Int) : D := .list (r.map PyData.int)
def gD (g : List (List Int)) : D := .list (g.map iD)
theorem flat_int {i : Int} : flat (.int i) = true := rfl
theorem flat_bool {i : Bool} : flat (.bool i) = true := rfl
theorem flat_str {i : Str} : flat (.str i) = true := rfl
theorem flat_non : flat .none = true := rfl
theorem flat_list {l : List D} : flat (.list l) = false := rfl
theorem flat_tuple {l : List D} : flat (.tuple l) = flats l := rfl
theorem flats_nil : flats [] = true := rfl
theorem flats_cons {d : D} {l : List D} : flats (d :: l) = (flat d && flats l) := rfl
theorem flat_iD {r : List Int} : flat (iD r) = false := rfl
theorem flat_gD {r : List (List Int)} : flat (gD r) = false := rfl
def lpD (ds : List D) (bnd : TGD) (tb : TSD) : TSD := fun Dd ρ Xd => ∃ W : Nat -> Ren -> Prop, W 0 ρ /\ (∀ i d ρ, ds[i]? = some d -> W i ρ -> bnd d ρ fun ρ' => tb { Dd with nx := W (i + 1), ct := W (i + 1), bk := Dd.nx } ρ' Xd) /\ ∀ ρ, W ds.length ρ -> Dd.nx ρ
theorem lp_list {ds : List D} {bnd : TGD} {tb : TSD} {Dd : EndsD} {ρ : Ren} {Xd : XD} (W : Nat -> Ren -> Prop) (h0 : W 0 ρ) (hs : ∀ i d ρ, ds[i]? = some d -> W i ρ -> bnd d ρ fun ρ' => tb { Dd with nx := W (i + 1), ct := W (i + 1), bk := Dd.nx } ρ' Xd) (hd : ∀ ρ, W ds.length ρ -> Dd.nx ρ) : lpD ds bnd tb Dd ρ Xd := ⟨W, h0, hs, hd⟩
theorem rngD_get {lo : Int} {n i : Nat} {d : D} (h : (rngD lo n)[i]? = some d) : i < n /\ d = .int (lo + i) := by
 unfold rngD at h
 rw [List.getElem?_map] at h
 cases e : (List.range n)[i]? with
 | none => rw [e] at h; cases h
 | some j =>
  rw [e] at h; cases h
  obtain ⟨h1, h2⟩ := List.getElem?_eq_some_iff.mp e
  rw [List.getElem_range] at h2
  rw [List.length_range] at h1
  exact ⟨h1, by rw [h2]⟩
theorem rngD_len {lo : Int} {n : Nat} : (rngD lo n).length = n := by unfold rngD; rw [List.length_map, List.length_range]
theorem lp_rng {lo : Int} {n : Nat} {bnd : TGD} {tb : TSD} {Dd : EndsD} {ρ : Ren} {Xd : XD} (W : Nat -> Ren -> Prop) (h0 : W 0 ρ) (hs : ∀ (i : Nat) ρ, i < n -> W i ρ -> bnd (.int (lo + i)) ρ fun ρ' => tb { Dd with nx := W (i + 1), ct := W (i + 1), bk := Dd.nx } ρ' Xd) (hd : ∀ ρ, W n ρ -> Dd.nx ρ) : lpD (rngD lo n) bnd tb Dd ρ Xd :=
 ⟨W, h0, fun i d ρ e w => by obtain ⟨h1, rfl⟩ := rngD_get e; exact hs i ρ h1 w, fun ρ w => hd ρ (by rw [rngD_len] at w; exact w)⟩
end DL
namespace DL
open PySem PySem.Spec PyProof.Rows L2
def onB (d : D) (Q : Bool -> Prop) : Prop := match d with | .bool i => Q i | _ => False
def onI (d : D) (Q : Int -> Prop) : Prop := match d with | .int i => Q i | _ => False
def onL (d : D) (Q : List D -> Prop) : Prop := match d with | .list l => Q l | _ => False
def onT (d : D) (Q : List D -> Prop) : Prop := match d with | .tuple l => Q l | _ => False
section
variable {t u : TSD} {te ta tb tc : TD} {tA tB : TDT} {tl : TDA} {Dd : EndsD} {ρ : Ren} {Xd : XD} {Q : QD} {QT : Bool -> Prop} {QA : List D -> Kd -> Prop} {i : Nat} {d e : D} {k l : Kd}
theorem w_onB {b : Bool} {Q : Bool -> Prop} (h : Q b) : onB (.bool b) Q := h
theorem w_onI {b : Int} {Q : Int -> Prop} (h : Q b) : onI (.int b) Q := h
theorem w_onL {b : List D} {Q : List D -> Prop} (h : Q b) : onL (.list b) Q := h
theorem w_onLi {b : List Int} {Q : List D -> Prop} (h : Q (b.map PyData.int)) : onL (iD b) Q := h
theorem w_onT {b : List D} {Q : List D -> Prop} (h : Q b) : onT (.tuple b) Q := h
theorem w_seq (h : t { Dd with nx := fun ρ' => u Dd ρ' Xd } ρ Xd) : dSeq t u Dd ρ Xd := h
theorem w_set (h : te ρ (fun d k => Dd.nx (setK ρ i d k)) Xd) : dSet i te Dd ρ Xd := h
theorem w_ret (h : te ρ (fun d k => Dd.rt d (rtK d k)) Xd) : dRet te Dd ρ Xd := h
theorem w_next (h : Dd.nx ρ) : dNext Dd ρ Xd := h
theorem w_ifS (h : tA ρ (fun b => if b = true then t Dd ρ Xd else u Dd ρ Xd) Xd) : dIfS tA t u Dd ρ Xd := h
theorem w_nx {f b c : Ren -> Prop} {r : D -> Bool -> Prop} (h : f ρ) : EndsD.nx ⟨f, r, b, c⟩ ρ := h
theorem w_rt {f b c : Ren -> Prop} {r : D -> Bool -> Prop} {o : Bool} (h : r d o) : EndsD.rt ⟨f, r, b, c⟩ d o := h
theorem w_frz (h : t Dd (frz1 i ρ) Xd) : dFrz i t Dd ρ Xd := h
theorem w_c (h : Q d .old) : dC d ρ Q Xd := h
theorem w_op {f : F2} (h : ta ρ (fun d k => tb ρ (fun e l => f d k e l Q) Xd) Xd) : dOp f ta tb ρ Q Xd := h
theorem w_fI0 {g : Int -> Int -> D} {x y : Int} (h : Q (g x y) .old) : fI T2 g (.int x) k (.int y) l Q := ⟨trivial, h⟩
theorem w_fI {C : Int -> Int -> Prop} {g : Int -> Int -> D} {x y : Int} (h : C x y /\ Q (g x y) .old) : fI C g (.int x) k (.int y) l Q := h
theorem w_addI {x y : Int} (h : Q (.int (x + y)) .old) : fAdd (.int x) k (.int y) l Q := h
theorem w_addL {x y : List D} (h : x.length + y.length <= 1000000 /\ Q (.list (x ++ y)) (kels2 x k y l)) : fAdd (.list x) k (.list y) l Q := h
theorem w_addS {x y : Str} (h : x.length + y.length <= 1000000 /\ Q (.str (x ++ y)) .old) : fAdd (.str x) k (.str y) l Q := h
def IxD (ds : List D) (i : Int) (Q : D -> Prop) : Prop := ∃ x, atI ds i = some x /\ Q x
theorem w_ixL {x : List D} {y : Int} (h : IxD x y fun d => Q d k.sub) : fIx (.list x) k (.int y) l Q := h
theorem w_ixLi {x : List Int} {y : Int} (h : IxD (x.map PyData.int) y fun d => Q d k.sub) : fIx (iD x) k (.int y) l Q := h
theorem w_ixLg {x : List (List Int)} {y : Int} (h : IxD (x.map iD) y fun d => Q d k.sub) : fIx (gD x) k (.int y) l Q := h
theorem w_ixT {x : List D} {y : Int} (h : IxD x y fun d => Q d k.sub) : fIx (.tuple x) k (.int y) l Q := h
theorem w_eq {f : Bool -> Bool} (h : (d.canLay0 = true /\ e.canLay0 = true /\ d.depth <= 32) /\ Q (.bool (f (PyData.eqv d e))) .old) : fEq f d k e l Q := ⟨h.1.1, h.1.2.1, h.1.2.2, h.2⟩
theorem w_eqI {f : Bool -> Bool} {x y : Int} (h : Q (.bool (f (x == y))) .old) : fEq f (.int x) k (.int y) l Q := ⟨rfl, rfl, Nat.zero_le _, h⟩
theorem w_in {f : Bool -> Bool} {x : List D} (h : (scalD d = true /\ x.all scalD = true) /\ Q (.bool (f (inD d x))) .old) : fIn f d k (.list x) l Q := ⟨h.1.1, h.1.2, h.2⟩
theorem w_andV (h : ta ρ (fun d _ => onB d fun i => if i = true then tb ρ Q Xd else Q (.bool false) .old) Xd) : dAndV ta tb ρ Q Xd := h
theorem w_orV (h : ta ρ (fun d _ => onB d fun i => if i = true then Q (.bool true) .old else tb ρ Q Xd) Xd) : dOrV ta tb ρ Q Xd := h
theorem w_B (h : ta ρ (fun d _ => onB d QT) Xd) : dB ta ρ QT Xd := h
theorem w_and (h : tA ρ (fun b => if b = true then tB ρ QT Xd else QT false) Xd) : dAnd tA tB ρ QT Xd := h
theorem w_or (h : tA ρ (fun b => if b = true then QT true else tB ρ QT Xd) Xd) : dOr tA tB ρ QT Xd := h
theorem w_not (h : tA ρ (fun b => QT (!b)) Xd) : dNot tA ρ QT Xd := h
theorem w_true (h : QT true) : dTrue ρ QT Xd := h
theorem w_nil (h : QA [] (.own [])) : dNil ρ QA Xd := h
theorem w_cons (h : ta ρ (fun d k => tl ρ (fun ds l => QA (d :: ds) (kcons d k l)) Xd) Xd) : dCons ta tl ρ QA Xd := h
theorem w_ints {ns : List Int} (h : QA (ns.map PyData.int) (.own [])) : dInts ns ρ QA Xd := h
theorem w_tup (h : tl ρ (fun ds k => ds.length <= 1000 /\ Q (.tuple ds) k) Xd) : dTup tl ρ Q Xd := h
theorem w_lst (h : tl ρ (fun ds k => ds.length <= 1000 /\ Q (.list ds) k) Xd) : dLst tl ρ Q Xd := h
theorem w_call0 {sp : SpD} (h : tl ρ (fun ds _ => sp ds (fun d o => Q d (kRet o)) Xf) Xd) : dCall0 sp tl ρ Q Xd := h
theorem w_cb {g : FA} (h : tl ρ (fun ds k => g ds k Q) Xd) : dCB g tl ρ Q Xd := h
theorem w_len {x : List D} (h : Q (.int x.length) .old) : fLen [.list x] k Q := h
theorem w_lenI {x : List Int} (h : Q (.int x.length) .old) : fLen [iD x] k Q := by show Q (.int (x.map PyData.int).length) .old; rw [List.length_map]; exact h
theorem w_lenG {x : List (List Int)} (h : Q (.int x.length) .old) : fLen [gD x] k Q := by show Q (.int (x.map iD).length) .old; rw [List.length_map]; exact h
theorem w_lenS {x : List D} (h : Q (.int x.length) .old) : fLen [.dict [(.none, .list x)]] k Q := h
theorem w_bls {f : List Bool -> Bool} {x : List D} (h : ∃ ns, boolsD x = some ns /\ Q (.bool (f ns)) .old) : fBls f [.list x] k Q := h
theorem w_list {x : List D} (h : Q (.list x) (kels x k)) : fList [.list x] k Q := h
theorem w_isi {f : D -> Bool} (h : ta ρ (fun d _ => noDict d = true /\ Q (.bool (f d)) .old) Xd) : dIs f ta ρ Q Xd := h
theorem w_sl {f : F3} {tlo thi : TDO} (h : te ρ (fun d k => tlo ρ (fun l => thi ρ (fun h => f d k l h Q) Xd) Xd) Xd) : dSl f te tlo thi ρ Q Xd := h
theorem w_noPart {Q : Option Int -> Prop} (h : Q none) : dNoPart ρ Q Xd := h
theorem w_part {Q : Option Int -> Prop} (h : te ρ (fun d _ => onI d fun i => Q (some i)) Xd) : dPart te ρ Q Xd := h
theorem w_slL {x : List D} {lo hi : Option Int} (h : Q (.list (cutD x lo hi)) (kels (cutD x lo hi) k)) : fSl (.list x) k lo hi Q := h
theorem w_bName {Q : Ren -> Prop} (h : Q (ρ.set i (some (false, d)))) : bName i d ρ Q := h
theorem w_bTup {n : Nat} {bs : TGsD} {ds : List D} {Q : Ren -> Prop} (h : ds.length = n /\ bs ds ρ Q) : bTup n bs (.tuple ds) ρ Q := h
theorem w_bCons {b : TGD} {bs : TGsD} {ds : List D} {Q : Ren -> Prop} (h : b d ρ fun ρ' => bs ds ρ' Q) : bCons b bs (d :: ds) ρ Q := h
theorem w_bNil {Q : Ren -> Prop} (h : Q ρ) : bNil [] ρ Q := ⟨rfl, h⟩
theorem w_for {ti : TDI} {bnd : TGD} (h : ti ρ (fun ds b => b = true /\ lpD ds bnd t Dd ρ Xd) Xd) : dFor ti bnd t Dd ρ Xd := h
theorem w_iL {Q : List D -> Bool -> Prop} (h : te ρ (fun d k => onL d fun ds => Q ds k.isOld) Xd) : iL te ρ Q Xd := h
def on1I (ds : List D) (Q : Int -> Prop) : Prop := match ds with | [.int j] => Q j | _ => False
theorem w_on1I {x : Int} {Q : Int -> Prop} (h : Q x) : on1I [.int x] Q := h
theorem w_iR1 {Q : List D -> Bool -> Prop} (h : tl ρ (fun ds _ => on1I ds fun j => (-(2 ^ 62) <= j /\ j < 2 ^ 62) /\ Q (rngD 0 j.toNat) true) Xd) : iR1 tl ρ Q Xd := by
 have e : (fun (ds : List D) (_ : Kd) => on1I ds fun j => (-(2 ^ 62) <= j /\ j < 2 ^ 62) /\ Q (rngD 0 j.toNat) true) = (fun ds _ => match ds with | [.int j] => -(2 ^ 62) <= j /\ j < 2 ^ 62 /\ Q (rngD 0 j.toNat) true | _ => False) := by
  funext ds _
  unfold on1I
  split
  ·exact propext and_assoc
  ·rfl
 rw [e] at h
 exact h
theorem w_lr (h : tl ρ (fun ds _ => on1I ds fun z => ∃ n : Nat, z = n /\ n <= 1000000 /\ Q (.list ((List.range n).map fun (i : Nat) => PyData.int (i : Int))) (.own [])) Xd) : dLR tl ρ Q Xd := h
theorem w_unp {is : List Nat} (h : te ρ (fun d k => onT d fun ds => ds.length = is.length /\ Dd.nx (unpK ρ is ds k)) Xd) : dUnp is te Dd ρ Xd := h
def LcD (f : D -> Els -> (Els -> Prop) -> Prop) (ds : List D) (ok : Bool) (Q : QD) : Prop := go f ds [] fun es => Q (.list (es.map (·.1))) (if es.all (·.2) = true then .own [] else if ok = true then .old else .mix)
theorem w_lc {ti : TDI} {T : List Nat} {bnd : TGD} {tif : TDT} {tb : TB} {own : List Str} {cap : List (Str × Nat)} (h : ti ρ (fun ds b => LcD (fun d es Q' => bnd d (dropS (capR own cap ρ) T) fun ρ' => tif ρ' (fun c => if c = true then tb ρ' es Q' else Q' es) Xf) ds (b && capOk cap ρ) Q) Xd) : dLC ti T bnd tif tb own cap ρ Q Xd := h
theorem w_emit {es : Els} {Q : Els -> Prop} (h : te ρ (fun d k => es.length < 1000000 /\ (eff d k).isOld = true /\ Q (es ++ [(d, isOwnK (eff d k))])) Xf) : dEmit te ρ es Q := h
theorem w_ift {A B : Prop} (h : A) : if (true : Bool) = true then A else B := h
theorem w_iff {A B : Prop} (h : B) : if (false : Bool) = true then A else B := by rw [if_neg Bool.false_ne_true]; exact h
theorem setK_int {x : Int} : setK ρ i (.int x) k = ρ.set i (some (false, .int x)) := rfl
theorem setK_bool {x : Bool} : setK ρ i (.bool x) k = ρ.set i (some (false, .bool x)) := rfl
theorem setK_str {x : Str} : setK ρ i (.str x) k = ρ.set i (some (false, .str x)) := rfl
theorem setK_non : setK ρ i .none k = ρ.set i (some (false, .none)) := rfl
theorem setK_own {x : List D} {s : List Nat} : setK ρ i (.list x) (.own s) = (dropS ρ s).set i (some (true, .list x)) := rfl
theorem setK_old {x : List D} : setK ρ i (.list x) .old = ρ.set i (some (false, .list x)) := rfl
theorem setK_mix {x : List D} : setK ρ i (.list x) .mix = (frz ρ).set i (some (false, .list x)) := rfl
theorem setK_ownI {x : List Int} {s : List Nat} : setK ρ i (iD x) (.own s) = (dropS ρ s).set i (some (true, iD x)) := rfl
theorem setK_oldI {x : List Int} : setK ρ i (iD x) .old = ρ.set i (some (false, iD x)) := rfl
theorem setK_mixI {x : List Int} : setK ρ i (iD x) .mix = (frz ρ).set i (some (false, iD x)) := rfl
theorem setK_ownG {x : List (List Int)} {s : List Nat} : setK ρ i (gD x) (.own s) = (dropS ρ s).set i (some (true, gD x)) := rfl
theorem setK_oldG {x : List (List Int)} : setK ρ i (gD x) .old = ρ.set i (some (false, gD x)) := rfl
theorem setK_mixG {x : List (List Int)} : setK ρ i (gD x) .mix = (frz ρ).set i (some (false, gD x)) := rfl
theorem setK_tup {x : List D} (h : flats x = true) : setK ρ i (.tuple x) k = ρ.set i (some (false, .tuple x)) := by unfold setK; rw [flat_tuple, if_pos h]
theorem rtK_int {x : Int} : rtK (.int x) k = true := rfl
theorem rtK_bool {x : Bool} : rtK (.bool x) k = true := rfl
theorem rtK_str {x : Str} : rtK (.str x) k = true := rfl
theorem rtK_non : rtK .none k = true := rfl
theorem rtK_own {s : List Nat} : rtK d (.own s) = true := by unfold rtK; rw [Bool.or_true]
theorem rtK_tup {x : List D} (h : flats x = true) : rtK (.tuple x) k = true := by unfold rtK; rw [flat_tuple, h]; rfl
theorem kcons_flat (h : flat d = true) : kcons d k (.own []) = .own [] := by unfold kcons; rw [if_pos h]; rfl
theorem kcons_own {s : List Nat} (h : flat d = false) : kcons d (.own s) (.own []) = .own (s ++ []) := by
 unfold kcons; rw [h, if_neg Bool.false_ne_true]
 show (if disj s [] = true then Kd.own (s ++ []) else .mix) = _
 rw [if_pos (by unfold disj; simp)]
theorem kcons_old (h : flat d = false) : kcons d .old (.own []) = .old := by unfold kcons; rw [h]; rfl
theorem frz_nil : frz [] = [] := rfl
theorem frz_some {b : Bool} {r : Ren} : frz (some (b, d) :: r) = some (false, d) :: frz r := rfl
theorem frz_none {r : Ren} : frz (none :: r) = none :: frz r := rfl
theorem dropS_nil : dropS ρ [] = ρ := rfl
theorem dropS_cons {s : List Nat} : dropS ρ (i :: s) = dropS (ρ.set i none) s := rfl
theorem kRet_t : kRet true = .own [] := rfl
theorem kRet_f : kRet false = .mix := rfl
theorem sub_own : Kd.sub (.own []) = .own [] := rfl
theorem sub_old : Kd.sub .old = .old := rfl
theorem sub_ownc {s : List Nat} : Kd.sub (.own (i :: s)) = .mix := rfl
theorem sub_mix : Kd.sub .mix = .mix := rfl
theorem isOld_own : Kd.isOld (.own []) = true := rfl
theorem isOld_old : Kd.isOld .old = true := rfl
theorem isOld_mix : Kd.isOld .mix = false := rfl
theorem isOld_ownc {s : List Nat} : Kd.isOld (.own (i :: s)) = false := rfl
theorem eff_int {x : Int} : eff (.int x) k = .own [] := rfl
theorem eff_bool {x : Bool} : eff (.bool x) k = .own [] := rfl
theorem eff_str {x : Str} : eff (.str x) k = .own [] := rfl
theorem eff_tup {x : List D} (h : flats x = true) : eff (.tuple x) k = .own [] := by unfold eff; rw [flat_tuple, h]; rfl
theorem eff_ltc {x : List D} : eff (.list x) k = k := rfl
theorem eff_iD {x : List Int} : eff (iD x) k = k := rfl
theorem eff_gD {x : List (List Int)} : eff (gD x) k = k := rfl
theorem isOwnK_own : isOwnK (.own []) = true := rfl
theorem isOwnK_old : isOwnK .old = false := rfl
theorem w_v0 {r : Ren} (q : Q d .old) : dVar 0 (some (false, d) :: r) Q Xd := ⟨false, d, rfl, q⟩
theorem w_v1 {x0 : Option (Bool × D)} {r : Ren} (q : Q d .old) : dVar 1 (x0 :: some (false, d) :: r) Q Xd := ⟨false, d, rfl, q⟩
theorem w_o1 {x0 : Option (Bool × D)} {r : Ren} (q : Q d (.own [1])) : dVar 1 (x0 :: some (true, d) :: r) Q Xd := ⟨true, d, rfl, q⟩
theorem w_v2 {x0 x1 : Option (Bool × D)} {r : Ren} (q : Q d .old) : dVar 2 (x0 :: x1 :: some (false, d) :: r) Q Xd := ⟨false, d, rfl, q⟩
theorem w_o2 {x0 x1 : Option (Bool × D)} {r : Ren} (q : Q d (.own [2])) : dVar 2 (x0 :: x1 :: some (true, d) :: r) Q Xd := ⟨true, d, rfl, q⟩
theorem w_v3 {x0 x1 x2 : Option (Bool × D)} {r : Ren} (q : Q d .old) : dVar 3 (x0 :: x1 :: x2 :: some (false, d) :: r) Q Xd := ⟨false, d, rfl, q⟩
theorem w_o3 {x0 x1 x2 : Option (Bool × D)} {r : Ren} (q : Q d (.own [3])) : dVar 3 (x0 :: x1 :: x2 :: some (true, d) :: r) Q Xd := ⟨true, d, rfl, q⟩
theorem w_v4 {x0 x1 x2 x3 : Option (Bool × D)} {r : Ren} (q : Q d .old) : dVar 4 (x0 :: x1 :: x2 :: x3 :: some (false, d) :: r) Q Xd := ⟨false, d, rfl, q⟩
theorem w_o4 {x0 x1 x2 x3 : Option (Bool × D)} {r : Ren} (q : Q d (.own [4])) : dVar 4 (x0 :: x1 :: x2 :: x3 :: some (true, d) :: r) Q Xd := ⟨true, d, rfl, q⟩
theorem w_v5 {x0 x1 x2 x3 x4 : Option (Bool × D)} {r : Ren} (q : Q d .old) : dVar 5 (x0 :: x1 :: x2 :: x3 :: x4 :: some (false, d) :: r) Q Xd := ⟨false, d, rfl, q⟩
theorem w_o5 {x0 x1 x2 x3 x4 : Option (Bool × D)} {r : Ren} (q : Q d (.own [5])) : dVar 5 (x0 :: x1 :: x2 :: x3 :: x4 :: some (true, d) :: r) Q Xd := ⟨true, d, rfl, q⟩
theorem w_v6 {x0 x1 x2 x3 x4 x5 : Option (Bool × D)} {r : Ren} (q : Q d .old) : dVar 6 (x0 :: x1 :: x2 :: x3 :: x4 :: x5 :: some (false, d) :: r) Q Xd := ⟨false, d, rfl, q⟩
theorem w_v7 {x0 x1 x2 x3 x4 x5 x6 : Option (Bool × D)} {r : Ren} (q : Q d .old) : dVar 7 (x0 :: x1 :: x2 :: x3 :: x4 :: x5 :: x6 :: some (false, d) :: r) Q Xd := ⟨false, d, rfl, q⟩
theorem w_v8 {x0 x1 x2 x3 x4 x5 x6 x7 : Option (Bool × D)} {r : Ren} (q : Q d .old) : dVar 8 (x0 :: x1 :: x2 :: x3 :: x4 :: x5 :: x6 :: x7 :: some (false, d) :: r) Q Xd := ⟨false, d, rfl, q⟩
end
end DL
namespace DL
open PySem PySem.Spec PyProof.Rows L2
structure RoomH (k : Nat) (A : Around) : Prop where
 dp : A.depth + 3 * k + 5 < recursionLimit
 un : A.units + 16 * k + 200 < cLine
theorem Room.h {k : Nat} {A : Around} (r : Room k A) : RoomH k A := ⟨r.dp, r.un⟩
structure FnOkH (P : Program) (w : World) (K : W.Frag) (mg : Str -> Option Value) (base : Heap) (k : Nat) (f : Addr) (fd : FuncData) (ps : List Str) (sp : Sp) : Prop where
 len : ∀ vs H Q E, sp vs H Q E -> vs.length = ps.length
 run : ∀ (A : Around) (outer : List Env) (s : Shared) (H : Hp) (args : Args) (us : List Value) (vs : List V) (Q : VK) (E : XK), RoomH k A -> Env0 P w K mg base A outer s H -> BindsTo s fd args (ps.zip us) -> Vals vs us -> sp vs H Q E ->
  codeAny (model P w) A (.call (.ref f) args) (CR CX0 outer P w H s Q E) s
end DL
namespace DL
open PySem PySem.Spec PyProof.Rows L2
def LEX (K : W.Frag) (t : TD) : TEX := fun σ H Q E => ∃ H0 ν ρ Qd Xd, StOk K Z0 H0 ν ρ σ H /\ t ρ Qd Xd /\ (∀ d k v H', Qd d k -> Same H H' -> Res K Z0 ν H H' k v d -> Q v H') /\ ∀ C H', Xd C -> Same H H' -> E (.ref C) none H'
structure DEX (X : Cx) (K : W.Frag) (e : Expr) (t : TD) : Prop where
 q : PEX X e (LEX K t)
abbrev TSDX := EndsD -> Ren -> (Ren -> Addr -> Prop) -> Prop
def LSX (K : W.Frag) (t : TSDX) : TSX := fun En Es σ H => ∃ H0 ν ρ Dd Xr, StOk K Z0 H0 ν ρ σ H /\ t Dd ρ Xr /\ EndsOk K H0 En Dd /\ ∀ ν' ρ' σ' H' C, Xr ρ' C -> StOk K Z0 H0 ν' ρ' σ' H' -> Es σ' (.ref C) none H'
structure DSX (X : Cx) (K : W.Frag) (s : Stmt) (t : TSDX) : Prop where
 q : PSX X s (LSX K t)
structure DSXs (X : Cx) (K : W.Frag) (s : List Stmt) (t : TSDX) : Prop where
 q : PSXs X s (LSX K t)
section
variable {X : Cx} {K : W.Frag} {pos pos' : Pos} {e : Expr}
def xIf (tc : TDT) (a b : TSDX) : TSDX := fun Dd ρ Xr => tc ρ (fun c => if c = true then a Dd ρ Xr else b Dd ρ Xr) Xf
def opq (a : Addr) : D := .dict [(.bool true, .int (a : Nat))]
end
end DL
namespace DL
open PySem PySem.Spec PyProof.Rows L2
section
variable {Q : QD} {QT : Bool -> Prop} {k l : Kd} {ρ : Ren} {Xd : XD} {X : Cx} {K : W.Frag}
theorem cut_from {x : List D} {j : Nat} {z : Int} (hz : z = j) : cutD x (some z) none = x.drop j := by
 subst hz
 unfold cutD
 rw [HT.sIx_nat, HT.sIx_none]
 by_cases h : j <= x.length
 ·rw [Nat.min_eq_left h]
  exact List.take_of_length_le (by rw [List.length_drop]; exact Nat.le_refl _)
 ·rw [Nat.min_eq_right (by omega), List.drop_eq_nil_of_le (Nat.le_refl _), List.drop_eq_nil_of_le (by omega)]; simp
theorem cut_to {x : List D} {j : Nat} {z : Int} (hz : z = j) : cutD x none (some z) = x.take j := by
 subst hz
 unfold cutD
 rw [HT.sIx_nat, HT.sIx_none, List.drop_zero, Nat.sub_zero]
 by_cases h : j <= x.length
 ·rw [Nat.min_eq_left h]
 ·rw [Nat.min_eq_right (by omega), List.take_of_length_le (Nat.le_refl _), List.take_of_length_le (by omega)]
theorem list_iD {x : List Int} : PyData.list (x.map PyData.int) = iD x := rfl
theorem list_gD {x : List (List Int)} : PyData.list (x.map iD) = gD x := rfl
theorem dop_fdivB : DOp X K (binaryOp .FloorDiv) (fI CDivB fun i j => .int (i / j)) := ⟨_, op_fdivB, prim_int⟩
end
section
variable {t u : TSD} {te ta tb tc t1 t2 : TD} {tl : TDA} {Dd : EndsD} {ρ : Ren} {Xd : XD} {Q : QD} {i : Nat} {d e : D} {k l : Kd}
def AppK (ds : List D) (i : Nat) (ρ : Ren) (Dd : EndsD) (d : D) : Kd -> Prop
 | .own s => i ∉ s /\ Dd.nx ((dropS ρ s).set i (some (true, .list (ds ++ [d]))))
 | _ => False
def PutK (i : Nat) (ρ : Ren) (Dd : EndsD) (x : D) : Kd -> Prop
 | .own s => i ∉ s /\ Dd.nx ((dropS ρ s).set i (some (true, x)))
 | _ => False
theorem w_putK {x : D} {s : List Nat} (h : i ∉ s /\ Dd.nx ((dropS ρ s).set i (some (true, x)))) : PutK i ρ Dd x (.own s) := h
theorem unpK_own {is : List Nat} {ds : List D} : unpK ρ is ds (.own []) = setAll true ρ is ds := by
 unfold unpK eff
 split <;> first | rfl | (split at * <;> simp_all)
theorem unpK_flat {is : List Nat} {ds : List D} (h : flats ds = true) : unpK ρ is ds k = setAll true ρ is ds := by
 unfold unpK
 have : eff (.tuple ds) k = .own [] := eff_tup h
 rw [this]
theorem setAll_cons {b : Bool} {is : List Nat} {ds : List D} : setAll b ρ (i :: is) (d :: ds) = setAll b (ρ.set i (some (b && !flat d, d))) is ds := rfl
theorem setAll_nil {b : Bool} {ds : List D} : setAll b ρ [] ds = ρ := rfl
theorem app_iD {r : List Int} {x : Int} : PyData.list (r.map .int ++ [.int x]) = iD (r ++ [x]) := by unfold iD; rw [List.map_append]; rfl
theorem app_gD {g : List (List Int)} {r : List Int} : PyData.list (g.map iD ++ [iD r]) = gD (g ++ [r]) := by unfold gD; rw [List.map_append]; rfl
end
end DL
namespace DL
open PySem PySem.Spec PyProof.Rows L2
variable {α : Type}
theorem go_fltA {f : D -> Els -> (Els -> Prop) -> Prop} {Q : Els -> Prop} (F G : α -> D) (p : α -> Bool) : ∀ (L : List α) (es : Els), (∀ a ∈ L, ∀ es (Q' : Els -> Prop), es.length < 1000000 -> Q' (if p a = true then es ++ [(G a, true)] else es) -> f (F a) es Q') -> es.length + L.length <= 1000000 -> Q (es ++ (L.filter p).map fun a => (G a, true)) -> go f (L.map F) es Q
 | [], es, _, _, q => by
  show Q es
  simpa using q
 | a :: r, es, hs, hm, q => by
  rw [List.length_cons] at hm
  refine hs a List.mem_cons_self es _ (by omega) ?_
  refine go_fltA F G p r _ (fun b hb => hs b (List.mem_cons_of_mem _ hb)) ?_ ?_
  ·split
   ·rw [List.length_append, List.length_singleton]; omega
   ·omega
  ·rw [List.filter_cons] at q
   by_cases hp : p a = true
   ·rw [if_pos hp] at q ⊢
    rw [List.append_assoc]; exact q
   ·rw [if_neg hp] at q ⊢; exact q
theorem lc_fltA {f : D -> Els -> (Els -> Prop) -> Prop} {ok : Bool} {Q : QD} {L : List α} (F G : α -> D) (p : α -> Bool) (hs : ∀ a ∈ L, ∀ es (Q' : Els -> Prop), es.length < 1000000 -> Q' (if p a = true then es ++ [(G a, true)] else es) -> f (F a) es Q') (hm : L.length <= 1000000) (q : Q (.list ((L.filter p).map G)) (.own [])) : LcD f (L.map F) ok Q := by
 refine go_fltA F G p L [] hs (by simpa using hm) ?_
 have e1 : ((((L.filter p).map fun a => (G a, true)) : Els).map (·.1)) = (L.filter p).map G := by rw [List.map_map]; rfl
 have e2 : ((((L.filter p).map fun a => (G a, true)) : Els).all (·.2)) = true := by rw [List.all_map]; exact List.all_eq_true.mpr fun _ _ => rfl
 rw [List.nil_append, e1, if_pos e2]; exact q
theorem lc_mapA {f : D -> Els -> (Els -> Prop) -> Prop} {ok : Bool} {Q : QD} {L : List α} (F G : α -> D) (hs : ∀ a ∈ L, ∀ es (Q' : Els -> Prop), es.length < 1000000 -> Q' (es ++ [(G a, true)]) -> f (F a) es Q') (hm : L.length <= 1000000) (q : Q (.list (L.map G)) (.own [])) : LcD f (L.map F) ok Q :=
 lc_fltA F G (fun _ => true) hs hm (by rw [List.filter_eq_self.mpr fun _ _ => rfl]; exact q)
def dJn (t : TSD) : TSD := t
theorem dps_jn {X : Cx} {K : W.Frag} {E : XK} {s : Stmt} {t : TSD} (h : DS X K E s t) : DS X K E s (dJn t) := h
theorem w_jn {t : TSD} {Dd : EndsD} {ρ : Ren} {Xd : XD} (I : Ren -> Prop) (h1 : ∀ N : Ren -> Prop, (∀ ρ', I ρ' -> N ρ') -> t { Dd with nx := N } ρ Xd) (h2 : ∀ ρ', I ρ' -> Dd.nx ρ') : dJn t Dd ρ Xd := h1 Dd.nx h2
theorem bools_map (f : α -> Bool) : ∀ (L : List α), boolsD (L.map fun a => PyData.bool (f a)) = some (L.map f)
 | [] => rfl
 | a :: L => by
  have := bools_map f L
  simp [boolsD, this]
section
variable {K : W.Frag} {R : Addr} {tb a b : TSDX} {ts : TSD} {Dd : EndsD} {ρ : Ren} {Xd : XD} {Xr : Ren -> Addr -> Prop} {te : TD} {tl : TDA} {tc : TDT} {sp : SpD} {Q : QD}
end
theorem w_put2 {i : Nat} {t1 t2 te : TD} {Dd : EndsD} {ρ : Ren} {Xd : XD} (h : te ρ (fun d k => ∃ ds, ρ[i]? = some (some (true, .list ds)) /\ t1 ρ (fun y1 _ => ∃ z1 j1 es, y1 = .int z1 /\ ixN ds.length z1 = some j1 /\ ds[j1]? = some (.list es) /\ t2 ρ (fun y2 _ => ∃ z2 j2, y2 = .int z2 /\ ixN es.length z2 = some j2 /\ PutK i ρ Dd (.list (ds.set j1 (.list (es.set j2 d)))) (eff d k)) Xd) Xd) Xd) : dPut2 i t1 t2 te Dd ρ Xd := h
theorem frz1_0 {b : Bool} {d : D} {r : Ren} : frz1 0 (some (b, d) :: r) = some (false, d) :: r := rfl
theorem frz1_s {i : Nat} {x : Option (Bool × D)} {r : Ren} : frz1 (i + 1) (x :: r) = x :: frz1 i r := by
 unfold frz1
 rw [List.getElem?_cons_succ]
 cases h : r[i]? with
 | none => rfl
 | some y => cases y with
  | none => rfl
  | some p => rfl
end DL
namespace DL
open PySem PySem.Spec PyProof.Rows L2
section
variable {X : Cx} {K : W.Frag} {E : XK} {pos pa p1 px py pt : Pos} {e e1 : Expr} {te t1 : TD} {x y : Str}
theorem onI_ex {y : D} {Q : Int -> Prop} (h : onI y Q) : ∃ z, y = .int z /\ Q z := by
 cases y with
 | int z => exact ⟨z, rfl, h⟩
 | _ => exact h.elim
end
end DL
namespace DL
open PySem PySem.Spec PyProof.Rows L2
section
variable {X : Cx} {K : W.Frag} {E : XK} {pos p2 : Pos} {e k : Expr} {te tk : TD} {α : Type}
theorem lay_iD (r : List Int) : (iD r).canLay0 = true := lay_ints r
theorem depth_iD (r : List Int) : (iD r).depth <= 32 := by
 show PyData.depthAll _ + 1 <= 32
 have : PyData.depthAll (r.map PyData.int) = 0 := depth_ints r
 omega
theorem kcons_int {x : Int} {k : Kd} : kcons (.int x) k (.own []) = .own [] := kcons_flat rfl
theorem kcons_boo {x : Bool} {k : Kd} : kcons (.bool x) k (.own []) = .own [] := kcons_flat rfl
theorem kcons_st {x : Str} {k : Kd} : kcons (.str x) k (.own []) = .own [] := kcons_flat rfl
theorem kcons_nn {k : Kd} : kcons .none k (.own []) = .own [] := kcons_flat rfl
theorem one_iD {x : Int} : PyData.list [PyData.int x] = iD [x] := rfl
theorem two_iD {x y : Int} : PyData.list [PyData.int x, PyData.int y] = iD [x, y] := rfl
end
end DL
namespace DL
open PySem PySem.Spec PyProof.Rows L2
section
variable {X : Cx} {K : W.Frag} {E : XK} {pos p1 px apos cpos : Pos} {e e1 : Expr} {te t1 : TD} {x : Str}
theorem StOk.row {H0 H H2 : Hp} {ν : Nat -> List Addr} {ρ : Ren} {σ : L2.St} {i j : Nat} {ds es : List D} {a : Addr} {us : List V} {ns : List Addr} {s : List Nat} (S : StOk K Z0 H0 ν ρ σ H) (h1 : ρ[i]? = some (some (true, .list ds))) (g1 : σ[i]? = some (some (.ref a))) (g2 : H a = some (.lst us)) (g3 : Ows K H us ds ns) (g4 : ν i = a :: ns) (g5 : a ∉ ns) (g6 : ns.Nodup)
  (hj : ds[j]? = some (.list es)) (e : Same H H2) (hs : i ∉ s) :
  ∃ b ws ms0, us[j]? = some (.ref b) /\ H b = some (.lst ws) /\ Ows K H ws es ms0 /\ b ∉ ms0 /\ ms0.Nodup /\ (∀ y ∈ b :: ms0, y ∈ ns) /\ ∀ (ws' : List V) (es' : List D) (ms : List Addr), Ows K (upd H2 b (.lst ws')) ws' es' ms -> ms.Nodup -> (∀ y ∈ ms, y ∈ ms0 ∨ H y = none ∨ ∃ l ∈ s, y ∈ ν l) ->
   ∃ ν', StOk K Z0 H0 ν' ((dropS ρ s).set i (some (true, .list (ds.set j (.list es'))))) σ (upd H2 b (.lst ws')) := by
 obtain ⟨n1, n2, n3, u, q1, q2, q3, q4, _⟩ := ows_split g3 hj
 have nu := g6
 rw [q1, List.nodup_append, List.nodup_append] at nu
 cases q3 with
 | lst hb r =>
  rename_i b ws n2
  have nb := List.nodup_cons.mp nu.2.1.1
  have inr : ∀ y ∈ b :: n2, y ∈ ns := fun y hy => by rw [q1]; exact List.mem_append_right _ (List.mem_append_left _ hy)
  refine ⟨b, ws, n2, q2, hb, r, nb.1, nb.2, inr, fun ws' es' ms hm nd fr => ?_⟩
  have hbn : b ∈ ns := inr b List.mem_cons_self
  have hab : a ≠ b := fun z => g5 (z ▸ hbn)
  have in13 : ∀ y, y ∈ n1 ∨ y ∈ n3 -> y ∈ ns := fun y hy => by rw [q1]; rcases hy with hy | hy <;> simp [hy]
  have ne13 : ∀ y, y ∈ n1 ∨ y ∈ n3 -> ∀ z ∈ b :: n2, y ≠ z := fun y hy z hz e => by
   subst e
   rcases hy with hy | hy
   ·exact nu.2.2 y hy y (List.mem_append_left _ hz) rfl
   ·exact nu.2.1.2.2 y hz y hy rfl
  have ms13 : ∀ y, y ∈ n1 ∨ y ∈ n3 -> y ∉ ms := fun y hy z => by
   rcases fr y z with z | z | ⟨l, hl, z⟩
   ·exact ne13 y hy y (List.mem_cons_of_mem _ z) rfl
   ·obtain ⟨us, w⟩ := g3.there y (in13 y hy); rw [z] at w; cases w
   ·rw [S.dj i l y (by rw [g4]; exact List.mem_cons_of_mem _ (in13 y hy)) z] at hs; exact hs hl
  have msa : a ∉ ms := fun z => by
   rcases fr a z with z | z | ⟨l, hl, z⟩
   ·exact g5 (inr a (List.mem_cons_of_mem _ z))
   ·rw [g2] at z; cases z
   ·rw [S.dj i l a (by rw [g4]; exact List.mem_cons_self) z] at hs; exact hs hl
  have msb : b ∉ ms := fun z => by
   rcases fr b z with z | z | ⟨l, hl, z⟩
   ·exact nb.1 z
   ·rw [hb] at z; cases z
   ·rw [S.dj i l b (by rw [g4]; exact List.mem_cons_of_mem _ hbn) z] at hs; exact hs hl
  have k1 : ∀ (l : List Addr), (∀ y ∈ l, y ∈ n1 ∨ y ∈ n3) -> Kept l H (upd H2 b (.lst ws')) := fun l hl => kept_upd e hb fun y hy => ⟨g3.there y (in13 y (hl y hy)), ne13 y (hl y hy) b List.mem_cons_self⟩
  have C : Ow K (upd H2 b (.lst ws')) (.ref b) (.list es') (b :: ms) := .lst upd_same hm
  have us' : us.set j (.ref b) = us := by
   apply List.ext_getElem?
   intro m
   by_cases z : m = j
   ·subst z; rw [List.getElem?_set_self (len_of q2), q2]
   ·rw [List.getElem?_set_ne (Ne.symm z)]
  have A := q4 _ (k1 n1 fun y hy => .inl hy) (k1 n3 fun y hy => .inr hy) (.ref b) _ _ C
  rw [us'] at A
  refine ⟨_, S.mut s i (ms := a :: (n1 ++ ((b :: ms) ++ n3))) (v := .ref a) g1 (len_of h1) (fun y o hy hn => ?_) (.lst (by rw [upd_ne hab]; exact e _ _ g2) A) ?_ ?_ hs (gone_ok S hs e (by rw [g4]; exact List.mem_cons_of_mem _ hbn))⟩
  ·rw [upd_ne (fun z => hn (by rw [z, g4]; exact List.mem_cons_of_mem _ hbn))]; exact e _ _ hy
  ·refine List.nodup_cons.mpr ⟨fun z => ?_, List.nodup_append.mpr ⟨nu.1, List.nodup_append.mpr ⟨List.nodup_cons.mpr ⟨msb, nd⟩, nu.2.1.2.1, fun x hx y hy z => ?_⟩, fun x hx y hy z => ?_⟩⟩
   ·rcases List.mem_append.mp z with z | z
    ·exact g5 (in13 a (.inl z))
    ·rcases List.mem_append.mp z with z | z
     ·rcases List.mem_cons.mp z with z | z
      ·exact hab z
      ·exact msa z
     ·exact g5 (in13 a (.inr z))
   ·subst z
    rcases List.mem_cons.mp hx with z | z
    ·exact ne13 x (.inr hy) b List.mem_cons_self z
    ·exact ms13 x (.inr hy) z
   ·subst z
    rcases List.mem_append.mp hy with hy | hy
    ·rcases List.mem_cons.mp hy with z | z
     ·exact ne13 x (.inl hx) b List.mem_cons_self z
     ·exact ms13 x (.inl hx) z
    ·exact nu.2.2 x hx x (List.mem_append_right _ hy) rfl
  ·intro y hy
   have tk : ∀ y ∈ ns, y ∈ ν i := fun y hy => by rw [g4]; exact List.mem_cons_of_mem _ hy
   rcases List.mem_cons.mp hy with rfl | hy
   ·exact .inl (by rw [g4]; exact List.mem_cons_self)
   ·rcases List.mem_append.mp hy with hy | hy
    ·exact .inl (tk y (in13 y (.inl hy)))
    ·rcases List.mem_append.mp hy with hy | hy
     ·rcases List.mem_cons.mp hy with rfl | hy
      ·exact .inl (tk _ hbn)
      ·rcases fr y hy with z | z | z
       ·exact .inl (tk y (inr y (List.mem_cons_of_mem _ z)))
       ·exact .inr (.inl z)
       ·exact .inr (.inr z)
     ·exact .inl (tk y (in13 y (.inr hy)))
def App2K (ds es : List D) (j i : Nat) (ρ : Ren) (Dd : EndsD) (d : D) : Kd -> Prop
 | .own s => i ∉ s /\ Dd.nx ((dropS ρ s).set i (some (true, .list (ds.set j (.list (es ++ [d]))))))
 | _ => False
def dApp2 (i : Nat) (t1 te : TD) : TSD := fun Dd ρ Xd => ∃ ds, ρ[i]? = some (some (true, .list ds)) /\ t1 ρ (fun y1 _ => onI y1 fun z1 => ∃ (j1 : Nat) (es : List D), ixN ds.length z1 = some j1 /\ ds[j1]? = some (.list es) /\ es.length < 1000000 /\ te ρ (fun d k => App2K ds es j1 i ρ Dd d (eff d k)) Xd) Xd
theorem dps_app2 (i : Nat) (hK : X.K = K) (ho : QE X (.Name x px) (tVar i)) (h1 : DE X K E e1 t1) (he : DE X K E e te) (hpl : PlainIx e1) (hs : starEach [e] X.env = [(false, eval e X.env)]) (hbase : attributeBase (.Subscript (.Name x px) e1 p1) "append" X.env (eval (.Subscript (.Name x px) e1 p1) X.env) = eval (.Subscript (.Name x px) e1 p1) X.env) (hline : (apos.endLine == cpos.line) = true)
  (hsw : swapsWith (.Call (.Attribute (.Subscript (.Name x px) e1 p1) "append" apos) [e] [] cpos) none pos.line X.env = pure false := by rfl) : DS X K E (.Expr (.Call (.Attribute (.Subscript (.Name x px) e1 p1) "append" apos) [e] [] cpos) pos) (dApp2 i t1 te) := ⟨qs_imp (qps_expr (qpm_appendK K hK (qpe_ix (ix_listK K hK) ho h1.q hpl) he.q hs hbase hline) hsw) fun En σ H h => by
 obtain ⟨H0, ν, ρ, Dd, Xd, S, ⟨ds, h1, h2⟩, ok, x⟩ := h
 obtain ⟨a, us, ns, g1, g2, g3, g4, g5, g6⟩ := own_list S h1
 refine ⟨_, g1, H0, ν, ρ, _, Xd, S, h2, fun y l w H1 q1 e1 r1 => ?_, x⟩
 obtain ⟨z, rfl, j, es, hj, hes, hl, q1⟩ := onI_ex q1
 obtain ⟨n1, n2, n3, u, _, hu, hw, _⟩ := ows_split g3 hes
 cases hw with
 | @lst b ws _ m hb hr =>
  refine ⟨a, us, z, .ref b, rfl, dn_int r1.den, SqL.of (e1 _ _ g2), atI_of (by rw [g3.den.length]; exact hj) hu, tyl (SqL.of (e1 _ _ hb)), H0, ν, ρ, _, Xd, S.same e1, q1, fun d k v H2 q2 e2 r2 => ?_, x⟩
  generalize ek : eff d k = kk at q2
  cases kk with
  | own s =>
   obtain ⟨hs, q2⟩ := q2
   obtain ⟨ms, m1, m2, m3⟩ := eff_own ek ((S.same e1).same e2).hl r2
   obtain ⟨b', ws', ms0, k1, k2, k3, k4, k5, k6, k7⟩ := S.row (s := s) h1 g1 g2 g3 g4 g5 g6 hes (e1.trans e2) hs
   rw [hu] at k1
   cases k1
   rw [hb] at k2
   cases k2
   have m3' : ∀ y ∈ ms, H y = none ∨ ∃ l ∈ s, y ∈ ν l := fun y hy => by
    rcases m3 y hy with z | z
    ·exact .inl (e1.gone z)
    ·exact .inr z
   have out := new_out S m3' hs
   have bi : ∀ y ∈ b :: ms0, y ∈ ν i := fun y hy => by rw [g4]; exact List.mem_cons_of_mem _ (k6 y hy)
   have hbH := (e1.trans e2) _ _ hb
   have kp : ∀ l : List Addr, (∀ y ∈ l, y ≠ b) -> Kept l H2 (upd H2 b (.lst (ws ++ [v]))) := fun l hl => kept_upd1 hbH hl
   have B := m1.kept (kp ms fun y hy z => out y hy (z ▸ bi b List.mem_cons_self))
   have A := (k3.same (e1.trans e2)).kept (kp ms0 fun y hy z => k4 (z ▸ hy))
   obtain ⟨ν', S'⟩ := k7 (ws ++ [v]) (es ++ [d]) (ms0 ++ ms) (ows_snoc B A) (List.nodup_append.mpr ⟨k5, m2, fun y hy z hz e => out z hz (e ▸ bi y (List.mem_cons_of_mem _ hy))⟩) fun y hy => by
    rcases List.mem_append.mp hy with hy | hy
    ·exact .inl hy
    ·exact .inr (m3' y hy)
   exact ⟨b, ws, v, rfl, rfl, hbH, by rw [hr.den.length]; exact Nat.lt_of_lt_of_le hl million, ok.nx _ _ _ _ q2 S'⟩
  | old => exact q2.elim
  | mix => exact q2.elim⟩
theorem w_app2K {ds es : List D} {i j : Nat} {ρ : Ren} {Dd : EndsD} {d : D} {s : List Nat} (h : i ∉ s /\ Dd.nx ((dropS ρ s).set i (some (true, .list (ds.set j (.list (es ++ [d]))))))) : App2K ds es j i ρ Dd d (.own s) := h
end
end DL
namespace DL
open PySem PySem.Spec PyProof.Rows L2
abbrev SpX := Addr -> (D -> Prop) -> Prop
structure FnOkX (P : Program) (w : World) (K : W.Frag) (mg : Str -> Option Value) (base : Heap) (k : Nat) (f : Addr) (fd : FuncData) (p : Str) (spx : SpX) : Prop where
 run : ∀ (A : Around) (outer : List Env) (s : Shared) (H : Hp) (args : Args) (ea C : Addr) (oe : Obj) (y : Str) (Qd : D -> Prop) (Q : VK), RoomH k A -> Env0 P w K mg base A outer s H -> BindsTo s fd args [(p, .ref ea)] -> s.heap.get? ea = some oe -> A.handled = some (.ref ea) -> XOf oe C -> ExC K mg y C -> ExK K C -> H ea = none -> ea ∉ frs outer -> (∀ v, oe.data ≠ .cell v) -> spx C Qd -> (∀ d v H', Qd d -> flat d = true -> Same H H' -> Dn K H' v d -> Q v H') ->
  codeAny (model P w) A (.call (.ref f) args) (CR CX0 outer P w H s Q E0) s
structure DfX (P : Program) (w : World) (K : W.Frag) (mg : Str -> Option Value) (base : Heap) (x p : Str) (k : Nat) (spx : SpX) : Prop where
 ex : ∃ f fd, FnOkX P w K mg base k f fd p spx /\ mg x = some (.ref f) /\ PySem.W.keepIn K (.ref f) = true /\ Binds K fd [p] []
section
variable {X : Cx} {K : W.Frag} {E : XK} {pos pp : Pos} {te : TD} {x : Str} {ex : Expr}
end
end DL
namespace DL
open PySem PySem.Spec PyProof.Rows L2
section
variable {X : Cx} {K : W.Frag} {E : XK}
end
end DL
namespace L2
open PySem PySem.Spec PyProof.Rows
section
variable {X : Cx} {pins : List (Addr × Obj)} {σ : St} {H : Hp} {s : Shared}
end
section
variable {X : Cx} {pins : List (Addr × Obj)} {σ : St} {H : Hp} {s : Shared} {ea C R : Addr} {B : Heap} {a0 : Value} {x n : Str} {i : Nat} {np pos : Pos} {b0 : Stmt} {suite : List Stmt} {rest : List ExceptHandler} {ts : TS} {D : Ends}
end
section
variable {X : Cx}
end
end L2
namespace DL
open PySem PySem.Spec PyProof.Rows L2
section
variable {X : Cx} {K : W.Frag} {pos : Pos}
end
end DL
namespace L2
open PySem PySem.Spec PyProof.Rows
end L2
namespace DL
open PySem PySem.Spec PyProof.Rows L2
section
variable {X : Cx} {K : W.Frag} {E : XK} {pos px apos cpos : Pos} {e : Expr} {te : TD} {x : Str}
end
end DL
namespace DL
open PySem PySem.Spec PyProof.Rows L2
section
variable {κ : Type} [DecidableEq κ]
def look (es : List (κ × D)) (k : κ) : Option D := (es.find? fun p => decide (p.1 = k)).map (·.2)
def putD (es : List (κ × D)) (k : κ) (d : D) : List (κ × D) := if (es.any fun p => decide (p.1 = k)) = true then es.map (fun p => if p.1 = k then (p.1, d) else p) else es ++ [(k, d)]
inductive VPs : List (κ × V) -> List (κ × D) -> Prop
 | nil : VPs [] []
 | cons {k v d r t} : valD d = some v -> VPs r t -> VPs ((k, v) :: r) ((k, d) :: t)
theorem VPs.look {kvs : List (κ × V)} {es : List (κ × D)} (h : VPs kvs es) (k : κ) : (∃ d v, DL.look es k = some d /\ valV kvs k = some v /\ valD d = some v) ∨ (DL.look es k = none /\ valV kvs k = none) := by
 induction h with
 | nil => exact .inr ⟨rfl, rfl⟩
 | @cons k' v d r t e _ ih =>
  by_cases h : k' = k
  ·exact .inl ⟨d, v, by unfold DL.look; rw [List.find?_cons_of_pos (by simpa using h)]; rfl, by unfold valV; rw [List.find?_cons_of_pos (by simpa using h)]; rfl, e⟩
  ·have e1 : DL.look ((k', d) :: t) k = DL.look t k := by unfold DL.look; rw [List.find?_cons_of_neg (by simpa using h)]
   have e2 : valV ((k', v) :: r) k = valV r k := by unfold valV; rw [List.find?_cons_of_neg (by simpa using h)]
   rw [e1, e2]; exact ih
theorem VPs.any {kvs : List (κ × V)} {es : List (κ × D)} (h : VPs kvs es) (k : κ) : (kvs.any fun p => decide (p.1 = k)) = es.any fun p => decide (p.1 = k) := by
 induction h with
 | nil => rfl
 | cons _ _ ih => rw [List.any_cons, List.any_cons, ih]
theorem VPs.snoc {kvs : List (κ × V)} {es : List (κ × D)} {k : κ} {v : V} {d : D} (h : VPs kvs es) (e : valD d = some v) : VPs (kvs ++ [(k, v)]) (es ++ [(k, d)]) := by
 induction h with
 | nil => exact .cons e .nil
 | cons e' _ ih => exact .cons e' ih
theorem VPs.repl {kvs : List (κ × V)} {es : List (κ × D)} {k : κ} {v : V} {d : D} (h : VPs kvs es) (e : valD d = some v) : VPs (kvs.map fun p => if p.1 = k then (p.1, v) else p) (es.map fun p => if p.1 = k then (p.1, d) else p) := by
 induction h with
 | nil => exact .nil
 | @cons k' v' d' r t e' _ ih =>
  rw [List.map_cons, List.map_cons]
  by_cases q : k' = k
  ·rw [if_pos q, if_pos q]; exact .cons e ih
  ·rw [if_neg q, if_neg q]; exact .cons e' ih
theorem VPs.put {kvs : List (κ × V)} {es : List (κ × D)} {k : κ} {v : V} {d : D} (h : VPs kvs es) (e : valD d = some v) : VPs (putK kvs k v) (putD es k d) := by
 unfold putK putD
 rw [h.any k]
 split
 ·exact h.repl e
 ·exact h.snoc e
theorem VPs.length {kvs : List (κ × V)} {es : List (κ × D)} (h : VPs kvs es) : kvs.length = es.length := by
 induction h with
 | nil => rfl
 | cons _ _ ih => rw [List.length_cons, List.length_cons, ih]
theorem putD_len (es : List (κ × D)) (k : κ) (d : D) : (putD es k d).length <= es.length + 1 := by
 unfold putD
 split
 ·rw [List.length_map]; omega
 ·rw [List.length_append]; exact Nat.le_refl _
end
def tupK (k : List Key) : D := .tuple (k.map keyV)
def dKD (es : List (Key × D)) : D := dctD false (es.map fun p => (keyV p.1, p.2))
def dTD (es : List (List Key × D)) : D := dctD true (es.map fun p => (tupK p.1, p.2))
theorem keyV_inj {a b : Key} (h : keyV a = keyV b) : a = b := by
 cases a <;> cases b <;> simp [keyV] at h
 ·rw [h]
 ·rw [h]
theorem keyVs_inj : ∀ {a b : List Key}, a.map keyV = b.map keyV -> a = b
 | [], [], _ => rfl
 | [], _ :: _, h => by cases h
 | _ :: _, [], h => by cases h
 | _ :: r, _ :: t, h => by
  rw [List.map_cons, List.map_cons] at h
  injection h with h1 h2
  rw [keyV_inj h1, keyVs_inj h2]
theorem dK_vps : ∀ {kvs : List (Key × V)} {es : List (Key × D)}, DKps kvs (es.map fun p => (keyV p.1, p.2)) -> VPs kvs es
 | [], [], _ => .nil
 | (k, v) :: r, (k', d) :: t, h => by
  have h1 : keyV k' = keyV k /\ valD d = some v /\ DKps r (t.map fun p => (keyV p.1, p.2)) := h
  rw [keyV_inj h1.1]
  exact .cons h1.2.1 (dK_vps h1.2.2)
 | [], _ :: _, h => h.elim
 | _ :: _, [], h => h.elim
theorem dK_of {kvs : List (Key × V)} {es : List (Key × D)} (h : VPs kvs es) : DKps kvs (es.map fun p => (keyV p.1, p.2)) := by
 induction h with
 | nil => trivial
 | cons e _ ih => exact ⟨rfl, e, ih⟩
theorem dT_vps : ∀ {kvs : List (List Key × V)} {es : List (List Key × D)}, DTps kvs (es.map fun p => (tupK p.1, p.2)) -> VPs kvs es
 | [], [], _ => .nil
 | (k, v) :: r, (k', d) :: t, h => by
  have h1 : tupK k' = .tuple (k.map keyV) /\ valD d = some v /\ DTps r (t.map fun p => (tupK p.1, p.2)) := h
  have h2 : k'.map keyV = k.map keyV := by have := h1.1; unfold tupK at this; injection this
  rw [keyVs_inj h2]
  exact .cons h1.2.1 (dT_vps h1.2.2)
 | [], _ :: _, h => h.elim
 | _ :: _, [], h => h.elim
theorem dT_of {kvs : List (List Key × V)} {es : List (List Key × D)} (h : VPs kvs es) : DTps kvs (es.map fun p => (tupK p.1, p.2)) := by
 induction h with
 | nil => trivial
 | cons e _ ih => exact ⟨rfl, e, ih⟩
section
variable {K : W.Frag} {H : Hp} {v : V}
theorem dn_dK {es : List (Key × D)} (h : Dn K H v (dKD es)) : ∃ a kvs, v = .ref a /\ H a = some (.dK kvs) /\ VPs kvs es := by
 unfold dKD dctD at h
 cases h with
 | dct e r =>
  rename_i a o
  cases o <;> first | exact r.elim | skip
  exact ⟨_, _, rfl, e, dK_vps r⟩
theorem dn_dT {es : List (List Key × D)} (h : Dn K H v (dTD es)) : ∃ a kvs, v = .ref a /\ H a = some (.dT kvs) /\ VPs kvs es := by
 unfold dTD dctD at h
 cases h with
 | dct e r =>
  rename_i a o
  cases o <;> first | exact r.elim | skip
  exact ⟨_, _, rfl, e, dT_vps r⟩
theorem ow_dK {a : Addr} {kvs : List (Key × V)} {es : List (Key × D)} (e : H a = some (.dK kvs)) (h : VPs kvs es) : Ow K H (.ref a) (dKD es) [a] := .dct e (dK_of h)
theorem ow_dT {a : Addr} {kvs : List (List Key × V)} {es : List (List Key × D)} (e : H a = some (.dT kvs)) (h : VPs kvs es) : Ow K H (.ref a) (dTD es) [a] := .dct e (dT_of h)
theorem ow_nodes {b : Bool} {kds : List (D × D)} {ms : List Addr} (h : Ow K H v (dctD b kds) ms) : ∃ a, v = .ref a /\ ms = [a] := by
 unfold dctD at h
 cases h with
 | dct e r => exact ⟨_, rfl, rfl⟩
end
abbrev KeyR := Sum Key (List Key)
def KeyIs (H : Hp) : KeyR -> V -> Prop
 | .inl k, v => v = kV k
 | .inr ks, v => ∃ b, v = .ref b /\ H b = some (.tup (ks.map kV))
theorem KeyIs.same {H H' : Hp} {k : KeyR} {v : V} (h : KeyIs H k v) (e : Same H H') : KeyIs H' k v := by
 cases k with
 | inl => exact h
 | inr => obtain ⟨b, h1, h2⟩ := h; exact ⟨b, h1, e _ _ h2⟩
abbrev TKy := Ren -> (KeyR -> Prop) -> XD -> Prop
def LKy (K : W.Frag) (E : XK) (t : TKy) : TE := fun σ H Q => ∃ H0 ν ρ Qd Xd, StOk K Z0 H0 ν ρ σ H /\ t ρ Qd Xd /\ (∀ k v H', Qd k -> Same H H' -> KeyIs H' k v -> Q v H') /\ ∀ C H', Xd C -> Same H0 H' -> E (.ref C) none H'
structure DKy (X : Cx) (K : W.Frag) (E : XK) (e : Expr) (t : TKy) : Prop where
 q : QE X e (LKy K E t)
section
variable {X : Cx} {K : W.Frag} {E : XK} {pos : Pos} {e : Expr} {es : List Expr} {te td : TD} {tk : TKy}
theorem dn_keyV {H : Hp} {v : V} {k : Key} (h : Dn K H v (keyV k)) : v = kV k := by
 cases k with
 | inl => exact dn_int h
 | inr => cases h; rfl
theorem dns_keyV {H : Hp} : ∀ {vs : List V} {ks : List Key}, Dns K H vs (ks.map keyV) -> vs = ks.map kV
 | [], [], _ => rfl
 | _, _ :: _, .cons h r => by rw [dn_keyV h, dns_keyV r]; rfl
def kyS (t : TD) : TKy := fun ρ Q Xd => t ρ (fun d _ => ∃ k, d = keyV k /\ Q (.inl k)) Xd
theorem dky_of (h : DE X K E e te) : DKy X K E e (kyS te) := ⟨qe_imp h.q fun σ H Q h => by
 obtain ⟨H0, ν, ρ, Qd, Xd, S, h1, q, x⟩ := h
 refine ⟨H0, ν, ρ, _, Xd, S, h1, fun d k v H' g1 g2 g3 => ?_, x⟩
 obtain ⟨k', rfl, g⟩ := g1
 exact q _ _ _ g g2 (dn_keyV g3.den)⟩
def kyT (t : TDA) : TKy := fun ρ Q Xd => t ρ (fun ds _ => ds.length <= 1000 /\ ∃ ks, ds = ks.map keyV /\ Q (.inr ks)) Xd
theorem dky_tup {t : TDA} {x1} (h : DA X K E es t) : DKy X K E (.Tuple es x1 pos) (kyT t) := ⟨qe_imp (qpe_tup h.q) fun σ H Q h => by
 obtain ⟨H0, ν, ρ, Qd, Xd, S, h1, q, x⟩ := h
 refine ⟨H0, ν, ρ, _, Xd, S, h1, fun ds k us H1 g1 e1 r1 => ?_, x⟩
 obtain ⟨hl, ks, rfl, g⟩ := g1
 have hv := dns_keyV r1.dens
 refine ⟨by rw [r1.dens.length]; exact Nat.le_trans hl (by decide), fun p hp => q _ _ _ g (e1.trans (Same.new hp)) ⟨p, rfl, ?_⟩⟩
 rw [hv]; exact upd_same⟩
def DHas (d : D) (k : KeyR) (C : Bool -> Prop) : Prop := (∃ es k', d = dKD es /\ k = .inl k' /\ C (look es k').isSome) ∨ ∃ es k', d = dTD es /\ k = .inr k' /\ C (look es k').isSome
theorem dhas_get {H : Hp} {x y : V} {d : D} {k : KeyR} {C : Bool -> Prop} (h : DHas d k C) (hx : Dn K H x d) (hy : KeyIs H k y) : ∃ a o, x = .ref a /\ DGet H a y o /\ C o.isSome := by
 rcases h with ⟨es, k', rfl, rfl, c⟩ | ⟨es, k', rfl, rfl, c⟩
 ·obtain ⟨a, kvs, rfl, e, p⟩ := dn_dK hx
  cases hy
  refine ⟨a, _, rfl, DGet.k e, ?_⟩
  rcases p.look k' with ⟨d, v, e1, e2, _⟩ | ⟨e1, e2⟩
  ·rw [e1] at c; rw [e2]; exact c
  ·rw [e1] at c; rw [e2]; exact c
 ·obtain ⟨a, kvs, rfl, e, p⟩ := dn_dT hx
  obtain ⟨b, rfl, hb⟩ := hy
  refine ⟨a, _, rfl, DGet.t e hb, ?_⟩
  rcases p.look k' with ⟨d, v, e1, e2, _⟩ | ⟨e1, e2⟩
  ·rw [e1] at c; rw [e2]; exact c
  ·rw [e1] at c; rw [e2]; exact c
def dDIn (f : Bool -> Bool) (tk : TKy) (td : TD) : TD := fun ρ Q Xd => tk ρ (fun k => td ρ (fun d _ => DHas d k fun b => Q (.bool (f b)) .old) Xd) Xd
theorem le_din {i o : Expr} (f : Bool -> Bool) (r : TE -> TE -> TE) (hr : ∀ (ty td : TE) σ H Q, (ty σ H fun y H1 => td σ H1 fun x H2 => ∃ a o, x = .ref a /\ DGet H2 a y o /\ Q (.bl (f o.isSome)) H2) -> r ty td σ H Q) : ∀ σ H Q, LE K E (dDIn f tk td) σ H Q -> r (LKy K E tk) (LE K E td) σ H Q := fun σ H Q h => by
 refine hr _ _ _ _ _ ?_
 obtain ⟨H0, ν, ρ, Qd, Xd, S, h1, q, x⟩ := h
 refine ⟨H0, ν, ρ, _, Xd, S, h1, fun k v H1 g1 e1 r1 => ?_, x⟩
 refine ⟨H0, ν, ρ, _, Xd, S.same e1, g1, fun d kk u H2 g2 e2 r2 => ?_, x⟩
 obtain ⟨a, o, ha, hg, c⟩ := dhas_get g2 r2.den (r1.same e2)
 exact ⟨a, o, ha, hg, q _ _ _ _ c (e1.trans e2) (.bl _)⟩
def dDNew (b : Bool) : TD := fun _ Q _ => Q (if b = true then dTD [] else dKD []) (.own [])
theorem dpe_dnewK : DE X K E (.Dict [] [] pos) (dDNew false) := ⟨qe_imp qpe_dnewK fun σ H Q h => by
 obtain ⟨H0, ν, ρ, Qd, Xd, S, h1, q, x⟩ := h
 exact fun p hp => q _ _ _ _ h1 (Same.new hp) ⟨[p], ow_dK upd_same .nil, by simp, fun a ha => by rw [List.mem_singleton] at ha; subst ha; exact .inl hp⟩⟩
theorem dpe_dnewT (hT : QE X (.Dict [] [] pos) tDNewT) : DE X K E (.Dict [] [] pos) (dDNew true) := ⟨qe_imp hT fun σ H Q h => by
 obtain ⟨H0, ν, ρ, Qd, Xd, S, h1, q, x⟩ := h
 exact fun p hp => q _ _ _ _ h1 (Same.new hp) ⟨[p], ow_dT upd_same .nil, by simp, fun a ha => by rw [List.mem_singleton] at ha; subst ha; exact .inl hp⟩⟩
def DPutD (x : D) (k : KeyR) (d : D) (C : D -> Prop) : Prop := (∃ es k', x = dKD es /\ k = .inl k' /\ es.length < 1000000 /\ C (dKD (putD es k' d))) ∨ ∃ es k', x = dTD es /\ k = .inr k' /\ es.length < 1000000 /\ C (dTD (putD es k' d))
def dDPut (i : Nat) (tk : TKy) (te : TD) : TSD := fun Dd ρ Xd => te ρ (fun d _ => (valD d).isSome = true /\ ∃ x, ρ[i]? = some (some (true, x)) /\ tk ρ (fun k => DPutD x k d fun y => Dd.nx (ρ.set i (some (true, y)))) Xd) Xd
theorem val_of {H : Hp} {v : V} {d : D} (h : Dn K H v d) (hs : (valD d).isSome = true) : valD d = some v := by
 cases h <;> simp [valD] at hs ⊢
theorem dps_dput (i : Nat) {x : Str} {px pos' : Pos} {ie value : Expr} (hu : X.A.units + 1 < cLine) (ho : QE X (.Name x px) (tVar i)) (hi : DKy X K E ie tk) (hv : DE X K E value te) (hs : swapsWith value (some (.Subscript (.Name x px) ie pos')) pos.line X.env = pure false := by rfl) : DS X K E (.Assign [.Subscript (.Name x px) ie pos'] value pos) (dDPut i tk te) := ⟨qs_imp (qps_dput hu ho hi.q hv.q hs) fun En σ H h => by
 obtain ⟨H0, ν, ρ, Dd, Xd, S, h1, ok, x⟩ := h
 refine ⟨H0, ν, ρ, _, Xd, S, h1, fun d kk v H1 g1 e1 r1 => ?_, x⟩
 obtain ⟨hd, y, hy, g1⟩ := g1
 have hvd := val_of r1.den hd
 obtain ⟨u, u1, u2⟩ := S.sl i true y hy
 have u2 : Ow K H u y (ν i) := u2
 refine ⟨u, u1, H0, ν, ρ, _, Xd, S.same e1, g1, fun k w' H2 g2 e2 r2 => ?_, x⟩
 have e02 := e1.trans e2
 have fin : ∀ (a : Addr) (o o' : HO) (z : D), u = .ref a -> ν i = [a] -> H2 a = some o -> muO o = true -> Ow K (upd H2 a o') (.ref a) z [a] -> Dd.nx (ρ.set i (some (true, z))) -> En.nx σ (upd H2 a o') := fun a o o' z hu hn ho hm hz hx => by
  subst hu
  have S' := S.mut [] i (ms := [a]) (v := .ref a) (H' := upd H2 a o') u1 (len_of hy) (fun b ob hb hnb => by
   rw [upd_ne (fun z => hnb (by rw [z, hn]; exact List.mem_cons_self))]; exact e02 _ _ hb) hz (by simp) (fun b hb => .inl (by rw [hn]; exact hb)) (by simp) (fun j hj => by cases hj)
  exact ok.nx _ _ _ _ hx S'
 rcases g2 with ⟨es, k', rfl, rfl, hl, g2⟩ | ⟨es, k', rfl, rfl, hl, g2⟩
 ·obtain ⟨a, rfl, hn⟩ := ow_nodes (b := false) u2
  obtain ⟨a', kvs, ea, e, p⟩ := dn_dK u2.den
  cases ea
  cases r2
  have e' := e02 _ _ e
  exact ⟨a, _, rfl, DPut.k e' (by rw [p.length]; exact Nat.lt_of_lt_of_le hl million), fin a _ _ _ rfl hn e' rfl (ow_dK upd_same (p.put hvd)) g2⟩
 ·obtain ⟨a, rfl, hn⟩ := ow_nodes (b := true) u2
  obtain ⟨a', kvs, ea, e, p⟩ := dn_dT u2.den
  cases ea
  obtain ⟨b, rfl, hb⟩ := r2
  have e' := e02 _ _ e
  exact ⟨a, _, rfl, DPut.t e' hb (by rw [p.length]; exact Nat.lt_of_lt_of_le hl million), fin a _ _ _ rfl hn e' rfl (ow_dT upd_same (p.put hvd)) g2⟩⟩
end
end DL
namespace DL
open PySem PySem.Spec PyProof.Rows L2
noncomputable abbrev hidL (ms : List Addr) (H : Hp) : Hp := hid (fun a => a ∈ ms) H
def SpLO (K : W.Frag) (sp : SpD) : Sp := fun vs H Q E => ∃ ds ms Qd Xd, Ows K H vs ds ms /\ ms.Nodup /\ sp ds Qd Xd /\ (∀ d o v H', Qd d o -> Same (hidL ms H) H' -> RR K (hidL ms H) H' o v d -> Q v H') /\ ∀ C H', Xd C -> Same (hidL ms H) H' -> E (.ref C) none H'
def startO (N : List Str) (ds : List D) : Ren := ds.map (fun d => some (!flat d, d)) ++ List.replicate (N.length - ds.length) none
section
variable {K : W.Frag} {H : Hp}
theorem ows_parts : ∀ {vs : List V} {ds : List D} {ms : List Addr}, Ows K H vs ds ms -> ms.Nodup -> ∃ μ : Nat -> List Addr, (∀ j d, ds[j]? = some d -> ∃ v, vs[j]? = some v /\ Ow K H v d (μ j)) /\ (∀ j, (μ j).Nodup) /\ (∀ i j a, a ∈ μ i -> a ∈ μ j -> i = j) /\ ∀ j a, a ∈ μ j -> a ∈ ms
 | _, _, _, .nil, _ => ⟨fun _ => [], fun j d h => by simp at h, fun _ => List.nodup_nil, (fun _ _ _ z => by cases z), (fun _ _ z => by cases z)⟩
 | v :: vs, d :: ds, _, .cons (ns := ns) (ms := ms) h r, nd => by
  rw [List.nodup_append] at nd
  obtain ⟨n1, n2, n3⟩ := nd
  obtain ⟨μ, m1, m2, m3, m4⟩ := ows_parts r n2
  refine ⟨fun j => match j with | 0 => ns | j + 1 => μ j, fun j c hc => ?_, fun j => ?_, fun i j a hi hj => ?_, fun j a ha => ?_⟩
  ·cases j with
   | zero =>
    have : d = c := by simpa using hc
    subst this
    exact ⟨v, rfl, h⟩
   | succ j => simpa using m1 j c (by simpa using hc)
  ·cases j with
   | zero => exact n1
   | succ j => exact m2 j
  ·cases i with
   | zero =>
    cases j with
    | zero => rfl
    | succ j => exact absurd rfl (n3 a hi a (m4 j a hj))
   | succ i =>
    cases j with
    | zero => exact absurd rfl (n3 a hj a (m4 i a hi))
    | succ j => rw [m3 i j a hi hj]
  ·cases j with
   | zero => exact List.mem_append_left _ ha
   | succ j => exact List.mem_append_right _ (m4 j a ha)
theorem startO_ok {vs : List V} {ds : List D} {ms : List Addr} {N : List Str} (h : Ows K H vs ds ms) (nd : ms.Nodup) : ∃ μ, StOk K Z0 (hidL ms H) μ (startO N ds) (start N vs) H := by
 have hl := h.den.length
 obtain ⟨μ, m1, m2, m3, m4⟩ := ows_parts h nd
 have th := h.there
 refine ⟨μ, hid_same, ?_, fun i b d hi => ?_, m2, m3, fun i a ha => ⟨?_, fun z => z, th a (m4 i a ha)⟩, fun _ z => False.elim z⟩
 ·unfold startO L2.start; simp [hl]
 ·unfold startO at hi
  by_cases hlt : i < ds.length
  ·rw [List.getElem?_append_left (by simpa using hlt), List.getElem?_map] at hi
   cases e : ds[i]? with
   | none => rw [e] at hi; cases hi
   | some c =>
    rw [e] at hi
    obtain ⟨v, g1, g2⟩ := m1 i c e
    have hv : (L2.start N vs)[i]? = some (some v) := by
     unfold L2.start
     have hi' : i < vs.length := by rw [hl]; exact hlt
     rw [List.getElem?_append_left (by simpa using hi'), List.getElem?_map, g1]; rfl
    have e2 : (!flat c, c) = (b, d) := by simpa using hi
    cases hf : flat c with
    | true =>
     rw [hf] at e2; cases e2
     refine ⟨v, hv, ?_⟩
     exact den_hid (fun a z => by
      rcases z with z | ⟨j, z⟩
      ·exact z.elim
      ·exact th a (m4 j a z)) g2.den hf
    | false =>
     rw [hf] at e2; cases e2
     exact ⟨v, hv, g2⟩
  ·rw [List.getElem?_append_right (by simpa using Nat.le_of_not_lt hlt), List.getElem?_replicate] at hi
   split at hi <;> cases hi
 ·show hid (fun a => a ∈ ms) H a = none
  unfold hid; exact if_pos (m4 i a ha)
end
theorem dmkO {X : Cx} {K : W.Frag} {E : XK} {b : List Stmt} {t : TSD} {N : List Str} {vs : List V} {H : Hp} {Q : VK} {ds : List D} {ms : List Addr} {Qd : D -> Bool -> Prop} {Xd : XD} (h : DSs X K E b t) (hd : Ows K H vs ds ms) (nd : ms.Nodup) (q : ∀ d o v H', Qd d o -> Same (hidL ms H) H' -> RR K (hidL ms H) H' o v d -> Q v H') (x : ∀ C H', Xd C -> Same (hidL ms H) H' -> E (.ref C) none H')
  (r : t { nx := fun _ => Qd .none true, rt := Qd } (startO N ds) Xd) : ∃ t, PSs X b t /\ t { nx := fun _ H' => Q .non H', rt := Q } (start N vs) H := by
 obtain ⟨μ, S⟩ := startO_ok (N := N) hd nd
 exact ⟨_, h.q.h, _, μ, _, _, Xd, S, r, ⟨fun ν ρ σ H' a S => q _ _ _ _ a S.sm ⟨[], .non, List.nodup_nil, fun _ z => by cases z⟩, fun _ _ _ _ z => z.elim, fun _ _ _ _ z => z.elim, q⟩, x⟩
theorem okO {P : Program} {w : World} {K : W.Frag} {mg : Str -> Option Value} {base : Heap} {x qual : Str} {st : Stmt} {f : Addr} {fd : FuncData} {N ps : List Str} {k : Nat} {sp : SpD} (F : Fun K x qual st f fd) (S : FnScope N ps (defScope st)) (len : ∀ ds Q X, sp ds Q X -> ds.length = ps.length)
  (hbody : ∀ (cdv : Value) (A : Around) (outer : List Env) (s : Shared) (H : Hp) (E : XK), Room k (A.deeper (envOfC qual (defScope st) s.heap.objs.size f cdv)) -> ∃ t, DSs (cxOf CX0 P w K mg base N qual (defScope st) f cdv A outer s H E).nox K E0 (defBody st) t /\ ∀ ds Qd, sp ds Qd Xf -> t { nx := fun _ => Qd .none true, rt := Qd } (startO N ds) Xf)
  (hx : ∀ ds Qd Xd, sp ds Qd Xd -> sp ds Qd Xf) : FnOk P w K mg base CX0 (k + 1) f fd ps (SpLO K sp) := by
 refine F.ok S (fun vs H Q E h => ?_) (fun cdv A outer s H vs Q E hr h => ?_)
 ·obtain ⟨ds, ms, Qd, Xd, h1, _, h2, _⟩ := h
  rw [h1.den.length]; exact len ds Qd Xd h2
 ·obtain ⟨ds, ms, Qd, Xd, h1, nd, h2, h3, h4⟩ := h
  obtain ⟨t, D, r⟩ := hbody cdv A outer s H E hr
  exact dmkO D h1 nd h3 (fun _ _ z _ => z.elim) (r ds Qd (hx _ _ _ h2))
section
variable {X : Cx} {K : W.Frag} {E : XK} {pos p rp : Pos} {e : Expr} {es : List Expr} {x : Str} {ps : List Str} {k : Nat} {sp : SpD} {t : TDA}
theorem hidL_low {H0 H : Hp} {ms : List Addr} (e : Same H0 H) (h : ∀ a ∈ ms, H0 a = none) : Same H0 (hidL ms H) := fun a o q => by
 refine hid_of (e a o q) fun z => ?_
 rw [h a z] at q; cases q
def dCallO (sp : SpD) (t : TDA) : TD := fun ρ Q Xd => t ρ (fun ds k => k = .own [] /\ sp ds (fun d o => Q d (kRet o)) Xf) Xd
theorem dpe_dfO (D : Df X.prog X.w X.K X.mg X.base x ps k (SpLO K sp)) (hr : Room k X.A) (ha : DA X K E (e :: es) t) (hg : Gl X x := by rfl) (hdb : (x == ("__debug__" : Str)) = false := by decide)
  (he : starEach (e :: es) X.env = (false, eval e X.env) :: starEach es X.env := by rfl) (hpl : (backTo pos (starEach es X.env)).any (·.1) = false := by rfl) : DE X K E (.Call (.Name x p) (e :: es) [] pos) (dCallO sp t) :=
 ⟨qe_imp (qpe_df D hr ha.q hg hdb he hpl) fun σ H Q h => by
  obtain ⟨H0, ν, ρ, Qd, Xd, S, h1, q, x⟩ := h
  show LA K E t σ H fun vs H1 => SpLO K sp (vs ++ []) H1 Q E0
  simp only [List.append_nil]
  refine ⟨H0, ν, ρ, _, Xd, S, h1, fun ds k vs H1 g1 e1 r1 => ?_, x⟩
  obtain ⟨rfl, g1⟩ := g1
  obtain ⟨ms, m1, m2, m3⟩ := r1
  have low : Same H (hidL ms H1) := hidL_low e1 fun a ha => by
   rcases m3 a ha with z | ⟨j, z, _⟩
   ·exact z
   ·cases z
  refine ⟨ds, ms, _, _, m1, m2, g1, fun d o v H' a1 a2 a3 => q _ _ _ _ a1 (low.trans a2) ?_, fun C H' z _ => z.elim⟩
  cases o with
  | true => obtain ⟨ns, b1, b2, b3⟩ := a3; exact ⟨ns, b1, b2, fun a ha => .inl (low.gone (b3 a ha))⟩
  | false => exact a3⟩
end
end DL
namespace L2
open PySem PySem.Spec PyProof.Rows
def ItS (z : Str) : It := ⟨fun i _ => i < z.cps.size, fun i H x H' => H' = H /\ ∃ c, z.cps[i]? = some c /\ x = .str ⟨#[c]⟩, fun i _ => z.cps.size <= i⟩
theorem turn_str {P : Program} {w : World} {K : W.Frag} {tg : Expr} {it : Addr} {T : String} {z : Str} {t : Tok}
  (hT : ["enumerate", "zip", "dict_itemiterator", "dict_reverseitemiterator", "odict_iterator", "itertools.zip_longest", "itertools.pairwise"].contains T = false)
  (W : ∀ A : Around, A.handled = none -> Walks P w A it [it] [it] z.cps.size (SignAt z) (fun i h => h.IsStrIter it T z t i))
  (slf : ∀ (A : Around) (i : Nat) (s : Shared) (Q : Value -> Shared -> Prop) (E : Value -> Shared -> Prop), s.heap.IsStrIter it T z t i -> Q (.ref it) s -> wpAny (model P w) A (pyIter (.ref it)) Q E s) : Turn P w K tg (ItS z) [it] it (fun i h => i <= z.cps.size /\ h.IsStrIter it T z t i) where
 mem := by simp
 obj := fun i h st b hb => by
  have e : b = it := by simpa using hb
  subst e
  obtain ⟨_, o, e, c, d⟩ := st
  exact ⟨o, e, fun v z => by rw [d] at z; cases z⟩
 keep := fun i h h' st k => ⟨st.1, let ⟨o, e, r⟩ := st.2; ⟨o, k it (by simp) o e, r⟩⟩
 item := by
  intro X hP hw hK hc i pins s σ H E I hf st hg
  subst hP hw hK
  obtain ⟨f0, f1, f2, f3, f4, f5⟩ := hf it (by simp)
  refine (W X.A (I.ok.hd hc)).item i s _ _ hg st.2 fun v h' tk hv st' kk => ?_
  obtain ⟨c, u, hc', rfl⟩ := hv
  have I1 : Inv X pins σ H { s with heap := h', toks := tk } := I.turned (fun b o hb e => kk b o (by simpa using hb) e) f0 f1 f3 f4 f5
  obtain ⟨o, e1, e2, e3⟩ := id st'
  exact ⟨_, rfl, go_of (s := { s with heap := h', toks := tk }) (n := T) e1 e2 e3 hT ⟨.str ⟨#[c]⟩, H, I1, ⟨u, rfl⟩, ⟨rfl, c, hc', rfl⟩, ⟨hg, st'⟩, fun b hb => (hf b hb).1⟩⟩
 done := by
  intro X hP hw hK hc i pins s σ H E I hf st hg
  subst hP hw hK
  obtain ⟨f0, f1, f2, f3, f4, f5⟩ := hf it (by simp)
  have ei : i = z.cps.size := Nat.le_antisymm st.1 hg
  subst ei
  refine (W X.A (I.ok.hd hc)).done s _ _ st.2 fun h' tk kk => ?_
  exact ⟨rfl, I.turned (fun b o hb e => kk b o (by simpa using hb) e) f0 f1 f3 f4 f5⟩
 self := fun A i s Q E st hq => slf A i s Q E st.2 hq
section
variable {X : Cx} {tg : Expr}
def iStr (tl : TE) : TI := fun σ H R => tl σ H fun x H1 => ∃ z, x = .str z /\ R (ItS z) H1
theorem pi_str {l : Expr} {tl : TE} (hl : PE X l tl) : PI X tg l (iStr tl) := by
 intro pins s σ H R I h
 refine thn (hl pins s σ H _ I h) fun v s1 ⟨x, H1, I1, r1, q1⟩ => ?_
 obtain ⟨z, rfl, q⟩ := q1
 obtain ⟨t, rfl⟩ := r1
 have fp : ∀ (o : Obj), ∀ b ∈ [s1.heap.objs.size], FpOk X pins H1 b := fun o b hb => by
  have e : b = s1.heap.objs.size := by simpa using hb
  subst e
  exact I1.fpOk (Nat.le_refl _) (I1.hok.fresh (Nat.le_refl _))
 cases ha : z.cps.all (· < 128) with
 | false =>
  refine wpAny_pyIter_wide ha ?_
  exact ⟨s1.heap.objs.size, [s1.heap.objs.size], _, _, H1, rfl, I1.kept (t' := s1.toks) fun b o e => Heap.get?_push_of_some _ e, turn_str (by decide) (fun A hA => Walks.strWide hA _ z t) (fun A i s Q E st hq => wpAny_pyIter_striter_wide st hq), ⟨Nat.zero_le _, _, Heap.get?_push_size _ rfl, rfl, rfl⟩, fp { cls := .none, data := .fields #[] }, q⟩
 | true =>
  refine wpAny_pyIter_ascii ha ?_
  exact ⟨s1.heap.objs.size, [s1.heap.objs.size], _, _, H1, rfl, I1.kept (t' := s1.toks) fun b o e => Heap.get?_push_of_some _ e, turn_str (by decide) (fun A hA => Walks.strAscii hA _ z t) (fun A i s Q E st hq => wpAny_pyIter_striter_ascii st hq), ⟨Nat.zero_le _, _, Heap.get?_push_size _ rfl, rfl, rfl⟩, fp { cls := .none, data := .fields #[] }, q⟩
def rSlS : V -> Option Int -> Option Int -> Hp -> VK -> Prop := fun x lo hi H Q => ∃ z, x = .str z /\ z.length <= sizeLine /\ Q (.str (Txt.slice z lo hi)) H
theorem part_of {v : Value} {o : Option Int} (h : IsPart v o) : ∃ l : Option (Int × Tok), v = partValue l /\ l.map (·.1) = o := by
 cases h with
 | none => exact ⟨none, rfl, rfl⟩
 | int i t => exact ⟨some (i, t), rfl, rfl⟩
theorem sl_str : SlR X rSlS := by
 intro pins s σ H x v vl vu lo hi sl Q I rx hs pl pu h
 obtain ⟨z, rfl, hz, q⟩ := h
 obtain ⟨t, rfl⟩ := rx
 obtain ⟨l, rfl, rfl⟩ := part_of pl
 obtain ⟨u, rfl, rfl⟩ := part_of pu
 refine ⟨"str", _, F.slot_str_getitem.lookup, typeIs_str _ _ _, wpAny_getItem_str_slice (l := l) (u := u) (st := none) hs rfl ?_⟩
 exact post_val_or_str ⟨Nat.le_trans (Txt.slice_le z _ _) hz, fun t' k => ⟨.str _, H, I.tok _, ⟨t', rfl⟩, q⟩⟩
end
end L2
namespace DL
open PySem PySem.Spec PyProof.Rows L2
section
variable {X : Cx} {K : W.Frag} {E : XK} {pos : Pos} {tg l : Expr} {te : TD} {ta : TDA}
def signs (z : Str) : List D := z.cps.toList.map fun c => PyData.str ⟨#[c]⟩
theorem signs_len (z : Str) : (signs z).length = z.cps.size := by unfold signs; rw [List.length_map, Array.length_toList]
theorem itok_str {F0 : Hp} {z : Str} : ItOk K F0 (ItS z) (signs z) := fun W H2 hl sm => by
 refine ⟨?_, fun i d hd => ?_⟩
 ·show z.cps.size <= _
  rw [signs_len]; exact Nat.le_refl _
 ·unfold signs at hd
  rw [List.getElem?_map, Array.getElem?_toList] at hd
  cases e : z.cps[i]? with
  | none => rw [e] at hd; cases hd
  | some c =>
   rw [e] at hd; cases hd
   refine ⟨?_, fun x H' y => ?_⟩
   ·show i < z.cps.size
    exact (Array.getElem?_eq_some_iff.mp e).1
   ·obtain ⟨rfl, c', e', rfl⟩ := y
    rw [e] at e'; cases e'
    exact ⟨Same.refl _, .str _⟩
def iS (te : TD) : TDI := fun ρ Q Xd => te ρ (fun d _ => match d with
 | .str z => Q (signs z) true
 | _ => False) Xd
theorem dpi_str (hl : DE X K E l te) : DI X K E tg l (iS te) := ⟨qi_imp (⟨pi_str hl.q.h⟩ : QI X tg l (iStr (LE K E te))) fun σ H R h => by
 obtain ⟨H0, ν, ρ, Qd, Xd, S, h1, q, x⟩ := h
 refine ⟨H0, ν, ρ, _, Xd, S, h1, fun d k v H' g1 g2 g3 => ?_, x⟩
 have := g3.den
 cases d with
 | str z => cases this; exact ⟨z, rfl, q _ _ _ H' g1 g2 itok_str⟩
 | _ => exact g1.elim⟩
def fIxS : F2 := fun d _ e _ Q => match d, e with
 | .str z, .int i => z.length <= 1000000 /\ ∃ c, atI z.cps.toList i = some c /\ Q (.str ⟨#[c]⟩) .old
 | _, _ => False
theorem dixS : DIx X K fIxS := ⟨_, ix_str, fun Z ν Hs H x y d k e l Qf Q _ _ _ h3 h4 h5 h6 => by
 unfold fIxS at h5
 split at h5
 ·have a := h3.den
  have b := h4.den
  cases a
  cases b
  obtain ⟨h5, c, h7, h8⟩ := h5
  exact ⟨_, _, c, rfl, rfl, Nat.le_trans h5 million, h7, h6 _ _ _ _ h8 (Same.refl H) (.str _)⟩
 ·exact h5.elim⟩
def fLenS : FA := fun ds _ Q => match ds with
 | [.str z] => z.length <= 1000000 /\ Q (.int z.length) .old
 | _ => False
theorem dcl_lenS : DCl X K (.builtin "len") fLenS := ⟨_, call_len_str, fun Z ν Hs H xs ds k Qf Q _ _ _ h g q => by
 unfold fLenS at g
 split at g
 ·obtain ⟨v, rfl, h1⟩ := dns1 h.dens
  cases h1
  exact ⟨_, rfl, Nat.le_trans g.1 million, q _ _ _ _ g.2 (Same.refl H) (.int _)⟩
 ·exact g.elim⟩
def fSlS : F3 := fun d _ lo hi Q => match d with
 | .str z => z.length <= 1000000 /\ Q (.str (Txt.slice z lo hi)) .old
 | _ => False
theorem dpe_sliceS {e : Expr} {lo hi : Option Expr} {te : TD} {tl th : TDO} {p2 : Pos} (he : DE X K E e te) (hl : DO X K E lo tl) (hu : DO X K E hi th) : DE X K E (.Subscript e (.Slice lo hi none p2) pos) (dSl fSlS te tl th) := ⟨by
 refine qe_imp (qpe_slice sl_str he.q hl.q hu.q) fun σ H Q h => ?_
 obtain ⟨H0, ν, ρ, Qd, Xd, S, h1, q, x⟩ := h
 refine ⟨H0, ν, ρ, _, Xd, S, h1, fun d k v H1 g1 e1 r1 => ?_, x⟩
 refine ⟨H0, ν, ρ, _, Xd, S.same e1, g1, fun l H2 g2 e2 => ?_, x⟩
 refine ⟨H0, ν, ρ, _, Xd, S.same (e1.trans e2), g2, fun u H3 g3 e3 => ?_, x⟩
 have r := r1.den
 unfold fSlS at g3
 split at g3
 ·cases r
  exact ⟨_, rfl, Nat.le_trans g3.1 million, q _ _ _ _ g3.2 ((e1.trans e2).trans e3) (.str _)⟩
 ·exact g3.elim⟩
end
end DL
namespace DL
open PySem PySem.Spec PyProof.Rows L2
section
variable {ρ : Ren} {Q : QD} {Xd : XD} {z : Str} {i : Int} {k l : Kd} {te : TD} {t : TDA} {sp : SpD} {Dd : EndsD} {ds : List D} {s : List Nat} {lo hi : Option Int}
theorem w_ixX (h : z.length <= 1000000 /\ ∃ c, atI z.cps.toList i = some c /\ Q (.str ⟨#[c]⟩) .old) : fIxS (.str z) k (.int i) l Q := h
theorem w_lenX (h : z.length <= 1000000 /\ Q (.int z.length) .old) : fLenS [.str z] k Q := h
theorem w_slX (h : z.length <= 1000000 /\ Q (.str (Txt.slice z lo hi)) .old) : fSlS (.str z) k lo hi Q := h
def onS (Q : List D -> Bool -> Prop) : QD := fun d _ => match d with
 | .str z => Q (signs z) true
 | _ => False
theorem w_iS {Q : List D -> Bool -> Prop} (h : te ρ (onS Q) Xd) : iS te ρ Q Xd := h
theorem w_onS {Q : List D -> Bool -> Prop} (h : Q (signs z) true) : onS Q (.str z) k := h
def onC (sp : SpD) (Q : QD) : List D -> Kd -> Prop := fun ds k => k = .own [] /\ sp ds (fun d o => Q d (kRet o)) Xf
theorem w_callO (h : t ρ (onC sp Q) Xd) : dCallO sp t ρ Q Xd := h
end
end DL
namespace L2
open PySem PySem.Spec PyProof.Rows PySem.W
def runK {α : Type} (lt : Nat -> Nat -> Bool) : KasT α -> α
 | .ret a => a
 | .ask i j k => runK lt (k (lt i j))
def BelK {α : Type} (n : Nat) (P : α -> Prop) : KasT α -> Prop
 | .ret a => P a
 | .ask i j k => i < n /\ j < n /\ ∀ b, BelK n P (k b)
theorem wp_runK {α : Type} {n : Nat} {P : α -> Prop} {lt : Nat -> Nat -> Bool} {cmp : Nat -> Nat -> (Bool -> Shared -> Prop) -> Shared -> Prop} {s : Shared} (hc : ∀ i j, i < n -> j < n -> ∀ C : Bool -> Shared -> Prop, C (lt i j) s -> cmp i j C s) :
  ∀ (t : KasT α) (Q : α -> Shared -> Prop), BelK n P t -> Q (runK lt t) s -> t.kasWp cmp Q s
 | .ret _, _, _, h => h
 | .ask i j k, Q, b, h => hc i j b.1 b.2.1 _ (wp_runK hc (k (lt i j)) Q (b.2.2 _) h)
theorem run_bind {α β : Type} {lt : Nat -> Nat -> Bool} {f : α -> KasT β} : ∀ t : KasT α, runK lt (t.bind f) = runK lt (f (runK lt t))
 | .ret _ => rfl
 | .ask i j k => run_bind (k (lt i j))
theorem bel_bind {α β : Type} {n : Nat} {P : α -> Prop} {R : β -> Prop} {f : α -> KasT β} (hf : ∀ a, P a -> BelK n R (f a)) : ∀ t : KasT α, BelK n P t -> BelK n R (t.bind f)
 | .ret a, h => hf a h
 | .ask i j k, h => ⟨h.1, h.2.1, fun b => bel_bind hf (k b) (h.2.2 b)⟩
theorem bel_run {α : Type} {n : Nat} {P : α -> Prop} {lt : Nat -> Nat -> Bool} : ∀ t : KasT α, BelK n P t -> P (runK lt t)
 | .ret _, h => h
 | .ask i j k, h => bel_run (k (lt i j)) (h.2.2 _)
def Pl (n : Nat) (p : Array Nat) : Prop := p.Perm (List.toArray (List.range n))
theorem Pl.lt {n : Nat} {p : Array Nat} (h : Pl n p) (h0 : 0 < n) (i : Nat) : p.getD i 0 < n := by
 by_cases hi : i < p.size
 ·have hm : p[i] ∈ p.toList := Array.mem_toList_iff.mpr (Array.getElem_mem hi)
  have : p[i] ∈ List.range n := by
   have q := (Array.perm_iff_toList_perm.mp h).mem_iff (a := p[i])
   exact q.mp hm
  have e : p.getD i 0 = p[i] := by simp [Array.getD, hi]
  rw [e]; exact List.mem_range.mp this
 ·have e : p.getD i 0 = 0 := by simp [Array.getD, hi]
  rw [e]; exact h0
theorem Pl.rev {n : Nat} {p : Array Nat} (h : Pl n p) (i j : Nat) : Pl n (kas_rev p i j) := (mirror_perm _ _ _ _).trans h
theorem Pl.bub {n : Nat} {p : Array Nat} (h : Pl n p) (i j : Nat) : Pl n (bubble p i j) := (bubble_perm _ _ _).trans h
theorem bel_asc {n : Nat} (h0 : 0 < n) {p : Array Nat} (h : Pl n p) : ∀ f m, BelK n (fun _ => True) (kas_asc p f m)
 | 0, _ => trivial
 | f + 1, m => ⟨h.lt h0 _, h.lt h0 _, fun b => by
  cases b with
  | true => trivial
  | false => exact bel_asc h0 h f (m + 1)⟩
theorem bel_desc {n : Nat} (h0 : 0 < n) : ∀ (f : Nat) (p : Array Nat) (m q : Nat), Pl n p -> BelK n (fun r => Pl n r.1) (kas_desc f p m q)
 | 0, _, _, _, h => h
 | f + 1, p, m, q, h => ⟨h.lt h0 _, h.lt h0 _, fun b => by
  cases b with
  | true =>
   show BelK n _ (if q > 0 then kas_desc f (kas_rev p (m - (q + 1)) m) (m + 1) 0 else kas_desc f p (m + 1) 0)
   split
   ·exact bel_desc h0 f _ _ _ (h.rev _ _)
   ·exact bel_desc h0 f _ _ _ h
  | false =>
   refine ⟨h.lt h0 _, h.lt h0 _, fun d => ?_⟩
   cases d with
   | true => exact h
   | false => exact bel_desc h0 f _ _ _ h⟩
theorem bel_tail {n : Nat} (h0 : 0 < n) (m k : Nat) {p : Array Nat} (h : Pl n p) : BelK n (fun r : Nat × Array Nat => Pl n r.2) (kas_tail3 m k p) :=
 bel_bind (P := fun _ => True) (fun a _ => show BelK n (fun r : Nat × Array Nat => Pl n r.2) (.ret (a, kas_rev p 0 m)) from h.rev 0 m) _ (bel_asc h0 (h.rev 0 m) _ _)
theorem bel_dpart {n : Nat} (h0 : 0 < n) (m k : Nat) {p : Array Nat} (h : Pl n p) : BelK n (fun r : Nat × Array Nat => Pl n r.2) (kas_descPart m k p) :=
 bel_bind (P := fun r => Pl n r.1) (fun r hr => by
  split
  ·exact bel_tail h0 _ _ (hr.rev _ _)
  ·exact bel_tail h0 _ _ hr) _ (bel_desc h0 _ _ _ _ h)
theorem bel_count {n : Nat} (h0 : 0 < n) (k : Nat) {p : Array Nat} (h : Pl n p) : BelK n (fun r : Nat × Array Nat => Pl n r.2) (kas_count k p) :=
 bel_bind (P := fun _ => True) (fun m _ => by
  split
  ·exact h
  ·split
   ·refine ⟨h.lt h0 _, h.lt h0 _, fun b => ?_⟩
    cases b with
    | true => exact h
    | false => exact bel_dpart h0 _ _ (h.rev _ _)
   ·exact bel_dpart h0 _ _ h) _ (bel_asc h0 h _ _)
theorem bel_place {n : Nat} (h0 : 0 < n) {p : Array Nat} (h : Pl n p) (k : Nat) : ∀ f l r, BelK n (fun _ => True) (kas_place p k f l r)
 | 0, _, _ => trivial
 | f + 1, l, r => by
  show BelK n _ (if l ≥ r then .ret l else .ask (p.getD k 0) (p.getD ((l + r) / 2) 0) fun c => if c = true then kas_place p k f l ((l + r) / 2) else kas_place p k f ((l + r) / 2 + 1) r)
  split
  ·trivial
  ·refine ⟨h.lt h0 _, h.lt h0 _, fun b => ?_⟩
   cases b with
   | true => exact bel_place h0 h k f _ _
   | false => exact bel_place h0 h k f _ _
theorem bel_bin {n : Nat} (h0 : 0 < n) : ∀ (f : Nat) (p : Array Nat) (k : Nat), Pl n p -> BelK n (fun r => Pl n r) (kas_bin f p k)
 | 0, _, _, h => h
 | f + 1, p, k, h => bel_bind (P := fun _ => True) (fun l _ => bel_bin h0 f _ _ (h.bub _ _)) _ (bel_place h0 h k k 0 k)
theorem bel_sort {n : Nat} (h0 : 0 < n) : BelK n (Pl n) (kas_sort n) :=
 bel_bind (P := fun r : Nat × Array Nat => Pl n r.2) (fun r hr => by
  split
  ·exact bel_bin h0 _ _ _ hr
  ·exact hr) _ (bel_count h0 n (Array.Perm.refl _))
end L2
namespace L2
open PySem PySem.Spec PyProof.Rows PySem.W PySem.Calls
def outK (lt : Nat -> Nat -> Bool) (vs : List Value) : List Value := if vs.length < 2 then vs else (runK lt (kas_sort vs.length)).toList.map fun i => vs.getD i Value.none
section
variable {prog : Program} {w : World} {A : Around} {E : Value -> Shared -> Prop} {s : Shared} {vs : List Value} {lt : Nat -> Nat -> Bool} {κ : SortKind}
theorem outK_len : (outK lt vs).length = vs.length := by
 unfold outK
 split
 ·rfl
 ·rw [List.length_map, Array.length_toList]
  have p : Pl vs.length (runK lt (kas_sort vs.length)) := bel_run _ (bel_sort (by omega))
  have := p.size_eq
  simpa using this
structure Asks (prog : Program) (w : World) (A : Around) (κ : SortKind) (vs : List Value) (lt : Nat -> Nat -> Bool) (s : Shared) : Prop where
 kind : 2 <= vs.length -> ∀ Q : SortKind -> Shared -> Prop, Q κ s -> wpAny (model prog w) A (keyKind' vs.toArray) Q (fun _ _ => False) s
 ask : ∀ i j, i < vs.length -> j < vs.length -> ∀ C : Bool -> Shared -> Prop, C (lt i j) s -> kas_ask prog w A κ vs i j C s
theorem short_out {lt : Nat -> Nat -> Bool} {vs : List Value} (h2 : vs.length < 2) : ((vs.toArray.zip vs.toArray).map (·.2)) = (outK lt vs).toArray := by
 unfold outK
 rw [if_pos h2]
 cases vs with
 | nil => simp
 | cons x r =>
  cases r with
  | nil => simp
  | cons y t => exact absurd h2 (by simp)
theorem srt_list {a : Addr} {n : Nat} {P : PySem.Fin -> Shared -> Prop} (ho : s.heap.get? a = some (seqObj "list" vs.toArray n)) (h64 : vs.length < 64)
  (hA : ∀ h', (∀ b o, b ≠ a -> s.heap.get? b = some o -> h'.get? b = some o) -> Asks prog w A κ vs lt { s with heap := h' })
  (h : P (.done (.ret .none)) { s with heap := sortedHeap s.heap a vs (outK lt vs).toArray }) : wpAny (model prog w) A (Builtin.«list.sort» ⟨[.ref a], []⟩) P E s := by
 have ha : a < s.heap.objs.size := Heap.lt_size ho
 obtain ⟨c1, oc⟩ : ∃ c, (s.heap.update a (Obj.mapSeq fun _ => (#[] : Array Value))).get? a = some (seqObj "list" #[] c) := ⟨_, get?_update_seq ho fun _ => #[]⟩
 have keep : ∀ b o, b ≠ a -> s.heap.get? b = some o -> (((s.heap.update a (Obj.mapSeq fun _ => (#[] : Array Value))).push (seqObj "tuple" vs.toArray 0)).push (seqObj "list" #[] 0)).get? b = some o := fun b o hb q => by
  have hlt : b < s.heap.objs.size := Heap.lt_size q
  refine Heap.get?_push_of_some _ (Heap.get?_push_of_some _ ?_)
  rw [Heap.get?_update_ne _ _ _ _ hb]; exact q
 have o6 := Heap.get?_push_of_some (seqObj "list" #[] 0) (Heap.get?_push_of_some (seqObj "tuple" vs.toArray 0) oc)
 have ask := hA _ keep
 rw [list_sort_plain]
 refine wpAny_bind (listItems_at ho rfl ?_)
 refine wpAny_bind (listUpdate_at ho rfl ?_ (by rw [List.size_toArray, sizeLine_eq]; omega) (Nat.zero_le _))
 refine wpAny_bind (seqEpoch_at oc rfl ?_)
 refine wpAny_bind (wpAny_newTuple ?_ (by show vs.length <= _; rw [sizeLine_eq]; omega))
 refine wpAny_bind (wpAny_newList ?_ (Nat.zero_le _))
 refine wpAny_holding ?_
 show wpAny (model prog w) A _ P E { s with heap := ((s.heap.update a (Obj.mapSeq fun _ => (#[] : Array Value))).push (seqObj "tuple" vs.toArray 0)).push (seqObj "list" #[] 0) }
 dsimp only
 have hsz : vs.toArray.size = vs.length := by simp
 have szo : (outK lt vs).toArray.size <= sizeLine + 1 := by rw [List.size_toArray, outK_len, sizeLine_eq]; omega
 by_cases h2 : vs.length < 2
 ·have e2 : vs.toArray.size < 2 := by rw [hsz]; exact h2
  have eo : ((vs.toArray.zip vs.toArray).map (·.2)) = (outK lt vs).toArray := short_out h2
  rw [if_pos e2, if_pos e2]
  refine wpAny_bind (wpAny_pure ?_)
  rw [StateT.run_pure]
  refine wpAny_bind (wpAny_pure ?_)
  dsimp only
  show wpAny (model prog w) A _ P E _
  refine wpAny_bind (seqEpoch_at o6 rfl ?_)
  have ea : (arrOf (SortSt.mk' general' (vs.toArray.zip vs.toArray) #[] 7 none)).map (·.2) = (outK lt vs).toArray := eo
  rw [ea]
  refine wpAny_bind (listUpdate_at o6 rfl ?_ (Nat.zero_le _) szo)
  simp only [bne_self_eq_false, Bool.false_eq_true, if_false]
  exact wpAny_pure h
 ·have e2 : ¬ vs.toArray.size < 2 := by rw [hsz]; exact h2
  rw [if_neg e2, if_neg e2]
  refine wpAny_bind (wpAny_mono (ask.kind (by omega) (fun κ' s' => κ' = κ /\ s' = _) ⟨rfl, rfl⟩) (fun κ' s' hk => ?_) fun _ _ x => x.elim)
  obtain ⟨rfl, rfl⟩ := hk
  have hw := wp_runK (P := Pl vs.length) (lt := lt) (cmp := kas_ask prog w A κ' vs) (s := { s with heap := ((s.heap.update a (Obj.mapSeq fun _ => (#[] : Array Value))).push (seqObj "tuple" vs.toArray 0)).push (seqObj "list" #[] 0) }) ask.ask (kas_sort vs.length)
   (fun p s' => p = runK lt (kas_sort vs.length) /\ s' = { s with heap := ((s.heap.update a (Obj.mapSeq fun _ => (#[] : Array Value))).push (seqObj "tuple" vs.toArray 0)).push (seqObj "list" #[] 0) }) (bel_sort (by omega)) ⟨rfl, rfl⟩
  refine wpAny_bind (wpAny_mono (kat_run (ks := vs) (Q := fun st' s' => (arrOf st').map (·.2) = (outK lt vs).toArray /\ failedOf st' = none /\ s' = { s with heap := ((s.heap.update a (Obj.mapSeq fun _ => (#[] : Array Value))).push (seqObj "tuple" vs.toArray 0)).push (seqObj "list" #[] 0) }) rfl (by omega) h64
   (fun p st' s' a1 a2 a3 a4 => ⟨?_, a3, a4.2⟩) hw) ?_ fun _ _ e => e)
  ·rw [kat_snds rfl a2, a4.1]
   unfold outK
   rw [if_neg h2]
  ·rintro ⟨⟨⟩, st'⟩ s' ⟨b1, b2, rfl⟩
   dsimp only
   rw [b1]
   refine wpAny_bind (seqEpoch_at o6 rfl ?_)
   refine wpAny_bind (listUpdate_at o6 rfl ?_ (Nat.zero_le _) szo)
   rw [b2]
   simp only [bne_self_eq_false, Bool.false_eq_true, if_false]
   exact wpAny_pure h
end
end L2
namespace L2
open PySem PySem.Spec PyProof.Rows PySem.W PySem.Calls
def ltV : V -> V -> Bool
 | .int x, .int y => decide (x < y)
 | .str x, .str y => decide (x.cps.toList < y.cps.toList)
 | _, _ => false
def sameK : V -> V -> Bool
 | .int _, .int _ => true
 | .str _, .str _ => true
 | _, _ => false
def lexV : List V -> List V -> Bool
 | a :: r, b :: t => if a = b then lexV r t else ltV a b
 | _, _ => false
def sameKs : List V -> List V -> Bool
 | [], [] => true
 | a :: r, b :: t => sameK a b && sameKs r t
 | _, _ => false
theorem sameK.symm {a b : V} (h : sameK a b = true) : sameK b a = true := by cases a <;> cases b <;> first | rfl | cases h
theorem sameK.trans {a b c : V} (h : sameK a b = true) (g : sameK b c = true) : sameK a c = true := by cases a <;> cases b <;> first | (cases h; done) | (cases c <;> first | rfl | (cases g; done))
theorem sameKs.symm : ∀ {a b : List V}, sameKs a b = true -> sameKs b a = true
 | [], [], _ => rfl
 | _ :: _, _ :: _, h => by
  rw [sameKs, Bool.and_eq_true] at h ⊢
  exact ⟨sameK.symm h.1, sameKs.symm h.2⟩
 | [], _ :: _, h => by cases h
 | _ :: _, [], h => by cases h
theorem sameKs.trans : ∀ {a b c : List V}, sameKs a b = true -> sameKs b c = true -> sameKs a c = true
 | [], [], [], _, _ => rfl
 | _ :: _, _ :: _, _ :: _, h, g => by
  rw [sameKs, Bool.and_eq_true] at h g ⊢
  exact ⟨sameK.trans h.1 g.1, sameKs.trans h.2 g.2⟩
 | [], _ :: _, _, h, _ => by cases h
 | _ :: _, [], _, h, _ => by cases h
 | _, [], _ :: _, _, g => by cases g
 | _, _ :: _, [], _, g => by cases g
section
variable {prog : Program} {w : World} {A : Around} {E : Value -> Shared -> Prop} {s : Shared}
theorem lex_int {b : Bool} {Q : Bool -> Shared -> Prop} {x y : Int} {t u : Tok} {us ws : List V} {r : List (Value × Value)} {i : Nat} (ih : Q (lexV us ws) s -> KatLex prog w A b false Q r (i + 1) s) (h : Q (lexV (.int x :: us) (.int y :: ws)) s) : KatLex prog w A b false Q ((.int x t, .int y u) :: r) i s := by
 have h' : Q (if V.int x = V.int y then lexV us ws else ltV (.int x) (.int y)) s := h
 refine kat_cons (wpAny_eqBool_int (kat_go (fun e => kat_yes (ih ?_)) fun e => kat_no ?_))
 ·rw [if_pos (by simpa using e)] at h'
  exact h'
 ·rw [if_neg (by simpa using e)] at h'
  cases (b && i == 0) with
  | true => exact oneLt_int h'
  | false => exact kat_one _ _ (PyProof.Rows.lt_int h')
theorem lex_str {b : Bool} {Q : Bool -> Shared -> Prop} {x y : Str} {t u : Tok} {us ws : List V} {r : List (Value × Value)} {i : Nat} (ih : Q (lexV us ws) s -> KatLex prog w A b false Q r (i + 1) s) (h : Q (lexV (.str x :: us) (.str y :: ws)) s) : KatLex prog w A b false Q ((.str x t, .str y u) :: r) i s := by
 have h' : Q (if V.str x = V.str y then lexV us ws else ltV (.str x) (.str y)) s := h
 refine kat_cons (PyProof.Rows.eqBool_str (kat_go (fun e => kat_yes (ih ?_)) fun e => kat_no ?_))
 ·rw [if_pos (by simpa using e)] at h'
  exact h'
 ·rw [if_neg (by simpa using e)] at h'
  cases (b && i == 0) with
  | true => exact oneLt_str h'
  | false => exact kat_one _ _ (PyProof.Rows.lt_str h')
theorem lex_ok {b : Bool} {Q : Bool -> Shared -> Prop} : ∀ {us ws : List V} {xs ys : List Value} (i : Nat), Vals us xs -> Vals ws ys -> sameKs us ws = true -> Q (lexV us ws) s -> KatLex prog w A b false Q (xs.zip ys) i s := by
 intro us ws xs ys i v1 v2 k h
 induction v1 generalizing ws ys i with
 | nil =>
  cases v2 with
  | nil => exact h
  | cons => cases k
 | @cons a _ us _ rx rr ih =>
  cases v2 with
  | nil => cases k
  | @cons c _ ws _ ry rs =>
  rw [sameKs, Bool.and_eq_true] at k
  rw [List.zip_cons_cons]
  cases a <;> cases c <;> first | (cases k.1; done) | skip
  ·obtain ⟨t, rfl⟩ := rx
   obtain ⟨u, rfl⟩ := ry
   exact lex_int (ih (i + 1) rs k.2) h
  ·obtain ⟨t, rfl⟩ := rx
   obtain ⟨u, rfl⟩ := ry
   exact lex_str (ih (i + 1) rs k.2) h
end
def okTs : List (List V) -> Bool
 | [] => true
 | u :: r => !u.isEmpty && (sameKs u u && r.all (sameKs u))
theorem okTs.two {us : List (List V)} (h : okTs us = true) {u w : List V} (hu : u ∈ us) (hw : w ∈ us) : sameKs u w = true /\ u ≠ [] := by
 cases us with
 | nil => cases hu
 | cons v r =>
  rw [okTs, Bool.and_eq_true, Bool.and_eq_true] at h
  have key : ∀ x ∈ v :: r, sameKs v x = true := fun x hx => by
   rcases List.mem_cons.mp hx with rfl | hx
   ·exact h.2.1
   ·exact List.all_eq_true.mp h.2.2 x hx
  refine ⟨sameKs.trans (sameKs.symm (key u hu)) (key w hw), fun z => ?_⟩
  have := key u hu
  rw [z] at this
  cases v with
  | nil => simp at h
  | cons a t => cases this
def outV (lt : Nat -> Nat -> Bool) (vs : List V) : List V := if vs.length < 2 then vs else (runK lt (kas_sort vs.length)).toList.map fun i => vs.getD i .non
theorem vals_out {lt : Nat -> Nat -> Bool} {vs : List V} {its : List Value} (r : Vals vs its) : Vals (outV lt vs) (outK lt its) := by
 have el := r.length
 unfold outV outK
 rw [el]
 split
 ·exact r
 ·have p : Pl its.length (runK lt (kas_sort its.length)) := bel_run _ (bel_sort (by omega))
  have hm : ∀ i ∈ (runK lt (kas_sort its.length)).toList, i < its.length := fun i hi => by
   have q := (Array.perm_iff_toList_perm.mp p).mem_iff (a := i)
   exact List.mem_range.mp (q.mp hi)
  revert hm
  generalize (runK lt (kas_sort its.length)).toList = l
  intro hm
  induction l with
  | nil => exact .nil
  | cons i l ih =>
   refine .cons ?_ (ih fun j hj => hm j (List.mem_cons_of_mem _ hj))
   have hi := hm i List.mem_cons_self
   obtain ⟨u, hu, ru⟩ := r.get (i := i) (x := vs[i]) (by rw [List.getElem?_eq_getElem])
   show RelV (vs.getD i .non) (its.getD i Value.none)
   rw [List.getD_eq_getElem?_getD, List.getD_eq_getElem?_getD, List.getElem?_eq_getElem (by omega), hu]
   exact ru
end L2
namespace L2
open PySem PySem.Spec PyProof.Rows PySem.W PySem.Calls
def headK : List V -> Option Bool
 | .int _ :: _ => some true
 | .str _ :: _ => some false
 | _ => none
def KindV (k : Bool) (v : Value) : Prop := if k = true then ∃ i t, v = .int i t else ∃ x t, v = .str x t
theorem headK_of {u v : List V} (h : sameKs u v = true) (hu : u ≠ []) : ∃ k, headK u = some k /\ headK v = some k := by
 cases u with
 | nil => exact (hu rfl).elim
 | cons a r =>
  cases v with
  | nil => cases h
  | cons b t =>
   rw [sameKs, Bool.and_eq_true] at h
   cases a <;> cases b <;> first | (cases h.1; done) | exact ⟨_, rfl, rfl⟩
section
variable {X : Cx} {pins : List (Addr × Obj)} {σ : List (Option V)} {H : Hp} {s : Shared}
theorem tups_ok (I : Inv X pins σ H s) : ∀ {as : List Addr} {us : List (List V)}, Paired (SqT X.K H) as us -> ∃ xss : List (List Value), Paired (fun u xs => Vals u xs) us xss /\ Paired (fun a xs => IsTup s.heap a (List.toArray xs)) as xss
 | _, _, .nil => ⟨[], .nil, .nil⟩
 | _, _, .cons h r => by
  obtain ⟨xs, h1, h2, _⟩ := I.tuple h
  obtain ⟨xss, h3, h4⟩ := tups_ok I r
  exact ⟨xs :: xss, .cons h1 h3, .cons h2 h4⟩
theorem kat_of {h : Heap} {k : Bool} : ∀ {as : List Addr} {us : List (List V)} {xss : List (List Value)}, Paired (fun u xs => Vals u xs) us xss -> Paired (fun a xs => IsTup h a (List.toArray xs)) as xss -> (∀ u ∈ us, headK u = some k) ->
  ∃ fs, KatTups h (as.map Value.ref) fs /\ fs.length = as.length /\ ∀ v ∈ fs, KindV k v := by
 intro as us xss p1 p2 hk
 induction p1 generalizing as with
 | nil => cases p2; exact ⟨[], KatTups.nil, rfl, fun _ z => by cases z⟩
 | @cons u _ us _ h1 r1 ih =>
  cases p2 with
  | cons h2 r2 =>
  obtain ⟨fs, g1, g2, g3⟩ := ih r2 fun u hu => hk u (List.mem_cons_of_mem _ hu)
  obtain ⟨o, e1, e2, n, e3⟩ := h2
  have hh := hk u List.mem_cons_self
  cases u with
  | nil => cases hh
  | cons a t =>
   cases h1 with
   | cons ra rt =>
    rename_i f xs
    refine ⟨f :: fs, KatTups.cons e1 e2 e3 (by simp) g1, by simp [g2], fun v hv => ?_⟩
    rcases List.mem_cons.mp hv with rfl | hv
    ·cases a <;> cases k <;> first | (cases hh; done) | skip
     ·obtain ⟨t, rfl⟩ := ra; exact ⟨_, _, rfl⟩
     ·obtain ⟨t, rfl⟩ := ra; exact ⟨_, _, rfl⟩
    ·exact g3 v hv
theorem kind_looks {M : Model} {h : Heap} {k : Bool} {v : Value} (hv : KindV k v) : Looks M h (typeOf v) (if k = true then .type "int" else .type "str") := by
 cases k with
 | true => obtain ⟨_, _, rfl⟩ := hv; exact Looks.of_pure rfl
 | false => obtain ⟨_, _, rfl⟩ := hv; exact Looks.of_pure rfl
def ltT (us : List (List V)) (i j : Nat) : Bool := lexV (us.getD i []) (us.getD j [])
theorem paired_at {α β : Type} {F : α -> β -> Prop} : ∀ {l : List α} {m : List β} {i : Nat}, Paired F l m -> i < l.length -> ∃ a b, l[i]? = some a /\ m[i]? = some b /\ F a b
 | _, _, 0, .cons h _, _ => ⟨_, _, rfl, rfl, h⟩
 | _, _, i + 1, .cons _ r, hi => by
  obtain ⟨a, b, h1, h2, h3⟩ := paired_at (i := i) r (by simpa using hi)
  exact ⟨a, b, by simpa using h1, by simpa using h2, h3⟩
end
end L2
namespace DL
open PySem PySem.Spec PyProof.Rows L2
def scV : D -> Option V
 | .int i => some (.int i)
 | .str x => some (.str x)
 | _ => Option.none
def scVs : List D -> Option (List V)
 | [] => some []
 | d :: r => match scV d, scVs r with
  | some v, some vs => some (v :: vs)
  | _, _ => Option.none
def tupV : D -> Option (List V)
 | .tuple ds => scVs ds
 | _ => Option.none
def tupVs : List D -> Option (List (List V))
 | [] => some []
 | d :: r => match tupV d, tupVs r with
  | some v, some vs => some (v :: vs)
  | _, _ => Option.none
def outD (lt : Nat -> Nat -> Bool) (xs : List D) : List D := if xs.length < 2 then xs else (runK lt (PySem.W.kas_sort xs.length)).toList.map fun i => xs.getD i .none
section
variable {X : Cx} {K : W.Frag} {E : XK} {H : Hp}
theorem scV_den {v u : V} {d : D} (h : Dn K H v d) (e : scV d = some u) : v = u /\ flat d = true := by
 cases h <;> simp [scV] at e
 ·exact ⟨e, rfl⟩
 ·exact ⟨e, rfl⟩
theorem scVs_den : ∀ {vs us : List V} {ds : List D}, Dns K H vs ds -> scVs ds = some us -> vs = us /\ flats ds = true
 | _, _, _, .nil, e => by cases e; exact ⟨rfl, rfl⟩
 | _, _, d :: ds, .cons h r, e => by
  unfold scVs at e
  cases e1 : scV d with
  | none => rw [e1] at e; cases e
  | some v =>
   cases e2 : scVs ds with
   | none => rw [e1, e2] at e; cases e
   | some w =>
    rw [e1, e2] at e
    cases e
    obtain ⟨h1, h2⟩ := scV_den h e1
    obtain ⟨h3, h4⟩ := scVs_den r e2
    exact ⟨by rw [h1, h3], by simp [flats, h2, h4]⟩
theorem tupVs_den : ∀ {vs : List V} {us : List (List V)} {ds : List D}, Dns K H vs ds -> tupVs ds = some us -> ∃ as, vs = as.map V.ref /\ PySem.Paired (SqT K H) as us /\ flats ds = true
 | _, _, _, .nil, e => by cases e; exact ⟨[], rfl, .nil, rfl⟩
 | _, _, d :: ds, .cons h r, e => by
  unfold tupVs at e
  cases e1 : tupV d with
  | none => rw [e1] at e; cases e
  | some v =>
   cases e2 : tupVs ds with
   | none => rw [e1, e2] at e; cases e
   | some w =>
    rw [e1, e2] at e
    cases e
    obtain ⟨as, h3, h4, h5⟩ := tupVs_den r e2
    cases h <;> simp [tupV] at e1
    rename_i a us ds' ht hr
    obtain ⟨g1, g2⟩ := scVs_den hr e1
    subst g1
    exact ⟨a :: as, by rw [h3]; rfl, .cons ht h4, by simp [flats, flat, g2, h5]⟩
theorem dns_out {lt : Nat -> Nat -> Bool} {vs : List V} {ds : List D} (h : Dns K H vs ds) : Dns K H (outV lt vs) (outD lt ds) := by
 have el := h.length
 unfold outV outD
 rw [el]
 split
 ·exact h
 ·have p : Pl ds.length (runK lt (PySem.W.kas_sort ds.length)) := bel_run _ (bel_sort (by omega))
  have hm : ∀ i ∈ (runK lt (PySem.W.kas_sort ds.length)).toList, i < ds.length := fun i hi => by
   have q := (Array.perm_iff_toList_perm.mp p).mem_iff (a := i)
   exact List.mem_range.mp (q.mp hi)
  revert hm
  generalize (runK lt (PySem.W.kas_sort ds.length)).toList = l
  intro hm
  induction l with
  | nil => exact .nil
  | cons i l ih =>
   refine .cons ?_ (ih fun j hj => hm j (List.mem_cons_of_mem _ hj))
   have hi := hm i List.mem_cons_self
   obtain ⟨u, hu, ru⟩ := h.get (i := i) (d := ds[i]) (List.getElem?_eq_getElem hi)
   show Dn K H (vs.getD i .non) (ds.getD i .none)
   rw [List.getD_eq_getElem?_getD, List.getD_eq_getElem?_getD, List.getElem?_eq_getElem hi, hu]
   exact ru
theorem outD_mem {lt : Nat -> Nat -> Bool} {ds : List D} {d : D} (h : d ∈ outD lt ds) : d ∈ ds := by
 unfold outD at h
 split at h
 ·exact h
 ·obtain ⟨i, hi, rfl⟩ := List.mem_map.mp h
  have p : Pl ds.length (runK lt (PySem.W.kas_sort ds.length)) := bel_run _ (bel_sort (by omega))
  have q := (Array.perm_iff_toList_perm.mp p).mem_iff (a := i)
  have hl := List.mem_range.mp (q.mp hi)
  rw [List.getD_eq_getElem?_getD, List.getElem?_eq_getElem hl]
  exact List.getElem_mem hl
end
variable {α : Type}
end DL
namespace L2
open PySem PySem.Spec PyProof.Rows
section
variable {X : Cx} {pos : Pos}
end
end L2
namespace DL
open PySem PySem.Spec PyProof.Rows L2
section
variable {X : Cx} {K : W.Frag} {E : XK} {pos : Pos} {e : Expr} {te : TD}
end
end DL
namespace L2
open PySem PySem.Spec PyProof.Rows PySem.W PySem.Calls
def RawD (h : Heap) (d : Addr) (es : Array DictEntry) (ep : Nat) : Prop := ∃ o, h.get? d = some o /\ o.ExactDict /\ o.data = .dict es ep
theorem RawD.lt {h : Heap} {d : Addr} {es : Array DictEntry} {ep : Nat} (x : RawD h d es ep) : d < h.objs.size := let ⟨_, e, _⟩ := x; Heap.lt_size e
theorem RawD.at {h h' : Heap} {d : Addr} {es : Array DictEntry} {ep : Nat} (x : RawD h d es ep) (k : ∀ o, h.get? d = some o -> h'.get? d = some o) : RawD h' d es ep := let ⟨o, e, r⟩ := x; ⟨o, k o e, r⟩
theorem RawD.ty {s : Shared} {d : Addr} {es : Array DictEntry} {ep : Nat} (x : RawD s.heap d es ep) : s.TypeIs (.ref d) "dict" := let ⟨o, e, c, _⟩ := x; ⟨o, e, c.1⟩
section
variable {prog : Program} {w : World} {A : Around} {E : Value -> Shared -> Prop} {s : Shared} {d it : Addr} {es : Array DictEntry} {ep i : Nat}
theorem raw_iter {Q : Value -> Shared -> Prop} (hd : (d == sysModules) = false) (hm : RawD s.heap d es ep)
  (hQ : Q (.ref s.heap.objs.size) { s with heap := s.heap.push { cls := .type "dict_keyiterator", data := .fields #[.ref d, .int 0 0, .int es.size 0, .int ep 0] } }) : wpAny (model prog w) A (pyIter (.ref d)) Q E s := by
 obtain ⟨o, ho, hc, hdat⟩ := id hm
 refine wpAny_pyIter_slot hm.ty F.slot_dict_iter (wpAny_call_entry F.slot_dict_iter hm.ty F.entry_dict_iter ?_ (F.args_dict_iter_1 _))
 unfold Builtin.«dict.__iter__»
 refine wpAny_bind ?_
 unfold Builtin.Dict.dictSlotNone
 refine wpAny_bind (wpAny_notOrdered_dict hm.ty ?_)
 show wpAny _ _ (pure (Value.ref d)) _ _ s
 refine wpAny_pure ?_
 show wpAny _ _ (Builtin.Dict.showsAll d >>= _) _ _ s
 unfold Builtin.Dict.showsAll
 rw [if_neg (by rw [hd]; exact Bool.false_ne_true)]
 refine wpAny_bind (wpAny_pure ?_)
 refine wpAny_bind (wpAny_dictEntries ho hdat ?_)
 refine wpAny_bind (wpAny_dictEpoch ho hdat ?_)
 refine wpAny_bind (wpAny_newObj_type (wpAny_pure ⟨_, rfl, "dict_keyiterator", _, ⟨_, Heap.get?_push_size _ rfl, rfl⟩, F.slot_dict_keyiterator_next.lookup, ?_⟩))
 simpa [rawInt] using hQ
theorem raw_item {e : DictEntry} {Q : Option Value -> Shared -> Prop} (hit : s.heap.IsKeyIter it d i es.size ep) (hm : RawD s.heap d es ep) (hx : es[i]? = some e)
  (hQ : ∀ h', h'.IsKeyIter it d (i + 1) es.size ep -> Heap.SameBut it s.heap h' -> Q (some e.key) { s with heap := h' }) : wpAny (model prog w) A (pyNext (.ref it)) Q E s := by
 obtain ⟨o, ho, hc, hd⟩ := id hit
 obtain ⟨od, hod, hcd, hdd⟩ := id hm
 unfold pyNext
 refine wpAny_bind (wpAny_attempt (wpAny_callSpecial?_slot (name := Str.ofString "__next__") hit.typeIs F.slot_dict_keyiterator_next
  (wpAny_call_entry F.slot_dict_keyiterator_next hit.typeIs F.entry_dict_keyiterator_next ?_ (F.args_dict_keyiterator_next_1 _))))
 refine wpAny_bind (wpAny_pure ?_)
 refine wpAny_bind ?_
 refine wpAny_bind ?_
 first | refine wpAny_bind (wpAny_typeNameOfWhole_keyiter hit.typeIs (wpAny_pure ?_)) | refine wpAny_bind (wpAny_typeNameOf_keyiter hit.typeIs (wpAny_pure ?_))
 refine wpAny_bind (wpAny_fieldsOf ho hd ?_)
 simp only [show Builtin.Dict_items.ownsTuple "dict_keyiterator" = false by decide, Bool.false_eq_true, if_false]
 show wpAny _ _ (if (Value.ref d == Value.none) = true then _ else _) _ _ s
 rw [if_neg (show ¬ ((Value.ref d == Value.none) = true) from Bool.false_ne_true)]
 refine wpAny_bind (wpAny_pure ?_)
 refine wpAny_bind (wpAny_dictEntries hod hdd ?_)
 rw [if_neg (by simp)]
 refine wpAny_bind (wpAny_pure ?_)
 refine wpAny_bind (wpAny_dictEpoch hod hdd ?_)
 rw [if_neg (by simp)]
 refine wpAny_pure ?_
 simp only [show ¬ ((i : Int) < 0) from by omega, if_false, Int.toNat_natCast, hx]
 refine wpAny_bind ?_
 first | refine wpAny_bind (wpAny_typeNameOfWhole_keyiter hit.typeIs (wpAny_pure ?_)) | refine wpAny_bind (wpAny_typeNameOf_keyiter hit.typeIs (wpAny_pure ?_))
 refine wpAny_bind (wpAny_isOneOf_keyiter hit.typeIs ?_)
 show wpAny _ _ (setField (.ref it) 1 (rawInt ((i : Int) + 1)) >>= _) _ _ s
 refine wpAny_bind (wpAny_setField ho hd (by simp) ?_)
 have hit' : (s.heap.update it (Obj.mapFields (·.setIfInBounds 1 (rawInt ((i : Int) + 1))))).IsKeyIter it d (i + 1) es.size ep :=
  ⟨_, Heap.get?_update_self _ ho (Obj.isFreed_of_fields (Obj.data_mapFields hd _)), (Obj.cls_mapFields ..).trans hc, by rw [Obj.data_mapFields hd]; simp [rawInt]⟩
 refine wpAny_bind (wpAny_holding ?_)
 refine wpAny_bind (wpAny_isOneOf_keyiter (s := { s with heap := s.heap.update it (Obj.mapFields (·.setIfInBounds 1 (rawInt ((i : Int) + 1)))) }) hit'.typeIs ?_)
 show wpAny _ _ (pure e.key) _ _ _
 exact wpAny_pure (wpAny_pure ⟨_, rfl, wpAny_pure (hQ _ hit' (Heap.SameBut.update ..))⟩)
theorem raw_end {Q : Option Value -> Shared -> Prop} (hh : A.handled = none) (hit : s.heap.IsKeyIter it d i es.size ep) (hm : RawD s.heap d es ep) (hx : es[i]? = none)
  (hQ : ∀ h', Heap.ExtBut it s.heap h' -> Q none { s with heap := h' }) : wpAny (model prog w) A (pyNext (.ref it)) Q E s := by
 obtain ⟨o, ho, hc, hd⟩ := id hit
 obtain ⟨od, hod, hcd, hdd⟩ := id hm
 unfold pyNext
 refine wpAny_bind (wpAny_attempt (wpAny_callSpecial?_slot (name := Str.ofString "__next__") hit.typeIs F.slot_dict_keyiterator_next
  (wpAny_call_entry F.slot_dict_keyiterator_next hit.typeIs F.entry_dict_keyiterator_next ?_ (F.args_dict_keyiterator_next_1 _))))
 refine wpAny_bind (wpAny_pure ?_)
 refine wpAny_bind ?_
 refine wpAny_bind ?_
 first | refine wpAny_bind (wpAny_typeNameOfWhole_keyiter hit.typeIs (wpAny_pure ?_)) | refine wpAny_bind (wpAny_typeNameOf_keyiter hit.typeIs (wpAny_pure ?_))
 refine wpAny_bind (wpAny_fieldsOf ho hd ?_)
 simp only [show Builtin.Dict_items.ownsTuple "dict_keyiterator" = false by decide, Bool.false_eq_true, if_false]
 show wpAny _ _ (if (Value.ref d == Value.none) = true then _ else _) _ _ s
 rw [if_neg (show ¬ ((Value.ref d == Value.none) = true) from Bool.false_ne_true)]
 refine wpAny_bind (wpAny_pure ?_)
 refine wpAny_bind (wpAny_dictEntries hod hdd ?_)
 rw [if_neg (by simp)]
 refine wpAny_bind (wpAny_pure ?_)
 refine wpAny_bind (wpAny_dictEpoch hod hdd ?_)
 rw [if_neg (by simp)]
 refine wpAny_pure ?_
 simp only [show ¬ ((i : Int) < 0) from by omega, if_false, Int.toNat_natCast, hx]
 refine wpAny_bind ?_
 first | refine wpAny_bind (wpAny_typeNameOfWhole_keyiter hit.typeIs (wpAny_pure ?_)) | refine wpAny_bind (wpAny_typeNameOf_keyiter hit.typeIs (wpAny_pure ?_))
 show wpAny _ _ (setField (.ref it) 0 .none >>= _) _ _ s
 refine wpAny_bind (wpAny_setField ho hd (by simp) ?_)
 show wpAny _ _ (newExc (.type "StopIteration") [] >>= _) _ _ _
 refine wpAny_bind ?_
 simp only [newExc, newTuple]
 refine wpAny_bind (wpAny_newObj_type ?_ (by size_fits))
 refine wpAny_bind (m := firstArgMember _ _) (wpAny_of_eq (a := Value.none) (by first | rfl | (simp only [firstArgMember]; rfl)) ?_)
 refine wpAny_newObj_type ?_ (by size_fits)
 simp only [raiseNew]
 refine wpAny_bind (wpAny_handled ?_)
 rw [show A.in1.handled = none from hh]
 refine wpAny_bind (wpAny_pure (wpAny_throw ?_))
 refine wpAny_bind (wpAny_isInstance (T := "StopIteration") (b := true) ⟨_, Heap.get?_push_size _ rfl, rfl⟩ isSubtype_stop ?_)
 exact wpAny_pure (hQ _ (((Heap.SameBut.update ..).extBut.push _).push _))
theorem raw_walks (hh : A.handled = none) (I : Addr) (hne : d ≠ I) : Walks prog w A I [I, d] [I] es.size (fun i v => (es[i]?).map (·.key) = some v) (fun i h => h.IsKeyIter I d i es.size ep /\ RawD h d es ep) where
 sub := fun b hb => by simp at hb; simp [hb]
 frame := fun _ _ _ st hk => ⟨st.1.at fun o e => hk I (by simp) o e, st.2.at fun o e => hk d (by simp) o e⟩
 item := fun i s Q E hi st hQ => by
  have hx : es[i]? = some es[i] := Array.getElem?_eq_getElem hi
  refine raw_item st.1 st.2 hx fun h' hit' hs' => ?_
  exact hQ _ h' s.toks (by rw [hx]; rfl) ⟨hit', st.2.at fun o e => hs'.extBut d o hne e⟩ fun b o hb e => hs'.extBut b o (fun h => hb (by simp [h])) e
 done := fun s Q E st hQ => raw_end hh st.1 st.2 (by simp) fun h' he' => hQ h' s.toks fun b o hb e => he' b o (fun h => hb (by simp [h])) e
 self := fun _ _ _ _ st hQ => wpAny_pyIter_keyiter st.1 hQ
theorem raw_src (lo : (d == sysModules) = false) : KdlSrc prog w "dict" d d es.size (fun i v => (es[i]?).map (·.key) = some v) (fun h => RawD h d es ep) where
 type := fun _ hm => hm.ty
 there := fun _ hm => ⟨hm.lt, hm.lt⟩
 keep := fun _ _ hm hk => hm.at fun o e => hk d (.inl rfl) o e
 notList := by decide
 notTuple := by decide
 hint := fun _ _ _ _ hm hq => kdl_hint_dict hm.ty hq
 iter := fun _ _ hh hm => ⟨_, _, (fun _ _ hq => raw_iter lo hm hq), raw_walks hh _ (Nat.ne_of_lt hm.lt), ⟨⟨_, Heap.get?_push_size _ rfl, rfl, rfl⟩, hm.at fun o e => Heap.get?_push_of_some _ e⟩⟩
theorem collect_src {T : String} {r : Addr} {n : Nat} {P : Nat -> Value -> Prop} {OK : Heap -> Prop} {Q : List Value -> Shared -> Prop} (K : KdlSrc prog w T r d n P OK) (hh : A.handled = none) (hok : OK s.heap) (hn : n <= sizeLine)
  (h : ∀ h' tk (vs : List Value), (∀ b o, s.heap.get? b = some o -> h'.get? b = some o) -> s.heap.objs.size <= h'.objs.size -> ItemsOf P vs.toArray n -> Q vs { s with heap := h', toks := tk }) : wpAny (model prog w) A (collect (.ref r)) Q E s := by
 have hlt := K.there _ hok
 have hS0 : (s.heap.push (seqObj "list" #[] 0)).get? s.heap.objs.size = some { cls := .type "list", data := .seq #[] 0 } := Heap.get?_push_size _ rfl
 have key : ∀ R : Result -> Shared -> Prop, (∀ h' tk acc' c', (∀ b o, b ≠ s.heap.objs.size -> (s.heap.push (seqObj "list" #[] 0)).get? b = some o -> h'.get? b = some o) -> h'.get? s.heap.objs.size = some { cls := .type "list", dict := none, data := .seq acc' c', slots := #[] } -> ItemsOf P acc' n -> R (.ok (.ret (.ref s.heap.objs.size))) { s with heap := h', toks := tk }) ->
   codeAny (model prog w) A (.builtin "list.__iadd__" ⟨[.ref s.heap.objs.size, .ref r], []⟩) R { s with heap := s.heap.push (seqObj "list" #[] 0) } := fun R hR =>
  codeAny_builtin entry_list_iadd' (kdl_extend (s := { s with heap := s.heap.push (seqObj "list" #[] 0) }) K hh (K.keep _ _ hok fun b _ o e => Heap.get?_push_of_some _ e) s.heap.objs.size (Nat.ne_of_gt hlt.1) (Nat.ne_of_gt hlt.2) _ 0 hS0 hR hn)
 unfold collect
 refine wpAny_bind (wpAny_runValue (codeAny_builtin entry_proto_collect' ?_))
 show wpAny _ _ (do again (.builtin "list.__iadd__" ⟨[← newList [], .ref r], []⟩)) _ _ s
 refine wpAny_bind (wpAny_newList (wpAny_pure ⟨Code.quiet_builtin _ (by decide +kernel), key _ fun h' tk acc' c' hk hS hacc => ?_⟩))
 show wpAny (model prog w) A (do
   let o ← load s.heap.objs.size
   match o.data with
   | .seq xs _ => pure xs.toList
   | _ => unsupported "internal:collect") Q E { s with heap := h', toks := tk }
 refine wpAny_bind (wpAny_load hS ?_)
 show wpAny _ _ (pure acc'.toList) Q E _
 exact wpAny_pure (h h' tk acc'.toList (fun b o e => hk b o (Nat.ne_of_lt (Heap.lt_size e)) (Heap.get?_push_of_some _ e)) (Nat.le_of_lt (Heap.lt_size hS)) (by simpa using hacc))
end
end L2
namespace L2
open PySem PySem.Spec PyProof.Rows PySem.W PySem.Calls
section
variable {prog : Program} {w : World} {A : Around} {E : Value -> Shared -> Prop} {s : Shared} {vs : List Value} {lt : Nat -> Nat -> Bool} {κ : SortKind}
theorem sortedHeap_old {h : Heap} {a b : Addr} {out : Array Value} {o : Obj} (hb : b ≠ a) (q : h.get? b = some o) : (sortedHeap h a vs out).get? b = some o := by
 unfold sortedHeap
 rw [Heap.get?_update_ne _ _ _ _ hb]
 refine Heap.get?_push_of_some _ (Heap.get?_push_of_some _ ?_)
 rw [Heap.get?_update_ne _ _ _ _ hb]; exact q
theorem sortedHeap_at {h : Heap} {a : Addr} {out : Array Value} {n : Nat} (q : h.get? a = some (seqObj "list" vs.toArray n)) : ∃ e, (sortedHeap h a vs out).get? a = some (seqObj "list" out e) := by
 unfold sortedHeap
 obtain ⟨e1, q1⟩ : ∃ e, (h.update a (Obj.mapSeq fun _ => (#[] : Array Value))).get? a = some (seqObj "list" #[] e) := ⟨_, get?_update_seq q fun _ => #[]⟩
 have q2 := Heap.get?_push_of_some (seqObj "list" #[] 0) (Heap.get?_push_of_some (seqObj "tuple" vs.toArray 0) q1)
 exact ⟨_, get?_update_seq q2 fun _ => out⟩
theorem srt_src {l d : Addr} {T : String} {n : Nat} {P : Nat -> Value -> Prop} {OK : Heap -> Prop} {Q : Value -> Shared -> Prop} (K : KdlSrc prog w T l d n P OK) (hh : A.handled = none) (hok : OK s.heap) (hn : n < 64) (hv : ∀ ws : List Value, ItemsOf P ws.toArray n -> ws = vs) (h64 : vs.length < 64)
  (hA : ∀ h' tk, (∀ b o, s.heap.get? b = some o -> h'.get? b = some o) -> Asks prog w A.in1.in1 κ vs lt { s with heap := h', toks := tk })
  (h : ∀ h' tk L e, (∀ b o, s.heap.get? b = some o -> h'.get? b = some o) -> s.heap.objs.size <= L -> h'.get? L = some (seqObj "list" (outK lt vs).toArray e) -> Q (.ref L) { s with heap := h', toks := tk }) : wpAny (model prog w) A (call (.builtin "sorted") [.ref l]) Q E s := by
 refine Calls.call_function_entry kind_sorted plain_sorted entry_sorted (args_sorted1 _) ?_
 unfold Builtin.«sorted»
 refine wpAny_bind (m := checkCount "sorted" 1 1 _) (wpAny_pure ?_)
 refine wpAny_bind (collect_src (A := A.in1) K hh hok (by rw [sizeLine_eq]; omega) fun h1 tk ws k1 sz hi => ?_)
 have e := hv ws hi
 subst e
 refine wpAny_bind (wpAny_newList ?_ (by rw [sizeLine_eq]; omega))
 have hoL : (h1.push (seqObj "list" ws.toArray 0)).get? h1.objs.size = some (seqObj "list" ws.toArray 0) := Heap.get?_push_size _ rfl
 have keep : ∀ b o, s.heap.get? b = some o -> (h1.push (seqObj "list" ws.toArray 0)).get? b = some o := fun b o q => Heap.get?_push_of_some _ (k1 b o q)
 have lt1 : ∀ b o, s.heap.get? b = some o -> b ≠ h1.objs.size := fun b o q => Nat.ne_of_lt (Heap.lt_size (k1 b o q))
 refine wpAny_bind (wpAny_holding (wpAny_call_entry slot_list_sort ⟨_, hoL, rfl⟩ entry_list_sort ?body (args_list_sort _)))
 case body =>
  refine srt_list (κ := κ) (lt := lt) (s := { s with heap := h1.push (seqObj "list" ws.toArray 0), toks := tk }) hoL h64 (fun h' k => hA h' tk fun b o q => k b o (lt1 b o q) (keep b o q)) ?_
  refine ⟨_, rfl, wpAny_pure ⟨_, rfl, ?_⟩⟩
  obtain ⟨e, he⟩ := sortedHeap_at (vs := ws) (out := (outK lt ws).toArray) hoL
  exact h _ tk h1.objs.size e (fun b o q => sortedHeap_old (lt1 b o q) (keep b o q)) sz he
theorem items_are_list {es : Array DictEntry} {ws : List Value} (h : ItemsOf (fun i v => (es[i]?).map (·.key) = some v) ws.toArray es.size) : ws = es.toList.map (·.key) := by
 obtain ⟨h1, h2⟩ := h
 rw [List.size_toArray] at h1
 apply List.ext_getElem?
 intro i
 rw [List.getElem?_map]
 have q : es.toList[i]? = es[i]? := Array.getElem?_toList
 rw [q]
 cases e : ws[i]? with
 | some v =>
  have := h2 i v (by simpa using e)
  exact this.symm
 | none =>
  have : ws.length <= i := by simpa using e
  have e2 : es[i]? = none := Array.getElem?_eq_none (by omega)
  rw [e2]; rfl
end
section
variable {X : Cx} {pins : List (Addr × Obj)} {σ : List (Option V)} {H : Hp} {s : Shared} {a : Addr}
theorem dT_raw (I : Inv X pins σ H s) {kvs : List (List Key × V)} (e : H a = some (.dT kvs)) : (a == sysModules) = false /\ ∃ es ep bs, RawD s.heap a es ep /\ es.size = kvs.length /\ es.toList.map (·.key) = bs.map Value.ref /\ Paired (fun b (p : List Key × V) => H b = some (.tup (p.1.map kV))) bs kvs := by
 obtain ⟨_, y, xs, r, o, es, ep, h1, h2, h3, h4, _⟩ := (show ObjOk X.prog X.w H s.heap a (.dT kvs) from I.hok a _ e)
 refine ⟨y, es, ep, xs.map (·.2.1), ⟨o, h1, h2, h3⟩, ?_, ?_, ?_⟩
 ·have : es.toList.length = xs.length := by rw [h4, List.length_map]
  rw [Array.length_toList] at this
  rw [this]; exact (Paired.length r).symm
 ·rw [h4, List.map_map, List.map_map]; rfl
 ·have go : ∀ {l : List (List Key × V)} {m : List (List Key × Addr × Value)}, Paired (fun (p : List Key × V) (q : List Key × Addr × Value) => p.1 = q.1 /\ H q.2.1 = some (.tup (p.1.map kV)) /\ RelV p.2 q.2.2) l m -> Paired (fun b (p : List Key × V) => H b = some (.tup (p.1.map kV))) (m.map (·.2.1)) l := by
   intro l m r
   induction r with
   | nil => exact .nil
   | cons h _ ih => exact .cons h.2.1 ih
  exact go r
theorem dK_raw (I : Inv X pins σ H s) {kvs : List (Key × V)} (e : H a = some (.dK kvs)) : (a == sysModules) = false /\ ∃ es ep, RawD s.heap a es ep /\ es.size = kvs.length /\ Vals (kvs.map fun p => kV p.1) (es.toList.map (·.key)) := by
 obtain ⟨_, y, vs, r, o, es, ep, h1, h2, h3, _, h5, _⟩ := (show ObjOk X.prog X.w H s.heap a (.dK kvs) from I.hok a _ e)
 have hp : ∀ {l : List DictEntry} {m : List (Key × Value)} {n : List (Key × V)}, Pairs (mixKind X.prog X.w) l m -> KV n m -> Vals (n.map fun p => kV p.1) (l.map (·.key)) := by
  intro l m n p
  induction p generalizing n with
  | nil => intro k; cases k; exact .nil
  | cons g1 g2 _ ih =>
   intro k
   cases k with
   | cons q1 q2 =>
    refine .cons ?_ (ih q2)
    show RelV (kV _) _
    rw [q1.1]
    rcases keyIs_shape g1 with ⟨i, t, e1, e2⟩ | ⟨x, t, e1, e2⟩
    ·rw [e1]; exact ⟨t, e2⟩
    ·rw [e1]; exact ⟨t, e2⟩
 have v := hp h5 r
 refine ⟨y, es, ep, ⟨o, h1, h2, h3⟩, ?_, v⟩
 have := v.length
 rw [List.length_map, List.length_map, Array.length_toList] at this
 exact this.symm
theorem asks_T (I : Inv X pins σ H s) {as : List Addr} {us : List (List V)} {A : Around} (hT : Paired (SqT X.K H) as us) (hok : okTs us = true) {h' : Heap} {tk : Nat} (kp : ∀ b o, s.heap.get? b = some o -> h'.get? b = some o) : Asks X.prog X.w A (tuples' true) (as.map Value.ref) (ltT us) { s with heap := h', toks := tk } := by
 obtain ⟨xss, t1, t2⟩ := tups_ok I hT
 have len : (as.map Value.ref).length = as.length := List.length_map _
 refine ⟨fun h2 Q' hq => ?_, fun i j hi hj C hC => ?_⟩
 ·rw [len] at h2
  have t2' : Paired (fun a xs => IsTup h' a (List.toArray xs)) as xss := Paired.mapP t2 fun a xs h => h.keeps kp
  obtain ⟨a0, u0, _, e0, _⟩ := paired_at (i := 0) hT (by omega)
  have m0 : u0 ∈ us := List.mem_of_getElem? e0
  have n0 := (okTs.two hok m0 m0).2
  obtain ⟨k, hk, _⟩ := headK_of (okTs.two hok m0 m0).1 n0
  obtain ⟨fs, g1, g2, g3⟩ := kat_of (k := k) t1 t2' fun u hu => by
   obtain ⟨k', a1, a2⟩ := headK_of (okTs.two hok m0 hu).1 n0
   rw [hk] at a1; cases a1; exact a2
  exact kat_kind (s := { s with heap := h', toks := tk }) (T := if k = true then .type "int" else .type "str") g1 (by omega) (fun v hv => kind_looks (g3 v hv)) (by cases k <;> rfl) (by cases k <;> exact hq)
 ·rw [len] at hi hj
  have t2' : Paired (fun a xs => IsTup h' a (List.toArray xs)) as xss := Paired.mapP t2 fun a xs h => h.keeps kp
  obtain ⟨ai, ui, p1, p2, _⟩ := paired_at hT hi
  obtain ⟨aj, uj, p3, p4, _⟩ := paired_at hT hj
  obtain ⟨ai', xi, p5, p6, ti⟩ := paired_at t2' hi
  obtain ⟨aj', xj, p7, p8, tj⟩ := paired_at t2' hj
  rw [p1] at p5; cases p5
  rw [p3] at p7; cases p7
  have lu : us.length = as.length := hT.length.symm
  obtain ⟨ui', xi', p9, p10, vi⟩ := paired_at (i := i) t1 (by rw [lu]; exact hi)
  obtain ⟨uj', xj', p11, p12, vj⟩ := paired_at (i := j) t1 (by rw [lu]; exact hj)
  rw [p2] at p9; cases p9
  rw [p4] at p11; cases p11
  rw [p6] at p10; cases p10
  rw [p8] at p12; cases p12
  obtain ⟨oi, q1, q2, ni, q3⟩ := ti
  obtain ⟨oj, q4, q5, nj, q6⟩ := tj
  have sk := (okTs.two hok (List.mem_of_getElem? p2) (List.mem_of_getElem? p4)).1
  unfold kas_ask
  have ei : (as.map Value.ref).getD i Value.none = .ref ai := by rw [List.getD_eq_getElem?_getD, List.getElem?_map, p1]; rfl
  have ej : (as.map Value.ref).getD j Value.none = .ref aj := by rw [List.getD_eq_getElem?_getD, List.getElem?_map, p3]; rfl
  rw [ei, ej]
  have hlen : xi.length = xj.length := by
   have l1 := vi.length
   have l2 := vj.length
   have : ∀ {a b : List V}, sameKs a b = true -> a.length = b.length := by
    intro a
    induction a with
    | nil => intro b h; cases b with
     | nil => rfl
     | cons => cases h
    | cons x r ih => intro b h; cases b with
     | nil => cases h
     | cons y t => rw [sameKs, Bool.and_eq_true] at h; simp [ih h.2]
   have := this sk
   omega
  have hf : decide ((List.toArray xi).size < (List.toArray xj).size) = false := by
   rw [List.size_toArray, List.size_toArray, hlen]; simp
  refine kat_lt (s := { s with heap := h', toks := tk }) q1 q3 q4 q6 ?_
  rw [hf]
  refine lex_ok 0 vi vj sk ?_
  have e1 : ltT us i j = lexV ui uj := by
   unfold ltT
   rw [List.getD_eq_getElem?_getD, List.getD_eq_getElem?_getD, p2, p4]; rfl
  rw [← e1]
  exact hC
def rListD : List V -> Hp -> VK -> Prop := fun xs H Q => ∃ a, xs = [.ref a] /\ ((∃ kvs, H a = some (.dK kvs) /\ ∀ l, H l = none -> Q (.ref l) (upd H l (.lst (kvs.map fun p => kV p.1)))) ∨
 ∃ kvs, H a = some (.dT kvs) /\ ∀ bs, Paired (fun b (p : List Key × V) => H b = some (.tup (p.1.map kV))) bs kvs -> ∀ l, H l = none -> Q (.ref l) (upd H l (.lst (bs.map V.ref))))
theorem vals_of_refs : ∀ bs : List Addr, Vals (bs.map V.ref) (bs.map Value.ref)
 | [] => .nil
 | _ :: r => .cons rfl (vals_of_refs r)
theorem call_listD {X : Cx} (hc : X.calm = true) : CallR X (.type "list") rListD := by
 intro pins s σ H xs us Q I r h
 obtain ⟨a, rfl, h⟩ := h
 obtain ⟨u, rfl, rx⟩ := vals1 r
 cases rx
 have go : ∀ (es : Array DictEntry) (ep : Nat) (vs : List V), (a == sysModules) = false -> RawD s.heap a es ep -> vs.length <= sizeLine -> es.size = vs.length -> Vals vs (es.toList.map (·.key)) -> (∀ l, H l = none -> Q (.ref l) (upd H l (.lst vs))) -> wpAny (model X.prog X.w) X.A (call (.type "list") [.ref a]) (EP X pins σ Q) X.xe s := by
  intro es ep vs lo hr hz hl hv q
  refine kdl_call (raw_src (prog := X.prog) (w := X.w) (es := es) (ep := ep) lo) (I.ok.hd hc) hr (by omega) fun h' tk acc' c' k hL hi => ?_
  have e : acc'.toList = es.toList.map (·.key) := items_are_list (by simpa using hi)
  have hfr : H s.heap.objs.size = none := I.hok.fresh (Nat.le_refl _)
  exact ⟨.ref s.heap.objs.size, _, I.laid (t' := tk) k (Nat.le_refl _) (show ObjOk X.prog X.w _ _ _ (.lst vs) from ⟨hz, acc'.toList, c', by rw [e]; exact hv, by simpa using hL⟩), rfl, q _ hfr⟩
 rcases h with ⟨kvs, e, q⟩ | ⟨kvs, e, q⟩
 ·obtain ⟨lo, es, ep, h1, h2, h3⟩ := dK_raw I e
  have hz := (dk_of I.hok e).1
  exact go es ep _ lo h1 (by rw [List.length_map]; exact hz) (by rw [h2, List.length_map]) h3 q
 ·obtain ⟨lo, es, ep, bs, h1, h2, h3, h4⟩ := dT_raw I e
  have hz := (dt_of I.hok e).1
  have hb := Paired.length h4
  exact go es ep _ lo h1 (by rw [List.length_map, hb]; exact hz) (by rw [h2, List.length_map, hb]) (by rw [h3]; exact vals_of_refs bs) (q bs h4)
def rSortD : List V -> Hp -> VK -> Prop := fun xs H Q => ∃ a kvs, xs = [.ref a] /\ H a = some (.dT kvs) /\ okTs (kvs.map fun p => p.1.map kV) = true /\ kvs.length < 64 /\ ∀ bs, Paired (fun b (p : List Key × V) => H b = some (.tup (p.1.map kV))) bs kvs -> ∀ l, H l = none -> Q (.ref l) (upd H l (.lst (outV (ltT (kvs.map fun p => p.1.map kV)) (bs.map V.ref))))
theorem call_sortD {X : Cx} (hc : X.calm = true) : CallR X (.builtin "sorted") rSortD := by
 intro pins s σ H xs us Q I r h
 obtain ⟨a, kvs, rfl, e, hok, h64, q⟩ := h
 obtain ⟨u, rfl, rx⟩ := vals1 r
 cases rx
 obtain ⟨lo, es, ep, bs, h1, h2, h3, h4⟩ := dT_raw I e
 have hb := Paired.length h4
 have hT : Paired (SqT X.K H) bs (kvs.map fun p => p.1.map kV) := by
  clear h3 h64 q hok e hb h2
  induction h4 with
  | nil => exact .nil
  | cons h _ ih => exact .cons (SqT.of h) ih
 have rv := vals_of_refs bs
 refine srt_src (κ := tuples' true) (lt := ltT (kvs.map fun p => p.1.map kV)) (vs := bs.map Value.ref) (raw_src (prog := X.prog) (w := X.w) (es := es) (ep := ep) lo) (I.ok.hd hc) h1 (by omega) (fun ws hi => by rw [items_are_list hi, h3]) (by rw [List.length_map, hb]; exact h64) (fun h' tk k => asks_T I hT hok k) fun h' tk L e' k hL he => ?_
 have ol : (outV (ltT (kvs.map fun p => p.1.map kV)) (bs.map V.ref)).length = kvs.length := by
  rw [(vals_out (lt := ltT (kvs.map fun p => p.1.map kV)) rv).length, outK_len, List.length_map, hb]
 exact ⟨.ref L, _, I.laid (t' := tk) k hL (show ObjOk X.prog X.w _ _ _ (.lst (outV (ltT (kvs.map fun p => p.1.map kV)) (bs.map V.ref))) from ⟨by rw [ol, sizeLine_eq]; omega, _, e', vals_out rv, he⟩), rfl, q bs h4 _ (I.hok.fresh hL)⟩
end
end L2
namespace DL
open PySem PySem.Spec PyProof.Rows L2
section
variable {X : Cx} {K : W.Frag} {E : XK}
theorem flat_keyV (k : Key) : flat (keyV k) = true := by cases k <;> rfl
theorem flats_keyV : ∀ ks : List Key, flats (ks.map keyV) = true
 | [] => rfl
 | k :: r => by simp [flats, flat_keyV, flats_keyV r]
theorem flat_tupK (ks : List Key) : flat (tupK ks) = true := by
 unfold tupK
 show flats (ks.map keyV) = true
 exact flats_keyV ks
theorem dn_kV {H : Hp} (k : Key) : Dn K H (kV k) (keyV k) := by
 cases k with
 | inl i => exact .int i
 | inr x => exact .str x
theorem dns_kV {H : Hp} : ∀ ks : List Key, Dns K H (ks.map kV) (ks.map keyV)
 | [] => .nil
 | k :: r => .cons (dn_kV k) (dns_kV r)
def keysT (es : List (List Key × D)) : List D := es.map fun p => tupK p.1
theorem flats_keysT (es : List (List Key × D)) : flats (keysT es) = true := flats_iff.mpr fun d hd => by
 obtain ⟨p, _, rfl⟩ := List.mem_map.mp hd
 exact flat_tupK _
theorem dns_keysT {H : Hp} {bs : List Addr} {kvs : List (List Key × V)} {es : List (List Key × D)} (h : Paired (fun b (p : List Key × V) => H b = some (.tup (p.1.map kV))) bs kvs) (v : VPs kvs es) : Dns K H (bs.map V.ref) (keysT es) := by
 induction v generalizing bs with
 | nil => cases h; exact .nil
 | @cons k x d r t e _ ih =>
  cases h with
  | cons g1 g2 => exact .cons (.tup (SqT.of g1) (dns_kV k)) (ih g2)
def fListDT : FA := fun ds _ Q => ∃ es, ds = [dTD es] /\ Q (.list (keysT es)) (.own [])
theorem dcl_listDT (hc : X.calm = true) : DCl X K (.type "list") fListDT := ⟨_, call_listD hc, fun Z ν Hs H xs ds k Qf Q hl hn hs h g q => by
 obtain ⟨es, rfl, g⟩ := g
 obtain ⟨v, rfl, h1⟩ := dns1 h.dens
 obtain ⟨a, kvs, rfl, e, p⟩ := dn_dT h1
 refine ⟨a, rfl, .inr ⟨kvs, e, fun bs hb l hp => q _ _ _ _ g (Same.new hp) (res_newL (k := .own []) hl hs hp ?_)⟩⟩
 exact ⟨[], ows_flat (dns_keysT hb p) (flats_keysT es), List.nodup_nil, fun _ z => by cases z⟩⟩
theorem keys_map {es : List (List Key × D)} {kvs : List (List Key × V)} (v : VPs kvs es) : (kvs.map fun p => p.1.map kV) = es.map fun p => p.1.map kV := by
 induction v with
 | nil => rfl
 | cons _ _ ih => rw [List.map_cons, List.map_cons, ih]
def fSortDT : FA := fun ds _ Q => ∃ es, ds = [dTD es] /\ okTs (es.map fun p => p.1.map kV) = true /\ es.length < 64 /\ Q (.list (outD (ltT (es.map fun p => p.1.map kV)) (keysT es))) (.own [])
theorem dcl_sortDT (hc : X.calm = true) : DCl X K (.builtin "sorted") fSortDT := ⟨_, call_sortD hc, fun Z ν Hs H xs ds k Qf Q hl hn hs h g q => by
 obtain ⟨es, rfl, g1, g2, g⟩ := g
 obtain ⟨v, rfl, h1⟩ := dns1 h.dens
 obtain ⟨a, kvs, rfl, e, p⟩ := dn_dT h1
 have em := keys_map p
 refine ⟨a, kvs, rfl, e, by rw [em]; exact g1, by rw [p.length]; exact g2, fun bs hb l hp => q _ _ _ _ g (Same.new hp) (res_newL (k := .own []) hl hs hp ?_)⟩
 rw [em]
 exact ⟨[], ows_flat (dns_out (dns_keysT hb p)) (flats_iff.mpr fun d hd => flats_iff.mp (flats_keysT es) d (outD_mem hd)), List.nodup_nil, fun _ z => by cases z⟩⟩
end
end DL
namespace L2
open PySem PySem.Spec PyProof.Rows PySem.W PySem.Calls
section
variable {prog : Program} {w : World} {A : Around} {E : Value -> Shared -> Prop} {s : Shared} {d : Addr} {es : Array DictEntry} {ep : Nat}
theorem raw_meets_len (hd : (d == sysModules) = false) : MeetsIn prog w (Builtin.«dict.__len__» ⟨[.ref d], []⟩) (fun _ R s => RawD s.heap d es ep /\ R (.ok (.ret (.int es.size s.toks))) { s with toks := s.toks + 1 }) :=
 .of_wp fun A R s ⟨hm, h⟩ => by
  obtain ⟨o, ho, hc, hdat⟩ := hm
  show wpAny _ _ (dictSize d >>= _) _ _ s
  unfold dictSize
  refine wpAny_bind (wpAny_bind (wpAny_dictEntries ho hdat (wpAny_pure ?_)))
  show wpAny _ _ (Builtin.Dict.pendingCount d >>= _) _ _ s
  refine wpAny_bind (wpAny_pendingCount_other hd ?_)
  refine wpAny_ret_mkInt ?_
  rw [Nat.add_zero]; exact h
theorem raw_len {Q : Value -> Shared -> Prop} (hd : (d == sysModules) = false) (hm : RawD s.heap d es ep) (hfit : (es.size : Int) < 2 ^ 63)
  (h : Q (.int es.size (s.toks + 1)) { s with toks := s.toks + 1 + 1 }) : wpAny (model prog w) A (call (.builtin "len") [.ref d]) Q E s := by
 refine Calls.call_function_entry kind_len plain_len entry_len (args_len1 _) ?_
 unfold Builtin.«len»
 refine wpAny_bind (m := oneArg "len" _) (wpAny_pure ?_)
 refine wpAny_bind (m := callSpecial? (.ref d) (Str.ofString "__len__")) (wpAny_callSpecial?_slot (name := Str.ofString "__len__") hm.ty F.slot_dict_len
  (call_meetsIn F.slot_dict_len hm.ty F.entry_dict_len (F.args_dict_len_1 _) (raw_meets_len (es := es) (ep := ep) hd) ⟨hm, ?_⟩))
 show wpAny _ _ _ _ _ { s with toks := s.toks + 1 }
 refine wpAny_bind (wpAny_holding (wpAny_pure ?_))
 refine wpAny_bind (wpAny_letGo ?_)
 show wpAny _ _ (if ((es.size : Nat) : Int) < 0 then _ else _) _ _ _
 rw [if_neg (by omega)]
 show wpAny _ _ (if ((es.size : Nat) : Int) ≥ 2 ^ 63 then _ else _) _ _ _
 rw [if_neg (by omega)]
 exact wpAny_bind (wpAny_mkInt (wpAny_pure ⟨_, rfl, h⟩))
end
def rLenD2 : List V -> Hp -> VK -> Prop := fun xs H Q => ∃ a, xs = [.ref a] /\ ((∃ kvs, H a = some (.dK kvs) /\ Q (.int kvs.length) H) ∨ ∃ kvs, H a = some (.dT kvs) /\ Q (.int kvs.length) H)
theorem call_lenD2 {X : Cx} : CallR X (.builtin "len") rLenD2 := by
 intro pins s σ H xs us Q I r h
 obtain ⟨a, rfl, h⟩ := h
 obtain ⟨u, rfl, rx⟩ := vals1 r
 cases rx
 rcases h with ⟨kvs, e, q⟩ | ⟨kvs, e, q⟩
 ·obtain ⟨lo, es, ep, h1, h2, _⟩ := dK_raw I e
  have hz := (dk_of I.hok e).1
  refine raw_len lo h1 (by rw [h2]; rw [sizeLine_eq] at hz; omega) ?_
  exact ⟨.int kvs.length, H, I.tok _, ⟨_, by rw [h2]⟩, q⟩
 ·obtain ⟨lo, es, ep, bs, h1, h2, _⟩ := dT_raw I e
  have hz := (dt_of I.hok e).1
  refine raw_len lo h1 (by rw [h2]; rw [sizeLine_eq] at hz; omega) ?_
  exact ⟨.int kvs.length, H, I.tok _, ⟨_, by rw [h2]⟩, q⟩
end L2
namespace DL
open PySem PySem.Spec PyProof.Rows L2
section
variable {X : Cx} {K : W.Frag} {E : XK}
def fLenD : FA := fun ds _ Q => (∃ es, ds = [dTD es] /\ Q (.int es.length) .old) ∨ ∃ es, ds = [dKD es] /\ Q (.int es.length) .old
theorem dcl_lenD : DCl X K (.builtin "len") fLenD := ⟨_, call_lenD2, fun Z ν Hs H xs ds k Qf Q hl hn hs h g q => by
 rcases g with ⟨es, rfl, g⟩ | ⟨es, rfl, g⟩
 ·obtain ⟨v, rfl, h1⟩ := dns1 h.dens
  obtain ⟨a, kvs, rfl, e, p⟩ := dn_dT h1
  exact ⟨a, rfl, .inr ⟨kvs, e, by rw [p.length]; exact q _ _ _ _ g (Same.refl H) (.int _)⟩⟩
 ·obtain ⟨v, rfl, h1⟩ := dns1 h.dens
  obtain ⟨a, kvs, rfl, e, p⟩ := dn_dK h1
  exact ⟨a, rfl, .inl ⟨kvs, e, by rw [p.length]; exact q _ _ _ _ g (Same.refl H) (.int _)⟩⟩⟩
variable {ρ : Ren} {Q : QD} {Xd : XD} {k : Kd} {te td : TD} {tk : TKy} {t : TDA} {es : List (List Key × D)} {eK : List (Key × D)} {i : Nat} {Dd : EndsD}
theorem w_lenDT (h : Q (.int es.length) .old) : fLenD [dTD es] k Q := .inl ⟨es, rfl, h⟩
theorem w_lenDK (h : Q (.int eK.length) .old) : fLenD [dKD eK] k Q := .inr ⟨eK, rfl, h⟩
theorem w_listDT (h : Q (.list (keysT es)) (.own [])) : fListDT [dTD es] k Q := ⟨es, rfl, h⟩
theorem w_sortDT (h : okTs (es.map fun p => p.1.map kV) = true /\ es.length < 64 /\ Q (.list (outD (ltT (es.map fun p => p.1.map kV)) (keysT es))) (.own [])) : fSortDT [dTD es] k Q := ⟨es, rfl, h⟩
theorem w_newT (h : Q (dTD []) (.own [])) : dDNew true ρ Q Xd := h
theorem w_newK (h : Q (dKD []) (.own [])) : dDNew false ρ Q Xd := h
def onKS (Q : KeyR -> Prop) : QD := fun d _ => ∃ k, d = keyV k /\ Q (.inl k)
theorem w_kyS {Q : KeyR -> Prop} (h : te ρ (onKS Q) Xd) : kyS te ρ Q Xd := h
theorem w_onKi {Q : KeyR -> Prop} {i : Int} (h : Q (.inl (.inl i))) : onKS Q (.int i) k := ⟨.inl i, rfl, h⟩
def keyO : D -> Option Key
 | .int i => some (.inl i)
 | .str x => some (.inr x)
 | _ => Option.none
def keysO : List D -> Option (List Key)
 | [] => some []
 | d :: r => match keyO d, keysO r with
  | some k, some ks => some (k :: ks)
  | _, _ => Option.none
theorem keyO_eq {d : D} {k : Key} (h : keyO d = some k) : d = keyV k := by
 cases d <;> simp [keyO] at h <;> subst h <;> rfl
theorem keysO_eq : ∀ {ds : List D} {ks : List Key}, keysO ds = some ks -> ds = ks.map keyV
 | [], _, h => by cases h; rfl
 | d :: r, ks, h => by
  unfold keysO at h
  cases e1 : keyO d with
  | none => rw [e1] at h; cases h
  | some k =>
   cases e2 : keysO r with
   | none => rw [e1, e2] at h; cases h
   | some l =>
    rw [e1, e2] at h
    cases h
    rw [keyO_eq e1, keysO_eq e2]; rfl
def onKT (Q : KeyR -> Prop) : List D -> Kd -> Prop := fun ds _ => ds.length <= 1000 /\ ∃ ks, ds = ks.map keyV /\ Q (.inr ks)
theorem w_kyT {Q : KeyR -> Prop} (h : t ρ (onKT Q) Xd) : kyT t ρ Q Xd := h
theorem w_onKT {Q : KeyR -> Prop} {ds : List D} {ks : List Key} (e : keysO ds = some ks) (hl : ds.length <= 1000) (h : Q (.inr ks)) : onKT Q ds k := ⟨hl, ks, keysO_eq e, h⟩
theorem w_onK3 {Q : KeyR -> Prop} {a c : Int} {b : Str} (h : Q (.inr [.inl a, .inr b, .inl c])) : onKT Q [.int a, .str b, .int c] k := w_onKT rfl (Nat.le_of_ble_eq_true rfl) h
theorem w_onK2 {Q : KeyR -> Prop} {a : Int} {b : Str} (h : Q (.inr [.inl a, .inr b])) : onKT Q [.int a, .str b] k := w_onKT rfl (Nat.le_of_ble_eq_true rfl) h
def onIn (f : Bool -> Bool) (td : TD) (ρ : Ren) (Q : QD) (Xd : XD) : KeyR -> Prop := fun k => td ρ (fun d _ => DHas d k fun b => Q (.bool (f b)) .old) Xd
theorem w_dIn {f : Bool -> Bool} (h : tk ρ (onIn f td ρ Q Xd) Xd) : dDIn f tk td ρ Q Xd := h
theorem w_onIn {f : Bool -> Bool} {kr : KeyR} (h : td ρ (fun d _ => DHas d kr fun b => Q (.bool (f b)) .old) Xd) : onIn f td ρ Q Xd kr := h
theorem w_hasT {ks : List Key} {C : Bool -> Prop} (h : C (look es ks).isSome) : DHas (dTD es) (.inr ks) C := .inr ⟨es, ks, rfl, rfl, h⟩
theorem w_hasK {kk : Key} {C : Bool -> Prop} (h : C (look eK kk).isSome) : DHas (dKD eK) (.inl kk) C := .inl ⟨eK, kk, rfl, rfl, h⟩
def onPut (i : Nat) (tk : TKy) (Dd : EndsD) (ρ : Ren) (Xd : XD) : QD := fun d _ => (valD d).isSome = true /\ ∃ x, ρ[i]? = some (some (true, x)) /\ tk ρ (fun k => DPutD x k d fun y => Dd.nx (ρ.set i (some (true, y)))) Xd
theorem w_dPut (h : te ρ (onPut i tk Dd ρ Xd) Xd) : dDPut i tk te Dd ρ Xd := h
theorem w_onPut {d x : D} {k : Kd} (h1 : (valD d).isSome = true) (h2 : ρ[i]? = some (some (true, x))) (h : tk ρ (fun k => DPutD x k d fun y => Dd.nx (ρ.set i (some (true, y)))) Xd) : onPut i tk Dd ρ Xd d k := ⟨h1, x, h2, h⟩
theorem w_putT {d : D} {ks : List Key} {C : D -> Prop} (h : es.length < 1000000 /\ C (dTD (putD es ks d))) : DPutD (dTD es) (.inr ks) d C := .inr ⟨es, ks, rfl, rfl, h⟩
theorem w_putDK {d : D} {kk : Key} {C : D -> Prop} (h : eK.length < 1000000 /\ C (dKD (putD eK kk d))) : DPutD (dKD eK) (.inl kk) d C := .inl ⟨eK, kk, rfl, rfl, h⟩
section
variable {pos : Pos} {i o : Expr}
theorem dpt_din (hu : X.A.units + 1 < cLine) (hi : DKy X K E i tk) (ho : DE X K E o td) (hm : behindInMarks .In o = false) : DT X K E (.Compare i [.In] [o] pos) (dB (dDIn id tk td)) :=
 ⟨qt_imp (qpt_din hu hi.q ho.q hm) fun σ H Q h => le_din (i := i) (o := o) id tDIn (fun _ _ _ _ _ h => h) σ H _ (le_b h)⟩
theorem dpt_dnotin (hu : X.A.units + 1 < cLine) (hi : DKy X K E i tk) (ho : DE X K E o td) (hm : behindInMarks .NotIn o = false) : DT X K E (.Compare i [.NotIn] [o] pos) (dB (dDIn not tk td)) :=
 ⟨qt_imp (qpt_dnotin hu hi.q ho.q hm) fun σ H Q h => le_din (i := i) (o := o) not tDNotIn (fun _ _ _ _ _ h => h) σ H _ (le_b h)⟩
end
end
end DL
namespace DL
open PySem PySem.Spec PyProof.Rows L2
section
variable {ρ : Ren} {i : Nat} {s : List Nat} {es : List (List Key × D)} {eK : List (Key × D)} {k : Kd}
theorem flat_dT : flat (dTD es) = false := rfl
theorem flat_dK : flat (dKD eK) = false := rfl
theorem setK_ownT : setK ρ i (dTD es) (.own s) = (dropS ρ s).set i (some (true, dTD es)) := rfl
theorem setK_oldT : setK ρ i (dTD es) .old = ρ.set i (some (false, dTD es)) := rfl
theorem setK_mixT : setK ρ i (dTD es) .mix = (frz ρ).set i (some (false, dTD es)) := rfl
theorem setK_ownK : setK ρ i (dKD eK) (.own s) = (dropS ρ s).set i (some (true, dKD eK)) := rfl
theorem setK_oldK : setK ρ i (dKD eK) .old = ρ.set i (some (false, dKD eK)) := rfl
theorem setK_mixK : setK ρ i (dKD eK) .mix = (frz ρ).set i (some (false, dKD eK)) := rfl
end
end DL
namespace DL
open PySem PySem.Spec PyProof.Rows L2
structure GInt (mg : Str -> Option Value) (x : Str) (i : Int) : Prop where
 ex : ∃ t, mg x = some (.int i t)
structure GTup (K : W.Frag) (mg : Str -> Option Value) (x : Str) (ds : List D) : Prop where
 ex : ∃ a, mg x = some (.ref a) /\ ∀ H, Dn K H (.ref a) (.tuple ds)
section
variable {X : Cx} {K : W.Frag} {E : XK} {pos : Pos} {x : Str}
end
end DL
namespace L2
open PySem PySem.Spec PyProof.Rows
section
variable {X : Cx}
end
end L2
namespace DL
open PySem PySem.Spec PyProof.Rows L2
section
variable {X : Cx} {K : W.Frag} {E : XK} {pos p px apos cpos : Pos} {x : Str}
theorem kels2_flat {ds es : List D} {k l : Kd} (h : (flats ds && flats es) = true) : kels2 ds k es l = .own [] := by unfold kels2; rw [if_pos h]
end
section
variable {K : W.Frag} {H0 H H' : Hp} {ν : Nat -> List Addr} {ρ : Ren} {σ : L2.St} {u : V} {d : D} {q : Nat}
def lk (q : Nat) (d : D) (ρ : Ren) : Ren := (frz ρ).set q (some (false, d))
theorem StOk.look (S : StOk K Z0 H0 ν ρ σ H) (hq : σ[q]? = some (some u)) (hd : Dn K H u d) : StOk K Z0 H0 (fun _ => []) (lk q d ρ) σ H := by
 have A := S.frz.setOld q (v := u) (d := d) (Dn.same hid_z0 hd)
 have e : σ.set q (some u) = σ := by
  refine List.ext_getElem? fun j => ?_
  by_cases z : q = j
  ·subst z; rw [List.getElem?_set_self (len_of hq), hq]
  ·rw [List.getElem?_set_ne z]
 rw [e] at A
 exact A
def Al (i q j : Nat) (σ : L2.St) (H : Hp) : Prop := ∃ a us u, σ[i]? = some (some (.ref a)) /\ H a = some (.lst us) /\ us[j]? = some u /\ σ[q]? = some (some u)
end
section
variable {X : Cx} {K : W.Frag} {E : XK} {t0 t1 te2 te3 : TD} {tc1 tc2 : TDT}
end
end DL
namespace L2
open PySem PySem.Spec PyProof.Rows
section
variable {P : Program} {w : World} {A : Around} {R : Result -> Shared -> Prop} {it bx : Addr} {fp wr : List Addr} {n : Nat} {V0 : Nat -> Value -> Prop} {St : Nat -> Heap -> Prop} {bt : Nat -> Nat -> Bool} {dv : Value}
end
section
variable {X : Cx}
end
end L2
namespace L2
open PySem PySem.Spec PyProof.Rows HT
section
variable {prog : Program} {w : World} {A : Around} {E : Value -> Shared -> Prop} {s : Shared}
end
section
variable {X : Cx}
end
end L2
namespace DL
open PySem PySem.Spec PyProof.Rows L2
section
variable {X : Cx} {K : W.Frag} {E : XK} {pos : Pos}
end
end DL
namespace L2
open PySem PySem.Spec PyProof.Rows
section
variable {X : Cx}
end
end L2
namespace DL
open PySem PySem.Spec PyProof.Rows L2
structure GStr (mg : Str -> Option Value) (x : Str) (z : Str) : Prop where
 ex : ∃ t, mg x = some (.str z t)
section
variable {X : Cx} {K : W.Frag} {E : XK} {pos apos cpos : Pos} {x : Str} {o e : Expr} {to te : TD}
structure DMm (X : Cx) (K : W.Frag) (id : String) (g : Str -> D -> QD -> Prop) : Prop where
 ex : ∃ r, MtR X id r /\ ∀ (ν : Nat -> List Addr) (Hs H : Hp) (z : Str) (v : V) (d : D) (Qf : QD) (Q : VK), (∀ a, Hd Z0 ν a -> Mu H a) -> Same Hs H -> Dn K H v d -> g z d Qf -> (∀ d k v H', Qf d k -> Same H H' -> Res K Z0 ν Hs H' k v d -> Q v H') -> r (.str z) [v] H Q
variable {ρ : Ren} {Q : QD} {Xd : XD} {k l : Kd} {z y : Str} {i j : Int} {ds : List D} {Dd : EndsD} {n : Nat}
end
end DL
namespace L2
open PySem PySem.Spec PyProof.Rows HT
section
variable {P : Program} {w : World} {A : Around} {E : Value -> Shared -> Prop}
end
section
variable {X : Cx}
end
end L2
namespace DL
open PySem PySem.Spec PyProof.Rows L2
section
variable {X : Cx} {K : W.Frag} {E : XK}
end
end DL
namespace L2
open PySem PySem.Spec PyProof.Rows
theorem rel_one {v v' : V} {u : Value} (h : RelV v u) (h' : RelV v' u) : v = v' := by
 cases v <;> cases v' <;> simp only [RelV] at h h' <;> first
  | (subst h; cases h'; rfl)
  | (subst h; cases h'; done)
  | (obtain ⟨t, rfl⟩ := h; obtain ⟨t', e⟩ := h'; cases e; rfl)
  | (obtain ⟨t, rfl⟩ := h; obtain ⟨t', e⟩ := h'; cases e; done)
  | (obtain ⟨t, rfl⟩ := h; cases h'; done)
  | (subst h; obtain ⟨t, e⟩ := h'; cases e; done)
  | rfl
section
variable {X : Cx} {pins : List (Addr × Obj)} {σ : St} {H : Hp} {s : Shared}
theorem no_both (I : Inv X pins σ H s) {a : Addr} {us ws : List V} (h : SqL X.K H a us) (h' : SqT X.K H a ws) : False := by
 obtain ⟨its, _, pl, _⟩ := I.list h
 obtain ⟨its', _, t, _⟩ := I.tuple h'
 obtain ⟨o, e1, c1, _⟩ := pl.isList
 obtain ⟨o', e2, c2, _⟩ := t
 rw [e1] at e2
 cases e2
 rw [c1] at c2
 exact absurd (Value.type.inj c2) (by decide)
mutual
theorem Den.one (I : Inv X pins σ H s) : ∀ {v d d'}, Den X.K H v d -> Den X.K H v d' -> d = d'
 | _, _, _, .non, q => by cases q; rfl
 | _, _, _, .bl _, q => by cases q; rfl
 | _, _, _, .int _, q => by cases q; rfl
 | _, _, _, .str _, q => by cases q; rfl
 | _, _, _, .lst h r, q => by
  cases q with
  | lst h' r' =>
   have e := I.list_inj h h'
   subst e
   rw [Dens.one I r r']
  | tup h' _ => exact (no_both I h h').elim
 | _, _, _, .tup h r, q => by
  cases q with
  | lst h' _ => exact (no_both I h' h).elim
  | tup h' r' =>
   have e := I.tuple_inj h h'
   subst e
   rw [Dens.one I r r']
theorem Dens.one (I : Inv X pins σ H s) : ∀ {v d d'}, Dens X.K H v d -> Dens X.K H v d' -> d = d'
 | _, _, _, .nil, q => by cases q; rfl
 | _, _, _, .cons h r, q => by
  cases q with
  | cons h' r' => rw [Den.one I h h', Dens.one I r r']
end
def rInD (K : W.Frag) (neg : Bool) : R2 := fun x y H Q => ∃ a dx vs ds, y = .ref a /\ Den K H x dx /\ SqL K H a vs /\ Dens K H vs ds /\ dx.canLay0 = true /\ dx.depth <= 32 /\ PyData.canLayAll0 ds = true /\ Q (.bl (xor neg (ds.any fun d => PyData.eqv d dx))) H
open Classical in
noncomputable def eIn (K : W.Frag) (H : Hp) (dx : PyData) (y : Value) : Bool := decide (∃ v d, RelV v y /\ Den K H v d /\ PyData.eqv d dx = true)
open Classical in
theorem eIn_eq (I : Inv X pins σ H s) {dx d : PyData} {v : V} {y : Value} (r : RelV v y) (h : Den X.K H v d) : eIn X.K H dx y = PyData.eqv d dx := by
 unfold eIn
 cases e : PyData.eqv d dx with
 | true => exact decide_eq_true ⟨v, d, r, h, e⟩
 | false =>
  refine decide_eq_false fun ⟨v', d', r', h', e'⟩ => ?_
  have := rel_one r r'
  subst this
  rw [← Den.one I h h', e] at e'
  cases e'
theorem any_eIn (I : Inv X pins σ H s) {dx : PyData} : ∀ {vs : List V} {ds : List PyData} {its : List Value}, Vals vs its -> Dens X.K H vs ds -> its.any (eIn X.K H dx) = ds.any fun d => PyData.eqv d dx
 | _, _, _, .nil, .nil => rfl
 | _, _, _, .cons r t, .cons h u => by rw [List.any_cons, List.any_cons, eIn_eq I r h, any_eIn I t u]
theorem mem_eIn (I : Inv X pins σ H s) {dx : PyData} {x : Value} {xs : List Addr} {A : Around} (hx : Reads s.heap x dx xs) (cx : dx.canLay0 = true) (hd : dx.depth <= 32) (hu : A.units + 32 < cLine) : ∀ {vs : List V} {ds : List PyData} {its : List Value}, Vals vs its -> Dens X.K H vs ds -> PyData.canLayAll0 ds = true -> ∀ y ∈ its, SeqAt.EqAt A s y x (eIn X.K H dx y)
 | _, _, _, .nil, .nil, _, y, hy => by cases hy
 | _, _, _, .cons r t, .cons h u, c, y, hy => by
  simp only [PyData.canLayAll0, Bool.and_eq_true] at c
  rcases List.mem_cons.mp hy with rfl | hy
  ·rw [eIn_eq I r h]
   obtain ⟨as, ra⟩ := h.reads I r
   exact SeqAt.eqAt_reads _ _ A s _ _ _ _ ra hx c.1 cx (by omega)
  ·exact mem_eIn I hx cx hd hu t u c.2 y hy
theorem op_inD (hu : X.A.units + 64 < cLine) : OpR X (compareOp .In) (rInD X.K false) := by
 intro pins s σ H x y v u Q I rx ry h
 obtain ⟨a, dx, vs, ds, rfl, h1, h2, h3, h4, h5, h6, q⟩ := h
 cases ry
 obtain ⟨its, r, pl, hz⟩ := I.list h2
 obtain ⟨xs, hx⟩ := h1.reads I rx
 refine SeqAt.in_listAt (eIn X.K H dx) pl.isList (fun w hw => mem_eIn I hx h4 h5 (by show X.A.units + 1 + 32 < _; omega) r h3 h6 w (by simpa using hw)) ⟨.bl _, H, I, rfl, ?_⟩
 rw [show its.toArray.any (eIn X.K H dx) = its.any (eIn X.K H dx) by simp, any_eIn I r h3]
 rw [Bool.false_xor] at q
 exact q
end
end L2
namespace DL
open PySem PySem.Spec PyProof.Rows L2
section
variable {X : Cx} {K : W.Frag}
def fInDp (neg : Bool) : F2 := fun d _ e _ Q => match e with
 | .list es => (d.canLay0 = true /\ d.depth <= 32 /\ PyData.canLayAll0 es = true) /\ Q (.bool (xor neg (inD d es))) .old
 | _ => False
theorem prim_inD {neg : Bool} : Prim2 K (rInD K neg) (fInDp neg) := fun Z ν Hs H x y d k e l Qf Q _ _ _ h3 h4 h5 h6 => by
 unfold fInDp at h5
 split at h5
 ·obtain ⟨⟨c1, c2, c3⟩, h5⟩ := h5
  obtain ⟨a, us, rfl, g1, g2⟩ := dns_of_lst h4.den
  exact ⟨a, d, us, _, rfl, h3.den.deep c1, SqL.of g1, g2.deep c3, c1, c2, c3, h6 _ _ _ _ h5 (Same.refl H) (.bl _)⟩
 ·exact h5.elim
theorem dop_inD (hK : X.K = K) (hu : X.A.units + 64 < cLine) : DOp X K (compareOp .In) (fInDp false) := by subst hK; exact ⟨_, op_inD hu, prim_inD⟩
theorem w_inDp {neg : Bool} {d : D} {es : List D} {k l : Kd} {Q : QD} (h : (d.canLay0 = true /\ d.depth <= 32 /\ PyData.canLayAll0 es = true) /\ Q (.bool (xor neg (inD d es))) .old) : fInDp neg d k (.list es) l Q := h
end
end DL
namespace DL
open PySem PySem.Spec PyProof.Rows L2
section
variable {X : Cx} {K : W.Frag} {E : XK} {pos px apos cpos : Pos} {e1 e2 : Expr} {t1 t2 te : TD} {x : Str}
end
end DL
namespace DL
open PySem PySem.Spec PyProof.Rows L2
section
variable {X : Cx} {K : W.Frag} {E : XK} {pos : Pos} {x y : Str}
end
end DL
namespace L2
open PySem PySem.Spec PyProof.Rows PySem.W PySem.Calls
section
variable {prog : Program} {w : World} {A : Around} {R : Result -> Shared -> Prop} {s : Shared}
theorem dcLoop_any {ke ve target iter : Expr} {scope : Scope} {pos : Pos} {it : Value} {acc : Addr} {env : Env} (I : Nat -> Shared -> Prop)
  (turn : ∀ n s, I n s -> wpAny (model prog w) A (pyNext it) (fun r s₁ => match r with
   | none => R (.ok .next) s₁
   | some v => wpAny (model prog w) A (letOwnedTupleGo target it v) (fun _ s₁' => wpAny (model prog w) A (assign target env v) (fun _ s₂ =>
     wpAny (model prog w) A (eval ke env) (fun kv s₃ => wpAny (model prog w) A (eval ve env) (fun vv s₄ => wpAny (model prog w) A (dictSet acc kv vv) (fun _ s₅ => ∃ m, m < n /\ I m s₅) (fun _ _ => False) s₄) (fun _ _ => False) s₃) (fun _ _ => False) s₂) (fun _ _ => False) s₁') (fun _ _ => False) s₁) (fun _ _ => False) s)
  (n : Nat) (h : I n s) :
  codeAny (model prog w) A (.compLoop (.DictComp ke ve [⟨target, iter, [], 0⟩] scope pos) 0 it (.ref acc) env) R s := by
 refine codeAny_loop rfl I (fun n s hI => ?_) n h
 show wpAny _ A ((compTurn (.DictComp ke ve [⟨target, iter, [], 0⟩] scope pos) 0 it (.ref acc) env).onRaise (fun x => do noteFrame x env; theTreesLotGoes x)) _ _ s
 refine wpAny_noted (wpAny_noRaise ?_)
 unfold compTurn
 dsimp only [List.getElem?_cons_zero]
 refine wpAny_bind (wpAny_standAt (wpAny_bind (thn (turn n s hI) (fun r s₁ h₁ => ?_))))
 cases r with
 | none => exact wpAny_pure h₁
 | some v =>
  refine wpAny_bind (thn h₁ fun _ s₁' h₁ => wpAny_bind (thn h₁ fun _ s₂ h₂ => ?_))
  rw [List.forIn_nil]
  refine wpAny_bind (wpAny_pure ?_)
  rw [if_pos rfl]
  dsimp only [List.getElem?_cons_succ, List.getElem?_nil]
  refine wpAny_bind ?_
  refine wpAny_bind (thn h₂ fun kv s₃ h₃ => ?_)
  refine wpAny_bind (wpAny_holding (thn h₃ fun vv s₄ h₄ => ?_))
  refine wpAny_bind (wpAny_standAt ?_)
  exact wpAny_holding (thn h₄ fun _ s₅ h₅ => wpAny_pure ⟨rfl, h₅⟩)
theorem dcStart_any {ke ve target iter : Expr} {scope : Scope} {pos : Pos} {it acc : Value} {env : Env}
  (h0 : codeAny (model prog w) A (.compLoop (.DictComp ke ve [⟨target, iter, [], 0⟩] scope pos) 0 it acc env) R s)
  (h : wpAny (model prog w) A (pyIter it) (fun it' s' => codeAny (model prog w) A (.compLoop (.DictComp ke ve [⟨target, iter, [], 0⟩] scope pos) 0 it' acc env) R s') (fun _ _ => False) s) :
  codeAny (model prog w) A (.compStart (.DictComp ke ve [⟨target, iter, [], 0⟩] scope pos) 0 it acc env) R s := by
 refine codeAny_of_tree ?_
 show wpAny _ _ ((compStart (.DictComp ke ve [⟨target, iter, [], 0⟩] scope pos) 0 it acc env).onRaise (fun x => do noteFrame x env; standAt theWindowsPlace)) _ _ s
 refine wpAny_notedAt (wpAny_noRaise ?_)
 unfold compStart
 have hc : clausesOf (.DictComp ke ve [⟨target, iter, [], 0⟩] scope pos) = [⟨target, iter, [], 0⟩] := rfl
 rw [hc]
 show wpAny _ _ (ask >>= _) _ _ s
 refine wpAny_bind (wpAny_askSetting (wpAny_ite ?_))
 split
 ·first
   | exact wpAny_bind (wpAny_pure (wpAny_pure (And.intro rfl h0)))
   | exact wpAny_pure (And.intro rfl h0)
 ·first
   | exact wpAny_bind (wpAny_rule (wpAny_bind (wpAny_standAt (wpAny_bind (wpAny_mono h (fun it' s' h' => wpAny_pure (And.intro rfl h')) fun _ _ x => x)))))
   | (refine wpAny_bind (wpAny_rule ?_); show wpAny _ _ (standAt iter.pos >>= _) _ _ s; exact wpAny_bind (wpAny_standAt (wpAny_bind (wpAny_mono h (fun it' s' h' => wpAny_pure (And.intro rfl h')) fun _ _ x => x))))
end
section
variable {X : Cx} {pins : List (Addr × Obj)} {σ : St} {H : Hp} {s : Shared} {a : Addr} {y v : V} {u r : Value} {A : Around} {E : Value -> Shared -> Prop}
theorem d_dictSet {kvs : List (Key × V)} {k : Key} {Q : Unit -> Shared -> Prop} (I : Inv X pins σ H s) (e : H a = some (.dK kvs)) (l : kvs.length < sizeLine) (ry : RelV (kV k) u) (rv : RelV v r) (h : ∀ s', Inv X pins σ (upd H a (.dK (putK kvs k v))) s' -> Q () s') :
  wpAny (model X.prog X.w) A (dictSet a u r) Q E s := by
 obtain ⟨z, hd, vs, rel, dd⟩ := dk_of I.hok e
 have hz : vs.length <= sizeLine := by rw [← rel.length]; exact z
 have hl : (putK kvs k v).length <= sizeLine := by have := length_putK kvs k v; omega
 refine wpAny_dictSet_pairs (hsz := hz) (kV_is ry) dd fun h' dd' hs => h _ ?_
 have he : ∃ q, h'.get? a = some q := let ⟨q, _, _, hq, _⟩ := dd'; ⟨q, hq⟩
 exact d_write I (by rw [e]; exact True.intro) hs he (dk_new hl hd (rel.put k rv) dd')
end
section
variable {Y : Cx} {acc : Addr} {scope : Scope} {pos : Pos} {ke ve : Expr}
def tEmitD (acc : Addr) (tk tv : TE) : TS := fun D σ H => tk σ H fun k H1 => tv σ H1 fun v H2 => ∃ kvs k', k = kV k' /\ H2 acc = some (.dK kvs) /\ kvs.length < sizeLine /\ D.nx σ (upd H2 acc (.dK (putK kvs k' v)))
theorem dc_loop {tg iter : Expr} {g : TG} {tk tv : TE} {pins : List (Addr × Obj)} {s : Shared} {σ : St} {H : Hp} {D : Ends} {J : It} {fp : List Addr} {it : Addr} {tn : Nat -> Heap -> Prop}
  (hx : Y.xe = fun _ _ => False) (hc : Y.calm = true) (hg : PG Y tg g) (hk : PE Y ke tk) (hve : PE Y ve tv)
  (I : Inv Y pins σ H s) (T : Turn Y.prog Y.w Y.K tg J fp it tn) (st : tn 0 s.heap) (f2 : ∀ b ∈ fp, FpOk Y pins H b) (h : loopT J g (tEmitD acc tk tv) D σ H) :
  codeAny (model Y.prog Y.w) Y.A (.compLoop (.DictComp ke ve [⟨tg, iter, [], 0⟩] scope pos) 0 (.ref it) (.ref acc) Y.env) (fun r s' => r = .ok .next /\ ∃ σ' H', Inv Y pins σ' H' s' /\ D.nx σ' H') s := by
 obtain ⟨W, ⟨m0, w0⟩, turn⟩ := h
 have stat : ∀ {H' : Hp}, (∀ b ∈ fp, H' b = none) -> ∀ b ∈ fp, FpOk Y pins H' b := fun hn b hb => ⟨hn b hb, (f2 b hb).2⟩
 refine dcLoop_any (fun n s' => ∃ i σ' H', Inv Y pins σ' H' s' /\ tn i s'.heap /\ (∀ b ∈ fp, H' b = none) /\ W i n σ' H') ?_ m0 ⟨0, σ, H, I, st, fun b hb => (f2 b hb).1, w0⟩
 rintro n s3 ⟨i, σ3, H3, I3, st3, fr3, w3⟩
 rcases turn i n σ3 H3 w3 with ⟨stop, qn⟩ | ⟨go, N, hN, step⟩
 ·refine thn (T.done Y rfl rfl rfl hc i pins s3 σ3 H3 _ I3 (stat fr3) st3 stop) fun r s4 ⟨hr, I4⟩ => ?_
  subst hr
  exact ⟨rfl, σ3, H3, I4, qn⟩
 ·refine thn (T.item Y rfl rfl rfl hc i pins s3 σ3 H3 _ I3 (stat fr3) st3 go) fun r s4 ⟨u, hr, h4⟩ => ?_
  subst hr
  refine thn h4 fun _ s5 ⟨x, H5, I5, r5, y5, st5, fr5⟩ => ?_
  have I5' := I5.pinned (stat fr5) (T.obj _ _ st5)
  have a1 := hg _ s5 σ3 H5 x u _ I5' r5 (step x H5 y5)
  rw [hx] at a1
  refine thn a1 fun _ s6 ⟨σ6, H6, I6, q6⟩ => ?_
  have a2 := hk _ s6 σ6 H6 _ I6 q6
  rw [hx] at a2
  refine thn a2 fun kv s7 ⟨k, H7, I7, r7, q7⟩ => ?_
  have a3 := hve _ s7 σ6 H7 _ I7 q7
  rw [hx] at a3
  refine thn a3 fun vv s8 ⟨v, H8, I8, r8, kvs, k', ek, e8, l8, q8⟩ => ?_
  subst ek
  refine d_dictSet I8 e8 l8 r7 r8 fun s9 I9 => ?_
  obtain ⟨m', hm, w7⟩ := hN _ _ q8
  refine ⟨m', hm, i + 1, _, _, I9.unpinned, T.keep _ _ _ st5 fun b hb o e => (I9.pin (b, o) (List.mem_append_right _ (List.mem_append_right _ (mem_pinsAt hb e)))).1, fun b hb => ?_, w7⟩
  obtain ⟨o, e, d⟩ := T.obj _ _ st5 b hb
  exact (I9.pin (b, o) (List.mem_append_right _ (List.mem_append_right _ (mem_pinsAt hb e)))).2.1
end
def tDC (wi : TI) (g : TG) (tk tv : TE) (own : List Str) (cap : List (Str × Nat)) : TE := fun σ H Q => wi σ H fun J H1 => ∀ acc, H1 acc = none ->
 loopT J g (tEmitD acc tk tv) { nx := fun _ H' => Q (.ref acc) H', rt := fun _ _ => False } (capS own cap σ) (upd H1 acc (.dK []))
theorem pe_dc {X : Cx} {ke ve tg iter : Expr} {scope : Scope} {pos : Pos} {wi : TI} {g : TG} {tk tv : TE} (own : List Str) (cap : List (Str × Nat)) (hc : X.calm = true) (L : LcScope X scope own cap) (hi : PI X tg iter wi)
  (hin : ∀ (s₃ : Shared) (H₃ : Hp) (fp : List Addr), PG (X.inn scope (capN own cap) s₃ H₃ fp) tg g /\ PE (X.inn scope (capN own cap) s₃ H₃ fp) ke tk /\ PE (X.inn scope (capN own cap) s₃ H₃ fp) ve tv)
  (hs : ∀ x, foldedSetIterable iter X.env x = pure x := by intro _; rfl) : PE X (.DictComp ke ve [⟨tg, iter, [], 0⟩] scope pos) (tDC wi g tk tv own cap) := by
 intro pins s σ H Q I h
 have ev : eval (.DictComp ke ve [⟨tg, iter, [], 0⟩] scope pos) X.env = comprehension (.DictComp ke ve [⟨tg, iter, [], 0⟩] scope pos) scope X.env (firstIterPos [⟨tg, iter, [], 0⟩] pos) newDict (firstAsync [⟨tg, iter, [], 0⟩]) (firstIter [⟨tg, iter, [], 0⟩] X.env) := by rw [eval]
 rw [ev]
 have hcl : ∀ x ∈ scope.names, x.2 = .free -> ∃ c, X.env.cells.lookup x.1 = some c := fun x hx hk => I.ok.has x.1 (L.fre x hx hk)
 refine wpAny_comprehension_free (use := none) rfl hs (closureFor_cl hcl) L.kind L.loc (thn (hi pins s σ H _ I h) fun x s1 h1 => thn h1 fun itv s2 ⟨it, fp, tn, J, H2, e, I2, T, st2, f2, q2⟩ => ?_)
 subst e
 refine wpAny_newObj_type ?_
 have I3 := I2.laid (a := s2.heap.objs.size) (o := .dK []) (t' := s2.toks) (fun _ _ q => Heap.get?_push_of_some _ q) (Nat.le_refl _) (dk_empty s2.heap I2.big)
 have fr2 : H2 s2.heap.objs.size = none := I2.fresh
 have f3 : ∀ b ∈ fp, FpOk X pins (upd H2 s2.heap.objs.size (.dK [])) b := fun b hb => by
  obtain ⟨o, eo, _⟩ := T.obj 0 _ st2 b hb
  obtain ⟨g1, g2⟩ := f2 b hb
  exact ⟨by rw [upd_ne (Nat.ne_of_lt (Heap.lt_size eo))]; exact g1, g2⟩
 have k3 : ∀ b o, s2.heap.get? b = some o -> (s2.heap.push { cls := .type "dict", data := .dict #[] }).get? b = some o := fun b o e => Heap.get?_push_of_some _ e
 have st3 : tn 0 (s2.heap.push { cls := .type "dict", data := .dict #[] }) := T.keep 0 _ _ st2 fun b _ o e => k3 b o e
 refine newEnv_in ?_
 have I4 := inv_in L I3 f3 fun b hb => by obtain ⟨o, eo, _⟩ := T.obj 0 _ st3 b hb; exact ⟨o, eo⟩
 obtain ⟨hg, hk, hv⟩ := hin { s2 with heap := s2.heap.push { cls := .type "dict", data := .dict #[] }, toks := s2.toks } (upd H2 s2.heap.objs.size (.dK [])) fp
 have st4 := T.keep 0 _ (pushCells ((s2.heap.push { cls := .type "dict", data := .dict #[] }).push { cls := .type "dict", data := .dict #[] }) scope.names) st3 fun b _ o e => pushCells_keeps _ _ b o (Heap.get?_push_of_some _ e)
 have f4 : ∀ b ∈ fp, FpOk (X.inn scope (capN own cap) { s2 with heap := s2.heap.push { cls := .type "dict", data := .dict #[] }, toks := s2.toks } (upd H2 s2.heap.objs.size (.dK [])) fp) [] (upd H2 s2.heap.objs.size (.dK [])) b := fun b hb =>
  ⟨(f3 b hb).1, (I4.ok.exf b hb).1, I4.ok.exfs b hb, .inl hb, (I4.ok.exf b hb).2, fun p hp => absurd (show p ∈ ([] : List (Addr × Obj)) from hp) (by simp)⟩
 have lp := dc_loop (Y := X.inn scope (capN own cap) { s2 with heap := s2.heap.push { cls := .type "dict", data := .dict #[] }, toks := s2.toks } (upd H2 s2.heap.objs.size (.dK [])) fp) (acc := s2.heap.objs.size) (scope := scope) (pos := pos) (iter := iter) rfl hc hg hk hv I4 T st4 f4 (q2 _ fr2)
 have lp' := codeAny_mono lp (R' := compPost (model X.prog X.w) X.A X.xe none (EP X pins σ Q) (.ref s2.heap.objs.size) (s2.heap.push { cls := .type "dict", data := .dict #[] }).objs.size) fun r s' ⟨hr, σ', H', I', q'⟩ => by
  subst hr
  obtain ⟨m', hn', _⟩ := id I'.loc
  refine ⟨m', hn', fun h' hsb => ?_⟩
  refine ⟨.ref s2.heap.objs.size, H', ?_, rfl, q'⟩
  have neC : ∀ b o, (s2.heap.push { cls := .type "dict", data := .dict #[] }).get? b = some o -> b ≠ (s2.heap.push { cls := .type "dict", data := .dict #[] }).objs.size := fun b o e => Nat.ne_of_lt (Heap.lt_size e)
  have B := I'.base
  refine I3.call' (ch := fp) I'.os ⟨fun b o e n hb hx => (hsb.2 b (neC b o e)).trans (B.keep b o e n hb hx), fun b o e n hb hx => ?_, B.free, fun b o e hx => ?_, B.tups, B.frzs, B.tbls⟩ (fun b u e => ?_) I'.bare fun b hb => ⟨(f3 b hb).2.2.2.1, (f3 b hb).2.1, (f3 b hb).2.2.2.2.1, (f3 b hb).2.2.2.2.2⟩
  ·obtain ⟨sl, e1⟩ := B.slot b o e n hb hx
   exact ⟨sl, (hsb.2 b (neC b o e)).trans e1⟩
  ·obtain ⟨o', e1⟩ := B.there b o e hx
   exact ⟨o', (hsb.2 b (neC b o e)).trans e1⟩
  ·have hC : H' (s2.heap.push { cls := .type "dict", data := .dict #[] }).objs.size = none := I'.free
   refine (I'.hok b u e).stay (fun c v hc' q => (hsb.2 c ?_).trans q) (fun _ q => q) fun _ _ q => q
   rintro rfl
   rcases hc' with hc' | hc'
   ·rw [← hc', hC] at e; cases e
   ·rw [hC] at hc'; cases hc'
 exact dcStart_any lp' (T.self _ _ _ _ _ st4 lp')
end L2
namespace DL
open PySem PySem.Spec PyProof.Rows L2
def trueD (es : List (Key × D)) : List Key -> List (Key × D)
 | [] => es
 | k :: r => trueD (putD es k (.bool true)) r
theorem look_putD {κ : Type} [DecidableEq κ] (es : List (κ × D)) (k k' : κ) (d : D) : look (putD es k d) k' = if k = k' then some d else look es k' := by
 unfold putD
 split
 ·rename_i h
  induction es with
  | nil => cases h
  | cons p r ih =>
   obtain ⟨a, x⟩ := p
   rw [List.map_cons]
   unfold look
   by_cases e : a = k
   ·subst e
    rw [if_pos rfl]
    by_cases e2 : a = k'
    ·subst e2; rw [List.find?_cons_of_pos (by simp)]; simp
    ·rw [List.find?_cons_of_neg (by simpa using e2), List.find?_cons_of_neg (by simpa using e2)]
     by_cases h2 : (r.any fun p => decide (p.1 = a)) = true
     ·have := ih h2; unfold look at this; rw [this]
     ·rw [if_neg e2]
      have : r.map (fun p => if p.1 = a then (p.1, d) else p) = r := by
       conv => rhs; rw [← List.map_id r]
       refine List.map_congr_left fun p hp => ?_
       rw [if_neg (fun z => h2 (List.any_eq_true.mpr ⟨p, hp, decide_eq_true z⟩))]; rfl
      rw [this]
   ·rw [if_neg e]
    by_cases e2 : a = k'
    ·subst e2
     rw [List.find?_cons_of_pos (by simp), List.find?_cons_of_pos (by simp), if_neg (fun z => e z.symm)]
    ·rw [List.find?_cons_of_neg (by simpa using e2), List.find?_cons_of_neg (by simpa using e2)]
     have h2 : (r.any fun p => decide (p.1 = k)) = true := by
      rw [List.any_cons] at h
      simpa [e] using h
     have := ih h2; unfold look at this; exact this
 ·rename_i h
  unfold look
  rw [List.find?_append]
  by_cases e : k = k'
  ·subst e
   have : List.find? (fun p => decide (p.1 = k)) es = none := List.find?_eq_none.mpr fun p hp z => h (List.any_eq_true.mpr ⟨p, hp, z⟩)
   rw [this]; simp
  ·rw [if_neg e, List.find?_cons_of_neg (by simpa using e)]; simp
theorem look_trueD : ∀ (ks : List Key) (es : List (Key × D)) (k : Key), (look (trueD es ks) k).isSome = true ↔ k ∈ ks ∨ (look es k).isSome = true
 | [], es, k => by simp [trueD]
 | a :: r, es, k => by
  rw [trueD, look_trueD r, look_putD, List.mem_cons]
  by_cases e : a = k
  ·subst e; simp
  ·rw [if_neg e]
   exact ⟨fun h => h.elim (fun z => .inl (.inr z)) .inr, fun h => h.elim (fun z => z.elim (fun y => absurd y.symm e) .inl) .inr⟩
theorem trueD_take {es : List (Key × D)} : ∀ {ks : List Key} {i : Nat} {k : Key}, ks[i]? = some k -> trueD es (ks.take (i + 1)) = putD (trueD es (ks.take i)) k (.bool true)
 | [], _, _, h => by simp at h
 | a :: r, 0, k, h => by cases h; rfl
 | a :: r, i + 1, k, h => by
  rw [List.getElem?_cons_succ] at h
  rw [List.take_succ_cons, List.take_succ_cons, trueD, trueD]
  exact trueD_take (es := putD es a (.bool true)) h
theorem trueD_len : ∀ (ks : List Key) (es : List (Key × D)), (trueD es ks).length <= es.length + ks.length
 | [], es => Nat.le_refl _
 | a :: r, es => by
  have := trueD_len r (putD es a (.bool true))
  have := putD_len es a (.bool true)
  rw [trueD, List.length_cons]; omega
def dDC (ti : TDI) : TD := fun ρ Q Xd => ti ρ (fun ds b => ∃ ks : List Key, ds = ks.map keyV /\ ks.length < 1000000 /\ Q (dKD (trueD [] ks)) (.own [])) Xd
section
variable {X : Cx} {K : W.Frag} {E : XK} {pos p0 p1 p2 : Pos} {iter : Expr} {scope : Scope} {ti : TDI} {y : Str}
theorem le_dc {own : List Str} {cap : List (Str × Nat)} : ∀ σ H Q, own.length = 1 -> LE K E (dDC ti) σ H Q -> tDC (LI K E ti) (gName 0) (tVar 0) (tC (.bl true)) own cap σ H Q := fun σ H Q hone h => by
 obtain ⟨H0, ν, ρ, Qd, Xd, S, h1, q, x⟩ := h
 refine ⟨H0, ν, ρ, _, Xd, S, h1, fun ds b J H1 g1 e1 it => ?_, x⟩
 obtain ⟨ks, rfl, hl, g1⟩ := g1
 intro acc ha
 have S1 := S.same e1
 refine ⟨fun i m σ' H' => m = ks.length - i /\ i <= ks.length /\ 0 < σ'.length /\ Same H1 H' /\ ∃ kvs, H' acc = some (.dK kvs) /\ VPs kvs (trueD [] (ks.take i)),
  ⟨_, rfl, Nat.zero_le _, by unfold capS; simp; omega, Same.new ha, [], upd_same, .nil⟩, ?_⟩
 rintro i m σ2 H2 ⟨rfl, hi, hn, sm, kvs, ea, vp⟩
 have it2 := it (fun a => b = true /\ Hd Z0 ν a) H2 (fun a z => by obtain ⟨o, e⟩ := S1.hl a z.2; exact ⟨o, sm _ _ e⟩) (fun a o e => by
  unfold fz at e
  cases b with
  | true => rw [if_pos rfl] at e; obtain ⟨e1, e2⟩ := of_hid e; exact hid_of (sm _ _ e1) fun z => e2 z.2
  | false => rw [if_neg Bool.false_ne_true] at e; exact hid_of (sm _ _ e) fun z => by cases z.1)
 obtain ⟨i1, i2⟩ := it2
 rw [List.length_map] at i1
 by_cases hlt : i < ks.length
 ·obtain ⟨j1, j2⟩ := i2 i (keyV ks[i]) (by rw [List.getElem?_map, List.getElem?_eq_getElem hlt]; rfl)
  refine .inr ⟨j1, _, fun σ' H' hN => ⟨_, (by omega : ks.length - (i + 1) < ks.length - i), rfl, hlt, hN⟩, fun v H' hy => ?_⟩
  obtain ⟨k1, k2⟩ := j2 v H' hy
  have ev := dn_keyV k2
  subst ev
  show tEmitD acc (tVar 0) (tC (.bl true)) _ (σ2.set 0 (some (kV ks[i]))) H'
  refine ⟨kV ks[i], by rw [List.getElem?_set_self hn], kvs, ks[i], rfl, k1 _ _ ea, ?_, ?_⟩
  ·have := trueD_len (ks.take i) []
   rw [List.length_take, List.length_nil] at this
   rw [vp.length]
   exact Nat.lt_of_lt_of_le (by omega) million
  ·refine ⟨by rw [List.length_set]; exact hn, fun a o e => ?_, _, upd_same, ?_⟩
   ·by_cases z : a = acc
    ·subst z; rw [ha] at e; cases e
    ·rw [upd_ne z]; exact k1 _ _ (sm _ _ e)
   ·rw [trueD_take (List.getElem?_eq_getElem hlt)]
    exact vp.put rfl
 ·have e : i = ks.length := by omega
  subst e
  rw [List.take_length] at vp
  exact .inl ⟨i1, q _ _ _ _ g1 (e1.trans sm) ⟨[acc], ow_dK ea vp, by simp, fun a hm => by rw [List.mem_singleton] at hm; subst hm; exact .inl (e1.gone ha)⟩⟩
theorem dpe_dc (own : List Str) (cap : List (Str × Nat)) (ho : own.length = 1) (hc : X.calm = true) (L : LcScope X scope own cap) (hi : DI X K E (.Name y p0) iter ti)
  (hin : ∀ (s₃ : Shared) (H₃ : Hp) (fp : List Addr), QG (X.inn scope (L2.capN own cap) s₃ H₃ fp) (.Name y p0) (gName 0) /\ QE (X.inn scope (L2.capN own cap) s₃ H₃ fp) (.Name y p1) (tVar 0)) {j : Nat}
  (hs : ∀ x, foldedSetIterable iter X.env x = pure x := by intro _; rfl) : DE X K E (.DictComp (.Name y p1) (.Constant (.bool true) j p2) [⟨.Name y p0, iter, [], 0⟩] scope pos) (dDC ti) :=
 ⟨qe_imp ⟨pe_dc own cap hc L hi.q.h (fun a b c => ⟨(hin a b c).1.h, (hin a b c).2.h, pe_bl⟩) hs⟩ fun σ H Q h => le_dc σ H Q ho h⟩
end
end DL
namespace L2
open PySem PySem.Spec PyProof.Rows PySem.W
section
variable {κ : Nat -> Int} {p : Array Nat}
def kk (κ : Nat -> Int) (p : Array Nat) (i : Nat) : Int := κ (p.getD i 0)
def ltI (κ : Nat -> Int) (i j : Nat) : Bool := decide (κ i < κ j)
def Up (κ : Nat -> Int) (p : Array Nat) (n : Nat) : Prop := ∀ i j, i <= j -> j < n -> kk κ p i <= kk κ p j
def Dn (κ : Nat -> Int) (p : Array Nat) (n : Nat) : Prop := ∀ i j, i <= j -> j < n -> kk κ p j <= kk κ p i
theorem lt_no {i j : Nat} (c : ¬ kk κ p i < kk κ p j) : ¬ ltI κ (p.getD i 0) (p.getD j 0) = true := fun z => c (of_decide_eq_true z)
theorem kk_congr {q : Array Nat} {i j : Nat} (h : p[i]? = q[j]?) : kk κ p i = kk κ q j := by
 unfold kk
 have e : ∀ (r : Array Nat) (k : Nat), r.getD k 0 = (r[k]?).getD 0 := fun r k => by simp
 rw [e, e, h]
theorem kk_rev {i j : Nat} (hj : j <= p.size) (k : Nat) : kk κ (kas_rev p i j) k = if i <= k /\ k < j then kk κ p (i + j - 1 - k) else kk κ p k := by
 have e := getElem?_mirror_all (xs := p) (i := i) hj k
 unfold kas_rev
 by_cases h : i <= k /\ k < j
 ·rw [if_pos h] at e ⊢; exact kk_congr e
 ·rw [if_neg h] at e ⊢; exact kk_congr e
theorem rev_size (i j : Nat) : (kas_rev p i j).size = p.size := mirror_size _ _ _ _
theorem kk_bub {s d : Nat} (hs : s < p.size) (hd : d <= s) (k : Nat) : kk κ (bubble p s d) k = if k = s - d then kk κ p s else if s - d < k /\ k <= s then kk κ p (k - 1) else kk κ p k := by
 have e := getElem?_bubble hs d hd k
 by_cases h : k = s - d
 ·rw [if_pos h] at e ⊢; exact kk_congr e
 ·rw [if_neg h] at e ⊢
  by_cases h2 : s - d < k /\ k <= s
  ·rw [if_pos h2] at e ⊢; exact kk_congr e
  ·rw [if_neg h2] at e ⊢; exact kk_congr e
theorem Up.succ {n : Nat} (h : Up κ p n) (h1 : 1 <= n) (l : kk κ p (n - 1) <= kk κ p n) : Up κ p (n + 1) := fun i j hij hj => by
 by_cases e : j < n
 ·exact h i j hij e
 ·have ej : j = n := by omega
  by_cases e2 : i = n
  ·rw [e2, ej]; omega
  ·have := h i (n - 1) (by omega) (by omega)
   rw [ej]; omega
theorem Dn.succ {n : Nat} (h : Dn κ p n) (h1 : 1 <= n) (l : kk κ p n <= kk κ p (n - 1)) : Dn κ p (n + 1) := fun i j hij hj => by
 by_cases e : j < n
 ·exact h i j hij e
 ·have ej : j = n := by omega
  by_cases e2 : i = n
  ·rw [e2, ej]; omega
  ·have := h i (n - 1) (by omega) (by omega)
   rw [ej]; omega
theorem run_asc : ∀ (f m : Nat), 1 <= m -> Up κ p m -> m <= runK (ltI κ) (kas_asc p f m) /\ runK (ltI κ) (kas_asc p f m) <= m + f /\ Up κ p (runK (ltI κ) (kas_asc p f m)) /\ (runK (ltI κ) (kas_asc p f m) < m + f -> kk κ p (runK (ltI κ) (kas_asc p f m)) < kk κ p (runK (ltI κ) (kas_asc p f m) - 1))
 | 0, m, _, h => ⟨Nat.le_refl _, Nat.le_refl _, h, fun z => absurd z (Nat.lt_irrefl _)⟩
 | f + 1, m, h1, h => by
  have e : runK (ltI κ) (kas_asc p (f + 1) m) = runK (ltI κ) (if ltI κ (p.getD m 0) (p.getD (m - 1) 0) = true then .ret m else kas_asc p f (m + 1)) := rfl
  rw [e]
  by_cases c : kk κ p m < kk κ p (m - 1)
  ·rw [if_pos (by unfold ltI; exact decide_eq_true c)]
   exact ⟨Nat.le_refl _, Nat.le_add_right _ _, h, fun _ => c⟩
  ·rw [if_neg (lt_no c)]
   obtain ⟨a, b, c', d⟩ := run_asc f (m + 1) (by omega) (h.succ h1 (by omega))
   exact ⟨by omega, by omega, c', fun z => d (by omega)⟩
def TailEq (κ : Nat -> Int) (p : Array Nat) (m q : Nat) : Prop := ∀ k, m - (q + 1) <= k -> k < m -> kk κ p k = kk κ p (m - 1)
theorem rev_eq {m q : Nat} (hm : m <= p.size) (t : TailEq κ p m q) (hq : q + 1 <= m) (k : Nat) : kk κ (kas_rev p (m - (q + 1)) m) k = kk κ p k := by
 rw [kk_rev hm]
 split
 ·rename_i h
  rw [t _ (by omega) (by omega), t k (by omega) (by omega)]
 ·rfl
theorem Dn.congr {q : Array Nat} {n : Nat} (h : Dn κ p n) (e : ∀ k, kk κ q k = kk κ p k) : Dn κ q n := fun i j a b => by rw [e, e]; exact h i j a b
theorem run_desc : ∀ (f : Nat) (p : Array Nat) (m q : Nat), Dn κ p m -> q + 1 <= m -> m + f <= p.size -> TailEq κ p m q ->
  (runK (ltI κ) (kas_desc f p m q)).1.size = p.size /\ Dn κ (runK (ltI κ) (kas_desc f p m q)).1 (runK (ltI κ) (kas_desc f p m q)).2.1 /\ m <= (runK (ltI κ) (kas_desc f p m q)).2.1 /\ (runK (ltI κ) (kas_desc f p m q)).2.1 <= m + f /\ (runK (ltI κ) (kas_desc f p m q)).2.2 + 1 <= (runK (ltI κ) (kas_desc f p m q)).2.1 /\ TailEq κ (runK (ltI κ) (kas_desc f p m q)).1 (runK (ltI κ) (kas_desc f p m q)).2.1 (runK (ltI κ) (kas_desc f p m q)).2.2
 | 0, p, m, q, h, hq, hm, t => ⟨rfl, h, Nat.le_refl _, Nat.le_refl _, hq, t⟩
 | f + 1, p, m, q, h, hq, hm, t => by
  have t0 : ∀ (r : Array Nat), TailEq κ r (m + 1) 0 := fun r k a b => by
   have : k = m := by omega
   rw [this]; rfl
  by_cases c : kk κ p m < kk κ p (m - 1)
  ·have d1 : Dn κ p (m + 1) := h.succ (by omega) (by omega)
   have e : runK (ltI κ) (kas_desc (f + 1) p m q) = runK (ltI κ) (if q > 0 then kas_desc f (kas_rev p (m - (q + 1)) m) (m + 1) 0 else kas_desc f p (m + 1) 0) := by
    show runK (ltI κ) (if ltI κ (p.getD m 0) (p.getD (m - 1) 0) = true then _ else _) = _
    rw [if_pos (by unfold ltI; exact decide_eq_true c)]
   rw [e]
   by_cases hq0 : q > 0
   ·rw [if_pos hq0]
    obtain ⟨a1, a2, a3, a4, a5, a6⟩ := run_desc f (kas_rev p (m - (q + 1)) m) (m + 1) 0 (d1.congr (rev_eq (by omega) t hq)) (by omega) (by rw [rev_size]; omega) (t0 _)
    exact ⟨by rw [a1, rev_size], a2, by omega, by omega, a5, a6⟩
   ·rw [if_neg hq0]
    obtain ⟨a1, a2, a3, a4, a5, a6⟩ := run_desc f p (m + 1) 0 d1 (by omega) (by omega) (t0 _)
    exact ⟨a1, a2, by omega, by omega, a5, a6⟩
  ·have e : runK (ltI κ) (kas_desc (f + 1) p m q) = runK (ltI κ) (if ltI κ (p.getD (m - 1) 0) (p.getD m 0) = true then .ret (p, m, q) else kas_desc f p (m + 1) (q + 1)) := by
    show runK (ltI κ) (if ltI κ (p.getD m 0) (p.getD (m - 1) 0) = true then _ else _) = _
    rw [if_neg (lt_no c)]
    rfl
   rw [e]
   by_cases c2 : kk κ p (m - 1) < kk κ p m
   ·rw [if_pos (by unfold ltI; exact decide_eq_true c2)]
    exact ⟨rfl, h, Nat.le_refl _, Nat.le_add_right _ _, hq, t⟩
   ·rw [if_neg (lt_no c2)]
    have ee : kk κ p m = kk κ p (m - 1) := by omega
    obtain ⟨a1, a2, a3, a4, a5, a6⟩ := run_desc f p (m + 1) (q + 1) (h.succ (by omega) (by omega)) (by omega) (by omega) (fun k ha hb => by
     by_cases z : k = m
     ·rw [z]; rfl
     ·rw [t k (by omega) (by omega)]; exact ee.symm)
    exact ⟨a1, a2, by omega, by omega, a5, a6⟩
theorem run_tail {n m : Nat} (h1 : 1 <= m) (hm : m <= n) (hn : n <= p.size) (h : Dn κ p m) : Up κ (runK (ltI κ) (kas_tail3 m n p)).2 (runK (ltI κ) (kas_tail3 m n p)).1 /\ 1 <= (runK (ltI κ) (kas_tail3 m n p)).1 /\ (runK (ltI κ) (kas_tail3 m n p)).1 <= n /\ (runK (ltI κ) (kas_tail3 m n p)).2.size = p.size := by
 unfold kas_tail3
 rw [run_bind]
 have u : Up κ (kas_rev p 0 m) m := fun i j a b => by
  rw [kk_rev (by omega), kk_rev (by omega), if_pos ⟨by omega, by omega⟩, if_pos ⟨by omega, by omega⟩]
  exact h _ _ (by omega) (by omega)
 obtain ⟨a1, a2, a3, _⟩ := run_asc (κ := κ) (p := kas_rev p 0 m) (n - m) m h1 u
 exact ⟨a3, by show 1 <= runK (ltI κ) (kas_asc (kas_rev p 0 m) (n - m) m); omega, by show runK (ltI κ) (kas_asc (kas_rev p 0 m) (n - m) m) <= n; omega, rev_size _ _⟩
theorem run_dpart {n m : Nat} (h1 : 1 <= m) (hm : m < n) (hn : n <= p.size) (h : Dn κ p (m + 1)) : Up κ (runK (ltI κ) (kas_descPart m n p)).2 (runK (ltI κ) (kas_descPart m n p)).1 /\ 1 <= (runK (ltI κ) (kas_descPart m n p)).1 /\ (runK (ltI κ) (kas_descPart m n p)).1 <= n /\ (runK (ltI κ) (kas_descPart m n p)).2.size = p.size := by
 unfold kas_descPart
 rw [run_bind]
 obtain ⟨a1, a2, a3, a4, a5, a6⟩ := run_desc (κ := κ) (n - (m + 1)) p (m + 1) 0 h (by omega) (by omega) (fun k a b => by
  have : k = m := by omega
  rw [this]; rfl)
 generalize runK (ltI κ) (kas_desc (n - (m + 1)) p (m + 1) 0) = r at a1 a2 a3 a4 a5 a6
 by_cases hq : r.2.2 > 0
 ·rw [if_pos hq]
  obtain ⟨b1, b2, b3, b4⟩ := run_tail (n := n) (show 1 <= r.2.1 by omega) (by omega) (by rw [rev_size]; omega) (a2.congr (rev_eq (by omega) a6 a5))
  exact ⟨b1, b2, b3, by rw [b4, rev_size, a1]⟩
 ·rw [if_neg hq]
  obtain ⟨b1, b2, b3, b4⟩ := run_tail (n := n) (show 1 <= r.2.1 by omega) (by omega) (by omega) a2
  exact ⟨b1, b2, b3, by rw [b4, a1]⟩
theorem run_count {n : Nat} (h1 : 1 <= n) (hn : n <= p.size) : Up κ (runK (ltI κ) (kas_count n p)).2 (runK (ltI κ) (kas_count n p)).1 /\ 1 <= (runK (ltI κ) (kas_count n p)).1 /\ (runK (ltI κ) (kas_count n p)).1 <= n /\ (runK (ltI κ) (kas_count n p)).2.size = p.size := by
 unfold kas_count
 rw [run_bind]
 obtain ⟨a1, a2, a3, a4⟩ := run_asc (κ := κ) (p := p) (n - 1) 1 (Nat.le_refl _) (fun i j a b => by
  have : i = j := by omega
  rw [this]; omega)
 generalize runK (ltI κ) (kas_asc p (n - 1) 1) = m at a1 a2 a3 a4
 by_cases e : m = n
 ·rw [if_pos (by simpa using e)]
  exact ⟨a3, by show 1 <= m; omega, by show m <= n; omega, rfl⟩
 ·rw [if_neg (by simpa using e)]
  have c := a4 (by omega)
  by_cases hm : m > 1
  ·rw [if_pos hm]
   show Up κ (runK (ltI κ) (if ltI κ (p.getD 0 0) (p.getD (m - 1) 0) = true then .ret (m, p) else kas_descPart m n (kas_rev p 0 m))).2 (runK (ltI κ) (if ltI κ (p.getD 0 0) (p.getD (m - 1) 0) = true then .ret (m, p) else kas_descPart m n (kas_rev p 0 m))).1 /\ 1 <= (runK (ltI κ) (if ltI κ (p.getD 0 0) (p.getD (m - 1) 0) = true then .ret (m, p) else kas_descPart m n (kas_rev p 0 m))).1 /\ (runK (ltI κ) (if ltI κ (p.getD 0 0) (p.getD (m - 1) 0) = true then .ret (m, p) else kas_descPart m n (kas_rev p 0 m))).1 <= n /\ (runK (ltI κ) (if ltI κ (p.getD 0 0) (p.getD (m - 1) 0) = true then .ret (m, p) else kas_descPart m n (kas_rev p 0 m))).2.size = p.size
   by_cases c2 : kk κ p 0 < kk κ p (m - 1)
   ·rw [if_pos (by unfold ltI; exact decide_eq_true c2)]
    exact ⟨a3, by show 1 <= m; omega, by show m <= n; omega, rfl⟩
   ·rw [if_neg (lt_no c2)]
    have eqs : ∀ k, k < m -> kk κ p k = kk κ p (m - 1) := fun k hk => by
     have x := a3 0 k (by omega) hk
     have y := a3 k (m - 1) (by omega) (by omega)
     omega
    have re : ∀ k, kk κ (kas_rev p 0 m) k = kk κ p k := fun k => by
     rw [kk_rev (by omega)]
     split
     ·rename_i h
      rw [eqs _ (by omega), eqs k (by omega)]
     ·rfl
    have d : Dn κ p (m + 1) := Dn.succ (fun i j a b => by rw [eqs i (by omega), eqs j b]; omega) (by omega) (by omega)
    obtain ⟨b1, b2, b3, b4⟩ := run_dpart (κ := κ) (p := kas_rev p 0 m) (n := n) (m := m) (by omega) (by omega) (by rw [rev_size]; exact hn) (d.congr re)
    exact ⟨b1, b2, b3, by rw [b4, rev_size]⟩
  ·rw [if_neg hm]
   have m1 : m = 1 := by omega
   refine run_dpart (by omega) (by omega) hn (Dn.succ (fun i j a b => ?_) (by omega) (by omega))
   have : i = j := by omega
   rw [this]; omega
theorem run_place {k : Nat} (u : Up κ p k) : ∀ (f l r : Nat), l <= r -> r <= k -> r - l <= f -> (∀ i, i < l -> kk κ p i <= kk κ p k) -> (∀ i, r <= i -> i < k -> kk κ p k < kk κ p i) ->
  runK (ltI κ) (kas_place p k f l r) <= k /\ (∀ i, i < runK (ltI κ) (kas_place p k f l r) -> kk κ p i <= kk κ p k) /\ ∀ i, runK (ltI κ) (kas_place p k f l r) <= i -> i < k -> kk κ p k < kk κ p i
 | 0, l, r, h1, h2, h3, a, b => by
  have : l = r := by omega
  subst this
  exact ⟨h2, a, b⟩
 | f + 1, l, r, h1, h2, h3, a, b => by
  have e : runK (ltI κ) (kas_place p k (f + 1) l r) = runK (ltI κ) (if l ≥ r then .ret l else .ask (p.getD k 0) (p.getD ((l + r) / 2) 0) fun c => if c = true then kas_place p k f l ((l + r) / 2) else kas_place p k f ((l + r) / 2 + 1) r) := rfl
  rw [e]
  by_cases hl : l ≥ r
  ·rw [if_pos hl]
   have : l = r := by omega
   subst this
   exact ⟨h2, a, b⟩
  ·rw [if_neg hl]
   have e2 : runK (ltI κ) (.ask (p.getD k 0) (p.getD ((l + r) / 2) 0) fun c => if c = true then kas_place p k f l ((l + r) / 2) else kas_place p k f ((l + r) / 2 + 1) r) = runK (ltI κ) (if ltI κ (p.getD k 0) (p.getD ((l + r) / 2) 0) = true then kas_place p k f l ((l + r) / 2) else kas_place p k f ((l + r) / 2 + 1) r) := rfl
   rw [e2]
   by_cases c : kk κ p k < kk κ p ((l + r) / 2)
   ·rw [if_pos (by unfold ltI; exact decide_eq_true c)]
    refine run_place u f l _ (by omega) (by omega) (by omega) a fun i hi hk => ?_
    have := u ((l + r) / 2) i hi hk
    omega
   ·rw [if_neg (lt_no c)]
    refine run_place u f _ r (by omega) h2 (by omega) (fun i hi => ?_) b
    have := u i ((l + r) / 2) (by omega) (by omega)
    omega
theorem run_bin : ∀ (f : Nat) (p : Array Nat) (k : Nat), Up κ p k -> k + f <= p.size -> Up κ (runK (ltI κ) (kas_bin f p k)) (k + f)
 | 0, p, k, u, _ => u
 | f + 1, p, k, u, hs => by
  unfold kas_bin
  rw [run_bind]
  obtain ⟨a, b, c⟩ := run_place u k 0 k (Nat.zero_le _) (Nat.le_refl _) (by omega) (fun i hi => by omega) (fun i hi hk => by omega)
  generalize runK (ltI κ) (kas_place p k k 0 k) = l at a b c
  rw [show k + (f + 1) = k + 1 + f by omega]
  refine run_bin f _ (k + 1) (fun i j hij hj => ?_) (by rw [bubble_size]; omega)
  rw [kk_bub (by omega) (by omega), kk_bub (by omega) (by omega), show k - (k - l) = l by omega]
  by_cases i1 : i = l
  ·rw [if_pos i1]
   by_cases j1 : j = l
   ·rw [if_pos j1]; omega
   ·rw [if_neg j1, if_pos ⟨by omega, by omega⟩]
    have := c (j - 1) (by omega) (by omega)
    omega
  ·rw [if_neg i1]
   by_cases i2 : l < i /\ i <= k
   ·rw [if_pos i2, if_neg (show ¬ j = l by omega), if_pos ⟨by omega, by omega⟩]
    exact u _ _ (by omega) (by omega)
   ·rw [if_neg i2]
    have hil : i < l := by omega
    by_cases j1 : j = l
    ·rw [if_pos j1]; exact b i hil
    ·rw [if_neg j1]
     by_cases j2 : l < j /\ j <= k
     ·rw [if_pos j2]; exact u _ _ (by omega) (by omega)
     ·rw [if_neg j2]; exact u _ _ (by omega) (by omega)
theorem run_sort {n : Nat} (h1 : 1 <= n) : Up κ (runK (ltI κ) (kas_sort n)) n := by
 unfold kas_sort
 rw [run_bind]
 have hs : (List.toArray (List.range n)).size = n := by simp
 obtain ⟨a1, a2, a3, a4⟩ := run_count (κ := κ) (p := List.toArray (List.range n)) h1 (by rw [hs]; exact Nat.le_refl _)
 generalize runK (ltI κ) (kas_count n (List.toArray (List.range n))) = r at a1 a2 a3 a4
 by_cases h : r.1 < n
 ·rw [if_pos h]
  have := run_bin (κ := κ) (n - max r.1 1) r.2 (max r.1 1) (by rw [show max r.1 1 = r.1 by omega]; exact a1) (by rw [a4, hs]; omega)
  rw [show max r.1 1 + (n - max r.1 1) = n by omega] at this
  exact this
 ·rw [if_neg h]
  have : r.1 = n := by omega
  rw [← this]; exact a1
end
end L2
namespace L2
open PySem
def bitsOf (m : Nat) : List Nat := (List.range 6).filter fun i => m.testBit i
def addB (m v : Nat) : Nat := m ||| 2 ^ v
def smT (m : Nat) (led : Bool) : SetTable := { mask := if (bitsOf m).length < 5 then 7 else 31, place := (bitsOf m).toArray, dummies := #[], finger := 0, led := led, moves := if (bitsOf m).length < 5 then 0 else 1, plain := true }
theorem sm_fresh (led : Bool) : SetTable.fresh 0 0 led = smT 0 led := by cases led <;> decide
def hashOf (l : List Nat) : Array Int := (l.map fun (i : Nat) => (i : Int)).toArray
def putOk (m v : Nat) (led : Bool) : Bool :=
 let t := smT m led
 let p := (t.put v).2
 let t1 := (t.put v).1
 let b := bitsOf (addB m v)
 decide (t.freeSlot (v : Int) = some (v, false)) && t1.fits b.length && decide (b = (bitsOf m).take p ++ v :: (bitsOf m).drop p) && t1.plain && decide (addB m v < 64) &&
  (if t1.tooFull = true then decide (t1.relaid (hashOf b) (SetTable.grown b.length) = some (smT (addB m v) led, (List.range b.length).toArray)) && coversAll (List.range b.length).toArray b.length && (smT (addB m v) led).fits b.length else decide (t1 = smT (addB m v) led))
theorem put_ok : ∀ m, m < 64 -> ∀ v, v < 6 -> m.testBit v = false -> (putOk m v true && putOk m v false) = true := by decide +kernel
def slotAt (m : Nat) : Nat -> Nat
 | 0 => 0
 | i + 1 => (bitsOf m).getD i 0 + 1
theorem walk_ok : ∀ m, m < 64 -> ∀ i, i <= (bitsOf m).length -> SetTable.below (bitsOf m).toArray (slotAt m i) = i := by decide +kernel
theorem fits_ok : ∀ m, m < 64 -> ((smT m true).fits (bitsOf m).length && (smT m false).fits (bitsOf m).length) = true := by decide +kernel
theorem addB_old : ∀ m, m < 64 -> ∀ v, v < 6 -> m.testBit v = true -> addB m v = m := by decide +kernel
theorem bits_mem : ∀ m, m < 64 -> ∀ v, v ∈ bitsOf m ↔ (v < 6 /\ m.testBit v = true) := fun m _ v => by unfold bitsOf; rw [List.mem_filter, List.mem_range]
theorem bits_sorted (m : Nat) : (bitsOf m).Pairwise (· < ·) := by
 unfold bitsOf
 exact List.Pairwise.filter _ List.pairwise_lt_range
theorem addB_test (m v k : Nat) : (addB m v).testBit k = (m.testBit k || decide (v = k)) := by
 unfold addB
 rw [Nat.testBit_or, Nat.testBit_two_pow]
end L2
namespace L2
open PySem PySem.Spec PyProof.Rows PySem.W PySem.Calls
inductive EsR : List Nat -> List (Int × Value) -> Prop
 | nil : EsR [] []
 | cons (v : Nat) (t : Tok) {r l} : EsR r l -> EsR (v :: r) (((v : Int), Value.int (v : Int) t) :: l)
theorem EsR.len {S : List Nat} {l : List (Int × Value)} (h : EsR S l) : l.length = S.length := by
 induction h with
 | nil => rfl
 | cons _ _ _ ih => simp [ih]
theorem EsR.at {S : List Nat} {l : List (Int × Value)} (h : EsR S l) : ∀ {i : Nat} {e : Int × Value}, l[i]? = some e -> ∃ v t, S[i]? = some v /\ e = ((v : Int), Value.int (v : Int) t) := by
 induction h with
 | nil => intro i e h; simp at h
 | cons v t _ ih =>
  intro i e h
  cases i with
  | zero => cases h; exact ⟨v, t, rfl, rfl⟩
  | succ i => exact ih (by simpa using h)
theorem EsR.ins {S : List Nat} {l : List (Int × Value)} (h : EsR S l) (v : Nat) (t : Tok) : ∀ p, EsR (S.take p ++ v :: S.drop p) (l.take p ++ ((v : Int), Value.int (v : Int) t) :: l.drop p) := by
 induction h with
 | nil => intro p; simpa using EsR.cons v t .nil
 | cons u tu r ih =>
  intro p
  cases p with
  | zero => exact .cons v t (.cons u tu r)
  | succ p => exact .cons u tu (ih p)
theorem EsR.hashes {S : List Nat} {es : Array (Int × Value)} (h : EsR S es.toList) : es.map (·.1) = hashOf S := by
 apply Array.toList_inj.mp
 unfold hashOf
 rw [Array.toList_map]
 generalize es.toList = l at h
 induction h with
 | nil => rfl
 | cons v t _ ih => rw [List.map_cons, ih]; rfl
theorem hash_small : ∀ v : Nat, v < 6 -> hashInt (v : Int) = (v : Int) := by decide +kernel
theorem EsR.elems {prog : Program} {w : World} {S : List Nat} {l : List (Int × Value)} (h : EsR S l) (hs : ∀ v ∈ S, v < 6) : ElemsOf (intKind prog w) l := by
 induction h with
 | nil => intro e he; cases he
 | cons v t _ ih =>
  intro e he
  rcases List.mem_cons.mp he with rfl | he
  ·exact ⟨⟨(v : Int), intKind_is _ _ _ _, (hash_small v (hs v List.mem_cons_self)).symm⟩, rfl⟩
  ·exact ih (fun u hu => hs u (List.mem_cons_of_mem _ hu)) e he
theorem EsR.find {prog : Program} {w : World} {S : List Nat} {l : List (Int × Value)} (h : EsR S l) (v : Nat) : (∃ j, l.findIdx? (fun e => (intKind prog w).is (v : Int) e.2) = some j /\ v ∈ S) ∨ (l.findIdx? (fun e => (intKind prog w).is (v : Int) e.2) = none /\ v ∉ S) := by
 induction h with
 | nil => exact .inr ⟨rfl, by simp⟩
 | cons u t _ ih =>
  have e : (intKind prog w).is (v : Int) (Value.int (u : Int) t) = decide ((v : Int) = (u : Int)) := KeyKind.is_eq_decide (intKind_is _ _ _ _) _
  rw [List.findIdx?_cons]
  show (∃ j, (if (intKind prog w).is (v : Int) (Value.int (u : Int) t) = true then some 0 else _) = some j /\ _) ∨ ((if (intKind prog w).is (v : Int) (Value.int (u : Int) t) = true then some 0 else _) = none /\ _)
  rw [e]
  by_cases q : v = u
  ·subst q; exact .inl ⟨0, by simp, List.mem_cons_self⟩
  ·have q' : ¬ (v : Int) = (u : Int) := fun z => q (by exact_mod_cast z)
   rw [if_neg (by simpa using q')]
   rcases ih with ⟨j, h1, h2⟩ | ⟨h1, h2⟩
   ·exact .inl ⟨j + 1, by rw [h1]; rfl, List.mem_cons_of_mem _ h2⟩
   ·exact .inr ⟨by rw [h1]; rfl, fun z => by rcases List.mem_cons.mp z with z | z; exact q z; exact h2 z⟩
def SmAt (led : Bool) (h : Heap) (a : Addr) (m ep : Nat) (es : Array (Int × Value)) : Prop := m < 64 /\ ∃ o, h.get? a = some o /\ o.ExactSet /\ o.data = .set es ep (smT m led) /\ EsR (bitsOf m) es.toList
theorem SmAt.keep {led : Bool} {h h' : Heap} {a : Addr} {m ep : Nat} {es : Array (Int × Value)} (x : SmAt led h a m ep es) (k : ∀ o, h.get? a = some o -> h'.get? a = some o) : SmAt led h' a m ep es := let ⟨y, o, e, r⟩ := x; ⟨y, o, k o e, r⟩
theorem SmAt.lt {led : Bool} {h : Heap} {a : Addr} {m ep : Nat} {es : Array (Int × Value)} (x : SmAt led h a m ep es) : a < h.objs.size := let ⟨_, _, e, _⟩ := x; Heap.lt_size e
theorem SmAt.ty {led : Bool} {s : Shared} {a : Addr} {m ep : Nat} {es : Array (Int × Value)} (x : SmAt led s.heap a m ep es) : s.TypeIs (.ref a) "set" := let ⟨_, o, e, c, _⟩ := x; ⟨o, e, c.1⟩
theorem bits_six {m : Nat} : ∀ v ∈ bitsOf m, v < 6 := fun v hv => by
 unfold bitsOf at hv
 exact List.mem_range.mp (List.mem_filter.mp hv).1
theorem fits_led {m : Nat} (hm : m < 64) (led : Bool) {n : Nat} (hn : n = (bitsOf m).length) : (smT m led).fits n = true := by
 have := fits_ok m hm
 rw [Bool.and_eq_true] at this
 subst hn
 cases led
 ·exact this.2
 ·exact this.1
theorem SmAt.size {led : Bool} {h : Heap} {a : Addr} {m ep : Nat} {es : Array (Int × Value)} (x : SmAt led h a m ep es) : es.size = (bitsOf m).length := by
 obtain ⟨_, o, _, _, _, r⟩ := x
 have := r.len
 rwa [Array.length_toList] at this
theorem bits_len (m : Nat) : (bitsOf m).length <= 6 := by
 unfold bitsOf
 exact Nat.le_trans (List.length_filter_le _ _) (by simp)
theorem put_led {m v : Nat} (hm : m < 64) (hv : v < 6) (hb : m.testBit v = false) (led : Bool) : putOk m v led = true := by
 have := put_ok m hm v hv hb
 rw [Bool.and_eq_true] at this
 cases led
 ·exact this.2
 ·exact this.1
theorem relay_same {α : Type} (es : Array α) (n : Nat) (hn : n = es.size) : (List.range n).toArray.filterMap (es[·]?) = es := by
 subst hn
 apply Array.toList_inj.mp
 rw [Array.toList_filterMap]
 show List.filterMap (es[·]?) (List.range es.size) = es.toList
 have e : ∀ l : List α, List.filterMap (l[·]?) (List.range l.length) = l := fun l => by
  induction l with
  | nil => rfl
  | cons x r ih =>
   rw [List.length_cons, List.range_succ_eq_map, List.filterMap_cons_some (by rfl)]
   rw [List.filterMap_map]
   congr 1
 have := e es.toList
 rw [Array.length_toList] at this
 simpa using this
section
variable {prog : Program} {w : World} {A : Around} {E : Value -> Shared -> Prop} {s : Shared} {a : Addr} {m v ep : Nat} {t : Tok} {led : Bool} {es : Array (Int × Value)}
theorem sm_add {Q : Bool -> Shared -> Prop} (hS : SmAt led s.heap a m ep es) (hv : v < 6)
  (h : ∀ h' b ep' es', Heap.SameBut a s.heap h' -> SmAt led h' a (addB m v) ep' es' -> Q b { s with heap := h' }) : wpAny (model prog w) A (setAddHashed a (.int (v : Int) t) (v : Int)) Q E s := by
 obtain ⟨hm, o, ho, hex, hd, r⟩ := id hS
 have hsz := hS.size
 have hf : (smT m led).fits es.size = true := fits_led hm led hsz
 have hel := r.elems (prog := prog) (w := w) bits_six
 have hsmall : es.size < scanBound := by have := bits_len m; unfold scanBound; omega
 unfold setAddHashed setAddHashedIn
 refine wpAny_holding (wpAny_bind (wpAny_setState_of ho hd hf ?_))
 dsimp only
 rw [byScan_of rfl hsmall hel, if_pos rfl]
 unfold setAddByScan
 refine wpAny_bind (wpAny_bind (wpAny_rule (wpAny_bind ?_)))
 have hh : ((v : Nat) : Int) = (intKind prog w).hash (v : Int) := (hash_small v hv).symm
 have sc : ∀ Q' : ScanMet -> Shared -> Prop, Q' (match es.toList.findIdx? (fun e => (intKind prog w).is (v : Int) e.2) with | some j => .found (0 + j) | none => .absent) s -> wpAny (model prog w) A (setScan a (.int (v : Int) t) (v : Int) true es) Q' E s := fun Q' hq => by
  have := wpAny_setScan_of (A := A) (E := E) (knd := intKind prog w) (k := (v : Int)) (adding := true) (Q := Q') (intKind_is prog w (v : Int) t) ho hd hf hel hq
  rw [← hh] at this
  exact this
 refine sc _ ?_
 rcases r.find (prog := prog) (w := w) v with ⟨j, e, hin⟩ | ⟨e, hin⟩
 ·rw [e]
  refine wpAny_pure (wpAny_pure ?_)
  have hb := ((bits_mem m hm v).mp hin).2
  have := h s.heap false ep es (Heap.SameBut.refl a s.heap) (by rw [addB_old m hm v hv hb]; exact hS)
  cases s
  exact this
 ·rw [e]
  dsimp only
  have hb : m.testBit v = false := by
   cases q : m.testBit v with
   | false => rfl
   | true => exact absurd ((bits_mem m hm v).mpr ⟨hv, q⟩) hin
  have hp := put_led hm hv hb led
  unfold putOk at hp
  simp only [Bool.and_eq_true, decide_eq_true_eq] at hp
  obtain ⟨⟨⟨⟨⟨p1, p2⟩, p3⟩, p4⟩, p5⟩, p6⟩ := hp
  have r' : EsR (bitsOf (addB m v)) (SetTable.insertAt es ((smT m led).put v).2 ((v : Int), Value.int (v : Int) t)).toList := by
   rw [SetTable.toList_insertAt, p3]
   exact r.ins v t _
  have sz' : (SetTable.insertAt es ((smT m led).put v).2 ((v : Int), Value.int (v : Int) t)).size = (bitsOf (addB m v)).length := by
   have := r'.len; rwa [Array.length_toList] at this
  have lay : layNew (smT m led) es (v : Int) (.int (v : Int) t) = (SetTable.insertAt es ((smT m led).put v).2 ((v : Int), Value.int (v : Int) t), ((smT m led).put v).1, false, false) := by
   unfold layNew
   rw [p1]
   dsimp only
   unfold SetTable.orStandIn
   rw [sz', p2]
   rfl
  rw [lay]
  dsimp only
  refine wpAny_bind (wpAny_pure ?_)
  rw [if_pos p4]
  refine wpAny_bind ?_
  rw [hashByValue_scannable 8 (x := .int (v : Int) t) rfl]
  refine wpAny_pure ?_
  dsimp only [plainKind]
  rw [if_pos rfl]
  have z1 : (bitsOf (addB m v)).length <= sizeLine := by have := bits_len (addB m v); rw [sizeLine_eq]; omega
  refine wpAny_bind (wpAny_storeSet_of ho hd ?_ (by rw [sz']; exact z1))
  generalize hes' : SetTable.insertAt es ((smT m led).put v).2 ((v : Int), Value.int (v : Int) t) = es' at r' sz' lay
  have hg : (s.heap.update a (Obj.putSet es' ((smT m led).put v).1)).get? a = some { o with data := .set es' (ep + 1) ((smT m led).put v).1 } := by
   have := Heap.get?_update_self (Obj.putSet es' ((smT m led).put v).1) ho (by rw [putSet_of es' _ hd]; rfl)
   rw [putSet_of es' _ hd] at this; exact this
  have hsb := Heap.SameBut.update s.heap a (Obj.putSet es' ((smT m led).put v).1)
  cases hT : ((smT m led).put v).1.tooFull with
  | true =>
   rw [if_pos hT] at p6
   simp only [Bool.and_eq_true, decide_eq_true_eq] at p6
   obtain ⟨⟨p6, p7⟩, p8⟩ := p6
   have rl : relayAll ((smT m led).put v).1 es' (SetTable.grown es'.size) = (es', smT (addB m v) led, false) := by
    unfold relayAll
    rw [r'.hashes, sz', p6]
    dsimp only
    rw [relay_same es' _ sz'.symm, p7, sz', p8]
    rfl
   rw [rl]
   simp only [Bool.not_false, Bool.true_and, if_true]
   refine wpAny_bind (wpAny_pure ?_)
   refine wpAny_bind (wpAny_storeSet_of (s := { s with heap := s.heap.update a (Obj.putSet es' ((smT m led).put v).1) }) hg rfl ?_ (by rw [sz']; exact z1))
   refine wpAny_pure (wpAny_pure ?_)
   refine h _ true (ep + 1 + 1) es' (hsb.trans (Heap.SameBut.update _ a _)) ⟨p5, { o with data := .set es' (ep + 1 + 1) (smT (addB m v) led) }, ?_, hex, rfl, r'⟩
   have := Heap.get?_update_self (Obj.putSet es' (smT (addB m v) led)) hg (by rw [putSet_of es' _ (show Obj.data { o with data := .set es' (ep + 1) ((smT m led).put v).1 } = _ from rfl)]; rfl)
   rw [putSet_of es' _ (show Obj.data { o with data := .set es' (ep + 1) ((smT m led).put v).1 } = _ from rfl)] at this
   exact this
  | false =>
   rw [if_neg (by rw [hT]; exact Bool.false_ne_true)] at p6
   have p6 := of_decide_eq_true p6
   simp only [Bool.not_false, Bool.true_and, Bool.false_eq_true, if_false]
   refine wpAny_pure (wpAny_pure ?_)
   refine h _ true (ep + 1) es' hsb ⟨p5, _, hg, hex, by rw [p6], r'⟩
end
end L2
namespace L2
open PySem PySem.Spec PyProof.Rows PySem.W PySem.Calls
def addAll (m : Nat) : List Nat -> Nat
 | [] => m
 | v :: r => addAll (addB m v) r
theorem addAll_test : ∀ (l : List Nat) (m k : Nat), (addAll m l).testBit k = true ↔ (m.testBit k = true ∨ k ∈ l)
 | [], m, k => by simp [addAll]
 | v :: r, m, k => by
  rw [addAll, addAll_test r, addB_test, List.mem_cons, Bool.or_eq_true, decide_eq_true_eq]
  constructor
  ·rintro ((h | rfl) | h)
   ·exact .inl h
   ·exact .inr (.inl rfl)
   ·exact .inr (.inr h)
  ·rintro (h | rfl | h)
   ·exact .inl (.inl h)
   ·exact .inl (.inr rfl)
   ·exact .inr h
def btx (w : World) : Bool := w.params.followText "set-order"
section
variable {prog : Program} {w : World} {A : Around} {E : Value -> Shared -> Prop} {s : Shared} {led : Bool}
theorem sm_loop {R : Result -> Shared -> Prop} {I l S : Addr} {items : Array Value} {St : Nat -> Heap -> Prop} (W : Walks prog w A.in1 I [I, l] [I] items.size (fun i v => items[i]? = some v) St) (hS : S ∉ [I, l]) (ns : List Nat)
  (hval : ∀ (i : Nat) (v : Value), items[i]? = some v -> ∃ n t, ns[i]? = some n /\ n < 6 /\ v = .int (n : Int) t) (hl : ns.length = items.size) :
  ∀ (k i : Nat) (s : Shared) (m ep : Nat) (es : Array (Int × Value)), items.size - i = k -> i <= items.size -> St i s.heap -> SmAt led s.heap S m ep es ->
   (∀ h' tk ep' es', (∀ b o, b ≠ S -> b ≠ I -> s.heap.get? b = some o -> h'.get? b = some o) -> SmAt led h' S (addAll m (ns.drop i)) ep' es' -> R (.ok (.ret .none)) { s with heap := h', toks := tk }) ->
   codeAny (model prog w) A (.builtin "set.update.loop" ⟨[.ref S, .ref I], []⟩) R s := by
 have nI : S ≠ I := fun z => hS (z ▸ List.mem_cons_self)
 intro k
 induction k with
 | zero =>
  intro i s m ep es hk hi st hm hR
  have e : i = items.size := by omega
  subst e
  refine codeAny_builtin PyProof.Rows.F.entry_set_update_loop ?_
  rw [Around.under_plainId PyProof.Rows.F.plain_set_update_loop _]
  show wpAny _ A.in1 (pyNext (.ref I) >>= _) _ _ s
  refine wpAny_bind (W.done s _ _ st fun h' tk hk => ?_)
  refine wpAny_pure (hR h' tk ep es (fun b o _ hb q => hk b o (by simpa using hb) q) ?_)
  rw [List.drop_of_length_le (by omega)]
  exact hm.keep fun o q => hk S o (by simpa using nI) q
 | succ k ih =>
  intro i s m ep es hk hi st hm hR
  have hlt : i < items.size := by omega
  refine codeAny_builtin PyProof.Rows.F.entry_set_update_loop ?_
  rw [Around.under_plainId PyProof.Rows.F.plain_set_update_loop _]
  show wpAny _ A.in1 (pyNext (.ref I) >>= _) _ _ s
  refine wpAny_bind (W.item i s _ _ hlt st fun v h1 tk hv st1 k1 => ?_)
  obtain ⟨n, t, hn, h6, rfl⟩ := hval i v hv
  have hm1 : SmAt led h1 S m ep es := hm.keep fun o q => k1 S o (by simpa using nI) q
  show wpAny _ A.in1 (holding [Value.int (n : Int) t] (setAdd S (.int (n : Int) t)) >>= _) _ _ _
  refine wpAny_bind (wpAny_holding ?_)
  unfold setAdd
  refine wpAny_holding (wpAny_bind ((intKind prog w).pyHash (k := (n : Int)) (intKind_is _ _ _ _) ?_))
  have hh : (intKind prog w).hash (n : Int) = (n : Int) := hash_small n h6
  rw [hh]
  refine sm_add (s := { s with heap := h1, toks := tk + 1 }) hm1 h6 fun h2 b ep2 es2 sb hm2 => ?_
  refine wpAny_pure ⟨plainId_quiet PyProof.Rows.F.plain_set_update_loop _, ih (i + 1) _ _ ep2 es2 (by omega) hlt (W.frame _ h1 _ st1 fun b hb o q => ?_) hm2 fun h3 tk3 ep3 es3 k3 hm3 => ?_⟩
  ·exact (sb.2 b (fun z => hS (z ▸ hb))).trans q
  ·refine hR h3 tk3 ep3 es3 (fun b o hb hb' q => k3 b o hb hb' ((sb.2 b hb).trans (k1 b o (by simpa using hb') q))) ?_
   have e : ns.drop i = n :: ns.drop (i + 1) := by
    obtain ⟨h5, e5⟩ := List.getElem?_eq_some_iff.mp hn
    rw [List.drop_eq_getElem_cons h5, e5]
   rw [e]; exact hm3
theorem sm_new (a : Value) {Q₁ : Value -> Shared -> Prop} (h : Q₁ (.ref s.heap.objs.size) { s with heap := s.heap.push { cls := .type "set", dict := none, data := .set #[] 0 (.fresh 0 0 (!btx w)) } }) :
  codeAny (model prog w) A (.call (.builtin "set.__new__") ⟨[.type "set", a], []⟩) (wants Q₁ E) s := by
 refine codeAny_of_tree (show wpAny _ A.in1 (do checkBuiltinCall "set.__new__" ⟨[.type "set", a], []⟩; again (.builtin "set.__new__" ⟨[.type "set", a], []⟩)) _ _ s from ?_)
 refine wpAny_bind (wpAny_of_eq (PySem.F.newCall_set_1 a) (wpAny_pure ⟨plainId_quiet PySem.F.plain_set_new _, codeAny_builtin PySem.F.entry_set_new ?_⟩))
 rw [Around.under_plainId PySem.F.plain_set_new _]
 unfold Builtin.«set.__new__» Builtin.Frozenset.newClass
 have hsub := sub_set_self
 obtain ⟨hp, g, d, tk, os⟩ := s
 dsimp only
 wp_walk
 refine wpAny_askSetting (wpAny_pure ?_)
 dsimp only
 simp only [newObj]
 exact wpAny_bind (wpAny_alloc (wpAny_pure (wpAny_pure h)))
end
end L2
namespace L2
open PySem PySem.Spec PyProof.Rows PySem.W PySem.Calls
section
variable {prog : Program} {w : World} {A : Around} {E : Value -> Shared -> Prop} {s : Shared}
abbrev newS (w : World) : Obj := { cls := .type "set", dict := none, data := .set #[] 0 (.fresh 0 0 (!btx w)) }
theorem sm_call {l : Addr} {items : Array Value} {ns : List Nat} {Q : Value -> Shared -> Prop} (hh : A.handled = none) (hl : s.heap.IsList l items) (hi : IntsAre items.toList (ns.map fun (n : Nat) => (n : Int))) (h6 : ∀ n ∈ ns, n < 6)
  (h : ∀ h' tk ep es, SmAt (!btx w) h' s.heap.objs.size (addAll 0 ns) ep es -> (∀ b o, b < s.heap.objs.size -> s.heap.get? b = some o -> h'.get? b = some o) -> Q (.ref s.heap.objs.size) { s with heap := h', toks := tk }) :
  wpAny (model prog w) A (call (.type "set") [.ref l]) Q E s := by
 have cs := PySem.F.called_set
 obtain ⟨c0, tl0, hmro⟩ := cs.mro
 have hmade := cs.made
 have hsub := cs.sub
 refine wpAny_call (codeAny_of_tree (show wpAny _ _ (callAny (.type "set") _) _ _ _ from wpAny_pure ⟨Code.quiet_builtin _ (by decide +kernel), codeAny_builtin PySem.F.entry_type_call ?_⟩))
 rw [Around.under_plain (weight_type_call_type "set" [.ref l] []) rfl]
 have n1 := cs.notType
 have n2 := cs.canCreate
 have n3 := PySem.F.typeCall_set_1 (.ref l)
 repeat (any_goals (first | assumption | wp_step))
 have lens : ns.length = items.size := by
  have := IntsAre.length hi
  rw [List.length_map, Array.length_toList] at this
  exact this.symm
 have at1 : (s.heap.push (newS w)).get? s.heap.objs.size = some (newS w) := Heap.get?_push_size _ rfl
 refine codeAny_mono (sm_new (.ref l) (E := E) (Q₁ := fun r s1 => r = .ref s.heap.objs.size /\ s1 = { s with heap := s.heap.push (newS w) }) ⟨rfl, rfl⟩) fun r s1 hr => ?_
 cases r with
 | error e => exact hr
 | ok fl =>
  cases fl with
  | next => exact hr.elim
  | brk => exact hr.elim
  | cont => exact hr.elim
  | ret obj =>
   obtain ⟨rfl, rfl⟩ := hr
   have ty : Shared.TypeIs { s with heap := s.heap.push (newS w) } (.ref s.heap.objs.size) "set" := ⟨_, at1, rfl⟩
   have b1 := cs.init.lookup
   have b2 := cs.init.bind (.ref s.heap.objs.size)
   repeat (any_goals (first | assumption | wp_step))
   refine codeAny_mono (codeAny_call_builtin (R := wants (fun r s2 => r = .none /\ ∃ h' tk ep es, s2 = { s with heap := h', toks := tk } /\ SmAt (!btx w) h' s.heap.objs.size (addAll 0 ns) ep es /\ (∀ b o, b < s.heap.objs.size -> s.heap.get? b = some o -> h'.get? b = some o)) E) cs.init.plain PySem.F.entry_set_init (check_set_init_1 ty ?_)) fun r2 s2 hr2 => ?_
   ·obtain ⟨ol, hol, hcl, nl, hdl⟩ := id hl
    obtain ⟨ocls, odict, odata, oslots⟩ := ol
    simp only at hcl hdl
    subst hcl hdl
    have old1 : (s.heap.push (newS w)).get? l = some { cls := .type "list", dict := odict, data := .seq items nl, slots := oslots } := Heap.get?_push_of_some _ hol
    have f1 := PySem.F.sub_list_set
    have f2 := PySem.F.sub_list_frozenset
    have f3 : (Value.type "list" == Value.type "dict") = false := by decide
    have hl1 : (s.heap.push (newS w)).IsList l items := ⟨_, old1, rfl, nl, rfl⟩
    unfold Builtin.«set.__init__» noKeywords Builtin.Frozenset.updateFrom
    generalize hPI : pyIter = PI
    wp_walk
    subst hPI
    refine wpAny_pyIter_list hl1 (wpAny_bind (wpAny_runValue ?_))
    have ltl : l < s.heap.objs.size := Heap.lt_size hol
    have szp : (s.heap.push (newS w)).objs.size = s.heap.objs.size + 1 := Heap.size_push ..
    have nd1 : l ≠ (s.heap.push (newS w)).objs.size := fun z => Nat.lt_irrefl _ (Nat.lt_trans ltl (by rw [z, szp]; exact Nat.lt_succ_self _))
    have nd2 : s.heap.objs.size ∉ [(s.heap.push (newS w)).objs.size, l] := by
     rw [szp, List.mem_cons, List.mem_singleton]
     rintro (z | z)
     ·exact Nat.lt_irrefl _ (Nat.lt_of_lt_of_eq (Nat.lt_succ_self _) z.symm)
     ·exact Nat.lt_irrefl _ (z ▸ ltl)
    refine sm_loop (Walks.list (by simpa using hh) _ l nd1 items) nd2 ns (fun i v hv => ?_) lens _ 0 _ 0 0 #[] rfl (Nat.zero_le _) ⟨⟨_, Heap.get?_push_size _ rfl, rfl, rfl⟩, hl1.push _⟩ ⟨by decide, _, Heap.get?_push_of_some _ at1, ⟨rfl, rfl, rfl⟩, by rw [← sm_fresh], .nil⟩ fun h' tk ep es kp hm => ?_
    ·obtain ⟨t, e⟩ := IntsAre.int_at hi i v (by rw [Array.getElem?_toList]; exact hv)
     have hi' : i < ns.length := by rw [lens]; exact (Array.getElem?_eq_some_iff.mp hv).1
     refine ⟨ns[i], t, List.getElem?_eq_getElem hi', h6 _ (List.getElem_mem hi'), ?_⟩
     rw [e, List.getD_eq_getElem?_getD, List.getElem?_map, List.getElem?_eq_getElem hi']; rfl
    ·show wpAny _ _ _ _ _ _
     refine wpAny_pure (show wpAny _ _ (ret Value.none) _ _ _ from wpAny_pure ⟨rfl, h', tk, ep, es, rfl, hm, fun b o hb q => kp b o (Nat.ne_of_lt hb) (by rw [szp]; exact Nat.ne_of_lt (Nat.lt_succ_of_lt hb)) (Heap.get?_push_of_some _ (Heap.get?_push_of_some _ q))⟩)
   ·cases r2 with
    | error e => exact hr2
    | ok fl2 =>
     cases fl2 with
     | next => exact hr2.elim
     | brk => exact hr2.elim
     | cont => exact hr2.elim
     | ret r =>
      obtain ⟨rfl, h', tk, ep, es, rfl, hm, kp⟩ := hr2
      repeat (any_goals (first | assumption | wp_step))
      exact h h' tk ep es hm kp
end
end L2
namespace L2
open PySem PySem.Spec PyProof.Rows PySem.W PySem.Calls
theorem ent_set_iter : entryFor table "set.__iter__" = some Builtin.«frozenset.__iter__» := entryFor_alias (id' := "frozenset.__iter__") (by kernel_rfl) rfl (by decide +kernel) (by kernel_rfl)
theorem own_si : Manifest.owners.lookup (String.ofList ['r', 'o', 't', 'a', 'r', 'e', 't', 'i', '_', 't', 'e', 's'].reverse) = some Manifest.sig_set_iterator := by kernel_rfl
theorem slot_si_next : Slot "set_iterator" "__next__" "set_iterator.__next__" := .of (owner := "set_iterator") (n := "__next__") (by rw [typeLookup_type, builtinLookup_eq_fast]; kernel_rfl) (by decide +kernel) (by decide +kernel) (by decide +kernel) (.inl (by decide +kernel)) (by rw [isSubtype_type]; kernel_rfl)
theorem ent_si_next : entryFor table "set_iterator.__next__" = some Builtin.«set_iterator.__next__» := entryFor_of_tree (by kernel_rfl)
theorem args_si_next (a : Value) : argsOk "set_iterator.__next__" ⟨[a], []⟩ := by
 unfold argsOk; rw [signature?_of (id := "set_iterator.__next__") (n := ['_', '_', 't', 'x', 'e', 'n', '_', '_']) (o := ['r', 'o', 't', 'a', 'r', 'e', 't', 'i', '_', 't', 'e', 's']) (by kernel_rfl) own_si]; kernel_rfl
theorem slot_si_iter : Slot "set_iterator" "__iter__" "set_iterator.__iter__" := .of (owner := "set_iterator") (n := "__iter__") (by rw [typeLookup_type, builtinLookup_eq_fast]; kernel_rfl) (by decide +kernel) (by decide +kernel) (by decide +kernel) (.inl (by decide +kernel)) (by rw [isSubtype_type]; kernel_rfl)
theorem ent_si_iter : entryFor table "set_iterator.__iter__" = some Builtin.«dict_keyiterator.__iter__» := entryFor_alias (id' := "dict_keyiterator.__iter__") (by kernel_rfl) rfl (by decide +kernel) (by kernel_rfl)
theorem args_si_iter (a : Value) : argsOk "set_iterator.__iter__" ⟨[a], []⟩ := by
 unfold argsOk; rw [signature?_of (id := "set_iterator.__iter__") (n := ['_', '_', 'r', 'e', 't', 'i', '_', '_']) (o := ['r', 'o', 't', 'a', 'r', 'e', 't', 'i', '_', 't', 'e', 's']) (by kernel_rfl) own_si]; kernel_rfl
def SetIt (h : Heap) (it a : Addr) (i slot n ep : Nat) : Prop := ∃ o, h.get? it = some o /\ o.cls = .type "set_iterator" /\ o.data = .fields #[.int slot 0, .int i 0, .ref a, .int n 0, .int ep 0]
theorem SetIt.at {h h' : Heap} {it a : Addr} {i slot n ep : Nat} (x : SetIt h it a i slot n ep) (k : ∀ o, h.get? it = some o -> h'.get? it = some o) : SetIt h' it a i slot n ep := let ⟨o, e, r⟩ := x; ⟨o, k o e, r⟩
theorem SetIt.ty {s : Shared} {it a : Addr} {i slot n ep : Nat} (x : SetIt s.heap it a i slot n ep) : s.TypeIs (.ref it) "set_iterator" := let ⟨o, e, c, _⟩ := x; ⟨o, e, c⟩
def ordE (w : World) (a : Addr) (ep : Nat) (es : Array (Int × Value)) : Array (Int × Value) := if btx w = true then pickOrder (w.params.setOrder a ep) es else es
def slotW (w : World) (m i : Nat) : Nat := if btx w = true then 0 else slotAt m i
section
variable {prog : Program} {w : World} {A : Around} {E : Value -> Shared -> Prop} {s : Shared} {a it : Addr} {m ep i : Nat} {es : Array (Int × Value)}
theorem sm_state (hS : SmAt (!btx w) s.heap a m ep es) {Q : (Array (Int × Value) × Nat × SetTable) -> Shared -> Prop} (h : Q (es, ep, smT m (!btx w)) s) : wpAny (model prog w) A (setState a) Q E s := by
 obtain ⟨hm, o, ho, hex, hd, r⟩ := id hS
 exact wpAny_setState_of ho hd (fits_led hm _ hS.size) h
theorem sm_entries (hS : SmAt (!btx w) s.heap a m ep es) {Q : Array (Int × Value) -> Shared -> Prop} (h : Q es s) : wpAny (model prog w) A (setEntries a) Q E s := by
 unfold setEntries; exact wpAny_bind (sm_state hS (wpAny_pure h))
theorem sm_byText {Q : Bool -> Shared -> Prop} (h : Q (btx w) s) : wpAny (model prog w) A setsByText Q E s := by
 unfold setsByText; exact wpAny_bind (wpAny_askSetting (wpAny_pure h))
theorem sm_drawn (hS : SmAt (!btx w) s.heap a m ep es) {Q : Bool -> Shared -> Prop} (h : Q false s) : wpAny (model prog w) A (setDrawn a) Q E s := by
 unfold setDrawn
 refine wpAny_bind (sm_state hS (wpAny_bind (sm_byText (wpAny_pure ?_))))
 have e : (!btx w && (!(smT m (!btx w)).plain && decide (es.size > 1))) = false := by
  show (!btx w && (!true && _)) = false
  simp
 exact e ▸ h
theorem sm_iter {Q : Value -> Shared -> Prop} (hS : SmAt (!btx w) s.heap a m ep es)
  (hQ : Q (.ref s.heap.objs.size) { s with heap := s.heap.push { cls := .type "set_iterator", data := .fields #[.int (0 : Nat) 0, .int (0 : Nat) 0, .ref a, .int es.size 0, .int ep 0] } }) : wpAny (model prog w) A (pyIter (.ref a)) Q E s := by
 refine wpAny_pyIter_slot hS.ty PySem.F.slot_set_iter (wpAny_call_entry PySem.F.slot_set_iter hS.ty ent_set_iter ?_ (PySem.F.args_set_iter_1 _))
 unfold Builtin.«frozenset.__iter__»
 refine wpAny_bind ?_
 show wpAny _ _ (pure a) _ _ s
 refine wpAny_pure (wpAny_bind ?_)
 unfold Builtin.Frozenset.sizeOf
 refine wpAny_bind (sm_entries hS (wpAny_pure (wpAny_bind (sm_drawn hS ?_))))
 rw [if_neg Bool.false_ne_true]
 refine wpAny_bind (wpAny_pure (wpAny_bind ?_))
 unfold setEpoch
 refine wpAny_bind (sm_state hS (wpAny_pure ?_))
 refine wpAny_bind (wpAny_newObj_type (wpAny_pure ⟨_, rfl, "set_iterator", _, ⟨_, Heap.get?_push_size _ rfl, rfl⟩, slot_si_next.lookup, ?_⟩))
 simpa [rawInt] using hQ
end
end L2
namespace L2
open PySem PySem.Spec PyProof.Rows PySem.W PySem.Calls
theorem pick_perm {α : Type} (next : Nat -> Nat) : ∀ (fuel k : Nat) (left : List α) (out : Array α), left.length = fuel -> (pickOrder.go next fuel k left out).toList.Perm (out.toList ++ left)
 | 0, k, left, out, h => by
  cases left with
  | nil => simp [pickOrder.go]
  | cons => cases h
 | fuel + 1, k, left, out, h => by
  unfold pickOrder.go
  have hlt : next k % left.length < left.length := Nat.mod_lt _ (by omega)
  rw [List.getElem?_eq_getElem hlt]
  refine (pick_perm next fuel (k + 1) _ _ (by rw [List.length_eraseIdx_of_lt hlt]; omega)).trans ?_
  rw [Array.toList_push, List.append_assoc]
  refine List.Perm.append_left _ ?_
  rw [List.eraseIdx_eq_take_drop_succ]
  have e : left = left.take (next k % left.length) ++ left[next k % left.length] :: left.drop (next k % left.length + 1) := by
   rw [← List.drop_eq_getElem_cons hlt, List.take_append_drop]
  conv => rhs; rw [e]
  rw [List.singleton_append]
  exact List.perm_middle.symm
theorem ordE_perm (w : World) (a : Addr) (ep : Nat) (es : Array (Int × Value)) : (ordE w a ep es).toList.Perm es.toList := by
 unfold ordE
 split
 ·have := pick_perm (w.params.setOrder a ep) es.size 0 es.toList #[] (by simp)
  unfold pickOrder
  simpa using this
 ·exact .rfl
theorem ordE_size (w : World) (a : Addr) (ep : Nat) (es : Array (Int × Value)) : (ordE w a ep es).size = es.size := by
 have := (ordE_perm w a ep es).length_eq
 simpa using this
section
variable {prog : Program} {w : World} {A : Around} {E : Value -> Shared -> Prop} {s : Shared} {a it : Addr} {m ep i : Nat} {es : Array (Int × Value)}
theorem sm_next {Q : Option (Value × Nat) -> Shared -> Prop} (hS : SmAt (!btx w) s.heap a m ep es) (hi : i <= es.size) (h : Q (((ordE w a ep es)[i]?).map fun e => (e.2, slotW w m (i + 1))) s) : wpAny (model prog w) A (setNext a (slotW w m i) i ep) Q E s := by
 unfold setNext
 refine wpAny_bind (sm_state hS ?_)
 dsimp only
 refine wpAny_bind (sm_byText ?_)
 cases hb : btx w with
 | true =>
  rw [if_pos rfl]
  rw [if_neg (by simp)]
  unfold setWalk
  refine wpAny_bind (wpAny_bind (sm_state hS ?_))
  dsimp only
  refine wpAny_bind (sm_byText ?_)
  rw [hb, if_pos rfl]
  refine wpAny_bind (wpAny_askSetting (wpAny_pure (wpAny_pure ?_)))
  have e : ordE w a ep es = pickOrder (w.params.setOrder a ep) es := by unfold ordE; rw [if_pos hb]
  have e2 : ∀ j, slotW w m j = 0 := fun j => by unfold slotW; rw [if_pos hb]
  rw [e] at h
  rw [e2] at h
  rw [e2]
  exact h
 | false =>
  rw [if_neg Bool.false_ne_true]
  have e : ordE w a ep es = es := by unfold ordE; rw [if_neg (by rw [hb]; exact Bool.false_ne_true)]
  have e2 : ∀ j, slotW w m j = slotAt m j := fun j => by unfold slotW; rw [if_neg (by rw [hb]; exact Bool.false_ne_true)]
  rw [e] at h
  rw [e2] at h ⊢
  have hT : (smT m (!false)).plain = true := rfl
  show wpAny _ _ (if (!true && decide (es.size > 1)) = true then _ else _) _ _ _
  rw [Bool.not_true, Bool.false_and, if_neg Bool.false_ne_true]
  refine wpAny_bind ?_
  show wpAny _ _ (if (!true && !es.isEmpty) = true then _ else _) _ _ _
  rw [Bool.not_true, Bool.false_and, if_neg Bool.false_ne_true]
  refine wpAny_pure (wpAny_pure ?_)
  obtain ⟨hm, o, ho, hex, hd, r⟩ := id hS
  have sz := hS.size
  have wk := walk_ok m hm i (by omega)
  show Q (match es[SetTable.below (bitsOf m).toArray (slotAt m i)]?, (bitsOf m).toArray[SetTable.below (bitsOf m).toArray (slotAt m i)]? with
   | some (_, x), some j => some (x, j + 1)
   | _, _ => none) s
  rw [wk]
  by_cases hl : i < es.size
  ·have h2 : i < (bitsOf m).length := by omega
   have e3 : es[i]? = some es[i] := Array.getElem?_eq_getElem hl
   have e4 : (bitsOf m).toArray[i]? = some (bitsOf m)[i] := by rw [List.getElem?_toArray, List.getElem?_eq_getElem h2]
   rw [e3] at h
   rw [e3, e4]
   have e5 : slotAt m (i + 1) = (bitsOf m)[i] + 1 := by
    show (bitsOf m).getD i 0 + 1 = _
    rw [List.getD_eq_getElem?_getD, List.getElem?_eq_getElem h2]; rfl
   rw [e5] at h
   exact h
  ·have e3 : es[i]? = none := Array.getElem?_eq_none (by omega)
   rw [e3] at h
   rw [e3]
   exact h
theorem sm_item {e : Int × Value} {Q : Option Value -> Shared -> Prop} (hit : SetIt s.heap it a i (slotW w m i) es.size ep) (hS : SmAt (!btx w) s.heap a m ep es) (hx : (ordE w a ep es)[i]? = some e)
  (hQ : ∀ h', SetIt h' it a (i + 1) (slotW w m (i + 1)) es.size ep -> Heap.SameBut it s.heap h' -> Q (some e.2) { s with heap := h' }) : wpAny (model prog w) A (pyNext (.ref it)) Q E s := by
 obtain ⟨o, ho, hc, hd⟩ := id hit
 have hi : i < es.size := by
  have := (Array.getElem?_eq_some_iff.mp hx).1
  rwa [ordE_size] at this
 unfold pyNext
 refine wpAny_bind (wpAny_attempt (wpAny_callSpecial?_slot (name := Str.ofString "__next__") hit.ty slot_si_next (wpAny_call_entry slot_si_next hit.ty ent_si_next ?_ (args_si_next _))))
 unfold Builtin.«set_iterator.__next__»
 refine wpAny_bind (wpAny_pure ?_)
 refine wpAny_bind (wpAny_fieldsOf ho hd ?_)
 dsimp only
 refine wpAny_bind (sm_entries hS ?_)
 rw [if_neg (by simp)]
 rw [Int.toNat_natCast, Int.toNat_natCast, Int.toNat_natCast]
 refine wpAny_bind (sm_next hS (Nat.le_of_lt hi) ?_)
 rw [hx]
 dsimp only [Option.map_some]
 refine wpAny_bind (wpAny_setField ho hd (by simp) ?_)
 have o2 := Heap.get?_update_self (Obj.mapFields (·.setIfInBounds 0 (rawInt ((slotW w m (i + 1) : Nat) : Int)))) ho (Obj.isFreed_of_fields (Obj.data_mapFields hd _))
 refine wpAny_bind (wpAny_setField (s := { s with heap := s.heap.update it (Obj.mapFields (·.setIfInBounds 0 (rawInt ((slotW w m (i + 1) : Nat) : Int)))) }) o2 (Obj.data_mapFields hd _) (by simp) ?_)
 refine wpAny_pure ⟨_, rfl, wpAny_pure (hQ _ ⟨_, Heap.get?_update_self _ o2 (Obj.isFreed_of_fields (Obj.data_mapFields (Obj.data_mapFields hd _) _)), ?_, ?_⟩ ((Heap.SameBut.update ..).trans (Heap.SameBut.update ..)))⟩
 ·rw [Obj.cls_mapFields, Obj.cls_mapFields]; exact hc
 ·rw [Obj.data_mapFields (Obj.data_mapFields hd _) _]; simp [rawInt]
end
end L2
namespace L2
open PySem PySem.Spec PyProof.Rows PySem.W PySem.Calls
section
variable {prog : Program} {w : World} {A : Around} {E : Value -> Shared -> Prop} {s : Shared} {a it : Addr} {m ep i : Nat} {es : Array (Int × Value)}
theorem sm_end {Q : Option Value -> Shared -> Prop} (hh : A.handled = none) (hit : SetIt s.heap it a es.size (slotW w m es.size) es.size ep) (hS : SmAt (!btx w) s.heap a m ep es)
  (hQ : ∀ h', Heap.ExtBut it s.heap h' -> Q none { s with heap := h' }) : wpAny (model prog w) A (pyNext (.ref it)) Q E s := by
 obtain ⟨o, ho, hc, hd⟩ := id hit
 unfold pyNext
 refine wpAny_bind (wpAny_attempt (wpAny_callSpecial?_slot (name := Str.ofString "__next__") hit.ty slot_si_next (wpAny_call_entry slot_si_next hit.ty ent_si_next ?_ (args_si_next _))))
 unfold Builtin.«set_iterator.__next__»
 refine wpAny_bind (wpAny_pure ?_)
 refine wpAny_bind (wpAny_fieldsOf ho hd ?_)
 dsimp only
 refine wpAny_bind (sm_entries hS ?_)
 rw [if_neg (by simp)]
 rw [Int.toNat_natCast, Int.toNat_natCast, Int.toNat_natCast]
 refine wpAny_bind (sm_next hS (Nat.le_refl _) ?_)
 rw [show (ordE w a ep es)[es.size]? = none from Array.getElem?_eq_none (by rw [ordE_size]; exact Nat.le_refl _)]
 dsimp only [Option.map_none]
 refine wpAny_bind (wpAny_setField ho hd (by simp) ?_)
 show wpAny _ _ (newExc (.type "StopIteration") [] >>= _) _ _ _
 refine wpAny_bind ?_
 simp only [newExc, newTuple]
 refine wpAny_bind (wpAny_newObj_type ?_ (by size_fits))
 refine wpAny_bind (m := firstArgMember _ _) (wpAny_of_eq (a := Value.none) (by first | rfl | (simp only [firstArgMember]; rfl)) ?_)
 refine wpAny_newObj_type ?_ (by size_fits)
 simp only [raiseNew]
 refine wpAny_bind (wpAny_handled ?_)
 rw [show A.in1.handled = none from hh]
 refine wpAny_bind (wpAny_pure (wpAny_throw ?_))
 refine wpAny_bind (wpAny_isInstance (T := "StopIteration") (b := true) ⟨_, Heap.get?_push_size _ rfl, rfl⟩ isSubtype_stop ?_)
 exact wpAny_pure (hQ _ (((Heap.SameBut.update ..).extBut.push _).push _))
theorem sm_self {Q : Value -> Shared -> Prop} {sl n : Nat} (hit : SetIt s.heap it a i sl n ep) (h : Q (.ref it) s) : wpAny (model prog w) A (pyIter (.ref it)) Q E s := by
 refine wpAny_pyIter_slot hit.ty slot_si_iter (wpAny_call_entry slot_si_iter hit.ty ent_si_iter (show wpAny _ _ (ret (.ref it)) _ _ s from ?_) (args_si_iter _))
 exact wpAny_pure ⟨_, rfl, "set_iterator", _, hit.ty, slot_si_next.lookup, h⟩
theorem sm_walks (hh : A.handled = none) (I : Addr) (hne : a ≠ I) : Walks prog w A I [I, a] [I] es.size (fun i v => ((ordE w a ep es)[i]?).map (·.2) = some v) (fun i h => SetIt h I a i (slotW w m i) es.size ep /\ SmAt (!btx w) h a m ep es) where
 sub := fun b hb => by simp at hb; simp [hb]
 frame := fun _ _ _ st hk => ⟨st.1.at fun o e => hk I (by simp) o e, st.2.keep fun o e => hk a (by simp) o e⟩
 item := fun i s Q E hi st hQ => by
  have hi' : i < (ordE w a ep es).size := by rw [ordE_size]; exact hi
  have hx : (ordE w a ep es)[i]? = some (ordE w a ep es)[i] := Array.getElem?_eq_getElem hi'
  refine sm_item st.1 st.2 hx fun h' hit' hs' => ?_
  exact hQ _ h' s.toks (by rw [hx]; rfl) ⟨hit', st.2.keep fun o e => hs'.extBut a o hne e⟩ fun b o hb e => hs'.extBut b o (fun h => hb (by simp [h])) e
 done := fun s Q E st hQ => sm_end hh st.1 st.2 fun h' he' => hQ h' s.toks fun b o hb e => he' b o (fun h => hb (by simp [h])) e
 self := fun _ _ _ _ st hQ => sm_self st.1 hQ
theorem sm_hint {Q : Bool -> Shared -> Prop} (hT : s.TypeIs (.ref a) "set") (h : Q false s) : wpAny (model prog w) A (Builtin.List.listLengthHint (.ref a)) Q E s := by
 unfold Builtin.List.listLengthHint
 refine wpAny_bind (wpAny_specialOf hT PySem.F.slot_set_len.lookup ?_)
 generalize hid : ("set.__len__" : String) = id0
 wp_delta
 rw [show splitId id0 = some ("set", "__len__") from by subst hid; decide +kernel]
 subst hid
 refine wpAny_bind (wpAny_isInstance (T := "set") (b := true) hT sub_set_self ?_)
 refine wpAny_ite_split (fun hab => absurd hab (by decide)) (fun _ => ?_)
 refine wpAny_ite_split (fun _ => ?_) (fun hab => absurd (by decide +kernel) hab)
 exact wpAny_bind (wpAny_typeOf hT (wpAny_pure h))
theorem sm_src : KdlSrc prog w "set" a a es.size (fun i v => ((ordE w a ep es)[i]?).map (·.2) = some v) (fun h => SmAt (!btx w) h a m ep es) where
 type := fun _ hm => hm.ty
 there := fun _ hm => ⟨hm.lt, hm.lt⟩
 keep := fun _ _ hm hk => hm.keep fun o e => hk a (.inl rfl) o e
 notList := by decide
 notTuple := by decide
 hint := fun _ _ _ _ hm hq => sm_hint hm.ty hq
 iter := fun _ s hh hm => ⟨_, _, (fun _ _ hq => sm_iter hm hq), sm_walks hh _ (Nat.ne_of_lt hm.lt), ⟨⟨_, Heap.get?_push_size _ rfl, rfl, by unfold slotW; split <;> rfl⟩, hm.keep fun o e => Heap.get?_push_of_some _ e⟩⟩
end
end L2
namespace L2
open PySem PySem.Spec PyProof.Rows PySem.W PySem.Calls
def insI (a : Int) : List Int -> List Int
 | [] => [a]
 | b :: r => if a <= b then a :: b :: r else b :: insI a r
def isort : List Int -> List Int
 | [] => []
 | a :: r => insI a (isort r)
theorem insI_perm (a : Int) : ∀ l : List Int, (insI a l).Perm (a :: l)
 | [] => .rfl
 | b :: r => by
  unfold insI
  split
  ·exact .rfl
  ·exact ((insI_perm a r).cons b).trans (List.Perm.swap a b r)
theorem isort_perm : ∀ l : List Int, (isort l).Perm l
 | [] => .rfl
 | a :: r => (insI_perm a (isort r)).trans ((isort_perm r).cons a)
theorem insI_up (a : Int) : ∀ l : List Int, l.Pairwise (· <= ·) -> (insI a l).Pairwise (· <= ·)
 | [], _ => by simp [insI]
 | b :: r, h => by
  obtain ⟨h1, h2⟩ := List.pairwise_cons.mp h
  unfold insI
  split
  ·rename_i hab
   exact List.pairwise_cons.mpr ⟨fun x hx => by rcases List.mem_cons.mp hx with rfl | hx; exact hab; exact Int.le_trans hab (h1 x hx), h⟩
  ·rename_i hab
   exact List.pairwise_cons.mpr ⟨fun x hx => by rcases List.mem_cons.mp ((insI_perm a r).mem_iff.mp hx) with rfl | hx; omega; exact h1 x hx, insI_up a r h2⟩
theorem isort_up : ∀ l : List Int, (isort l).Pairwise (· <= ·)
 | [] => List.Pairwise.nil
 | a :: r => insI_up a _ (isort_up r)
theorem up_unique : ∀ {l m : List Int}, l.Perm m -> l.Pairwise (· <= ·) -> m.Pairwise (· <= ·) -> l = m
 | [], m, p, _, _ => (List.nil_perm.mp p).symm
 | a :: l, [], p, _, _ => absurd p.length_eq (by simp)
 | a :: l, b :: m, p, h, k => by
  obtain ⟨h1, h2⟩ := List.pairwise_cons.mp h
  obtain ⟨k1, k2⟩ := List.pairwise_cons.mp k
  have e : a = b := by
   have ha : a ∈ b :: m := p.mem_iff.mp List.mem_cons_self
   have hb : b ∈ a :: l := p.mem_iff.mpr List.mem_cons_self
   rcases List.mem_cons.mp ha with z | z
   ·exact z
   ·rcases List.mem_cons.mp hb with y | y
    ·exact y.symm
    ·exact Int.le_antisymm (h1 b y) (k1 a z)
  subst e
  rw [up_unique (List.Perm.cons_inv p) h2 k2]
theorem isort_len (l : List Int) : (isort l).length = l.length := (isort_perm l).length_eq
theorem isort_congr {l m : List Int} (p : l.Perm m) : isort l = isort m := up_unique ((isort_perm l).trans (p.trans (isort_perm m).symm)) (isort_up l) (isort_up m)
theorem isort_of {l : List Int} (h : l.Pairwise (· <= ·)) : isort l = l := up_unique (isort_perm l) (isort_up l) h
def ltN (ns : List Int) : Nat -> Nat -> Bool := fun i j => decide (ns.getD i 0 < ns.getD j 0)
theorem intsAre_getD {vs : List Value} {ns : List Int} (h : IntsAre vs ns) {i : Nat} (hi : i < vs.length) : ∃ t, vs.getD i Value.none = .int (ns.getD i 0) t := by
 obtain ⟨t, e⟩ := IntsAre.int_at h i _ (List.getElem?_eq_getElem hi)
 exact ⟨t, by rw [List.getD_eq_getElem?_getD, List.getElem?_eq_getElem hi]; exact e⟩
theorem asks_I {prog : Program} {w : World} {A : Around} {s : Shared} {vs : List Value} {ns : List Int} (h : IntsAre vs ns) : Asks prog w A oneType' vs (ltN ns) s := by
 refine ⟨fun h2 Q hq => ?_, fun i j hi hj C hC => ?_⟩
 ·rw [ksk_kind (kz := ns) (by simpa using h) (by simpa using h2)]
  exact wpAny_pure hq
 ·unfold kas_ask
  obtain ⟨t, e⟩ := intsAre_getD h hi
  obtain ⟨u, e'⟩ := intsAre_getD h hj
  rw [e, e']
  exact kat_lt_int hC
theorem ints_of_all : ∀ {vs : List Value} {ns : List Int}, vs.length = ns.length -> (∀ i, i < vs.length -> ∃ t, vs.getD i Value.none = .int (ns.getD i 0) t) -> IntsAre vs ns
 | [], [], _, _ => .nil
 | [], _ :: _, h, _ => by cases h
 | _ :: _, [], h, _ => by cases h
 | v :: vs, n :: ns, h, k => by
  obtain ⟨t, e⟩ := k 0 (by simp)
  have e : v = .int n t := e
  subst e
  exact .cons n t (ints_of_all (by simpa using h) fun i hi => k (i + 1) (by simpa using hi))
theorem out_I {vs : List Value} {ns : List Int} (h : IntsAre vs ns) : IntsAre (outK (ltN ns) vs) (isort ns) := by
 have hl := IntsAre.length h
 unfold outK
 split
 ·rename_i h2
  have e : isort ns = ns := by
   apply isort_of
   cases ns with
   | nil => exact List.Pairwise.nil
   | cons a r =>
    cases r with
    | nil => exact List.pairwise_singleton _ _
    | cons b t => rw [hl] at h2; exact absurd h2 (by simp)
  rw [e]; exact h
 ·rename_i h2
  have h0 : 0 < vs.length := by omega
  obtain ⟨p, hp⟩ : ∃ p, p = runK (ltN ns) (kas_sort vs.length) := ⟨_, rfl⟩
  rw [← hp]
  have pl : Pl vs.length p := hp ▸ bel_run (lt := ltN ns) _ (bel_sort h0)
  have up : L2.Up (fun i => ns.getD i 0) p vs.length := by
   have := L2.run_sort (κ := fun i => ns.getD i 0) (n := vs.length) (by omega)
   have e : L2.ltI (fun i => ns.getD i 0) = ltN ns := rfl
   rw [e, ← hp] at this
   exact this
  have q : p.toList.Perm (List.range vs.length) := by simpa using Array.perm_iff_toList_perm.mp pl
  have psz : p.toList.length = vs.length := by
   have := q.length_eq
   simpa using this
  have e : isort ns = p.toList.map fun i => ns.getD i 0 := by
   refine up_unique ((isort_perm ns).trans ?_) (isort_up ns) ?_
   ·have q2 := q.map fun i => ns.getD i 0
    refine List.Perm.trans ?_ q2.symm
    have e2 : (List.range vs.length).map (fun i => ns.getD i 0) = ns := by
     rw [hl]
     apply List.ext_getElem
     ·simp
     ·intro i h1 h2
      simp [List.getD_eq_getElem?_getD, List.getElem?_eq_getElem h2]
    rw [e2]
   ·rw [List.pairwise_iff_getElem]
    intro i j hi hj hij
    rw [List.length_map] at hi hj
    have := up i j (Nat.le_of_lt hij) (by omega)
    have kk : ∀ k (hk : k < p.toList.length), L2.kk (fun i => ns.getD i 0) p k = ns.getD p.toList[k] 0 := fun k hk => by
     unfold L2.kk
     have : p.getD k 0 = p.toList[k] := by
      rw [Array.length_toList] at hk
      simp [Array.getD, hk]
     rw [this]
    rw [kk i hi, kk j hj] at this
    rw [List.getElem_map, List.getElem_map]
    exact this
  rw [e]
  refine ints_of_all (by simp) fun i hi => ?_
  rw [List.length_map] at hi
  have lt := pl.lt h0 i
  have e3 : p.toList[i] = p.getD i 0 := by
   rw [Array.length_toList] at hi
   simp [Array.getD, hi]
  obtain ⟨t, et⟩ := intsAre_getD h (i := p.toList[i]) (by rw [e3]; exact lt)
  refine ⟨t, ?_⟩
  rw [List.getD_eq_getElem?_getD, List.getElem?_map, List.getElem?_eq_getElem hi, List.getD_eq_getElem?_getD, List.getElem?_map, List.getElem?_eq_getElem hi]
  exact et
end L2
namespace L2
open PySem PySem.Spec PyProof.Rows PySem.W PySem.Calls
def setI (ns : List Int) : List Int := (bitsOf (addAll 0 (ns.map Int.toNat))).map fun (n : Nat) => (n : Int)
def Six (ns : List Int) : Prop := ∀ n ∈ ns, 0 <= n /\ n < 6
theorem setI_up (ns : List Int) : (setI ns).Pairwise (· < ·) := by
 unfold setI
 rw [List.pairwise_map]
 exact (bits_sorted _).imp fun h => by exact_mod_cast h
theorem setI_mem {ns : List Int} (h : Six ns) (x : Int) : x ∈ setI ns ↔ x ∈ ns := by
 unfold setI bitsOf
 simp only [List.mem_map, List.mem_filter, List.mem_range, addAll_test, Nat.zero_testBit, Bool.false_eq_true, false_or]
 constructor
 ·rintro ⟨n, ⟨hn, y, hy, rfl⟩, rfl⟩
  have := h y hy
  rwa [Int.toNat_of_nonneg this.1]
 ·intro hx
  have := h x hx
  exact ⟨x.toNat, ⟨by omega, x, hx, rfl⟩, Int.toNat_of_nonneg this.1⟩
theorem setI_len (ns : List Int) : (setI ns).length <= 6 := by unfold setI; rw [List.length_map]; exact bits_len _
theorem up_mem : ∀ {l m : List Int}, l.Pairwise (· < ·) -> m.Pairwise (· < ·) -> (∀ x, x ∈ l ↔ x ∈ m) -> l = m
 | [], [], _, _, _ => rfl
 | [], b :: m, _, _, h => absurd ((h b).mpr List.mem_cons_self) (by simp)
 | a :: l, [], _, _, h => absurd ((h a).mp List.mem_cons_self) (by simp)
 | a :: l, b :: m, p, q, h => by
  obtain ⟨p1, p2⟩ := List.pairwise_cons.mp p
  obtain ⟨q1, q2⟩ := List.pairwise_cons.mp q
  have e : a = b := by
   rcases List.mem_cons.mp ((h a).mp List.mem_cons_self) with z | z
   ·exact z
   ·rcases List.mem_cons.mp ((h b).mpr List.mem_cons_self) with y | y
    ·exact y.symm
    ·have := p1 b y; have := q1 a z; omega
  subst e
  rw [up_mem p2 q2 fun x => ⟨fun hx => by
   rcases List.mem_cons.mp ((h x).mp (List.mem_cons_of_mem _ hx)) with z | z
   ·have := p1 x hx; omega
   ·exact z, fun hx => by
   rcases List.mem_cons.mp ((h x).mpr (List.mem_cons_of_mem _ hx)) with z | z
   ·have := q1 x hx; omega
   ·exact z⟩]
theorem isort_nodup_up {l : List Int} (h : l.Nodup) : (isort l).Pairwise (· < ·) := by
 have h1 := isort_up l
 have h2 : (isort l).Nodup := (isort_perm l).nodup_iff.mpr h
 have := List.Pairwise.and h1 h2
 exact this.imp fun ⟨a, b⟩ => by omega
theorem isort_mem {l : List Int} (x : Int) : x ∈ isort l ↔ x ∈ l := (isort_perm l).mem_iff
theorem EsR.vals {S : List Nat} {l : List (Int × Value)} (h : EsR S l) : IntsAre (l.map (·.2)) (S.map fun (n : Nat) => (n : Int)) := by
 induction h with
 | nil => exact .nil
 | cons v t _ ih => exact .cons _ t ih
theorem ints_perm {l m : List Value} (p : l.Perm m) : ∀ {ns : List Int}, IntsAre m ns -> ∃ ms, IntsAre l ms /\ ms.Perm ns := by
 induction p with
 | nil => intro ns h; cases h; exact ⟨[], .nil, .rfl⟩
 | cons x _ ih =>
  intro ns h
  cases h with
  | cons n t r => obtain ⟨ms, a, b⟩ := ih r; exact ⟨n :: ms, .cons n t a, b.cons n⟩
 | swap x y r =>
  intro ns h
  cases h with
  | cons n t h2 => cases h2 with
   | cons k u h3 => exact ⟨k :: n :: _, .cons k u (.cons n t h3), List.Perm.swap _ _ _⟩
 | trans _ _ ih1 ih2 =>
  intro ns h
  obtain ⟨ms, a, b⟩ := ih2 h
  obtain ⟨ks, c, d⟩ := ih1 a
  exact ⟨ks, c, d.trans b⟩
section
variable {X : Cx} {e : Expr} {te : TE} {p1 p2 pos1 pos2 : Pos}
def tSS (K : W.Frag) (te : TE) : TE := fun σ H Q => te σ H fun v H1 => ∃ p ns, v = .ref p /\ SqL K H1 p (ns.map V.int) /\ Six ns /\ ∀ l, H1 l = none -> Q (.ref l) (upd H1 l (.lst ((setI ns).map V.int)))
theorem pe_sortset (hc : X.calm = true) (g1 : Gl X "sorted") (m1 : X.mg "sorted" = none) (v1 : bootBuiltins "sorted" = some (.builtin "sorted")) (g2 : Gl X "set") (m2 : X.mg "set" = none) (v2 : bootBuiltins "set" = some (.type "set")) (ha : PE X e te)
  (he : starEach [e] X.env = [(false, eval e X.env)] := by rfl) : PE X (.Call (.Name "sorted" p1) [.Call (.Name "set" p2) [e] [] pos2] [] pos1) (tSS X.K te) := by
 intro pins s σ H Q I h
 refine wpAny_Call_Name_kw (ld_blt I g1 m1 v1 ?_)
 refine PyProof.Rows.callWith_builtin1 ?_ rfl rfl
 show wpAny _ _ (spliced [(false, eval (.Call (.Name "set" p2) [e] [] pos2) X.env)]) _ _ s
 refine Calls.spliced_cons ?_
 refine wpAny_Call_Name_kw (ld_blt I g2 m2 v2 ?_)
 refine PyProof.Rows.callWith_type1 ?_ he rfl
 rw [he]
 show wpAny _ _ (spliced [(false, eval e X.env)]) _ _ s
 refine Calls.spliced_cons (thn (ha pins s σ H _ I h) fun u s1 ⟨v, H1, I1, r1, p, ns, ev, sq, six, q⟩ => Calls.spliced_nil ?_)
 subst ev
 cases r1
 obtain ⟨its, rv, pl, _⟩ := I1.list sq
 have iz : IntsAre its ns := intsAre_of rv
 have hh := I1.ok.hd hc
 have cast : ns.map (fun (n : Int) => ((n.toNat : Nat) : Int)) = ns := by
  conv => rhs; rw [← List.map_id ns]
  exact List.map_congr_left fun n hn => Int.toNat_of_nonneg (six n hn).1
 refine sm_call (ns := ns.map Int.toNat) hh pl.isList (by rw [List.map_map, show List.map ((fun (n : Nat) => (n : Int)) ∘ Int.toNat) ns = ns from cast]; exact iz) (fun n hn => by obtain ⟨k, hk, rfl⟩ := List.mem_map.mp hn; have := six k hk; omega) fun h2 tk ep es hm kp => ?_
 have I2 : Inv X pins σ H1 { s1 with heap := h2, toks := tk } := I1.kept fun b o q => kp b o (Heap.lt_size q) q
 refine Calls.spliced_nil ?_
 have sz := hm.size
 have six6 := bits_len (addAll 0 (ns.map Int.toNat))
 obtain ⟨_, _, _, _, _, er⟩ := id hm
 obtain ⟨ms, im, pm⟩ := ints_perm ((ordE_perm X.w s1.heap.objs.size ep es).map (·.2)) er.vals
 have lm : ((ordE X.w s1.heap.objs.size ep es).toList.map (·.2)).length = es.size := by rw [List.length_map, Array.length_toList, ordE_size]
 refine srt_src (κ := oneType') (lt := ltN ms) (vs := (ordE X.w s1.heap.objs.size ep es).toList.map (·.2)) (sm_src (prog := X.prog) (w := X.w)) hh hm (by omega) (fun ws hi => ?_) (by omega) (fun h' tk' k => asks_I im) fun h3 tk3 L e3 k3 hL he3 => ?_
 ·obtain ⟨h1, h2'⟩ := hi
  rw [List.size_toArray] at h1
  apply List.ext_getElem?
  intro i
  have q4 : (ordE X.w s1.heap.objs.size ep es).toList[i]? = (ordE X.w s1.heap.objs.size ep es)[i]? := Array.getElem?_toList
  rw [List.getElem?_map, q4]
  cases q5 : ws[i]? with
  | some v => exact (h2' i v (by simpa using q5)).symm
  | none =>
   have : ws.length <= i := by simpa using q5
   rw [Array.getElem?_eq_none (by rw [ordE_size]; omega)]; rfl
 ·have es3 : isort ms = setI ns := by
   rw [isort_congr pm]
   exact isort_of ((bits_sorted _).map _ (fun a b h => by exact_mod_cast Nat.le_of_lt h))
  have hv : Vals ((setI ns).map V.int) (outK (ltN ms) ((ordE X.w s1.heap.objs.size ep es).toList.map (·.2))) := vals_ints (es3 ▸ out_I im)
  have hlen : ((setI ns).map V.int).length <= sizeLine := by rw [List.length_map, sizeLine_eq]; have := setI_len ns; omega
  exact ⟨.ref L, _, I2.laid (t' := tk3) k3 hL (show ObjOk X.prog X.w _ _ _ (.lst _) from ⟨hlen, _, e3, hv, he3⟩), rfl, q _ (I2.hok.fresh hL)⟩
end
section
def rSortDI : List V -> Hp -> VK -> Prop := fun xs H Q => ∃ a kvs ns, xs = [.ref a] /\ H a = some (.dK kvs) /\ kvs.map (·.1) = ns.map Sum.inl /\ kvs.length < 64 /\ ∀ l, H l = none -> Q (.ref l) (upd H l (.lst ((isort ns).map V.int)))
theorem call_sortDI {X : Cx} (hc : X.calm = true) : CallR X (.builtin "sorted") rSortDI := by
 intro pins s σ H xs us Q I r h
 obtain ⟨a, kvs, ns, rfl, e, hk, h64, q⟩ := h
 obtain ⟨u, rfl, rx⟩ := vals1 r
 cases rx
 obtain ⟨lo, es, ep, h1, h2, h3⟩ := dK_raw I e
 have hn : (kvs.map fun p => kV p.1) = ns.map V.int := by
  have : (kvs.map fun p => kV p.1) = (kvs.map (·.1)).map kV := by rw [List.map_map]; rfl
  rw [this, hk, List.map_map]; rfl
 rw [hn] at h3
 have iz := intsAre_of h3
 have ln : ns.length = kvs.length := by have := congrArg List.length hk; simpa using this.symm
 refine srt_src (κ := oneType') (lt := ltN ns) (vs := es.toList.map (·.key)) (raw_src (prog := X.prog) (w := X.w) (es := es) (ep := ep) lo) (I.ok.hd hc) h1 (by omega) (fun ws hi => items_are_list hi) (by rw [List.length_map, Array.length_toList]; omega) (fun h' tk k => asks_I iz) fun h' tk L e' k hL he => ?_
 have hv := vals_ints (out_I iz)
 exact ⟨.ref L, _, I.laid (t' := tk) k hL (show ObjOk X.prog X.w _ _ _ (.lst ((isort ns).map V.int)) from ⟨by rw [List.length_map, isort_len, sizeLine_eq]; omega, _, e', hv, he⟩), rfl, q _ (I.hok.fresh hL)⟩
end
end L2
namespace DL
open PySem PySem.Spec PyProof.Rows L2
section
variable {X : Cx} {K : W.Frag} {E : XK} {e : Expr} {te : TD} {p1 p2 pos1 pos2 : Pos}
theorem dns_iD {H : Hp} (ns : List Int) : Dns K H (ns.map V.int) (ns.map PyData.int) := by
 induction ns with
 | nil => exact .nil
 | cons n r ih => exact .cons (.int n) ih
theorem flats_iz (ns : List Int) : flats (ns.map PyData.int) = true := flats_iff.mpr fun d hd => by obtain ⟨n, _, rfl⟩ := List.mem_map.mp hd; rfl
def dSS (te : TD) : TD := fun ρ Q Xd => te ρ (fun d _ => ∃ ns, d = iD ns /\ Six ns /\ Q (iD (setI ns)) (.own [])) Xd
theorem dpe_sortset (hK : X.K = K) (hc : X.calm = true) (g1 : Gl X "sorted") (m1 : X.mg "sorted" = none) (v1 : bootBuiltins "sorted" = some (.builtin "sorted")) (g2 : Gl X "set") (m2 : X.mg "set" = none) (v2 : bootBuiltins "set" = some (.type "set")) (ha : DE X K E e te)
  (he : starEach [e] X.env = [(false, eval e X.env)] := by rfl) : DE X K E (.Call (.Name "sorted" p1) [.Call (.Name "set" p2) [e] [] pos2] [] pos1) (dSS te) := ⟨qe_imp ⟨pe_sortset hc g1 m1 v1 g2 m2 v2 ha.q.h he⟩ fun σ H Q h => by
 obtain ⟨H0, ν, ρ, Qd, Xd, S, h1, q, x⟩ := h
 refine ⟨H0, ν, ρ, _, Xd, S, h1, fun d k v H' g1 g2 g3 => ?_, x⟩
 obtain ⟨ns, rfl, six, g⟩ := g1
 obtain ⟨a, us, rfl, e1, e2⟩ := dns_of_lst (show Dn K H' v (.list (ns.map PyData.int)) from g3.den)
 have eu : us = ns.map V.int := dns_ints e2 (by
  clear e1 e2 g3 g six
  induction ns with
  | nil => rfl
  | cons n r ih => rw [List.map_cons, intsD, ih]; rfl)
 subst eu
 refine ⟨a, ns, rfl, hK ▸ SqL.of e1, six, fun l hl => q _ _ _ _ g (g2.trans (Same.new hl)) (res_newL (k := .own []) (S.same g2).hl g2 hl ?_)⟩
 exact ⟨[], ows_flat (dns_iD _) (flats_iz _), List.nodup_nil, fun _ z => by cases z⟩⟩
def fSortDI : FA := fun ds _ Q => ∃ (es : List (Key × D)) (ns : List Int), ds = [dKD es] /\ es.map (·.1) = ns.map Sum.inl /\ es.length < 64 /\ Q (iD (isort ns)) (.own [])
theorem vps_keys {kvs : List (Key × V)} {es : List (Key × D)} (v : VPs kvs es) : kvs.map (·.1) = es.map (·.1) := by
 induction v with
 | nil => rfl
 | cons _ _ ih => rw [List.map_cons, List.map_cons, ih]
theorem dcl_sortDI (hc : X.calm = true) : DCl X K (.builtin "sorted") fSortDI := ⟨_, call_sortDI hc, fun Z ν Hs H xs ds k Qf Q hl hn hs h g q => by
 obtain ⟨es, ns, rfl, g1, g2, g⟩ := g
 obtain ⟨v, rfl, h1⟩ := dns1 h.dens
 obtain ⟨a, kvs, rfl, e, p⟩ := dn_dK h1
 refine ⟨a, kvs, ns, rfl, e, by rw [vps_keys p]; exact g1, by rw [p.length]; exact g2, fun l hp => q _ _ _ _ g (Same.new hp) (res_newL (k := .own []) hl hs hp ?_)⟩
 exact ⟨[], ows_flat (dns_iD _) (flats_iz _), List.nodup_nil, fun _ z => by cases z⟩⟩
end
end DL
namespace L2
open PySem PySem.Spec PyProof.Rows PySem.W PySem.Calls
section
variable {X : Cx} {ke : Expr} {tk : TE} {pos p2 : Pos} {j : Int} {k2 : Nat}
end
end L2
namespace DL
open PySem PySem.Spec PyProof.Rows L2
section
variable {X : Cx} {K : W.Frag} {E : XK} {e o : Expr} {te to : TD} {tk : TKy} {p p2 pos apos cpos : Pos}
end
section
variable {K : W.Frag} {H0 H H' : Hp} {ν : Nat -> List Addr} {ρ : Ren} {σ : L2.St}
end
end DL
namespace DL
open PySem PySem.Spec PyProof.Rows L2
section
variable {X : Cx} {K : W.Frag} {E : XK}
end
end DL
namespace DL
open PySem PySem.Spec PyProof.Rows L2
section
variable {X : Cx} {K : W.Frag} {E : XK} {tc : TDT} {tp : TSD} {te : TD} {x y z : Nat}
theorem w_ss {ρ : Ren} {Q : QD} {Xd : XD} (h : te ρ (fun d _ => ∃ ns, d = iD ns /\ Six ns /\ Q (iD (setI ns)) (.own [])) Xd) : dSS te ρ Q Xd := h
theorem w_dc {ti : TDI} {ρ : Ren} {Q : QD} {Xd : XD} (h : ti ρ (fun ds b => ∃ ks : List Key, ds = ks.map keyV /\ ks.length < 1000000 /\ Q (dKD (trueD [] ks)) (.own [])) Xd) : dDC ti ρ Q Xd := h
theorem w_sortDI {ds : List D} {k : Kd} {Q : QD} (h : ∃ (es : List (Key × D)) (ns : List Int), ds = [dKD es] /\ es.map (·.1) = ns.map Sum.inl /\ es.length < 64 /\ Q (iD (isort ns)) (.own [])) : fSortDI ds k Q := h
end
end DL
namespace L2
open PySem
abbrev Pb := SetTable.Probe
def adv (mask : Nat) (p : Pb) : Pb := if p.more > 0 then { p with j := p.j + 1, more := p.more - 1 } else
 { p with j := (SetTable.leap mask p.i p.perturb).1, more := SetTable.runEnd mask (SetTable.leap mask p.i p.perturb).1 - (SetTable.leap mask p.i p.perturb).1, i := (SetTable.leap mask p.i p.perturb).1, perturb := (SetTable.leap mask p.i p.perturb).2 }
theorem adv_eq (t : SetTable) (p : Pb) : t.advance p = adv t.mask p := by
 unfold SetTable.advance adv
 split <;> rfl
def st0 (mask i pert : Nat) : Pb := { j := i, more := SetTable.runEnd mask i - i, i := i, perturb := pert, dummy := none }
def itr (mask : Nat) : Nat -> Pb -> Pb
 | 0, p => p
 | n + 1, p => adv mask (itr mask n p)
theorem itr_front (mask : Nat) : ∀ (n : Nat) (p : Pb), itr mask (n + 1) p = itr mask n (adv mask p)
 | 0, p => rfl
 | n + 1, p => by show adv mask (itr mask (n + 1) p) = _; rw [itr_front mask n p]; rfl
theorem itr_add (mask : Nat) : ∀ (n m : Nat) (p : Pb), itr mask (n + m) p = itr mask n (itr mask m p)
 | 0, m, p => by rw [Nat.zero_add]; rfl
 | n + 1, m, p => by rw [show n + 1 + m = (n + m) + 1 by omega]; show adv mask _ = adv mask _; rw [itr_add mask n m p]
theorem run_end (mask : Nat) : ∀ (m : Nat) (p : Pb), p.more = m -> p.dummy = none -> itr mask (m + 1) p = st0 mask (SetTable.leap mask p.i p.perturb).1 (SetTable.leap mask p.i p.perturb).2
 | 0, p, h, hd => by
  show adv mask p = _
  unfold adv
  rw [if_neg (by omega)]
  cases p; simp only at hd; subst hd; rfl
 | m + 1, p, h, hd => by
  rw [itr_front]
  have e : adv mask p = { p with j := p.j + 1, more := p.more - 1 } := by unfold adv; rw [if_pos (by omega)]
  rw [e]
  exact run_end mask m { p with j := p.j + 1, more := p.more - 1 } (by show p.more - 1 = m; omega) hd
theorem run_le (mask i : Nat) : SetTable.runEnd mask i - i <= 9 := by unfold SetTable.runEnd; split <;> omega
def lps (mask : Nat) : Nat -> Nat -> Nat -> Nat × Nat
 | 0, i, q => (i, q)
 | n + 1, i, q => SetTable.leap mask (lps mask n i q).1 (lps mask n i q).2
theorem lps_at (mask i q : Nat) : ∀ n, ∃ r, r <= 10 * n /\ itr mask r (st0 mask i q) = st0 mask (lps mask n i q).1 (lps mask n i q).2
 | 0 => ⟨0, Nat.le_refl _, rfl⟩
 | n + 1 => by
  obtain ⟨r, hr, e⟩ := lps_at mask i q n
  have := run_end mask _ (st0 mask (lps mask n i q).1 (lps mask n i q).2) rfl rfl
  refine ⟨(SetTable.runEnd mask (lps mask n i q).1 - (lps mask n i q).1 + 1) + r, by have := run_le mask (lps mask n i q).1; omega, ?_⟩
  rw [itr_add, e]
  exact this
theorem lps_pert (mask i q : Nat) : ∀ n, (lps mask n i q).2 = q / 32 ^ n
 | 0 => by simp [lps]
 | n + 1 => by
  show (lps mask n i q).2 / 32 = _
  rw [lps_pert mask i q n, Nat.div_div_eq_div_mul, Nat.pow_succ]
theorem lps_le (mask i q n : Nat) : (lps mask (n + 1) i q).1 <= mask := by
 show (_ % (mask + 1)) <= mask
 exact Nat.le_of_lt_succ (Nat.mod_lt _ (Nat.succ_pos _))
def orb (mask : Nat) : Nat -> Nat -> List Nat
 | 0, i => [i]
 | n + 1, i => i :: orb mask n ((i * 5 + 1) % (mask + 1))
def orb7 : List Nat := [0, 1, 6, 7, 4, 5, 2, 3]
theorem orb7_eq : orb 7 7 0 = orb7 := by decide +kernel
theorem orb7_all : (List.range 8).all (fun j => orb7.contains j) = true := by decide +kernel
def orb31 : List Nat := [0, 1, 6, 31, 28, 13, 2, 11, 24, 25, 30, 23, 20, 5, 26, 3, 16, 17, 22, 15, 12, 29, 18, 27, 8, 9, 14, 7, 4, 21, 10, 19]
theorem orb31_eq : orb 31 31 0 = orb31 := by decide +kernel
theorem orb31_all : (List.range 32).all (fun j => orb31.contains j) = true := by decide +kernel
def orb127 : List Nat := [0, 1, 6, 31, 28, 13, 66, 75, 120, 89, 62, 55, 20, 101, 122, 99, 112, 49, 118, 79, 12, 61, 50, 123, 104, 9, 46, 103, 4, 21, 106, 19, 96, 97, 102, 127, 124, 109, 34, 43, 88, 57, 30, 23, 116, 69, 90, 67, 80, 17, 86, 47, 108, 29, 18, 91, 72, 105, 14, 71, 100, 117, 74, 115, 64, 65, 70, 95, 92, 77, 2, 11, 56, 25, 126, 119, 84, 37, 58, 35, 48, 113, 54, 15, 76, 125, 114, 59, 40, 73, 110, 39, 68, 85, 42, 83, 32, 33, 38, 63, 60, 45, 98, 107, 24, 121, 94, 87, 52, 5, 26, 3, 16, 81, 22, 111, 44, 93, 82, 27, 8, 41, 78, 7, 36, 53, 10, 51]
theorem orb127_eq : orb 127 127 0 = orb127 := by decide +kernel
theorem orb127_all : (List.range 128).all (fun j => orb127.contains j) = true := by decide +kernel
def fit (mask : Nat) : Nat -> Nat -> Nat
 | 0, i => i
 | n + 1, i => (fit mask n i * 5 + 1) % (mask + 1)
theorem fit_add (mask i : Nat) : ∀ n m, fit mask (n + m) i = fit mask n (fit mask m i)
 | 0, m => by rw [Nat.zero_add]; rfl
 | n + 1, m => by rw [show n + 1 + m = (n + m) + 1 by omega]; show (fit mask (n + m) i * 5 + 1) % _ = _; rw [fit_add mask i n m]; rfl
theorem fit_front (mask : Nat) (n i : Nat) : fit mask (n + 1) i = fit mask n ((i * 5 + 1) % (mask + 1)) := fit_add mask i n 1
theorem orb_fit (mask : Nat) : ∀ (m i j : Nat), j ∈ orb mask m i -> ∃ k, k <= m /\ fit mask k i = j
 | 0, i, j, h => ⟨0, Nat.le_refl _, by have : j = i := by simpa [orb] using h
                                       exact this.symm⟩
 | m + 1, i, j, h => by
  rcases List.mem_cons.mp h with e | h
  ·exact ⟨0, Nat.zero_le _, e.symm⟩
  ·obtain ⟨k, hk, e⟩ := orb_fit mask m _ j h
   exact ⟨k + 1, by omega, by rw [fit_front]; exact e⟩
theorem fit_lps (mask i q n : Nat) (hq : q / 32 ^ n = 0) : ∀ k, (lps mask (n + k) i q).1 = fit mask k (lps mask n i q).1
 | 0 => rfl
 | k + 1 => by
  show ((lps mask (n + k) i q).1 * 5 + 1 + (lps mask (n + k) i q).2 / 32) % (mask + 1) = (fit mask k (lps mask n i q).1 * 5 + 1) % (mask + 1)
  have : (lps mask (n + k) i q).2 = 0 := by
   rw [lps_pert, Nat.pow_add, ← Nat.div_div_eq_div_mul, hq]; simp
  rw [this, fit_lps mask i q n hq k]
def Mask (m : Nat) : Prop := m = 7 ∨ m = 31 ∨ m = 127
theorem fit_any {mask : Nat} (hm : Mask mask) {j : Nat} (hj : j <= mask) : ∃ k, k <= mask /\ fit mask k 0 = j := by
 have h : j ∈ orb mask mask 0 := by
  rcases hm with rfl | rfl | rfl
  ·rw [orb7_eq]; simpa using List.all_eq_true.mp orb7_all j (List.mem_range.mpr (by omega))
  ·rw [orb31_eq]; simpa using List.all_eq_true.mp orb31_all j (List.mem_range.mpr (by omega))
  ·rw [orb127_eq]; simpa using List.all_eq_true.mp orb127_all j (List.mem_range.mpr (by omega))
 exact orb_fit mask mask 0 j h
theorem fit_round {mask : Nat} (hm : Mask mask) : fit mask (mask + 1) 0 = 0 := by rcases hm with rfl | rfl | rfl <;> decide +kernel
theorem all_met {mask : Nat} (hm : Mask mask) {i q j : Nat} (hq : q < 2 ^ 64) (hj : j <= mask) : ∃ k, k <= mask + 13 /\ (lps mask k i q).1 = j := by
 have h0 : q / 32 ^ 13 = 0 := Nat.div_eq_of_lt (Nat.lt_of_lt_of_le hq (by decide))
 have hi : (lps mask 13 i q).1 <= mask := lps_le mask i q 12
 obtain ⟨a, ha, ea⟩ := fit_any hm hi
 obtain ⟨b, hb, eb⟩ := fit_any hm hj
 by_cases c : a <= b
 ·exact ⟨13 + (b - a), by omega, by rw [fit_lps mask i q 13 h0, ← ea, ← fit_add, show b - a + a = b by omega, eb]⟩
 ·refine ⟨13 + (b + (mask + 1) - a), by omega, ?_⟩
  rw [fit_lps mask i q 13 h0, ← ea, ← fit_add, show b + (mask + 1) - a + a = b + (mask + 1) by omega, fit_add, fit_round hm, eb]
theorem bits_lt64 (h : Int) : SetTable.bits h < 2 ^ 64 := by
 unfold SetTable.bits
 have h1 := Int.emod_nonneg h (show (2 ^ 64 : Int) ≠ 0 by decide)
 have h2 := Int.emod_lt_of_pos h (show (0 : Int) < 2 ^ 64 by decide)
 omega
def sq (mask : Nat) (h : Int) (n : Nat) : Pb := itr mask n (st0 mask (SetTable.bits h % (mask + 1)) (SetTable.bits h))
theorem sq_succ (mask : Nat) (h : Int) (n : Nat) : sq mask h (n + 1) = adv mask (sq mask h n) := rfl
theorem sq_dummy (mask : Nat) (h : Int) : ∀ n, (sq mask h n).dummy = none
 | 0 => rfl
 | n + 1 => by
  rw [sq_succ]
  unfold adv
  split
  ·exact sq_dummy mask h n
  ·exact sq_dummy mask h n
theorem least {P : Nat -> Prop} : ∀ (N r : Nat), r < N -> P r -> ∃ E, E < N /\ P E /\ ∀ m, m < E -> ¬ P m
 | 0, r, h, _ => absurd h (Nat.not_lt_zero _)
 | N + 1, r, h, p => by
  by_cases q : ∃ r', r' < N /\ P r'
  ·obtain ⟨r', h', p'⟩ := q
   obtain ⟨E, e1, e2, e3⟩ := least N r' h' p'
   exact ⟨E, by omega, e2, e3⟩
  ·exact ⟨r, h, p, fun m hm pm => q ⟨m, by omega, pm⟩⟩
theorem first_free {mask : Nat} (hm : Mask mask) (h : Int) {F : Nat -> Prop} (l : List Nat) (hl : ∀ j, F j -> j ∈ l) (len : l.length <= mask) : ∃ E, E < 10 * (mask + 15) /\ ¬ F (sq mask h E).j /\ ∀ m, m < E -> F (sq mask h m).j := by
 have ⟨j, hj, hn⟩ : ∃ j, j <= mask /\ ¬ F j := by
  refine Classical.byContradiction fun z => ?_
  have sub : List.range (mask + 1) ⊆ l := fun j hj => hl j (Classical.byContradiction fun nf => z ⟨j, by have := List.mem_range.mp hj; omega, nf⟩)
  have := List.Nodup.length_le_of_subset List.nodup_range sub
  rw [List.length_range] at this
  omega
 obtain ⟨k, hk, e⟩ := all_met hm (i := SetTable.bits h % (mask + 1)) (bits_lt64 h) hj
 obtain ⟨r, hr, e2⟩ := lps_at mask (SetTable.bits h % (mask + 1)) (SetTable.bits h) k
 obtain ⟨E, e3, e4, e5⟩ := least (P := fun r => ¬ F (sq mask h r).j) (10 * (mask + 15)) r (by omega) (by
  have : (sq mask h r).j = j := by unfold sq; rw [e2]; exact e
  rw [this]; exact hn)
 exact ⟨E, e3, e4, fun m hm => Classical.byContradiction fun z => e5 m hm z⟩
theorem below_go (xs : Array Nat) (j : Nat) (hs : ∀ a b, (hb : b < xs.size) -> (hab : a < b) -> xs[a]'(Nat.lt_trans hab hb) < xs[b]) : ∀ (fuel lo hi : Nat), hi - lo <= fuel -> lo <= hi -> hi <= xs.size -> (∀ k (hk : k < xs.size), k < lo -> xs[k] < j) -> (∀ k (hk : k < xs.size), hi <= k -> j <= xs[k]) ->
  (SetTable.below.go xs j fuel lo hi <= xs.size /\ (∀ k (hk : k < xs.size), k < SetTable.below.go xs j fuel lo hi -> xs[k] < j) /\ ∀ k (hk : k < xs.size), SetTable.below.go xs j fuel lo hi <= k -> j <= xs[k])
 | 0, lo, hi, hf, hl, hh, h1, h2 => by
  have : lo = hi := by omega
  subst this
  exact ⟨hh, h1, h2⟩
 | fuel + 1, lo, hi, hf, hl, hh, h1, h2 => by
  unfold SetTable.below.go
  by_cases c : lo < hi
  ·rw [if_pos c]
   dsimp only
   have hm : (lo + hi) / 2 < xs.size := by omega
   have eg : xs.getD ((lo + hi) / 2) j = xs[(lo + hi) / 2] := by simp [Array.getD, hm]
   rw [eg]
   by_cases c2 : xs[(lo + hi) / 2] < j
   ·rw [if_pos c2]
    refine below_go xs j hs fuel _ _ (by omega) (by omega) hh (fun k hk hlt => ?_) h2
    by_cases e : k = (lo + hi) / 2
    ·subst e; exact c2
    ·exact Nat.lt_trans (hs k ((lo + hi) / 2) hm (by omega)) c2
   ·rw [if_neg c2]
    refine below_go xs j hs fuel _ _ (by omega) (by omega) (by omega) h1 fun k hk hle => ?_
    by_cases e : k = (lo + hi) / 2
    ·subst e; omega
    ·have := hs ((lo + hi) / 2) k hk (by omega)
     omega
  ·rw [if_neg c]
   have : lo = hi := by omega
   subst this
   exact ⟨hh, h1, h2⟩
theorem below_spec {xs : Array Nat} (h : xs.toList.Pairwise (· < ·)) (j : Nat) : SetTable.below xs j <= xs.size /\ (∀ k (hk : k < xs.size), k < SetTable.below xs j -> xs[k] < j) /\ ∀ k (hk : k < xs.size), SetTable.below xs j <= k -> j <= xs[k] := by
 refine below_go xs j (fun a b hb hab => ?_) xs.size 0 xs.size (by omega) (Nat.zero_le _) (Nat.le_refl _) (fun k hk h => absurd h (Nat.not_lt_zero _)) fun k hk h => by omega
 have := List.pairwise_iff_getElem.mp h a b (by simpa using Nat.lt_trans hab hb) (by simpa using hb) hab
 simpa using this
theorem below_at {xs : Array Nat} (h : xs.toList.Pairwise (· < ·)) {i j : Nat} (e : xs[i]? = some j) : SetTable.below xs j = i := by
 obtain ⟨hi, e⟩ := Array.getElem?_eq_some_iff.mp e
 obtain ⟨h0, h1, h2⟩ := below_spec h j
 rcases Nat.lt_trichotomy (SetTable.below xs j) i with c | c | c
 ·have a := List.pairwise_iff_getElem.mp h (SetTable.below xs j) i (by simp; omega) (by simpa using hi) c
  have b := h2 (SetTable.below xs j) (by omega) (Nat.le_refl _)
  simp at a
  omega
 ·exact c
 ·have := h1 i hi c
  omega
theorem ins_sorted {xs : Array Nat} (h : xs.toList.Pairwise (· < ·)) {j : Nat} (hj : j ∉ xs.toList) : (SetTable.insertAt xs (SetTable.below xs j) j).toList.Pairwise (· < ·) := by
 rw [SetTable.toList_insertAt]
 obtain ⟨h0, h1, h2⟩ := below_spec h j
 have t1 : ∀ x ∈ xs.toList.take (SetTable.below xs j), x < j := fun x hx => by
  obtain ⟨k, hk, e⟩ := List.mem_take_iff_getElem.mp hx
  have := h1 k (by simp at hk; omega) (by simp at hk; omega)
  rw [← e]; simpa using this
 have t2 : ∀ x ∈ xs.toList.drop (SetTable.below xs j), j < x := fun x hx => by
  obtain ⟨k, hk, e⟩ := List.mem_drop_iff_getElem.mp hx
  have hk' : SetTable.below xs j + k < xs.size := by simp at hk; omega
  have := h2 (SetTable.below xs j + k) hk' (by omega)
  have ne : xs[SetTable.below xs j + k] ≠ j := fun z => hj (by rw [← z]; simp)
  have e : xs[SetTable.below xs j + k] = x := by simpa using e
  omega
 rw [List.pairwise_append]
 refine ⟨h.sublist (List.take_sublist _ _), List.pairwise_cons.mpr ⟨t2, h.sublist (List.drop_sublist _ _)⟩, fun a ha b hb => ?_⟩
 rcases List.mem_cons.mp hb with rfl | hb
 ·exact t1 a ha
 ·exact Nat.lt_trans (t1 a ha) (t2 b hb)
end L2
namespace L2
open PySem
def Rch (mask : Nat) (F : Nat -> Prop) (h : Int) (s : Nat) : Prop := ∃ n, (sq mask h n).j = s /\ ∀ m, m < n -> F (sq mask h m).j
structure TabOk (t : SetTable) (hs : List Int) : Prop where
 up : t.place.toList.Pairwise (· < ·)
 dum : t.dummies = #[]
 len : t.place.size = hs.length
 msk : Mask t.mask
 room : hs.length <= t.mask
 reach : ∀ p ∈ hs.zip t.place.toList, Rch t.mask (· ∈ t.place.toList) p.1 p.2
section
variable {t : SetTable} {hs : List Int}
theorem TabOk.empty (T : TabOk t hs) {j : Nat} (h : j ∉ t.place.toList) : t.slot j = .empty := by
 unfold SetTable.slot
 dsimp only
 rw [if_neg, if_neg]
 ·rw [T.dum]; unfold SetTable.has; simp
 ·intro z
  have z : t.place[SetTable.below t.place j]? = some j := eq_of_beq z
  exact h (Array.mem_toList_iff.mpr (Array.mem_of_getElem? z))
theorem TabOk.live (T : TabOk t hs) {i j : Nat} (h : t.place[i]? = some j) : t.slot j = .live i := by
 unfold SetTable.slot
 dsimp only
 rw [below_at T.up h, if_pos (by rw [h]; exact beq_self_eq_true _)]
theorem TabOk.fits (T : TabOk t hs) {n : Nat} (hn : n = hs.length) : t.fits n = true := by
 subst hn
 unfold SetTable.fits SetTable.fill
 rw [T.len, T.dum]
 simp
 exact T.room
theorem TabOk.first (T : TabOk t hs) (h : Int) : ∃ E, E < 10 * (t.mask + 15) /\ (sq t.mask h E).j ∉ t.place.toList /\ ∀ m, m < E -> (sq t.mask h m).j ∈ t.place.toList :=
 first_free T.msk h (F := fun j => j ∈ t.place.toList) t.place.toList (fun _ hj => hj) (by rw [Array.length_toList, T.len]; exact T.room)
theorem TabOk.go (T : TabOk t hs) {hashAt : Nat -> Int} {h : Int} {E : Nat} (he : (sq t.mask h E).j ∉ t.place.toList) (hl : ∀ m, m < E -> (sq t.mask h m).j ∈ t.place.toList) : ∀ (fuel k : Nat), k <= E -> E - k < fuel ->
  (SetTable.probe.go t hashAt h fuel (sq t.mask h k) = some (.empty (sq t.mask h E).j none) /\ ∀ m i, k <= m -> m < E -> t.place[i]? = some (sq t.mask h m).j -> hashAt i ≠ h) ∨
  ∃ m i, k <= m /\ m < E /\ t.place[i]? = some (sq t.mask h m).j /\ hashAt i = h /\ SetTable.probe.go t hashAt h fuel (sq t.mask h k) = some (.candidate (sq t.mask h m).j i (sq t.mask h (m + 1))) /\ ∀ m' i', k <= m' -> m' < m -> t.place[i']? = some (sq t.mask h m').j -> hashAt i' ≠ h
 | 0, k, hk, hf => absurd hf (Nat.not_lt_zero _)
 | fuel + 1, k, hk, hf => by
  unfold SetTable.probe.go
  by_cases e : k = E
  ·subst e
   rw [T.empty he]
   dsimp only
   rw [sq_dummy]
   exact .inl ⟨rfl, fun m i h1 h2 => by omega⟩
  ·have hlt : k < E := by omega
   obtain ⟨i, hi, ei⟩ := List.getElem_of_mem (hl k hlt)
   have hp : t.place[i]? = some (sq t.mask h k).j := by
    rw [Array.length_toList] at hi
    rw [Array.getElem?_eq_getElem hi]; simpa using ei
   have uniq : ∀ i', t.place[i']? = some (sq t.mask h k).j -> i' = i := fun i' h' => by rw [← below_at T.up h', below_at T.up hp]
   rw [T.live hp]
   dsimp only
   by_cases c : hashAt i = h
   ·rw [if_pos (by simpa using c), adv_eq, ← sq_succ]
    exact .inr ⟨k, i, Nat.le_refl _, hlt, hp, c, rfl, fun m' i' h1 h2 => by omega⟩
   ·rw [if_neg (by simpa using c), adv_eq, ← sq_succ]
    rcases TabOk.go T he hl fuel (k + 1) (by omega) (by omega) with ⟨g1, g2⟩ | ⟨m, i2, g1, g2, g3, g4, g5, g6⟩
    ·refine .inl ⟨g1, fun m i' h1 h2 h3 => ?_⟩
     by_cases z : m = k
     ·subst z; rw [uniq i' h3]; exact c
     ·exact g2 m i' (by omega) h2 h3
    ·refine .inr ⟨m, i2, by omega, g2, g3, g4, g5, fun m' i' h1 h2 h3 => ?_⟩
     by_cases z : m' = k
     ·subst z; rw [uniq i' h3]; exact c
     ·exact g6 m' i' (by omega) h2 h3
theorem zip_ins {α β : Type} {xs : List α} {ys : List β} (h : xs.length = ys.length) (p : Nat) (a : α) (b : β) : (xs.take p ++ a :: xs.drop p).zip (ys.take p ++ b :: ys.drop p) = (xs.zip ys).take p ++ (a, b) :: (xs.zip ys).drop p := by
 rw [List.zip_append (by rw [List.length_take, List.length_take, h]), List.zip_cons_cons]
 simp only [List.zip, List.take_zipWith, List.drop_zipWith]
theorem Rch.mono {mask : Nat} {F G : Nat -> Prop} {h : Int} {s : Nat} (r : Rch mask F h s) (i : ∀ j, F j -> G j) : Rch mask G h s := let ⟨n, e, l⟩ := r; ⟨n, e, fun m hm => i _ (l m hm)⟩
theorem TabOk.put (T : TabOk t hs) {h : Int} {E : Nat} (he : (sq t.mask h E).j ∉ t.place.toList) (hl : ∀ m, m < E -> (sq t.mask h m).j ∈ t.place.toList) (hr : hs.length + 1 <= t.mask) (pl : Bool) :
  TabOk { (t.put (sq t.mask h E).j).1 with plain := pl } (hs.take (t.put (sq t.mask h E).j).2 ++ h :: hs.drop (t.put (sq t.mask h E).j).2) := by
 have pe : (t.put (sq t.mask h E).j).2 = SetTable.below t.place (sq t.mask h E).j := rfl
 have ple : (t.put (sq t.mask h E).j).1.place = SetTable.insertAt t.place (SetTable.below t.place (sq t.mask h E).j) (sq t.mask h E).j := rfl
 have dme : (t.put (sq t.mask h E).j).1.dummies = #[] := by
  show (if SetTable.has t.dummies _ then _ else t.dummies) = #[]
  rw [T.dum]
  unfold SetTable.has
  simp
 have mem : ∀ x, x ∈ (SetTable.insertAt t.place (SetTable.below t.place (sq t.mask h E).j) (sq t.mask h E).j).toList ↔ x = (sq t.mask h E).j ∨ x ∈ t.place.toList := fun x => by
  rw [SetTable.toList_insertAt, List.mem_append, List.mem_cons]
  have e := List.take_append_drop (SetTable.below t.place (sq t.mask h E).j) t.place.toList
  constructor
  ·rintro (z | z | z)
   ·exact .inr (List.mem_of_mem_take z)
   ·exact .inl z
   ·exact .inr (List.mem_of_mem_drop z)
  ·rintro (z | z)
   ·exact .inr (.inl z)
   ·rw [← e] at z
    rcases List.mem_append.mp z with z | z
    ·exact .inl z
    ·exact .inr (.inr z)
 refine ⟨?_, dme, ?_, T.msk, ?_, fun p hp => ?_⟩
 ·show (t.put _).1.place.toList.Pairwise _
  rw [ple]; exact ins_sorted T.up he
 ·show (t.put _).1.place.size = _
  rw [ple, pe, ← Array.length_toList, SetTable.toList_insertAt, List.length_append, List.length_cons, List.length_append, List.length_cons, List.length_take, List.length_drop, List.length_take, List.length_drop, Array.length_toList, T.len]
 ·show _ <= t.mask
  rw [List.length_append, List.length_cons, List.length_take, List.length_drop]; omega
 ·have hp : p ∈ (hs.take (SetTable.below t.place (sq t.mask h E).j) ++ h :: hs.drop (SetTable.below t.place (sq t.mask h E).j)).zip (SetTable.insertAt t.place (SetTable.below t.place (sq t.mask h E).j) (sq t.mask h E).j).toList := hp
  show Rch t.mask (· ∈ (SetTable.insertAt t.place (SetTable.below t.place (sq t.mask h E).j) (sq t.mask h E).j).toList) p.1 p.2
  rw [SetTable.toList_insertAt, zip_ins (T.len.symm.trans Array.length_toList.symm)] at hp
  have old : ∀ q ∈ hs.zip t.place.toList, Rch t.mask (· ∈ (SetTable.insertAt t.place (SetTable.below t.place (sq t.mask h E).j) (sq t.mask h E).j).toList) q.1 q.2 := fun q hq => (T.reach q hq).mono fun j hj => (mem j).mpr (.inr hj)
  rcases List.mem_append.mp hp with hp | hp
  ·exact old p (List.mem_of_mem_take hp)
  ·rcases List.mem_cons.mp hp with hp | hp
   ·subst hp
    exact ⟨E, rfl, fun m hm => (mem _).mpr (.inr (hl m hm))⟩
   ·exact old p (List.mem_of_mem_drop hp)
theorem TabOk.fresh (led : Bool) : TabOk (.fresh 0 0 led) [] := ⟨List.Pairwise.nil, rfl, rfl, .inl rfl, Nat.zero_le _, fun p hp => by cases hp⟩
end
end L2
namespace L2
open PySem
abbrev Own := Array (Option Nat)
def Fl (owner : Own) (j : Nat) : Prop := ∃ idx, owner[j]? = some (some idx)
theorem lps_front (mask : Nat) (i q : Nat) : ∀ k, lps mask (k + 1) i q = lps mask k (SetTable.leap mask i q).1 (SetTable.leap mask i q).2
 | 0 => rfl
 | k + 1 => by show SetTable.leap mask (lps mask (k + 1) i q).1 (lps mask (k + 1) i q).2 = _; rw [lps_front mask i q k]; rfl
theorem itr_run (mask i q : Nat) : ∀ k, k <= SetTable.runEnd mask i - i -> itr mask k (st0 mask i q) = { j := i + k, more := SetTable.runEnd mask i - i - k, i := i, perturb := q, dummy := none }
 | 0, _ => rfl
 | k + 1, h => by
  show adv mask (itr mask k _) = _
  rw [itr_run mask i q k (by omega)]
  unfold adv
  rw [if_pos (by show SetTable.runEnd mask i - i - k > 0; omega)]
  rfl
theorem run_ge (mask i : Nat) : i <= SetTable.runEnd mask i := by unfold SetTable.runEnd; split <;> omega
theorem run_mask {mask i : Nat} (h : i <= mask) : SetTable.runEnd mask i <= mask := by unfold SetTable.runEnd; split <;> omega
section
variable {mask : Nat} {owner : Own}
theorem getD_none {owner : Own} {j : Nat} (hj : j < owner.size) : (owner.getD j (some 0)).isNone = true ↔ ¬ Fl owner j := by
 unfold Fl
 have e : owner.getD j (some 0) = owner[j] := by simp [Array.getD, hj]
 rw [e, Array.getElem?_eq_getElem hj]
 cases owner[j] <;> simp
theorem free_spec (hs : owner.size = mask + 1) : ∀ (fuel i q : Nat), i <= mask -> (∃ k, k < fuel /\ ¬ Fl owner (lps mask k i q).1) ->
  ∃ r, SetTable.layClean.free mask owner fuel i q = some (itr mask r (st0 mask i q)).j /\ (itr mask r (st0 mask i q)).j <= mask /\ ¬ Fl owner (itr mask r (st0 mask i q)).j /\ ∀ m, m < r -> Fl owner (itr mask m (st0 mask i q)).j
 | 0, i, q, _, ⟨k, h, _⟩ => absurd h (Nat.not_lt_zero _)
 | fuel + 1, i, q, hi, ⟨k, hk, hn⟩ => by
  unfold SetTable.layClean.free
  have hre := run_mask hi
  have hge := run_ge mask i
  cases hf : (List.range (SetTable.runEnd mask i + 1 - i)).find? fun k => (owner.getD (i + k) (some 0)).isNone with
  | some r =>
   dsimp only
   have hr := List.find?_some hf
   have hm := List.mem_range.mp (List.mem_of_find?_eq_some hf)
   have er : (itr mask r (st0 mask i q)).j = i + r := by rw [itr_run mask i q r (by omega)]
   refine ⟨r, by rw [er], by rw [er]; omega, ?_, fun m hmr => ?_⟩
   ·rw [er]; exact (getD_none (by omega)).mp hr
   ·have em : (itr mask m (st0 mask i q)).j = i + m := by rw [itr_run mask i q m (by omega)]
    rw [em]
    refine Classical.byContradiction fun z => ?_
    have hz := (getD_none (owner := owner) (j := i + m) (by omega)).mpr z
    obtain ⟨h1, as, bs, e1, e2⟩ := List.find?_eq_some_iff_append.mp hf
    have hmem : m ∈ as := by
     have hlen : as.length = r := by
      have hN : as.length < SetTable.runEnd mask i + 1 - i := by have := congrArg List.length e1; simp at this; omega
      have := congrArg (fun l : List Nat => l[as.length]?) e1
      simp only [List.getElem?_range hN, List.getElem?_append_right (Nat.le_refl as.length), Nat.sub_self, List.getElem?_cons_zero] at this
      exact Option.some.inj this
     have := congrArg (fun l : List Nat => l[m]?) e1
     simp only [List.getElem?_range (show m < SetTable.runEnd mask i + 1 - i by omega), List.getElem?_append_left (show m < as.length by omega)] at this
     exact List.mem_of_getElem? this.symm
    have := e2 m hmem
    rw [hz] at this
    cases this
  | none =>
   dsimp only
   have hall : ∀ m, m <= SetTable.runEnd mask i - i -> Fl owner (i + m) := fun m hm => Classical.byContradiction fun z => by
    have hz := (getD_none (owner := owner) (j := i + m) (by omega)).mpr z
    have := List.find?_eq_none.mp hf m (List.mem_range.mpr (by omega))
    exact this hz
   have hk0 : k ≠ 0 := fun z => by
    subst z
    have := hall 0 (by omega)
    rw [Nat.add_zero] at this
    exact hn this
   obtain ⟨k', rfl⟩ : ∃ k', k = k' + 1 := ⟨k - 1, by omega⟩
   rw [lps_front] at hn
   have hi' : (SetTable.leap mask i q).1 <= mask := by
    show _ % (mask + 1) <= mask
    exact Nat.le_of_lt_succ (Nat.mod_lt _ (Nat.succ_pos _))
   obtain ⟨r, e1, e2, e3, e4⟩ := free_spec hs fuel _ _ hi' ⟨k', by omega, hn⟩
   have ej : itr mask (SetTable.runEnd mask i - i + 1) (st0 mask i q) = st0 mask (SetTable.leap mask i q).1 (SetTable.leap mask i q).2 := run_end mask _ (st0 mask i q) rfl rfl
   have ea : ∀ r, itr mask (r + (SetTable.runEnd mask i - i + 1)) (st0 mask i q) = itr mask r (st0 mask (SetTable.leap mask i q).1 (SetTable.leap mask i q).2) := fun r => by rw [itr_add, ej]
   refine ⟨r + (SetTable.runEnd mask i - i + 1), by rw [ea]; exact e1, by rw [ea]; exact e2, by rw [ea]; exact e3, fun m hm => ?_⟩
   by_cases c : m <= SetTable.runEnd mask i - i
   ·rw [itr_run mask i q m c]; exact hall m c
   ·rw [show m = (m - (SetTable.runEnd mask i - i + 1)) + (SetTable.runEnd mask i - i + 1) by omega, ea]
    exact e4 _ (by omega)
structure OwnOk (mask : Nat) (hs : List Int) (owner : Own) : Prop where
 size : owner.size = mask + 1
 at' : ∀ (idx : Nat) h, hs[idx]? = some h -> ∃ j : Nat, j <= mask /\ owner[j]? = some (some idx) /\ Rch mask (Fl owner) h j
 back : ∀ (j idx : Nat), owner[j]? = some (some idx) -> idx < hs.length
 inj : ∀ (j j' idx : Nat), owner[j]? = some (some idx) -> owner[j']? = some (some idx) -> j = j'
 few : ∃ l : List Nat, l.length = hs.length /\ ∀ j, Fl owner j -> j ∈ l
theorem OwnOk.new (mask : Nat) : OwnOk mask [] (Array.replicate (mask + 1) none) := by
 have no : ∀ (j idx : Nat), (Array.replicate (mask + 1) (none : Option Nat))[j]? = some (some idx) -> False := fun j idx h => by
  rw [Array.getElem?_replicate] at h
  split at h <;> cases h
 exact ⟨by simp, fun idx h e => by simp at e, fun j idx h => (no j idx h).elim, fun j j' idx h => (no j idx h).elim, [], rfl, fun j ⟨idx, h⟩ => (no j idx h).elim⟩
theorem OwnOk.add {hs : List Int} (hm : Mask mask) (O : OwnOk mask hs owner) (h : Int) (hr : hs.length <= mask) :
  ∃ j, SetTable.layClean.free mask owner (SetTable.turns mask) (SetTable.bits h % (mask + 1)) (SetTable.bits h) = some j /\ OwnOk mask (hs ++ [h]) (owner.setIfInBounds j (some hs.length)) := by
 obtain ⟨l, hl, hfl⟩ := O.few
 have ⟨j0, hj0, hn0⟩ : ∃ j, j <= mask /\ ¬ Fl owner j := by
  refine Classical.byContradiction fun z => ?_
  have sub : List.range (mask + 1) ⊆ l := fun j hj => hfl j (Classical.byContradiction fun nf => z ⟨j, by have := List.mem_range.mp hj; omega, nf⟩)
  have := List.Nodup.length_le_of_subset List.nodup_range sub
  rw [List.length_range] at this
  omega
 obtain ⟨k, hk, e⟩ := all_met hm (i := SetTable.bits h % (mask + 1)) (bits_lt64 h) hj0
 have him : SetTable.bits h % (mask + 1) <= mask := Nat.le_of_lt_succ (Nat.mod_lt _ (Nat.succ_pos _))
 obtain ⟨r, f1, f2, f3, f4⟩ := free_spec O.size (SetTable.turns mask) _ (SetTable.bits h) him ⟨k, by unfold SetTable.turns; omega, by rw [e]; exact hn0⟩
 refine ⟨_, f1, ?_⟩
 generalize hj : (itr mask r (st0 mask (SetTable.bits h % (mask + 1)) (SetTable.bits h))).j = j at f2 f3
 have hjs : j < owner.size := by rw [O.size]; omega
 have get : ∀ m : Nat, (owner.setIfInBounds j (some hs.length))[m]? = if j = m then some (some hs.length) else owner[m]? := fun m => by
  rw [Array.getElem?_setIfInBounds]
  by_cases c : j = m
  ·subst c; rw [if_pos rfl, if_pos rfl, if_pos hjs]
  ·rw [if_neg c, if_neg c]
 have flm : ∀ m, Fl owner m -> Fl (owner.setIfInBounds j (some hs.length)) m := fun m ⟨idx, e⟩ => ⟨idx, by
  rw [get, if_neg (fun z => f3 ⟨idx, by rw [z]; exact e⟩)]; exact e⟩
 refine ⟨by simp [O.size], fun idx g eg => ?_, fun m idx hm' => ?_, fun m m' idx h1 h2 => ?_, l ++ [j], by simp [hl], fun m ⟨idx, hm'⟩ => ?_⟩
 ·by_cases c : idx < hs.length
  ·rw [List.getElem?_append_left c] at eg
   obtain ⟨m, m1, m2, m3⟩ := O.at' idx g eg
   exact ⟨m, m1, by rw [get, if_neg (fun z => f3 ⟨idx, by rw [z]; exact m2⟩)]; exact m2, m3.mono flm⟩
  ·rw [List.getElem?_append_right (by omega)] at eg
   have hc : idx - hs.length = 0 := by
    have := (List.getElem?_eq_some_iff.mp eg).1
    simp at this; omega
   rw [hc] at eg
   cases eg
   have : idx = hs.length := by omega
   subst this
   exact ⟨j, f2, by rw [get, if_pos rfl], r, hj, fun m hm' => flm _ (f4 m hm')⟩
 ·rw [get] at hm'
  rw [List.length_append]
  split at hm'
  ·cases hm'; simp
  ·have := O.back m idx hm'; omega
 ·rw [get] at h1 h2
  split at h1
  ·cases h1
   split at h2
   ·omega
   ·have := O.back m' _ h2; omega
  ·split at h2
   ·cases h2
    have := O.back m _ h1; omega
   ·exact O.inj m m' idx h1 h2
 ·rw [get] at hm'
  split at hm'
  ·rename_i c; exact List.mem_append_right _ (by simp [c])
  ·exact List.mem_append_left _ (hfl m ⟨idx, hm'⟩)
theorem clean_ok (hm : Mask mask) : ∀ (rest hs : List Int) (owner : Own), OwnOk mask hs owner -> hs.length + rest.length <= mask ->
  ∃ o2, rest.foldl (fun (acc : Option (Own × Nat)) h => do
   let (owner, k) ← acc
   let j ← SetTable.layClean.free mask owner (SetTable.turns mask) (SetTable.bits h % (mask + 1)) (SetTable.bits h)
   pure (owner.setIfInBounds j (some k), k + 1)) (some (owner, hs.length)) = some (o2, hs.length + rest.length) /\ OwnOk mask (hs ++ rest) o2
 | [], hs, owner, O, _ => ⟨owner, rfl, by rw [List.append_nil]; exact O⟩
 | h :: rest, hs, owner, O, hl => by
  obtain ⟨j, e, O2⟩ := O.add hm h (by rw [List.length_cons] at hl; omega)
  rw [List.foldl_cons]
  obtain ⟨o2, e2, O3⟩ := clean_ok hm rest (hs ++ [h]) _ O2 (by rw [List.length_append]; simp at hl ⊢; omega)
  refine ⟨o2, ?_, by rw [List.append_assoc] at O3; exact O3⟩
  rw [List.length_append] at e2
  simp only [Option.bind_eq_bind, Option.bind_some, e, pure]
  rw [List.length_cons, show hs.length + (rest.length + 1) = hs.length + [h].length + rest.length by simp; omega]
  exact e2
theorem layClean_ok (hm : Mask mask) (hs : Array Int) (hl : hs.size <= mask) : ∃ o2, SetTable.layClean mask hs = some o2 /\ OwnOk mask hs.toList o2 := by
 obtain ⟨o2, e, O⟩ := clean_ok hm hs.toList [] _ (OwnOk.new mask) (by simpa using hl)
 refine ⟨o2, ?_, by simpa using O⟩
 unfold SetTable.layClean
 rw [← Array.foldl_toList]
 have e : List.foldl _ (some (Array.replicate (mask + 1) none, 0)) hs.toList = some (o2, _) := e
 rw [e]
 rfl
def liveOf (mask : Nat) (o : Own) : List (Nat × Nat) := (List.range (mask + 1)).filterMap fun j => (o.getD j none).map (j, ·)
theorem live_mem {mask : Nat} {o : Own} (hs : o.size = mask + 1) (p : Nat × Nat) : p ∈ liveOf mask o ↔ o[p.1]? = some (some p.2) := by
 unfold liveOf
 rw [List.mem_filterMap]
 have ed : ∀ j, j < o.size -> o.getD j none = o[j]?.join := fun j hj => by simp [Array.getD, hj]
 constructor
 ·rintro ⟨j, hj, e⟩
  rw [ed j (by rw [hs]; exact List.mem_range.mp hj)] at e
  obtain ⟨idx, e1, rfl⟩ := Option.map_eq_some_iff.mp e
  show o[j]? = some (some idx)
  cases q : o[j]? with
  | none => rw [q] at e1; cases e1
  | some z => rw [q] at e1; exact congrArg some e1
 ·intro h
  have hj : p.1 < o.size := (Array.getElem?_eq_some_iff.mp h).1
  exact ⟨p.1, List.mem_range.mpr (by omega), by rw [ed _ hj, h]; rfl⟩
theorem live_up (mask : Nat) (o : Own) : ((liveOf mask o).map (·.1)).Pairwise (· < ·) := by
 unfold liveOf
 rw [List.pairwise_map]
 refine List.Pairwise.filterMap _ (fun a a' h b hb b' hb' => ?_) List.pairwise_lt_range
 obtain ⟨_, _, rfl⟩ := Option.map_eq_some_iff.mp hb
 obtain ⟨_, _, rfl⟩ := Option.map_eq_some_iff.mp hb'
 exact h
theorem live_nodup {hs : List Int} {o : Own} (O : OwnOk mask hs o) : ((liveOf mask o).map (·.2)).Nodup := by
 have h1 := live_up mask o
 rw [List.pairwise_map] at h1
 unfold List.Nodup
 rw [List.pairwise_map]
 refine List.Pairwise.imp_of_mem (fun {a b} ha hb h e => ?_) h1
 have h2 := (live_mem O.size a).mp ha
 have h3 := (live_mem O.size b).mp hb
 rw [← e] at h3
 have := O.inj a.1 b.1 a.2 h2 h3
 omega
theorem live_len {hs : List Int} {o : Own} (O : OwnOk mask hs o) : (liveOf mask o).length = hs.length := by
 have nd := live_nodup O
 have s1 : (liveOf mask o).map (·.2) ⊆ List.range hs.length := fun x hx => by
  obtain ⟨p, hp, rfl⟩ := List.mem_map.mp hx
  exact List.mem_range.mpr (O.back _ _ ((live_mem O.size p).mp hp))
 have s2 : List.range hs.length ⊆ (liveOf mask o).map (·.2) := fun x hx => by
  have hx := List.mem_range.mp hx
  obtain ⟨j, _, e, _⟩ := O.at' x _ (List.getElem?_eq_getElem hx)
  exact List.mem_map.mpr ⟨(j, x), (live_mem O.size (j, x)).mpr e, rfl⟩
 have l1 := List.Nodup.length_le_of_subset nd s1
 have l2 := List.Nodup.length_le_of_subset List.nodup_range s2
 rw [List.length_range, List.length_map] at *
 omega
theorem zip_maps {α β γ : Type} (f : α -> β) (g : α -> γ) : ∀ l : List α, (l.map f).zip (l.map g) = l.map fun x => (f x, g x)
 | [] => rfl
 | x :: r => by rw [List.map_cons, List.map_cons, List.zip_cons_cons, zip_maps f g r]; rfl
theorem relaid_ok {t : SetTable} {es : Array (Int × Value)} {wanted : Nat} (hm : Mask (SetTable.sizeAbove wanted - 1)) (hl : es.size <= SetTable.sizeAbove wanted - 1) :
  ∃ t2 order, t.relaid (es.map (·.1)) wanted = some (t2, order) /\ (order.filterMap (es[·]?)).toList.Perm es.toList /\ TabOk t2 ((order.filterMap (es[·]?)).toList.map (·.1)) /\ t2.led = t.led /\ t2.mask = SetTable.sizeAbove wanted - 1 := by
 generalize hM : SetTable.sizeAbove wanted - 1 = mask at hm hl
 obtain ⟨o, e, O⟩ := layClean_ok hm (es.map (·.1)) (by simpa using hl)
 have hsz : (es.map (·.1)).toList.length = es.size := by simp
 refine ⟨{ mask := mask, place := ((liveOf mask o).map (·.1)).toArray, dummies := #[], finger := t.finger, led := t.led, moves := t.movedTo mask, plain := t.plain }, ((liveOf mask o).map (·.2)).toArray, ?_, ?_⟩
 ·unfold SetTable.relaid SetTable.laid
  rw [hM, e]
  rfl
 have idx : ∀ p ∈ liveOf mask o, p.2 < es.size := fun p hp => by have := O.back _ _ ((live_mem O.size p).mp hp); rwa [hsz] at this
 have el : (((liveOf mask o).map (·.2)).toArray.filterMap (es[·]?)).toList = (liveOf mask o).map fun p => es.getD p.2 (0, .none) := by
  rw [Array.toList_filterMap]
  show List.filterMap (es[·]?) ((liveOf mask o).map (·.2)) = _
  rw [List.filterMap_map]
  have : ∀ l : List (Nat × Nat), (∀ p ∈ l, p.2 < es.size) -> List.filterMap ((es[·]?) ∘ (·.2)) l = l.map fun p => es.getD p.2 (0, .none) := fun l => by
   induction l with
   | nil => intro _; rfl
   | cons p r ih =>
    intro h
    have hp := h p List.mem_cons_self
    have e1 : ((es[·]?) ∘ (·.2)) p = some es[p.2] := by show es[p.2]? = _; exact Array.getElem?_eq_getElem hp
    rw [List.filterMap_cons_some e1, List.map_cons, ih fun q hq => h q (List.mem_cons_of_mem _ hq)]
    congr 1
    simp [Array.getD, hp]
  exact this _ idx
 have perm : ((liveOf mask o).map (·.2)).Perm (List.range es.size) := by
  refine (List.perm_ext_iff_of_nodup (live_nodup O) List.nodup_range).mpr fun x => ⟨fun hx => ?_, fun hx => ?_⟩
  ·obtain ⟨p, hp, rfl⟩ := List.mem_map.mp hx
   exact List.mem_range.mpr (idx p hp)
  ·have hx := List.mem_range.mp hx
   obtain ⟨j, _, e, _⟩ := O.at' x _ (List.getElem?_eq_getElem (by rw [hsz]; exact hx))
   exact List.mem_map.mpr ⟨(j, x), (live_mem O.size (j, x)).mpr e, rfl⟩
 refine ⟨?_, ⟨?_, rfl, ?_, hm, ?_, fun p hp => ?_⟩, rfl, rfl⟩
 ·rw [el]
  have := perm.map fun i => es.getD i (0, .none)
  rw [List.map_map] at this
  refine this.trans ?_
  have e3 : (List.range es.size).map (fun i => es.getD i (0, .none)) = es.toList := by
   apply List.ext_getElem
   ·simp
   ·intro i h1 h2
    simp at h1
    simp [Array.getD, h1]
  rw [e3]
 ·exact live_up mask o
 ·rw [el]; simp
 ·rw [el, List.length_map, List.length_map, live_len O, hsz]; exact hl
 ·rw [el, List.map_map] at hp
  have hp : p ∈ ((liveOf mask o).map ((fun x : Int × Value => x.1) ∘ fun p => es.getD p.2 (0, .none))).zip ((liveOf mask o).map (·.1)) := hp
  rw [zip_maps] at hp
  obtain ⟨q, hq, rfl⟩ := List.mem_map.mp hp
  have hqm := (live_mem O.size q).mp hq
  have hqi := idx q hq
  obtain ⟨j, _, e1, r1⟩ := O.at' q.2 (es[q.2]).1 (by rw [Array.toList_map, List.getElem?_map, Array.getElem?_toList, Array.getElem?_eq_getElem hqi]; rfl)
  have ej := O.inj j q.1 q.2 e1 hqm
  subst ej
  have eg : (es.getD q.2 (0, .none)).1 = (es[q.2]).1 := by simp [Array.getD, hqi]
  show Rch mask _ (es.getD q.2 (0, .none)).1 q.1
  rw [eg]
  refine r1.mono fun m ⟨i, hi⟩ => ?_
  show m ∈ (liveOf mask o).map (·.1)
  exact List.mem_map.mpr ⟨(m, i), (live_mem O.size (m, i)).mpr hi, rfl⟩
end
end L2
namespace L2
open PySem PySem.Spec PyProof.Rows PySem.W PySem.Calls
abbrev tK (prog : Program) (w : World) := tupleKind (mixKind prog w)
section
variable {prog : Program} {w : World} {A : Around} {E : Value -> Shared -> Prop} {s : Shared}
theorem cls_byValue (n : Nat) {v : Value} (h : carriedByValue v = true) : ofAClassStatement n v = pure false := by
 cases v <;> first | (cases h; done) | (cases n <;> simp [ofAClassStatement])
theorem ts_cls {k : List Key} {b : Addr} {Q : Bool -> Shared -> Prop} (hk : (tK prog w).is s.heap k b) (h : Q false s) : wpAny (model prog w) A (ofAClassStatement 8 (.ref b)) Q E s := by
 have hk : IsTupleKey (mixKind prog w) s.heap k b := hk
 have hT := hk.typeIs
 obtain ⟨o, items, n, ho, _, hd, hi⟩ := hk
 unfold ofAClassStatement
 refine wpAny_bind (wpAny_typeOf hT ?_)
 dsimp only
 refine wpAny_bind (wpAny_pure ?_)
 rw [if_neg (by decide)]
 refine wpAny_bind (wpAny_seqItems ho hd ?_)
 dsimp only
 refine wpAny_bind ?_
 rw [← Array.forIn_toList]
 refine wpAny_forIn_list _ (fun rest r s' => r.1 = none /\ s' = s /\ ∀ v ∈ rest, carriedByValue v = true) _ ?_ ?_ _ _ ⟨rfl, rfl, hi.byValue⟩
 ·rintro v rest r s' ⟨hr, rfl, hall⟩
  rw [cls_byValue _ (hall v List.mem_cons_self)]
  refine wpAny_bind (wpAny_pure ?_)
  rw [if_neg Bool.false_ne_true]
  exact wpAny_pure ⟨rfl, rfl, fun u hu => hall u (List.mem_cons_of_mem _ hu)⟩
 ·rintro ⟨r1, r2⟩ s' ⟨hr, rfl, _⟩
  simp only at hr
  subst hr
  exact wpAny_pure h
theorem ts_seen {k : List Key} {b : Addr} {stored : List Value} {Q : Bool -> Shared -> Prop} (hk : (tK prog w).is s.heap k b) (hs : ∀ y ∈ stored, ∃ c k', y = .ref c /\ (tK prog w).is s.heap k' c) (h : Q false s) : wpAny (model prog w) A (searchCouldBeSeen (.ref b) stored) Q E s := by
 unfold searchCouldBeSeen
 refine wpAny_bind ?_
 refine wpAny_forIn_list _ (fun rest r s' => r.1 = none /\ s' = s /\ ∀ y ∈ rest, ∃ c k', y = .ref c /\ (tK prog w).is s.heap k' c) _ ?_ ?_ _ _ ⟨rfl, rfl, hs⟩
 ·rintro v rest r s' ⟨hr, rfl, hall⟩
  obtain ⟨c, k', rfl, hc⟩ := hall v List.mem_cons_self
  have rst := fun u hu => hall u (List.mem_cons_of_mem _ hu)
  dsimp only
  by_cases e : (b == c || (carriedByValue (.ref b) && carriedByValue (.ref c))) = true
  ·rw [if_pos e]
   exact wpAny_pure ⟨rfl, rfl, rst⟩
  ·rw [if_neg e]
   refine wpAny_bind ((tK prog w).quiet hk ?_)
   rw [if_neg (by decide)]
   refine wpAny_bind ((tK prog w).quiet hc ?_)
   rw [if_neg (by decide)]
   refine wpAny_bind (ts_cls hk ?_)
   rw [if_neg Bool.false_ne_true]
   refine wpAny_bind (ts_cls hc ?_)
   rw [if_neg Bool.false_ne_true]
   exact wpAny_pure ⟨rfl, rfl, rst⟩
 ·rintro ⟨r1, r2⟩ s' ⟨hr, rfl, _⟩
  simp only at hr
  subst hr
  exact wpAny_pure h
theorem byval_pure (n : Nat) {v : Value} (h : carriedByValue v = true) : ∃ r, hashByValue n v = pure r := by
 cases v <;> first | (cases h; done) | (cases n <;> exact ⟨_, by first | rfl | (unfold hashByValue; rfl)⟩)
theorem ts_byval {k : List Key} {b : Addr} {Q : Bool -> Shared -> Prop} (hk : (tK prog w).is s.heap k b) (h : ∀ r, Q r s) : wpAny (model prog w) A (hashByValue 8 (.ref b)) Q E s := by
 have hk : IsTupleKey (mixKind prog w) s.heap k b := hk
 have hT := hk.typeIs
 obtain ⟨o, items, n, ho, _, hd, hi⟩ := hk
 unfold hashByValue
 refine wpAny_bind (wpAny_specialOf hT PySem.F.slot_tuple_hash.lookup ?_)
 dsimp only
 refine wpAny_bind (wpAny_seqItems ho hd ?_)
 refine wpAny_bind ?_
 show wpAny _ _ (forIn items _ _) _ _ s
 rw [← Array.forIn_toList]
 refine wpAny_forIn_list _ (fun rest r s' => s' = s /\ ∀ v ∈ rest, carriedByValue v = true) _ ?_ ?_ _ _ ⟨rfl, hi.byValue⟩
 ·rintro v rest r s' ⟨rfl, hall⟩
  obtain ⟨c, hc⟩ := byval_pure 7 (hall v List.mem_cons_self)
  rw [hc]
  refine wpAny_bind (wpAny_pure ?_)
  cases c with
  | true =>
   rw [if_neg (by decide)]
   exact wpAny_pure ⟨rfl, fun u hu => hall u (List.mem_cons_of_mem _ hu)⟩
  | false =>
   rw [if_pos (by decide)]
   exact wpAny_pure (wpAny_pure (h _))
 ·rintro ⟨r1, r2⟩ s' ⟨rfl, _⟩
  cases r1 with
  | none => exact wpAny_pure (h _)
  | some r => exact wpAny_pure (h _)
abbrev Tx := List (List Key × Addr)
structure TsAt (prog : Program) (w : World) (h : Heap) (a : Addr) (xs : Tx) (ep : Nat) (t : SetTable) : Prop where
 obj : ∃ o, h.get? a = some o /\ o.ExactSet /\ o.data = .set (xs.map fun x => ((tK prog w).hash x.1, Value.ref x.2)).toArray ep t
 tup : ∀ x ∈ xs, (tK prog w).is h x.1 x.2
 nd : (xs.map (·.1)).Nodup
 tab : TabOk t (xs.map fun x => (tK prog w).hash x.1)
 few : xs.length * 5 < t.mask * 3
variable {a : Addr} {xs : Tx} {ep : Nat} {t : SetTable}
theorem TsAt.state (T : TsAt prog w s.heap a xs ep t) {Q : (Array (Int × Value) × Nat × SetTable) -> Shared -> Prop} (h : Q ((xs.map fun x => ((tK prog w).hash x.1, Value.ref x.2)).toArray, ep, t) s) : wpAny (model prog w) A (setState a) Q E s := by
 obtain ⟨o, e1, e2, e3⟩ := T.obj
 exact wpAny_setState_of e1 e3 (T.tab.fits (by simp)) h
theorem mask_odd {m : Nat} (h : Mask m) : (m % 2 == 0) = false := by rcases h with rfl | rfl | rfl <;> rfl
theorem ts_search {k : List Key} {b : Addr} {Q : SetFound -> Shared -> Prop} (hu : (tK prog w).room A) (T : TsAt prog w s.heap a xs ep t) (hk : (tK prog w).is s.heap k b) {En : Nat} (hE : En < 10 * (t.mask + 15)) (he : (sq t.mask ((tK prog w).hash k) En).j ∉ t.place.toList) (hl : ∀ m, m < En -> (sq t.mask ((tK prog w).hash k) m).j ∈ t.place.toList)
  (h1 : k ∈ xs.map (·.1) -> Q (.there none) s) (h2 : k ∉ xs.map (·.1) -> Q (.free (sq t.mask ((tK prog w).hash k) En).j false) s) :
  ∀ (fuel k0 : Nat) (stand : Option SetTable.Probe), stand.getD (t.probeStart ((tK prog w).hash k)) = sq t.mask ((tK prog w).hash k) k0 -> k0 <= En -> En - k0 < fuel -> (∀ m (i : Nat) x, m < k0 -> t.place[i]? = some (sq t.mask ((tK prog w).hash k) m).j -> xs[i]? = some x -> x.1 ≠ k) ->
   wpAny (model prog w) A (setSearchFrom a (.ref b) ((tK prog w).hash k) true fuel stand) Q E s
 | 0, k0, stand, _, _, hf, _ => absurd hf (Nat.not_lt_zero _)
 | fuel + 1, k0, stand, hst, hk0, hf, hno => by
  unfold setSearchFrom
  refine wpAny_bind (T.state ?_)
  dsimp only
  rw [show t.gaveWay = false from mask_odd T.tab.msk, if_neg Bool.false_ne_true]
  rw [hst]
  have pe : ∀ f : Nat -> Int, (∀ i, f i = (((xs.map fun x => ((tK prog w).hash x.1, Value.ref x.2)).toArray[i]?).map (·.1)).getD 0) -> t.probe f ((tK prog w).hash k) (sq t.mask ((tK prog w).hash k) k0) = t.probe (fun i => (((xs.map fun x => ((tK prog w).hash x.1, Value.ref x.2)).toArray[i]?).map (·.1)).getD 0) ((tK prog w).hash k) (sq t.mask ((tK prog w).hash k) k0) := fun f hf => by rw [funext hf]
  rw [pe _ ?sideg]
  case sideg => intro i; rfl
  have hat : ∀ (i : Nat) x, xs[i]? = some x -> (((xs.map fun x => ((tK prog w).hash x.1, Value.ref x.2)).toArray[i]?).map (·.1)).getD 0 = (tK prog w).hash x.1 := fun i x e => by
   rw [List.getElem?_toArray, List.getElem?_map, e]; rfl
  have plx : ∀ (i j : Nat), t.place[i]? = some j -> ∃ x, xs[i]? = some x := fun i j e => by
   have h1 := (Array.getElem?_eq_some_iff.mp e).1
   rw [T.tab.len, List.length_map] at h1
   exact ⟨_, List.getElem?_eq_getElem h1⟩
  have gg := T.tab.go he hl (10 * SetTable.turns t.mask) k0 hk0 (by unfold SetTable.turns; omega) (hashAt := fun i => (((xs.map fun x => ((tK prog w).hash x.1, Value.ref x.2)).toArray[i]?).map (·.1)).getD 0)
  unfold SetTable.probe
  rcases gg with ⟨g1, g2⟩ | ⟨m, i, g1, g2, g3, g4, g5, g6⟩
  ·rw [g1]
   dsimp only
   refine wpAny_pure (h2 fun hin => ?_)
   obtain ⟨x, hx, ex⟩ := List.mem_map.mp hin
   obtain ⟨i, hi⟩ := List.getElem?_of_mem hx
   have hil : i < xs.length := (List.getElem?_eq_some_iff.mp hi).1
   have hip : i < t.place.size := by rw [T.tab.len, List.length_map]; exact hil
   have hz : ((tK prog w).hash k, t.place[i]) ∈ (xs.map fun x => (tK prog w).hash x.1).zip t.place.toList := by
    refine List.mem_of_getElem? (i := i) ?_
    rw [List.getElem?_zip_eq_some]
    exact ⟨by rw [List.getElem?_map, hi, ← ex]; rfl, by rw [Array.getElem?_toList, Array.getElem?_eq_getElem hip]⟩
   obtain ⟨n, en, ln⟩ := T.tab.reach _ hz
   have hnE : n < En := by
    rcases Nat.lt_trichotomy n En with c | c | c
    ·exact c
    ·subst c; exact absurd (by rw [en]; simp) he
    ·exact absurd (ln En c) he
   have hpn : t.place[i]? = some (sq t.mask ((tK prog w).hash k) n).j := by rw [Array.getElem?_eq_getElem hip]; exact congrArg some en.symm
   by_cases c : n < k0
   ·exact hno n i x c hpn hi ex
   ·exact g2 n i (by omega) hnE hpn (by rw [hat i x hi, ex])
  ·rw [g5]
   dsimp only
   obtain ⟨x, hx⟩ := plx i _ g3
   have hxm := List.mem_of_getElem? hx
   have exi : (xs.map fun x => ((tK prog w).hash x.1, Value.ref x.2)).toArray[i]? = some ((tK prog w).hash x.1, Value.ref x.2) := by rw [List.getElem?_toArray, List.getElem?_map, hx]; rfl
   have hfin : x.1 ≠ k -> wpAny (model prog w) A (setSearchFrom a (.ref b) ((tK prog w).hash k) true fuel (some (sq t.mask ((tK prog w).hash k) (m + 1)))) Q E s := fun hne => by
    refine ts_search hu T hk hE he hl h1 h2 fuel (m + 1) _ rfl (by omega) (by omega) fun m' i' x' hm' hp' hx' => ?_
    by_cases c : m' < k0
    ·exact hno m' i' x' c hp' hx'
    ·by_cases c2 : m' = m
     ·subst c2
      have ei : i' = i := by rw [← below_at T.tab.up hp', below_at T.tab.up g3]
      subst ei
      rw [hx] at hx'; cases hx'; exact hne
     ·intro z
      exact g6 m' i' (by omega) (by omega) hp' (by rw [hat i' x' hx', z])
   have hseen : ∀ Q' : Bool -> Shared -> Prop, Q' false s -> wpAny (model prog w) A (searchCouldBeSeen (.ref b) (((xs.map fun x => ((tK prog w).hash x.1, Value.ref x.2)).toArray.filter fun e => e.1 == (tK prog w).hash k).toList.map (·.2))) Q' E s := fun Q' q => ts_seen hk (fun y hy => by
    obtain ⟨e, he', rfl⟩ := List.mem_map.mp hy
    have he2 : e ∈ (xs.map fun x => ((tK prog w).hash x.1, Value.ref x.2)).toArray := (Array.mem_filter.mp (Array.mem_toList_iff.mp he')).1
    obtain ⟨z, hz, rfl⟩ := List.mem_map.mp (by simpa using he2 : e ∈ xs.map fun x => ((tK prog w).hash x.1, Value.ref x.2))
    exact ⟨z.2, z.1, rfl, T.tup z hz⟩) q
   rw [exi]
   cases hled : t.led with
   | true =>
    rw [Bool.not_true, if_neg Bool.false_ne_true]
    dsimp only
    refine wpAny_bind (wpAny_holding ((tK prog w).eqBool hu (T.tup x hxm) hk ?_))
    refine wpAny_bind (T.state ?_)
    by_cases ek : x.1 = k
    ·rw [decide_eq_true ek, Bool.true_and, if_pos rfl]
     exact wpAny_pure (h1 (ek ▸ List.mem_map.mpr ⟨x, hxm, rfl⟩))
    ·rw [decide_eq_false ek, Bool.and_false, if_neg Bool.false_ne_true]
     dsimp only
     rw [show t.sameMemory t.moves t.mask = some true by unfold SetTable.sameMemory; rw [if_pos (beq_self_eq_true _)]]
     dsimp only
     rw [if_pos rfl, T.tab.live g3]
     dsimp only
     rw [exi]
     dsimp only
     refine wpAny_bind ?_
     unfold isSame
     dsimp only
     rw [if_pos (beq_self_eq_true _)]
     refine wpAny_pure (wpAny_bind (wpAny_pure ?_))
     rw [if_pos rfl]
     dsimp only
     rw [if_neg Bool.false_ne_true]
     exact hfin ek
   | false =>
    rw [Bool.not_false, if_pos rfl]
    refine wpAny_bind (hseen _ ?_)
    rw [if_neg Bool.false_ne_true]
    dsimp only
    refine wpAny_bind (wpAny_holding ((tK prog w).eqBool hu (T.tup x hxm) hk ?_))
    refine wpAny_bind (T.state ?_)
    by_cases ek : x.1 = k
    ·rw [decide_eq_true ek, Bool.true_and, if_pos rfl]
     exact wpAny_pure (h1 (ek ▸ List.mem_map.mpr ⟨x, hxm, rfl⟩))
    ·rw [decide_eq_false ek, Bool.and_false, if_neg Bool.false_ne_true]
     dsimp only
     rw [show t.sameMemory t.moves t.mask = some true by unfold SetTable.sameMemory; rw [if_pos (beq_self_eq_true _)]]
     dsimp only
     rw [if_pos rfl, T.tab.live g3]
     dsimp only
     rw [exi]
     dsimp only
     refine wpAny_bind ?_
     unfold isSame
     dsimp only
     rw [if_pos (beq_self_eq_true _)]
     refine wpAny_pure (wpAny_bind (wpAny_pure ?_))
     rw [if_pos rfl]
     dsimp only
     rw [if_neg Bool.false_ne_true]
     exact hfin ek
end
end L2
namespace L2
open PySem PySem.Spec PyProof.Rows PySem.W PySem.Calls
theorem perm_map_inv {α β : Type} {f : α -> β} {l m : List β} (p : l.Perm m) : ∀ {xs : List α}, m = xs.map f -> ∃ ys : List α, l = ys.map f /\ ys.Perm xs := by
 induction p with
 | nil => intro xs h; exact ⟨[], rfl, by cases xs with
  | nil => exact .rfl
  | cons => cases h⟩
 | cons x _ ih =>
  intro xs h
  cases xs with
  | nil => cases h
  | cons y r =>
   rw [List.map_cons] at h
   injection h with h1 h2
   obtain ⟨ys, e, q⟩ := ih h2
   exact ⟨y :: ys, by rw [List.map_cons, e, h1], q.cons y⟩
 | swap x y r =>
  intro xs h
  cases xs with
  | nil => cases h
  | cons u v =>
   cases v with
   | nil => rw [List.map_cons] at h; injection h with _ h; cases h
   | cons z t =>
    rw [List.map_cons, List.map_cons] at h
    injection h with h1 h2
    injection h2 with h2 h3
    exact ⟨z :: u :: t, by rw [List.map_cons, List.map_cons, h1, h2, h3], List.Perm.swap _ _ _⟩
 | trans _ _ ih1 ih2 =>
  intro xs h
  obtain ⟨ys, e, q⟩ := ih2 h
  obtain ⟨zs, e2, q2⟩ := ih1 e
  exact ⟨zs, e2, q2.trans q⟩
section
variable {prog : Program} {w : World} {A : Around} {E : Value -> Shared -> Prop} {s : Shared} {a : Addr} {xs : Tx} {ep : Nat} {t : SetTable}
theorem tk_keep {h h' : Heap} {k : List Key} {c : Addr} (x : (tK prog w).is h k c) (kp : ∀ o, h.get? c = some o -> o.cls = .type "tuple" -> h'.get? c = some o) : (tK prog w).is h' k c := by
 have x : IsTupleKey (mixKind prog w) h k c := x
 obtain ⟨o, items, n, ho, hc, r⟩ := x
 exact (show IsTupleKey (mixKind prog w) h' k c from ⟨o, items, n, kp o ho hc, hc, r⟩)
theorem tk_same {h h' : Heap} {k : List Key} {c : Addr} {o : Obj} (x : (tK prog w).is h k c) (ho : h.get? a = some o) (hx : o.ExactSet) (sb : Heap.SameBut a h h') : (tK prog w).is h' k c :=
 tk_keep x fun o' e hc => (sb.2 c (fun z => by subst z; rw [ho] at e; cases e; rw [hx.1] at hc; exact absurd (Value.type.inj hc) (by decide))).trans e
theorem grow_ok {n m : Nat} (hm : Mask m) (h1 : n * 5 < m * 3) (h2 : (n + 1) * 5 ≥ m * 3) (h3 : n < 70) : Mask (SetTable.sizeAbove (SetTable.grown (n + 1)) - 1) /\ n + 1 <= SetTable.sizeAbove (SetTable.grown (n + 1)) - 1 /\ (n + 1) * 5 < (SetTable.sizeAbove (SetTable.grown (n + 1)) - 1) * 3 /\ SetTable.sizeAbove (SetTable.grown (n + 1)) <= sizeLine := by
 rcases hm with rfl | rfl | rfl
 ·have : n = 4 := by omega
  subst this
  exact ⟨.inr (.inl (by decide +kernel)), by decide +kernel, by decide +kernel, by rw [sizeLine_eq]; decide +kernel⟩
 ·have : n = 18 := by omega
  subst this
  exact ⟨.inr (.inr (by decide +kernel)), by decide +kernel, by decide +kernel, by rw [sizeLine_eq]; decide +kernel⟩
 ·omega
abbrev fE (prog : Program) (w : World) : List Key × Addr -> Int × Value := fun x => ((tK prog w).hash x.1, Value.ref x.2)
theorem ts_add {k : List Key} {b : Addr} {Q : Bool -> Shared -> Prop} (hu : (tK prog w).room A) (T : TsAt prog w s.heap a xs ep t) (hk : (tK prog w).is s.heap k b) (hn : xs.length < 70)
  (h : ∀ h' r xs' ep' t', Heap.SameBut a s.heap h' -> TsAt prog w h' a xs' ep' t' -> (∀ q, q ∈ xs'.map (·.1) ↔ q ∈ xs.map (·.1) ∨ q = k) -> xs'.length <= xs.length + 1 -> Q r { s with heap := h' }) :
  wpAny (model prog w) A (setAddHashed a (.ref b) ((tK prog w).hash k)) Q E s := by
 obtain ⟨o, ho, hex, hd⟩ := T.obj
 unfold setAddHashed setAddHashedIn
 refine wpAny_holding (wpAny_bind (T.state ?_))
 dsimp only
 rw [show byScan (.ref b) (xs.map fun x => ((tK prog w).hash x.1, Value.ref x.2)).toArray = false from rfl, if_neg Bool.false_ne_true]
 obtain ⟨En, hE, he, hl⟩ := T.tab.first ((tK prog w).hash k)
 refine wpAny_bind ?_
 unfold setSearch
 have hm127 : t.mask <= 127 := by rcases T.tab.msk with e | e | e <;> omega
 refine ts_search hu T hk hE he hl (fun hin => ?_) (fun hnin => ?_) 100000 0 none rfl (Nat.zero_le _) (by omega) fun m i x hm => absurd hm (Nat.not_lt_zero _)
 ·dsimp only
  refine wpAny_pure ?_
  have := h s.heap false xs ep t (Heap.SameBut.refl a s.heap) T (fun q => ⟨.inl, fun z => z.elim id fun e => e ▸ hin⟩) (by omega)
  cases s; exact this
 ·dsimp only
  refine wpAny_bind (T.state ?_)
  dsimp only
  have hfew := T.few
  have hroom : (xs.map fun x => (tK prog w).hash x.1).length + 1 <= t.mask := by
   rw [List.length_map]
   rcases T.tab.msk with e | e | e <;> omega
  generalize hp : (t.put (sq t.mask ((tK prog w).hash k) En).j).2 = p
  have main : ∀ t1 : SetTable, (∃ pl, t1 = { (t.put (sq t.mask ((tK prog w).hash k) En).j).1 with plain := pl }) -> wpAny (model prog w) A (do
    storeSet a (SetTable.insertAt (xs.map (fE prog w)).toArray p ((tK prog w).hash k, Value.ref b)) t1
    if (!false && t1.tooFull) = true then
      setRelay a (SetTable.grown ((xs.map (fE prog w)).toArray.size + 1))
      pure true
     else pure true) Q E s := by
   rintro t1 ⟨pl, rfl⟩
   have T1 := T.tab.put he hl hroom pl
   rw [hp] at T1
   have es1 : SetTable.insertAt (xs.map (fE prog w)).toArray p ((tK prog w).hash k, Value.ref b) = ((xs.take p ++ (k, b) :: xs.drop p).map (fE prog w)).toArray := by
    apply Array.toList_inj.mp
    rw [SetTable.toList_insertAt]
    show (xs.map (fE prog w)).take p ++ _ :: (xs.map (fE prog w)).drop p = _
    rw [List.map_append, List.map_cons, List.map_take, List.map_drop]
   have hs1 : (xs.map fun x => (tK prog w).hash x.1).take p ++ (tK prog w).hash k :: (xs.map fun x => (tK prog w).hash x.1).drop p = (xs.take p ++ (k, b) :: xs.drop p).map fun x => (tK prog w).hash x.1 := by
    rw [List.map_append, List.map_cons, List.map_take, List.map_drop]
   rw [hs1] at T1
   have mem1 : ∀ z, z ∈ xs.take p ++ (k, b) :: xs.drop p ↔ z ∈ xs ∨ z = (k, b) := fun z => by
    rw [List.mem_append, List.mem_cons]
    have e := List.take_append_drop p xs
    constructor
    ·rintro (y | y | y)
     ·exact .inl (List.mem_of_mem_take y)
     ·exact .inr y
     ·exact .inl (List.mem_of_mem_drop y)
    ·rintro (y | y)
     ·rw [← e] at y
      rcases List.mem_append.mp y with y | y
      ·exact .inl y
      ·exact .inr (.inr y)
     ·exact .inr (.inl y)
   have perm1 : (xs.take p ++ (k, b) :: xs.drop p).Perm ((k, b) :: xs) := by
    refine List.perm_middle.trans ?_
    rw [List.take_append_drop]
   have len1 : (xs.take p ++ (k, b) :: xs.drop p).length = xs.length + 1 := by rw [perm1.length_eq]; rfl
   have nd1 : ((xs.take p ++ (k, b) :: xs.drop p).map (·.1)).Nodup := by
    refine (perm1.map (·.1)).nodup_iff.mpr ?_
    rw [List.map_cons, List.nodup_cons]
    exact ⟨hnin, T.nd⟩
   have size0 : (xs.map (fE prog w)).toArray.size = xs.length := by simp
   rw [es1, size0]
   clear es1 hs1
   generalize hx1 : xs.take p ++ (k, b) :: xs.drop p = xs1 at *
   generalize ht1 : ({ (t.put (sq t.mask ((tK prog w).hash k) En).j).1 with plain := pl } : SetTable) = t1 at T1
   have hmask : t1.mask = t.mask := by rw [← ht1]; rfl
   have sz1 : (xs1.map (fE prog w)).toArray.size <= sizeLine := by rw [sizeLine_eq]; simp; omega
   refine wpAny_bind (wpAny_storeSet_of ho hd ?_ sz1)
   have hg : (s.heap.update a (Obj.putSet (xs1.map (fE prog w)).toArray t1)).get? a = some { o with data := .set (xs1.map (fE prog w)).toArray (ep + 1) t1 } := by
    have := Heap.get?_update_self (Obj.putSet (xs1.map (fE prog w)).toArray t1) ho (by rw [putSet_of _ _ hd]; rfl)
    rw [putSet_of _ _ hd] at this; exact this
   have hsb := Heap.SameBut.update s.heap a (Obj.putSet (xs1.map (fE prog w)).toArray t1)
   have keys1 : ∀ q, q ∈ xs1.map (·.1) ↔ q ∈ xs.map (·.1) ∨ q = k := fun q => by
    rw [(perm1.map (·.1)).mem_iff, List.map_cons, List.mem_cons]
    exact ⟨fun z => z.elim .inr .inl, fun z => z.elim .inr .inl⟩
   have fill1 : t1.fill = xs.length + 1 := by
    unfold SetTable.fill
    rw [T1.len, T1.dum, List.length_map, len1]; rfl
   have tup1 : ∀ h' : Heap, Heap.SameBut a s.heap h' -> ∀ x ∈ xs1, (tK prog w).is h' x.1 x.2 := fun h' sb x hx => by
    rcases (mem1 x).mp hx with z | z
    ·exact tk_same (T.tup x z) ho hex sb
    ·rw [z]; exact tk_same hk ho hex sb
   cases hT : t1.tooFull with
   | false =>
    rw [Bool.and_false, if_neg Bool.false_ne_true]
    have nf : ¬ ((xs.length + 1) * 5 ≥ t.mask * 3) := by
     have : decide (t1.fill * 5 ≥ t1.mask * 3) = false := hT
     rw [fill1, hmask] at this
     exact of_decide_eq_false this
    exact wpAny_pure (h _ true xs1 (ep + 1) t1 hsb ⟨⟨_, hg, hex, rfl⟩, tup1 _ hsb, nd1, T1, by rw [len1, hmask]; omega⟩ keys1 (by omega))
   | true =>
    rw [Bool.and_true, if_pos (by rfl)]
    have nf : (xs.length + 1) * 5 ≥ t.mask * 3 := by
     have : decide (t1.fill * 5 ≥ t1.mask * 3) = true := hT
     rw [fill1, hmask] at this
     exact of_decide_eq_true this
    obtain ⟨g1, g2, g3, g4⟩ := grow_ok T.tab.msk hfew nf hn
    refine wpAny_bind ?_
    unfold setRelay
    refine wpAny_bind (wpAny_setState_of (s := { s with heap := s.heap.update a (Obj.putSet (xs1.map (fE prog w)).toArray t1) }) hg rfl (T1.fits (by simp)) ?_)
    dsimp only
    rw [if_neg (by omega)]
    obtain ⟨t2, order, r1, r2, r3, r4, r5⟩ := relaid_ok (t := t1) (es := (xs1.map (fE prog w)).toArray) (wanted := SetTable.grown (xs.length + 1)) g1 (by simpa [len1] using g2)
    rw [r1]
    refine wpAny_bind ?_
    have hsz2 : (order.filterMap ((xs1.map (fE prog w)).toArray[·]?)).size = (xs1.map (fE prog w)).toArray.size := by
     have := r2.length_eq
     rw [Array.length_toList, Array.length_toList] at this
     exact this
    show wpAny _ _ (ite (((order.filterMap ((xs1.map (fE prog w)).toArray[·]?)).size != (xs1.map (fE prog w)).toArray.size) = true) _ _) _ _ _
    rw [if_neg (by rw [hsz2]; simp)]
    refine wpAny_pure ?_
    dsimp only
    obtain ⟨xs2, e2, p2⟩ := perm_map_inv r2 (f := fE prog w) (xs := xs1) rfl
    have ea : order.filterMap ((xs1.map (fE prog w)).toArray[·]?) = (xs2.map (fE prog w)).toArray := Array.toList_inj.mp e2
    rw [ea] at r3 ⊢
    have l2 : xs2.length = xs.length + 1 := by rw [p2.length_eq, len1]
    refine wpAny_storeSet_of (s := { s with heap := s.heap.update a (Obj.putSet (xs1.map (fE prog w)).toArray t1) }) hg rfl ?_ (by rw [sizeLine_eq]; simp; omega)
    have hg2 : ((s.heap.update a (Obj.putSet (xs1.map (fE prog w)).toArray t1)).update a (Obj.putSet (xs2.map (fE prog w)).toArray t2)).get? a = some { o with data := .set (xs2.map (fE prog w)).toArray (ep + 1 + 1) t2 } := by
     have := Heap.get?_update_self (Obj.putSet (xs2.map (fE prog w)).toArray t2) hg (by rw [putSet_of _ _ (show Obj.data { o with data := .set (xs1.map (fE prog w)).toArray (ep + 1) t1 } = _ from rfl)]; rfl)
     rw [putSet_of _ _ (show Obj.data { o with data := .set (xs1.map (fE prog w)).toArray (ep + 1) t1 } = _ from rfl)] at this
     exact this
    have hsb2 := hsb.trans (Heap.SameBut.update (s.heap.update a (Obj.putSet (xs1.map (fE prog w)).toArray t1)) a (Obj.putSet (xs2.map (fE prog w)).toArray t2))
    refine wpAny_pure (h _ true xs2 (ep + 1 + 1) t2 hsb2 ⟨⟨_, hg2, hex, rfl⟩, fun x hx => tup1 _ hsb2 x (p2.mem_iff.mp hx), (p2.map (·.1)).nodup_iff.mpr nd1, ?_, by rw [l2, r5]; exact g3⟩ (fun q => by rw [(p2.map (·.1)).mem_iff]; exact keys1 q) (by omega))
    have e3 : (xs2.map (fE prog w)).toArray.toList.map (·.1) = xs2.map fun x => (tK prog w).hash x.1 := by
     show (xs2.map (fE prog w)).map (·.1) = _
     rw [List.map_map]; rfl
    rw [e3] at r3
    exact r3
  split
  ·refine wpAny_bind (ts_byval hk fun r => ?_)
   cases r with
   | true => exact main _ ⟨_, rfl⟩
   | false => exact main _ ⟨false, rfl⟩
  ·refine wpAny_bind (wpAny_pure ?_)
   exact main _ ⟨_, rfl⟩
end
end L2
namespace L2
open PySem PySem.Spec PyProof.Rows PySem.W PySem.Calls
section
variable {prog : Program} {w : World} {A : Around} {E : Value -> Shared -> Prop} {s : Shared}
abbrev itsOf (ps : Tx) : Array Value := (ps.map fun x => Value.ref x.2).toArray
theorem tk_iter {h h' : Heap} {I l : Addr} {i : Nat} {k : List Key} {c : Addr} (x : (tK prog w).is h k c) (hit : h.IsListIter I l i) (kp : ∀ b o, b ∉ [I] -> h.get? b = some o -> h'.get? b = some o) : (tK prog w).is h' k c :=
 tk_keep x fun o e hc => kp c o (fun z => by
  rw [List.mem_singleton] at z
  subst z
  obtain ⟨o', e', c', _⟩ := hit
  rw [e] at e'; cases e'
  rw [hc] at c'
  exact absurd (Value.type.inj c') (by decide)) e
theorem ts_loop {R : Result -> Shared -> Prop} {I l S : Addr} {ps : Tx} (hu : (tK prog w).room A.in1) (hh : A.in1.handled = none) (hne : l ≠ I) (hS : S ∉ [I, l]) (hn : ps.length < 70) :
  ∀ (n i : Nat) (s : Shared) (xs : Tx) (ep : Nat) (t : SetTable), ps.length - i = n -> i <= ps.length -> (s.heap.IsListIter I l i /\ s.heap.IsList l (itsOf ps)) -> TsAt prog w s.heap S xs ep t -> (∀ x ∈ ps, (tK prog w).is s.heap x.1 x.2) -> xs.length <= i -> (∀ q, q ∈ xs.map (·.1) ↔ q ∈ (ps.take i).map (·.1)) ->
   (∀ h' tk xs' ep' t', (∀ b o, b ≠ S -> b ≠ I -> s.heap.get? b = some o -> h'.get? b = some o) -> TsAt prog w h' S xs' ep' t' -> (∀ q, q ∈ xs'.map (·.1) ↔ q ∈ ps.map (·.1)) -> xs'.length <= ps.length -> R (.ok (.ret .none)) { s with heap := h', toks := tk }) ->
   codeAny (model prog w) A (.builtin "set.update.loop" ⟨[.ref S, .ref I], []⟩) R s := by
 have nI : S ≠ I := fun z => hS (z ▸ List.mem_cons_self)
 have W := Walks.list (prog := prog) (w := w) (A := A.in1) hh I l hne (itsOf ps)
 have hsz : (itsOf ps).size = ps.length := by simp
 have moved : ∀ {h h' : Heap} {i : Nat} {xs : Tx} {ep : Nat} {t : SetTable}, h.IsListIter I l i -> (∀ b o, b ∉ [I] -> h.get? b = some o -> h'.get? b = some o) -> TsAt prog w h S xs ep t -> TsAt prog w h' S xs ep t := fun hit k T => by
  obtain ⟨o, e1, e2⟩ := T.obj
  exact ⟨⟨o, k S o (by simpa using nI) e1, e2⟩, fun x hx => tk_iter (T.tup x hx) hit k, T.nd, T.tab, T.few⟩
 intro n
 induction n with
 | zero =>
  intro i s xs ep t hk hi st T hps hl hq hR
  have e : i = ps.length := by omega
  subst e
  refine codeAny_builtin PyProof.Rows.F.entry_set_update_loop ?_
  rw [Around.under_plainId PyProof.Rows.F.plain_set_update_loop _]
  show wpAny _ A.in1 (pyNext (.ref I) >>= _) _ _ s
  rw [hsz] at W
  refine wpAny_bind (W.done s _ _ st fun h' tk hk => ?_)
  refine wpAny_pure (hR h' tk xs ep t (fun b o _ hb q => hk b o (by simpa using hb) q) (moved st.1 hk T) (fun q => by rw [hq, List.take_length]) hl)
 | succ n ih =>
  intro i s xs ep t hk hi st T hps hl hq hR
  have hlt : i < ps.length := by omega
  refine codeAny_builtin PyProof.Rows.F.entry_set_update_loop ?_
  rw [Around.under_plainId PyProof.Rows.F.plain_set_update_loop _]
  show wpAny _ A.in1 (pyNext (.ref I) >>= _) _ _ s
  refine wpAny_bind (W.item i s _ _ (by rw [hsz]; exact hlt) st fun v h1 tk hv st1 k1 => ?_)
  have hpi : ps[i]? = some ps[i] := List.getElem?_eq_getElem hlt
  have ev : v = .ref ps[i].2 := by
   rw [List.getElem?_toArray, List.getElem?_map, hpi] at hv
   exact (Option.some.inj hv).symm
  subst ev
  have hpm : ps[i] ∈ ps := List.getElem_mem hlt
  have T1 := moved st.1 k1 T
  have hps1 : ∀ x ∈ ps, (tK prog w).is h1 x.1 x.2 := fun x hx => tk_iter (hps x hx) st.1 k1
  show wpAny _ A.in1 (holding [Value.ref ps[i].2] (setAdd S (.ref ps[i].2)) >>= _) _ _ _
  refine wpAny_bind (wpAny_holding ?_)
  unfold setAdd
  refine wpAny_holding (wpAny_bind ((tK prog w).pyHash (s := { s with heap := h1, toks := tk }) hu (hps1 _ hpm) ?_))
  refine ts_add (s := { s with heap := h1, toks := tk + (tK prog w).draws ps[i].1 }) hu T1 (hps1 _ hpm) (by omega) fun h2 r xs2 ep2 t2 sb T2 hq2 hl2 => ?_
  obtain ⟨oS, hoS, hexS, _⟩ := T1.obj
  refine wpAny_pure ⟨plainId_quiet PyProof.Rows.F.plain_set_update_loop _, ih (i + 1) _ xs2 ep2 t2 (by omega) hlt ?_ T2 (fun x hx => tk_same (hps1 x hx) hoS hexS sb) (by omega) (fun q => ?_) fun h3 tk3 xs3 ep3 t3 k3 T3 hq3 hl3 => ?_⟩
  ·exact W.frame _ h1 _ st1 fun b hb o q => (sb.2 b (fun z => hS (z ▸ hb))).trans q
  ·rw [hq2, hq, List.take_succ_eq_append_getElem hlt, List.map_append, List.mem_append]
   simp
  ·exact hR h3 tk3 xs3 ep3 t3 (fun b o hb hb' q => k3 b o hb hb' ((sb.2 b hb).trans (k1 b o (by simpa using hb') q))) T3 hq3 hl3
theorem ts_call {l : Addr} {ps : Tx} {Q : Value -> Shared -> Prop} (hu : A.units + 8 < cLine) (hh : A.handled = none) (hl : s.heap.IsList l (itsOf ps)) (hps : ∀ x ∈ ps, (tK prog w).is s.heap x.1 x.2) (hn : ps.length < 70)
  (h : ∀ h' tk xs ep t, TsAt prog w h' s.heap.objs.size xs ep t -> (∀ q, q ∈ xs.map (·.1) ↔ q ∈ ps.map (·.1)) -> xs.length <= ps.length -> (∀ b o, b < s.heap.objs.size -> s.heap.get? b = some o -> h'.get? b = some o) -> Q (.ref s.heap.objs.size) { s with heap := h', toks := tk }) :
  wpAny (model prog w) A (call (.type "set") [.ref l]) Q E s := by
 have cs := PySem.F.called_set
 obtain ⟨c0, tl0, hmro⟩ := cs.mro
 have hmade := cs.made
 have hsub := cs.sub
 refine wpAny_call (codeAny_of_tree (show wpAny _ _ (callAny (.type "set") _) _ _ _ from wpAny_pure ⟨Code.quiet_builtin _ (by decide +kernel), codeAny_builtin PySem.F.entry_type_call ?_⟩))
 rw [Around.under_plain (weight_type_call_type "set" [.ref l] []) rfl]
 have n1 := cs.notType
 have n2 := cs.canCreate
 have n3 := PySem.F.typeCall_set_1 (.ref l)
 repeat (any_goals (first | assumption | wp_step))
 have at1 : (s.heap.push (newS w)).get? s.heap.objs.size = some (newS w) := Heap.get?_push_size _ rfl
 refine codeAny_mono (sm_new (.ref l) (E := E) (Q₁ := fun r s1 => r = .ref s.heap.objs.size /\ s1 = { s with heap := s.heap.push (newS w) }) ⟨rfl, rfl⟩) fun r s1 hr => ?_
 cases r with
 | error e => exact hr
 | ok fl =>
  cases fl with
  | next => exact hr.elim
  | brk => exact hr.elim
  | cont => exact hr.elim
  | ret obj =>
   obtain ⟨rfl, rfl⟩ := hr
   have ty : Shared.TypeIs { s with heap := s.heap.push (newS w) } (.ref s.heap.objs.size) "set" := ⟨_, at1, rfl⟩
   have b1 := cs.init.lookup
   have b2 := cs.init.bind (.ref s.heap.objs.size)
   repeat (any_goals (first | assumption | wp_step))
   refine codeAny_mono (codeAny_call_builtin (R := wants (fun r s2 => r = .none /\ ∃ h' tk xs ep t, s2 = { s with heap := h', toks := tk } /\ TsAt prog w h' s.heap.objs.size xs ep t /\ (∀ q, q ∈ xs.map (·.1) ↔ q ∈ ps.map (·.1)) /\ xs.length <= ps.length /\ (∀ b o, b < s.heap.objs.size -> s.heap.get? b = some o -> h'.get? b = some o)) E) cs.init.plain PySem.F.entry_set_init (check_set_init_1 ty ?_)) fun r2 s2 hr2 => ?_
   ·obtain ⟨ol, hol, hcl, nl, hdl⟩ := id hl
    obtain ⟨ocls, odict, odata, oslots⟩ := ol
    simp only at hcl hdl
    subst hcl hdl
    have old1 : (s.heap.push (newS w)).get? l = some { cls := .type "list", dict := odict, data := .seq (itsOf ps) nl, slots := oslots } := Heap.get?_push_of_some _ hol
    have f1 := PySem.F.sub_list_set
    have f2 := PySem.F.sub_list_frozenset
    have f3 : (Value.type "list" == Value.type "dict") = false := by decide
    have hl1 : (s.heap.push (newS w)).IsList l (itsOf ps) := ⟨_, old1, rfl, nl, rfl⟩
    unfold Builtin.«set.__init__» noKeywords Builtin.Frozenset.updateFrom
    generalize hPI : pyIter = PI
    wp_walk
    subst hPI
    refine wpAny_pyIter_list hl1 (wpAny_bind (wpAny_runValue ?_))
    have ltl : l < s.heap.objs.size := Heap.lt_size hol
    have szp : (s.heap.push (newS w)).objs.size = s.heap.objs.size + 1 := Heap.size_push ..
    have nd1 : l ≠ (s.heap.push (newS w)).objs.size := fun z => Nat.lt_irrefl _ (Nat.lt_trans ltl (by rw [z, szp]; exact Nat.lt_succ_self _))
    have nd2 : s.heap.objs.size ∉ [(s.heap.push (newS w)).objs.size, l] := by
     rw [szp, List.mem_cons, List.mem_singleton]
     rintro (z | z)
     ·exact Nat.lt_irrefl _ (Nat.lt_of_lt_of_eq (Nat.lt_succ_self _) z.symm)
     ·exact Nat.lt_irrefl _ (z ▸ ltl)
    refine ts_loop (ps := ps) (show _ < cLine by simp; omega) (by simpa using hh) nd1 nd2 hn _ 0 _ [] 0 (.fresh 0 0 (!btx w)) rfl (Nat.zero_le _) ⟨⟨_, Heap.get?_push_size _ rfl, rfl, rfl⟩, hl1.push _⟩ ⟨⟨_, Heap.get?_push_of_some _ at1, ⟨rfl, rfl, rfl⟩, rfl⟩, fun x hx => (by cases hx), List.nodup_nil, TabOk.fresh _, (by show 0 * 5 < 7 * 3; decide)⟩ (fun x hx => tk_keep (hps x hx) fun o e _ => Heap.get?_push_of_some _ (Heap.get?_push_of_some _ e)) (Nat.le_refl _) (fun q => by simp) fun h' tk xs ep t kp T hq hlx => ?_
    show wpAny _ _ _ _ _ _
    refine wpAny_pure (show wpAny _ _ (ret Value.none) _ _ _ from wpAny_pure ⟨rfl, h', tk, xs, ep, t, rfl, T, hq, hlx, fun b o hb q => kp b o (Nat.ne_of_lt hb) (by rw [szp]; exact Nat.ne_of_lt (Nat.lt_succ_of_lt hb)) (Heap.get?_push_of_some _ (Heap.get?_push_of_some _ q))⟩)
   ·cases r2 with
    | error e => exact hr2
    | ok fl2 =>
     cases fl2 with
     | next => exact hr2.elim
     | brk => exact hr2.elim
     | cont => exact hr2.elim
     | ret r =>
      obtain ⟨rfl, h', tk, xs, ep, t, rfl, T, hq, hlx, kp⟩ := hr2
      repeat (any_goals (first | assumption | wp_step))
      exact h h' tk xs ep t T hq hlx kp
end
end L2
namespace L2
open PySem PySem.Spec PyProof.Rows PySem.W PySem.Calls
theorem keys_of {P : Program} {w : World} {h : Heap} : ∀ {as : List Addr} {kss : List (List Key)} {xss : List (List Value)}, Paired (fun u xs => Vals u xs) (kss.map fun k => k.map kV) xss -> Paired (fun a xs => IsTup h a (List.toArray xs)) as xss ->
  ∃ ps : Tx, ps.map (·.1) = kss /\ ps.map (·.2) = as /\ ∀ x ∈ ps, (tK P w).is h x.1 x.2
 | _, [], _, h1, h2 => by cases h1; cases h2; exact ⟨[], rfl, rfl, fun _ z => by cases z⟩
 | _, k :: kss, _, h1, h2 => by
  cases h1 with
  | cons v r =>
   cases h2 with
   | cons t r2 =>
    rename_i a as
    obtain ⟨ps, e1, e2, e3⟩ := keys_of (P := P) (w := w) r r2
    obtain ⟨o, g1, g2, n, g3⟩ := t
    refine ⟨(k, a) :: ps, by rw [List.map_cons, e1], by rw [List.map_cons, e2], fun x hx => ?_⟩
    rcases List.mem_cons.mp hx with rfl | hx
    ·exact ⟨o, _, n, g1, g2, g3, by simpa using items_are v⟩
    ·exact e3 x hx
section
variable {X : Cx} {e : Expr} {te : TE} {p1 p2 pos1 pos2 : Pos}
def OneEach (kss : List (List Key)) (n : Nat) : Prop := ∃ l : List (List Key), l.Nodup /\ l.length = n /\ ∀ q, q ∈ l ↔ q ∈ kss
def tLS (K : W.Frag) (te : TE) : TE := fun σ H Q => te σ H fun v H1 => ∃ p as kss, v = .ref p /\ SqL K H1 p (as.map V.ref) /\ Paired (SqT K H1) as (kss.map fun k => k.map kV) /\ kss.length < 70 /\ ∀ n : Nat, OneEach kss n -> Q (.int n) H1
theorem pe_lenset (hc : X.calm = true) (hu : X.A.units + 64 < cLine) (g1 : Gl X "len") (m1 : X.mg "len" = none) (v1 : bootBuiltins "len" = some (.builtin "len")) (g2 : Gl X "set") (m2 : X.mg "set" = none) (v2 : bootBuiltins "set" = some (.type "set")) (ha : PE X e te)
  (he : starEach [e] X.env = [(false, eval e X.env)] := by rfl) : PE X (.Call (.Name "len" p1) [.Call (.Name "set" p2) [e] [] pos2] [] pos1) (tLS X.K te) := by
 intro pins s σ H Q I h
 refine wpAny_Call_Name_kw (ld_blt I g1 m1 v1 ?_)
 refine PyProof.Rows.callWith_builtin1 ?_ rfl rfl
 show wpAny _ _ (spliced [(false, eval (.Call (.Name "set" p2) [e] [] pos2) X.env)]) _ _ s
 refine Calls.spliced_cons ?_
 refine wpAny_Call_Name_kw (ld_blt I g2 m2 v2 ?_)
 refine PyProof.Rows.callWith_type1 ?_ he rfl
 rw [he]
 show wpAny _ _ (spliced [(false, eval e X.env)]) _ _ s
 refine Calls.spliced_cons (thn (ha pins s σ H _ I h) fun u s1 ⟨v, H1, I1, r1, p, as, kss, ev, sq, pr, hlen, q⟩ => Calls.spliced_nil ?_)
 subst ev
 cases r1
 obtain ⟨its, rv, pl, _⟩ := I1.list sq
 obtain ⟨xss, t1, t2⟩ := tups_ok I1 pr
 obtain ⟨ps, e1, e2, e3⟩ := keys_of (P := X.prog) (w := X.w) t1 t2
 have hh := I1.ok.hd hc
 have ei : its.toArray = itsOf ps := by
  rw [vals_refs rv, ← e2, List.map_map]; rfl
 rw [ei] at pl
 have lps : ps.length = kss.length := by rw [← e1, List.length_map]
 refine ts_call (ps := ps) (by omega) hh pl.isList e3 (by omega) fun h2 tk xs ep t T hm hl kp => ?_
 have I2 : Inv X pins σ H1 { s1 with heap := h2, toks := tk } := I1.kept fun b o q => kp b o (Heap.lt_size q) q
 refine Calls.spliced_nil ?_
 obtain ⟨o, o1, o2, o3⟩ := T.obj
 have n63 := line63
 have sz : ((xs.map fun x => ((tK X.prog X.w).hash x.1, Value.ref x.2)).toArray).size = xs.length := by simp
 refine call_len_set (s := { s1 with heap := h2, toks := tk }) o1 o2 o3 (T.tab.fits (by simp)) (by rw [sz]; omega) ?_
 rw [sz]
 exact ⟨.int xs.length, H1, I2.tok _, ⟨_, rfl⟩, q _ ⟨xs.map (·.1), T.nd, by rw [List.length_map], fun k => by rw [hm, e1]⟩⟩
end
end L2
namespace DL
open PySem PySem.Spec PyProof.Rows L2
section
variable {X : Cx} {K : W.Frag} {E : XK} {e : Expr} {te : TD} {p1 p2 pos1 pos2 : Pos}
theorem scVs_K (k : List Key) : scVs (k.map keyV) = some (k.map kV) := by
 induction k with
 | nil => rfl
 | cons a r ih => rw [List.map_cons, scVs, ih]; cases a <;> rfl
theorem tupVs_K (kss : List (List Key)) : tupVs (kss.map tupK) = some (kss.map fun k => k.map kV) := by
 induction kss with
 | nil => rfl
 | cons a r ih =>
  rw [List.map_cons, tupVs, ih, show tupV (tupK a) = some (a.map kV) from scVs_K a]; rfl
def dLS (te : TD) : TD := fun ρ Q Xd => te ρ (fun d _ => ∃ kss, d = .list (kss.map tupK) /\ kss.length < 70 /\ ∀ n : Nat, OneEach kss n -> Q (.int n) .old) Xd
theorem dpe_lenset (hK : X.K = K) (hc : X.calm = true) (hu : X.A.units + 64 < cLine) (g1 : Gl X "len") (m1 : X.mg "len" = none) (v1 : bootBuiltins "len" = some (.builtin "len")) (g2 : Gl X "set") (m2 : X.mg "set" = none) (v2 : bootBuiltins "set" = some (.type "set")) (ha : DE X K E e te)
  (he : starEach [e] X.env = [(false, eval e X.env)] := by rfl) : DE X K E (.Call (.Name "len" p1) [.Call (.Name "set" p2) [e] [] pos2] [] pos1) (dLS te) := ⟨qe_imp ⟨pe_lenset hc hu g1 m1 v1 g2 m2 v2 ha.q.h he⟩ fun σ H Q h => by
 obtain ⟨H0, ν, ρ, Qd, Xd, S, h1, q, x⟩ := h
 refine ⟨H0, ν, ρ, _, Xd, S, h1, fun d k v H' g1 g2 g3 => ?_, x⟩
 obtain ⟨kss, rfl, hl, g⟩ := g1
 obtain ⟨a, us, rfl, e1, e2⟩ := dns_of_lst (show Dn K H' v (.list (kss.map tupK)) from g3.den)
 obtain ⟨as, rfl, e4, _⟩ := tupVs_den e2 (tupVs_K kss)
 exact ⟨a, as, kss, rfl, hK ▸ SqL.of e1, hK ▸ e4, hl, fun n hn => q _ _ _ _ (g n hn) g2 (.int _)⟩⟩
theorem nd_sub_len {α : Type} [DecidableEq α] : ∀ {l m : List α}, l.Nodup -> (∀ q ∈ l, q ∈ m) -> l.length <= m.length
 | [], _, _, _ => Nat.zero_le _
 | a :: l, m, nd, h => by
  obtain ⟨h1, h2⟩ := List.nodup_cons.mp nd
  have ha := h a List.mem_cons_self
  have := nd_sub_len (m := m.erase a) h2 fun q hq => (List.mem_erase_of_ne fun e => h1 (by rw [← e]; exact hq)).mpr (h q (List.mem_cons_of_mem _ hq))
  rw [List.length_erase_of_mem ha] at this
  have := List.length_pos_of_mem ha
  rw [List.length_cons]
  omega
theorem nd_of_len {α : Type} [DecidableEq α] : ∀ {l m : List α}, l.Nodup -> (∀ q, q ∈ l ↔ q ∈ m) -> l.length = m.length -> m.Nodup
 | _, [], _, _, _ => List.nodup_nil
 | l, a :: m, nd, h, e => by
  have ha : a ∈ l := (h a).mpr List.mem_cons_self
  have hn : a ∉ m := fun z => by
   have := nd_sub_len nd (m := m) fun q hq => by
    rcases List.mem_cons.mp ((h q).mp hq) with rfl | y
    ·exact z
    ·exact y
   rw [e, List.length_cons] at this
   omega
  refine List.nodup_cons.mpr ⟨hn, nd_of_len (l := l.erase a) (nd.erase a) (fun q => ?_) (by rw [List.length_erase_of_mem ha, e, List.length_cons]; omega)⟩
  rw [nd.mem_erase_iff, h, List.mem_cons]
  exact ⟨fun ⟨h1, h2⟩ => h2.resolve_left h1, fun h => ⟨fun z => hn (z ▸ h), .inr h⟩⟩
theorem oneEach_nodup {kss : List (List Key)} {n : Nat} (h : OneEach kss n) : n = kss.length ↔ kss.Nodup := by
 obtain ⟨l, h1, rfl, h2⟩ := h
 constructor
 ·exact nd_of_len h1 h2
 ·intro nd
  exact ((List.perm_ext_iff_of_nodup h1 nd).mpr h2).length_eq
end
end DL
namespace M15
inductive TG (R : Nat -> Nat -> Prop) : Nat -> Nat -> Prop
 | one {i j} : R i j -> TG R i j
 | cons {i k j} : R i k -> TG R k j -> TG R i j
theorem TG.trans {R : Nat -> Nat -> Prop} {i j k : Nat} (a : TG R i j) (b : TG R j k) : TG R i k := by
 induction a with
 | one h => exact .cons h b
 | cons h _ ih => exact .cons h (ih b)
theorem TG.snoc {R : Nat -> Nat -> Prop} {i j k : Nat} (a : TG R i j) (b : R j k) : TG R i k := a.trans (.one b)
theorem TG.last {R : Nat -> Nat -> Prop} {n : Nat} (hn : ∀ i j, R i j -> i < n /\ j < n) {i j : Nat} (a : TG R i j) : i < n /\ j < n := by
 induction a with
 | one r => exact hn _ _ r
 | cons r _ ih => exact ⟨(hn _ _ r).1, ih.2⟩
inductive PL (R : Nat -> Nat -> Prop) (k : Nat) : Nat -> Nat -> Prop
 | one {i j} : R i j -> PL R k i j
 | cons {i m j} : R i m -> m < k -> PL R k m j -> PL R k i j
theorem PL.up {R : Nat -> Nat -> Prop} {k i j : Nat} (a : PL R (k + 1) i j) : PL R k i j ∨ (PL R k i k /\ PL R k k j) := by
 induction a with
 | one r => exact .inl (.one r)
 | @cons i m j r hm _ ih =>
  by_cases h : m < k
  ·rcases ih with ih | ⟨a, b⟩
   ·exact .inl (.cons r h ih)
   ·exact .inr ⟨.cons r h a, b⟩
  ·have e : m = k := by omega
   subst e
   rcases ih with ih | ⟨a, b⟩
   ·exact .inr ⟨.one r, ih⟩
   ·exact .inr ⟨.one r, b⟩
theorem PL.of {R : Nat -> Nat -> Prop} {n : Nat} (hn : ∀ i j, R i j -> i < n /\ j < n) {i j : Nat} (a : TG R i j) : PL R n i j := by
 induction a with
 | one r => exact .one r
 | cons r _ ih => exact .cons r (hn _ _ r).2 ih
theorem PL.zero {R : Nat -> Nat -> Prop} {i j : Nat} (a : PL R 0 i j) : R i j := by
 cases a with
 | one r => exact r
 | cons _ h _ => exact absurd h (Nat.not_lt_zero _)
theorem TG.closed {R : Nat -> Nat -> Prop} {S : Nat -> Prop} {s : Nat} (h1 : ∀ j, R s j -> S j) (h2 : ∀ x j, S x -> R x j -> S j) {j : Nat} (a : TG R s j) : S j := by
 have : ∀ i j, TG R i j -> (i = s ∨ S i) -> S j := by
  intro i j a
  induction a with
  | one r => rintro (rfl | h); exact h1 _ r; exact h2 _ _ h r
  | cons r _ ih => rintro (rfl | h); exact ih (.inr (h1 _ r)); exact ih (.inr (h2 _ _ h r))
 exact this s j a (.inl rfl)
theorem short : ∀ {n : Nat} {ks : List Nat}, ks.Nodup -> (∀ k ∈ ks, k < n) -> ks.length <= n
 | 0, [], _, _ => Nat.le_refl _
 | 0, k :: _, _, h => absurd (h k List.mem_cons_self) (Nat.not_lt_zero _)
 | n + 1, ks, nd, h => by
  have h1 : (ks.erase n).length <= n := short (nd.erase n) fun k hk => by
   have h2 := (List.Nodup.mem_erase_iff nd).mp hk
   have := h k h2.2
   have := h2.1
   omega
  by_cases hm : n ∈ ks
  ·rw [List.length_erase_of_mem hm] at h1; omega
  ·rw [List.erase_of_not_mem hm] at h1; omega
theorem long : ∀ {n : Nat} {ks : List Nat}, (∀ j, j < n -> j ∈ ks) -> n <= ks.length
 | 0, _, _ => Nat.zero_le _
 | n + 1, ks, h => by
  have hm := h n (Nat.lt_succ_self _)
  have h1 : n <= (ks.erase n).length := long fun j hj => (List.mem_erase_of_ne (by omega)).mpr (h j (by omega))
  rw [List.length_erase_of_mem hm] at h1
  have : 0 < ks.length := List.length_pos_of_mem hm
  omega
theorem full {n : Nat} {ks : List Nat} (nd : ks.Nodup) (hk : ∀ k ∈ ks, k < n) : ks.length = n ↔ ∀ j, j < n -> j ∈ ks := by
 constructor
 ·intro h j hj
  by_cases hm : j ∈ ks
  ·exact hm
  ·have := short (n := n) (ks := j :: ks) (List.nodup_cons.mpr ⟨hm, nd⟩) fun k h => by
    rcases List.mem_cons.mp h with rfl | h
    ·exact hj
    ·exact hk k h
   simp at this; omega
 ·intro h
  have := long h
  have := short nd hk
  omega
end M15
local macro_rules | `(tactic| walk_at "d") => `(tactic| repeat (first | with_reducible refine DL.w_nx ?_ | with_reducible refine DL.w_ss ?_ | with_reducible refine DL.w_dc ?_ | with_reducible refine DL.w_inDp ?_ | with_reducible refine DL.w_rt ?_ | with_reducible refine DL.w_seq ?_ | with_reducible refine DL.w_set ?_ | with_reducible refine DL.w_ret ?_ | with_reducible refine DL.w_next ?_ | with_reducible refine DL.w_ifS ?_ | with_reducible refine DL.w_frz ?_ | with_reducible refine DL.w_c ?_ | with_reducible refine DL.w_op ?_ | with_reducible refine DL.w_fI0 ?_ | with_reducible refine DL.w_fI ?_ | with_reducible refine DL.w_addI ?_ | with_reducible refine DL.w_addL ?_ | with_reducible refine DL.w_addS ?_ | with_reducible refine DL.w_ixL ?_ | with_reducible refine DL.w_ixLi ?_ | with_reducible refine DL.w_ixLg ?_ | with_reducible refine DL.w_ixT ?_ | with_reducible refine DL.w_ixX ?_ | with_reducible refine DL.w_slX ?_ | with_reducible refine DL.w_eqI ?_ | with_reducible refine DL.w_eq ?_ | with_reducible refine DL.w_in ?_ | with_reducible refine DL.w_andV ?_ | with_reducible refine DL.w_orV ?_ | with_reducible refine DL.w_B ?_ | with_reducible refine DL.w_and ?_ | with_reducible refine DL.w_or ?_ | with_reducible refine DL.w_not ?_ | with_reducible refine DL.w_true ?_ | with_reducible refine DL.w_app2K ?_ | with_reducible refine DL.w_putK ?_ | with_reducible refine DL.w_put2 ?_ | with_reducible refine DL.w_nil ?_ | with_reducible refine DL.w_cons ?_ | with_reducible refine DL.w_ints ?_ | with_reducible refine DL.w_tup ?_ | with_reducible refine DL.w_lst ?_ | with_reducible refine DL.w_call0 ?_ | with_reducible refine DL.w_cb ?_ | with_reducible refine DL.w_len ?_ | with_reducible refine DL.w_lenI ?_ | with_reducible refine DL.w_lenG ?_ | with_reducible refine DL.w_lenX ?_ | with_reducible refine DL.w_lenS ?_ | with_reducible refine DL.w_bls ?_ | with_reducible refine DL.w_list ?_ | with_reducible refine DL.w_isi ?_ | with_reducible refine DL.w_sl ?_ | with_reducible refine DL.w_noPart ?_ | with_reducible refine DL.w_part ?_ | with_reducible refine DL.w_slL ?_ | with_reducible refine DL.w_bName ?_ | with_reducible refine DL.w_bTup ?_ | with_reducible refine DL.w_bCons ?_ | with_reducible refine DL.w_bNil ?_ | with_reducible refine DL.w_for ?_ | with_reducible refine DL.w_iL ?_ | with_reducible refine DL.w_lenDT ?_ | with_reducible refine DL.w_lenDK ?_ | with_reducible refine DL.w_listDT ?_ | with_reducible refine DL.w_sortDT ?_ | with_reducible refine DL.w_newT ?_ | with_reducible refine DL.w_newK ?_ | with_reducible refine DL.w_kyS ?_ | with_reducible refine DL.w_onKi ?_ | with_reducible refine DL.w_kyT ?_ | with_reducible refine DL.w_onK3 ?_ | with_reducible refine DL.w_onK2 ?_ | with_reducible refine DL.w_dIn ?_ | with_reducible refine DL.w_onIn ?_ | with_reducible refine DL.w_hasT ?_ | with_reducible refine DL.w_hasK ?_ | with_reducible refine DL.w_dPut ?_ | with_reducible refine DL.w_putT ?_ | with_reducible refine DL.w_putDK ?_ | with_reducible refine DL.w_onPut rfl rfl ?_ | with_reducible refine DL.w_iS ?_ | with_reducible refine DL.w_onS ?_ | with_reducible refine DL.w_callO ?_ | with_reducible refine DL.w_on1I ?_ | with_reducible refine DL.w_iR1 ?_ | with_reducible refine DL.w_lr ?_ | with_reducible refine DL.w_unp ?_ | with_reducible refine DL.w_lc ?_ | with_reducible refine DL.w_emit ?_ | with_reducible refine DL.w_ift ?_ | with_reducible refine DL.w_iff ?_ | with_reducible refine DL.w_onB ?_ | with_reducible refine DL.w_onI ?_ | with_reducible refine DL.w_onL ?_ | with_reducible refine DL.w_onLi ?_ | with_reducible refine DL.w_onT ?_ | with_reducible refine DL.w_v0 ?_ | with_reducible refine DL.w_v1 ?_ | with_reducible refine DL.w_v2 ?_ | with_reducible refine DL.w_v3 ?_ | with_reducible refine DL.w_v4 ?_ | with_reducible refine DL.w_v5 ?_ | with_reducible refine DL.w_v6 ?_ | with_reducible refine DL.w_v7 ?_ | with_reducible refine DL.w_v8 ?_ | with_reducible refine DL.w_o1 ?_ | with_reducible refine DL.w_o2 ?_ | with_reducible refine DL.w_o3 ?_ | with_reducible refine DL.w_o4 ?_ | with_reducible refine DL.w_o5 ?_ | ((with_reducible refine And.intro ?c ?_); (case c => first | exact trivial | exact Nat.le_of_ble_eq_true rfl | decide | (unfold L2.CPow; decide) | (unfold L2.CDiv; decide) | exact L2.CMul.ok (.inl ⟨by decide, by decide⟩) | exact L2.CMul.ok (.inr ⟨by decide, by decide⟩) | exact rfl | omega)) | simp only [DL.kels2_flat, DL.setK_int, DL.setK_bool, DL.setK_str, DL.setK_non, DL.setK_own, DL.setK_old, DL.setK_mix, DL.setK_ownI, DL.setK_oldI, DL.setK_mixI, DL.setK_ownG, DL.setK_ownT, DL.setK_oldT, DL.setK_mixT, DL.setK_ownK, DL.setK_oldK, DL.setK_mixK, DL.flat_dT, DL.flat_dK, DL.setK_oldG, DL.setK_mixG, DL.setK_tup, DL.rtK_int, DL.rtK_bool, DL.rtK_str, DL.rtK_non, DL.rtK_own, DL.rtK_tup, DL.kcons_flat, DL.kcons_int, DL.kcons_boo, DL.kcons_st, DL.kcons_nn, DL.one_iD, DL.two_iD, DL.kcons_own, DL.kcons_old, DL.frz_nil, DL.frz1_0, DL.frz1_s, DL.frz_some, DL.frz_none, DL.dropS_nil, DL.dropS_cons, DL.kRet_t, DL.kRet_f, DL.sub_own, DL.sub_old, DL.sub_ownc, DL.sub_mix, DL.isOld_own, DL.isOld_old, DL.isOld_mix, DL.isOld_ownc, DL.eff_int, DL.eff_bool, DL.eff_str, DL.eff_tup, DL.eff_ltc, DL.eff_iD, DL.eff_gD, DL.isOwnK_own, DL.isOwnK_old, DL.unpK_own, DL.unpK_flat, DL.setAll_cons, DL.setAll_nil, DL.app_iD, DL.app_gD, DL.list_iD, DL.list_gD, DL.flat_int, DL.flat_bool, DL.flat_str, DL.flat_non, DL.flat_list, DL.flat_tuple, DL.flats_nil, DL.flats_cons, DL.flat_iD, DL.flat_gD, List.set_cons_zero, List.set_cons_succ, List.append_nil, List.nil_append, Bool.and_true, Bool.true_and, Bool.and_self, Bool.not_true, Bool.not_false, DL.capR, DL.capOk, List.map_cons, List.map_nil, List.cons_append, List.getElem?_cons_zero, List.getElem?_cons_succ, Option.join_some, Option.map_some, List.all_cons, List.all_nil]))
namespace K25
open PySem PySem.Spec PyProof.Rows L2 DL
def top (i : Nat) : Stmt := PySem.Challenge.pw_foreverrows_k25_words_read.main.body.getD i (.Pass ⟨0, 0, 0, 0⟩)
structure Blt (mg : Str -> Option Value) : Prop where
 len : mg "len" = none
 range : mg "range" = none
 list : mg "list" = none
 int : mg "int" = none
 isinstance : mg "isinstance" = none
 any : mg "any" = none
 all : mg "all" = none
 set : mg "set" = none
 tuple : mg "tuple" = none
 sorted : mg "sorted" = none
 bool : mg "bool" = none
section
variable {P : Program} {w : World} {K : W.Frag} {mg : Str -> Option Value} {base : Heap}
def scr (ns : List Int) : D := .dict [(.none, .list (ns.map .int))]
abbrev s_l_cell_at : Stmt := top 9
theorem sc_l_cell_at : FnScope ["_law_script", "_law_k"] ["_law_script", "_law_k"] (defScope s_l_cell_at) := ⟨rfl, rfl, rfl, by decide +kernel, rfl, by decide +kernel, by decide +kernel⟩
def sp_cell : SpD := fun ds Q _ => ∃ (ns : List Int) (k : Int), ds = [scr ns, .int k] /\ 0 <= k /\ ∀ z : Int, Q (.int z) true
theorem ok_l_cell_at {f : Addr} {fd : FuncData} (F : Fun K "_law_cell_at" "_law_cell_at" s_l_cell_at f fd) (T : Blt mg) : FnOk P w K mg base CX0 1 f fd ["_law_script", "_law_k"] (SpL K sp_cell) := by
 refine ok0 F sc_l_cell_at (fun ds Q X h => ?_) (fun cdv A outer s H E hr => ?_) fun ds Qd Xd h => h
 ·obtain ⟨ns, k, rfl, _⟩ := h; rfl
 refine ⟨_, (dpss_cons (dps_if (dpt_cmp dop_lt (dpv 1) (dpe_callB (dcl_len (by rfl)) (by rfl) (by exact T.len) (by decide +kernel) (dpa_cons (dpv 0) dpa_nil)) (nomark _)) (dpss_one (dps_ret (dpe_ix (dix (by rfl)) (dpv 0) (dpv 1) (fun _ _ => rfl)))) dpss_nil)
   (dpss_one (dps_ret dpe_int))), fun ds Qd h => ?_⟩
 obtain ⟨ns, k, rfl, hk, q⟩ := h
 show (_ : TSD) _ [some (false, .dict [(.none, .list (ns.map .int))]), some (false, .int k)] _
 walk_at "d"
 refine ite2 (fun h1 => ?_) fun _ => ?_
 ·walk_at "d"
  have hlt : k.toNat < ns.length := by simp at h1; omega
  refine ⟨.int ns[k.toNat], ?_, ?_⟩
  ·have := atI_nat (xs := ns.map PyData.int) (j := k.toNat) (v := PyData.int ns[k.toNat]) (by simp [hlt])
   rw [show ((k.toNat : Nat) : Int) = k from Int.toNat_of_nonneg hk] at this
   exact this
  ·exact q _
 ·walk_at "d"
  exact q _
abbrev s_l_big : Stmt := top 10
theorem sc_l_big : FnScope ["_law_script", "_law_at", "_law_cell", "_law_primes", "_law_big_here", "_law_k", "_law_one"] ["_law_script", "_law_at"] (defScope s_l_big) := ⟨rfl, rfl, rfl, by decide +kernel, rfl, by decide +kernel, by decide +kernel⟩
def sp_big : SpD := fun ds Q _ => ∃ (ns : List Int) (k : Int), ds = [scr ns, .int k] /\ 0 <= k /\ ∀ z : Int, 0 <= z -> Q (.int z) true
theorem ok_l_big {f : Addr} {fd : FuncData} (F : Fun K "_law_big" "_law_big" s_l_big f fd) (T : Blt mg) (D_l_cell_at : Df P w K mg base "_law_cell_at" ["_law_script", "_law_k"] 1 (SpL K sp_cell)) : FnOk P w K mg base CX0 2 f fd ["_law_script", "_law_at"] (SpL K sp_big) := by
 refine ok0 F sc_l_big (fun ds Q X h => ?_) (fun cdv A outer s H E hr => ?_) fun ds Qd Xd h => h
 ·obtain ⟨ns, k, rfl, _⟩ := h; rfl
 refine ⟨_, (dpss_cons (dpset 2 sc_l_big.nd (dpe_df (by exact D_l_cell_at) (by exact hr.mono (by omega)) (dpa_cons (dpv 0) (dpa_cons (dpv 1) dpa_nil))))
   (dpss_cons (dps_if (dpt_cmp dop_ge (dpv 2) (dpe_op dop_pow dpe_int dpe_int) (nomark _)) (dpss_one (dps_ret (dpv 2))) dpss_nil)
   (dpss_cons (dpset 3 sc_l_big.nd (dpe_tup (dpa_ints (by rfl))))
   (dpss_cons (dpset 4 sc_l_big.nd dpe_int)
   (dpss_cons (dps_for PassesOwn.never rfl (dpi_range1 (by rfl) (by exact T.range) (dpa_cons dpe_int dpa_nil)) (dpgn 5 sc_l_big.nd) (dpss_cons (dpset 6 sc_l_big.nd (dpe_op dop_add (dpe_op dop_add (dpe_op dop_mod (dpe_df (by exact D_l_cell_at) (by exact hr.mono (by omega)) (dpa_cons (dpv 0) (dpa_cons (dpe_op dop_add (dpv 1) (dpe_op dop_mod (dpv 5) dpe_int)) dpa_nil))) (dpe_op dop_pow dpe_int dpe_int)) (dpe_op dop_mul dpe_int (dpv 5))) dpe_int))
   (dpss_one (dpset 4 sc_l_big.nd (dpe_op dop_add (dpe_op dop_mul (dpv 4) dpe_int) (dpe_op dop_mod (dpe_op dop_mul (dpe_op dop_mod (dpe_op dop_add (dpe_op dop_mul (dpv 6) (dpv 6)) (dpe_op dop_mul dpe_int (dpv 5))) (dpe_ix (dix (by rfl)) (dpv 3) (dpe_op dop_mod (dpv 5) dpe_int) (fun _ _ => rfl))) (dpe_op dop_add (dpv 5) dpe_int)) dpe_int))))))
   (dpss_one (dps_ret (dpv 4)))))))), fun ds Qd h => ?_⟩
 obtain ⟨ns, k, rfl, hk, q⟩ := h
 show (_ : TSD) _ [some (false, scr ns), some (false, .int k), none, none, none, none, none] _
 walk_at "d"
 refine ⟨ns, k, rfl, hk, fun z => ?_⟩
 walk_at "d"
 refine ite2 (fun h1 => ?_) fun h1 => ?_
 ·walk_at "d"
  refine q z ?_
  have : (0 : Int) <= 10 ^ Int.toNat 18 := by decide
  simp at h1; omega
 walk_at "d"
 refine lp_rng (fun i ρ => ∃ (b : Int) (x y : Option (Bool × D)), ρ = [some (false, scr ns), some (false, .int k), some (false, .int z), some (false, .tuple [.int 99989, .int 99971, .int 99961, .int 99929, .int 99923, .int 99907, .int 99901, .int 99881, .int 99877]), some (false, .int b), x, y] /\ 0 <= b) ⟨0, _, _, rfl, by decide⟩ ?_ ?_
 ·rintro i ρ hi ⟨b, x, y, rfl, hb⟩
  walk_at "d"
  have h9 := Int.emod_nonneg (0 + (i : Int)) (show (9 : Int) ≠ 0 by decide)
  have h9' := Int.emod_lt_of_pos (0 + (i : Int)) (show (0 : Int) < 9 by decide)
  refine ⟨ns, _, rfl, by omega, fun c => ?_⟩
  walk_at "d"
  have c1 : (10 : Int) ^ Int.toNat 18 = 1000000000000000000 := by decide
  rw [c1]
  have hi' : i < 64 := hi
  have h0 := Int.emod_nonneg c (show (1000000000000000000 : Int) ≠ 0 by decide)
  have h1 := Int.emod_lt_of_pos c (show (0 : Int) < 1000000000000000000 by decide)
  refine ⟨CMul.ok (.inl ⟨by omega, by omega⟩), ?_⟩
  walk_at "d"
  obtain ⟨m, hm, em⟩ : ∃ m : Nat, m < 9 /\ (0 + (i : Int)) % 9 = (m : Int) := ⟨((0 + (i : Int)) % 9).toNat, by omega, by omega⟩
  obtain ⟨pr, hpr, hpp⟩ : ∃ pr : Int, [PyData.int 99989, .int 99971, .int 99961, .int 99929, .int 99923, .int 99907, .int 99901, .int 99881, .int 99877][m]? = some (PyData.int pr) /\ 0 < pr /\ pr < 100000 := by
   match m, hm with
   | 0, _ => exact ⟨_, rfl, by decide, by decide⟩
   | 1, _ => exact ⟨_, rfl, by decide, by decide⟩
   | 2, _ => exact ⟨_, rfl, by decide, by decide⟩
   | 3, _ => exact ⟨_, rfl, by decide, by decide⟩
   | 4, _ => exact ⟨_, rfl, by decide, by decide⟩
   | 5, _ => exact ⟨_, rfl, by decide, by decide⟩
   | 6, _ => exact ⟨_, rfl, by decide, by decide⟩
   | 7, _ => exact ⟨_, rfl, by decide, by decide⟩
   | 8, _ => exact ⟨_, rfl, by decide, by decide⟩
  refine ⟨.int pr, by rw [em]; exact atI_nat hpr, ?_⟩
  walk_at "d"
  refine ⟨CMul.ok (.inr ⟨by omega, by omega⟩), ?_⟩
  walk_at "d"
  refine ⟨_, _, _, rfl, ?_⟩
  have := Int.emod_nonneg (((c % 1000000000000000000 + 7 * (0 + (i : Int)) + 1) * (c % 1000000000000000000 + 7 * (0 + (i : Int)) + 1) + 31 * (0 + (i : Int))) % pr * (0 + (i : Int) + 3)) (show (8191 : Int) ≠ 0 by decide)
  omega
 ·rintro ρ ⟨b, x, y, rfl, hb⟩
  walk_at "d"
  exact q b hb
theorem map_erase {α β : Type} (f : α -> β) : ∀ (l : List α) (j : Nat), (l.map f).eraseIdx j = (l.eraseIdx j).map f
 | [], _ => rfl
 | _ :: _, 0 => rfl
 | a :: l, j + 1 => by
  show f a :: (l.map f).eraseIdx j = f a :: (l.eraseIdx j).map f
  rw [map_erase f l j]
abbrev s_l_order : Stmt := top 11
theorem sc_l_order : FnScope ["_law_many", "_law_big_here", "_law_rest", "_law_order_here"] ["_law_many", "_law_big_here"] (defScope s_l_order) := ⟨rfl, rfl, rfl, by decide +kernel, rfl, by decide +kernel, by decide +kernel⟩
def sp_order : SpD := fun ds Q _ => ∃ (n : Nat) (b : Int), ds = [.int n, .int b] /\ n <= 6 /\ 0 <= b /\ ∀ os : List Int, os.length = n -> (∀ x ∈ os, 0 <= x /\ x < n) -> Q (iD os) true
theorem ok_l_order {f : Addr} {fd : FuncData} (F : Fun K "_law_order" "_law_order" s_l_order f fd) (T : Blt mg) : FnOk P w K mg base CX0 1 f fd ["_law_many", "_law_big_here"] (SpL K sp_order) := by
 refine ok0 F sc_l_order (fun ds Q X h => ?_) (fun cdv A outer s H E hr => ?_) fun ds Qd Xd h => h
 ·obtain ⟨n, b, rfl, _⟩ := h; rfl
 refine ⟨_, (dpss_cons (dpset 2 sc_l_order.nd (dpe_listrange (by rfl) (by rfl) (by exact T.list) (by rfl) (by exact T.range) (dpa_cons (dpv 0) dpa_nil)))
   (dpss_cons (dpset 3 sc_l_order.nd (dpe_lst dpa_nil))
   (dpss_cons (dps_while PassesOwn.never (dpt_cmp (dop_ne (by rfl) (by exact hr.units)) (dpv 2) (dpe_lst dpa_nil) (nomark _)) (dpss_cons (dps_appPop 3 2 (by rfl) (qpv 3) (qpv 2) (dpe_op dop_mod (dpv 1) (dpe_callB (dcl_len (by rfl)) (by rfl) (by exact T.len) (by decide +kernel) (dpa_cons (dpv 2) dpa_nil))) (by rfl) (by rfl) (by rfl) (by rfl) (by rfl) (by rfl))
   (dpss_one (dpset 1 sc_l_order.nd (dpe_op dop_fdivB (dpv 1) (dpe_op dop_add (dpe_callB (dcl_len (by rfl)) (by rfl) (by exact T.len) (by decide +kernel) (dpa_cons (dpv 2) dpa_nil)) dpe_int))))))
   (dpss_one (dps_ret (dpv 3)))))), fun ds Qd h => ?_⟩
 obtain ⟨n, b, rfl, hn, hb, q⟩ := h
 show (_ : TSD) _ [some (false, .int n), some (false, .int b), none, none] _
 walk_at "d"
 refine ⟨n, rfl, by omega, ?_⟩
 walk_at "d"
 refine ⟨fun m ρ => ∃ (bb : Int) (rs os : List Int), ρ = [some (false, .int n), some (false, .int bb), some (true, iD rs), some (true, iD os)] /\ m = rs.length /\ 0 <= bb /\ rs.length + os.length = n /\ (∀ x ∈ rs, 0 <= x /\ x < n) /\ ∀ x ∈ os, 0 <= x /\ x < n, ⟨_, b, (List.range n).map fun (i : Nat) => (i : Int), [], by unfold iD; rw [List.map_map]; rfl, rfl, hb, by simp, fun x hx => ?_, fun x hx => by cases hx⟩, ?_⟩
 ·obtain ⟨i, hi, rfl⟩ := List.mem_map.mp hx
  have := List.mem_range.mp hi
  omega
 rintro m ρ ⟨bb, rs, os, rfl, rfl, hbb, h3, h4, h5⟩
 walk_at "d"
 refine ⟨⟨lay_iD rs, rfl, depth_iD rs⟩, ?_⟩
 cases rs with
 | nil =>
  show onB (PyData.bool false) _
  walk_at "d"
  exact q os (by simpa using h3) h5
 | cons x rs =>
  show onB (PyData.bool true) _
  have hpos : 0 < (x :: rs).length := Nat.succ_pos _
  revert h3 h4 hpos
  generalize x :: rs = ys
  intro h3 h4 hpos
  walk_at "d"
  have hl : (ys.map PyData.int).length = ys.length := List.length_map _
  obtain ⟨j, hj, ej⟩ : ∃ j : Nat, j < ys.length /\ bb % ((ys.length : Nat) : Int) = (j : Int) := by
   have h0 : (0 : Int) < ((ys.length : Nat) : Int) := by omega
   have := Int.emod_nonneg bb (Int.ne_of_gt h0)
   have := Int.emod_lt_of_pos bb h0
   exact ⟨(bb % ((ys.length : Nat) : Int)).toNat, by omega, by omega⟩
  refine ⟨os.map .int, ys.map .int, rfl, by decide, rfl, by rw [hl]; omega, by rw [List.length_map]; omega, ?_⟩
  walk_at "d"
  refine ⟨_, j, .int ys[j], rfl, ?_, by rw [List.getElem?_map, List.getElem?_eq_getElem hj]; rfl, rfl, ?_⟩
  ·rw [hl, ej]; unfold ixN; rw [if_pos (by omega), if_pos (by omega)]; simp
  show dSet 1 _ _ [some (false, .int n), some (false, .int bb), some (true, .list ((ys.map PyData.int).eraseIdx j)), some (true, .list (os.map PyData.int ++ [.int ys[j]]))] _
  have e1 : (ys.map PyData.int).eraseIdx j = (ys.eraseIdx j).map PyData.int := map_erase _ _ _
  have e2 : os.map PyData.int ++ [PyData.int ys[j]] = (os ++ [ys[j]]).map PyData.int := by rw [List.map_append]; rfl
  rw [e1, e2]
  have le : (ys.eraseIdx j).length = ys.length - 1 := List.length_eraseIdx_of_lt hj
  show dSet 1 _ _ [some (false, .int n), some (false, .int bb), some (true, iD (ys.eraseIdx j)), some (true, iD (os ++ [ys[j]]))] _
  walk_at "d"
  refine ⟨⟨by omega, 10, by decide, by omega⟩, ?_⟩
  walk_at "d"
  refine ⟨(ys.eraseIdx j).length, by omega, bb / ((ys.eraseIdx j).length + 1), ys.eraseIdx j, os ++ [ys[j]], rfl, rfl, Int.ediv_nonneg hbb (by omega), by rw [List.length_append]; simp; omega, fun x hx => h4 x (List.mem_of_mem_eraseIdx hx), fun x hx => ?_⟩
  rcases List.mem_append.mp hx with hx | hx
  ·exact h5 x hx
  ·rw [List.mem_singleton.mp hx]; exact h4 _ (List.getElem_mem hj)
def Mk (m : Str) : Prop := m = ⟨#[97]⟩ ∨ m = ⟨#[98]⟩ ∨ m = ⟨#[99]⟩ ∨ m = ⟨#[100]⟩
def GK (n : Nat) (ks : List Key) : Prop := ∃ (a b : Int) (m : Str), ks = [.inl a, .inr m, .inl b] /\ 0 <= a /\ a < n /\ 0 <= b /\ b < n /\ Mk m
def GA (n : Nat) (es : List (List Key × D)) : Prop := ∀ p ∈ es, GK n p.1
theorem GA.put {n : Nat} {es : List (List Key × D)} {ks : List Key} {d : D} (h : GA n es) (hk : GK n ks) : GA n (putD es ks d) := by
 intro p hp
 unfold putD at hp
 split at hp
 ·obtain ⟨q, hq, rfl⟩ := List.mem_map.mp hp
  split
  ·exact h q hq
  ·exact h q hq
 ·rcases List.mem_append.mp hp with hp | hp
  ·exact h p hp
  ·rw [List.mem_singleton.mp hp]; exact hk
theorem mk_at {i : Nat} {d : D} (h : (DL.signs "abcd")[i]? = some d) : ∃ m, d = .str m /\ Mk m := by
 match i, h with
 | 0, h => cases h; exact ⟨_, rfl, .inl rfl⟩
 | 1, h => cases h; exact ⟨_, rfl, .inr (.inl rfl)⟩
 | 2, h => cases h; exact ⟨_, rfl, .inr (.inr (.inl rfl))⟩
 | 3, h => cases h; exact ⟨_, rfl, .inr (.inr (.inr rfl))⟩
 | i + 4, h => rw [List.getElem?_eq_none (by show 4 <= i + 4; omega)] at h; cases h
theorem at_any {os : List Int} {z : Int} (h : -(os.length : Int) <= z) (h' : z < os.length) : ∃ a, a ∈ os /\ atI (os.map PyData.int) z = some (.int a) := by
 have hl : (os.map PyData.int).length = os.length := List.length_map _
 obtain ⟨j, hj, e⟩ : ∃ j, j < os.length /\ ixN os.length z = some j := by
  unfold ixN
  by_cases h0 : 0 <= z
  ·exact ⟨z.toNat, by omega, by rw [if_pos h0, if_pos h']⟩
  ·exact ⟨(z + os.length).toNat, by omega, by rw [if_neg h0, if_pos h]⟩
 exact ⟨os[j], List.getElem_mem hj, atI_of (by rw [hl]; exact e) (by rw [List.getElem?_map, List.getElem?_eq_getElem hj]; rfl)⟩
abbrev s_l_ring : Stmt := top 12
theorem sc_l_ring : FnScope ["_law_places", "_law_big_here", "_law_order_here", "_law_arrows", "_law_k"] ["_law_places", "_law_big_here"] (defScope s_l_ring) := ⟨rfl, rfl, rfl, by decide +kernel, rfl, by decide +kernel, by decide +kernel⟩
def sp_ring : SpD := fun ds Q _ => ∃ (n : Nat) (b : Int), ds = [.int n, .int b] /\ 1 <= n /\ n <= 6 /\ 0 <= b /\ ∀ es, GA n es -> es.length <= 6 -> Q (dTD es) true
theorem ok_l_ring {f : Addr} {fd : FuncData} (F : Fun K "_law_ring" "_law_ring" s_l_ring f fd) (T : Blt mg) (D_l_order : Df P w K mg base "_law_order" ["_law_many", "_law_big_here"] 1 (SpL K sp_order)) : FnOk P w K mg base CX0 2 f fd ["_law_places", "_law_big_here"] (SpL K sp_ring) := by
 refine ok0 F sc_l_ring (fun ds Q X h => ?_) (fun cdv A outer s H E hr => ?_) fun ds Qd Xd h => h
 ·obtain ⟨n, b, rfl, _⟩ := h; rfl
 refine ⟨_, (dpss_cons (dpset 2 sc_l_ring.nd (dpe_df (by exact D_l_order) (by exact hr.mono (by omega)) (dpa_cons (dpv 0) (dpa_cons (dpv 1) dpa_nil))))
   (dpss_cons (dpset 1 sc_l_ring.nd (dpe_op dop_fdiv (dpv 1) dpe_int))
   (dpss_cons (dpset 3 sc_l_ring.nd (dpe_dnewT ⟨pe_dnewT⟩))
   (dpss_cons (dps_for PassesOwn.never rfl (dpi_range1 (by rfl) (by exact T.range) (dpa_cons (dpv 0) dpa_nil)) (dpgn 4 sc_l_ring.nd) (dpss_cons (dps_dput 3 (by exact Nat.lt_of_le_of_lt (Nat.add_le_add_left (by decide) _) hr.units) (qpv 3) (dky_tup (dpa_cons (dpe_ix (dix (by rfl)) (dpv 2) (dpe_op dop_sub (dpv 4) dpe_int) (fun _ _ => rfl)) (dpa_cons (dpe_ix dixS dpe_str (dpe_op dop_mod (dpv 1) dpe_int) (fun _ _ => rfl)) (dpa_cons (dpe_ix (dix (by rfl)) (dpv 2) (dpv 4) (fun _ _ => rfl)) dpa_nil)))) dpe_bl)
   (dpss_one (dpset 1 sc_l_ring.nd (dpe_op dop_fdiv (dpv 1) dpe_int)))))
   (dpss_one (dps_ret (dpv 3))))))), fun ds Qd h => ?_⟩
 obtain ⟨n, b, rfl, hn1, hn, hb, q⟩ := h
 show (_ : TSD) _ [some (false, .int n), some (false, .int b), none, none, none] _
 walk_at "d"
 refine ⟨n, b, rfl, hn, hb, fun os ho1 ho2 => ?_⟩
 walk_at "d"
 refine lp_rng (fun i ρ => ∃ (bb : Int) (es : List (List Key × D)) (x : Option (Bool × D)), ρ = [some (false, .int n), some (false, .int bb), some (true, iD os), some (true, dTD es), x] /\ 0 <= bb /\ GA n es /\ es.length <= i) ⟨_, [], _, rfl, ?_, fun _ z => (by cases z), Nat.le_refl _⟩ ?_ ?_
 ·exact Int.ediv_nonneg hb (by decide)
 ·rintro i ρ hi ⟨bb, es, x, rfl, hbb, hg, hl⟩
  walk_at "d"
  obtain ⟨a, ha, ea⟩ := at_any (os := os) (z := 0 + (i : Int) - 1) (by omega) (by omega)
  refine ⟨_, ea, ?_⟩
  walk_at "d"
  obtain ⟨j, hj, ej⟩ : ∃ j : Nat, j < 4 /\ bb % 4 = (j : Int) := by
   have := Int.emod_nonneg bb (show (4 : Int) ≠ 0 by decide)
   have := Int.emod_lt_of_pos bb (show (0 : Int) < 4 by decide)
   exact ⟨(bb % 4).toNat, by omega, by omega⟩
  obtain ⟨c, hc, hm⟩ : ∃ c, (Str.ofString "abcd").cps.toList[j]? = some c /\ Mk ⟨#[c]⟩ := by
   match j, hj with
   | 0, _ => exact ⟨97, rfl, .inl rfl⟩
   | 1, _ => exact ⟨98, rfl, .inr (.inl rfl)⟩
   | 2, _ => exact ⟨99, rfl, .inr (.inr (.inl rfl))⟩
   | 3, _ => exact ⟨100, rfl, .inr (.inr (.inr rfl))⟩
  refine ⟨c, by rw [ej]; exact atI_nat hc, ?_⟩
  walk_at "d"
  obtain ⟨a', ha', ea'⟩ := at_any (os := os) (z := 0 + (i : Int)) (by omega) (by omega)
  refine ⟨_, ea', ?_⟩
  walk_at "d"
  have b1 := ho2 a ha
  have b2 := ho2 a' ha'
  exact ⟨bb / 4, _, _, rfl, Int.ediv_nonneg hbb (by decide), hg.put ⟨a, a', _, rfl, b1.1, b1.2, b2.1, b2.2, hm⟩, Nat.le_trans (putD_len _ _ _) (by omega)⟩
 ·rintro ρ ⟨bb, es, x, rfl, hbb, hg, hl⟩
  walk_at "d"
  exact q es hg (by omega)
abbrev s_l_more : Stmt := top 13
theorem sc_l_more : FnScope ["_law_places", "_law_arrows", "_law_big_here", "_law_rare", "_law_most", "_law_place", "_law_mark", "_law_there"] ["_law_places", "_law_arrows", "_law_big_here", "_law_rare", "_law_most"] (defScope s_l_more) := ⟨rfl, rfl, rfl, by decide +kernel, rfl, by decide +kernel, by decide +kernel⟩
def sp_more : SpD := fun ds Q _ => ∃ (n : Nat) (es : List (List Key × D)) (b r m : Int), ds = [.int n, dTD es, .int b, .int r, .int m] /\ n <= 6 /\ 0 <= b /\ 0 < r /\ r < 100 /\ m <= 30 /\ GA n es /\ es.length <= 30 /\ ∀ es', GA n es' -> es'.length <= 30 -> Q (dTD es') true
theorem ok_l_more {f : Addr} {fd : FuncData} (F : Fun K "_law_more" "_law_more" s_l_more f fd) (T : Blt mg) : FnOk P w K mg base CX0 1 f fd ["_law_places", "_law_arrows", "_law_big_here", "_law_rare", "_law_most"] (SpLO K sp_more) := by
 refine okO F sc_l_more (fun ds Q X h => ?_) (fun cdv A outer s H E hr => ?_) fun ds Qd Xd h => h
 ·obtain ⟨n, es, b, r, m, rfl, _⟩ := h; rfl
 refine ⟨_, (dpss_cons (dps_for PassesOwn.never rfl (dpi_range1 (by rfl) (by exact T.range) (dpa_cons (dpv 0) dpa_nil)) (dpgn 5 sc_l_more.nd) (dpss_one (dps_for PassesOwn.never rfl (dpi_str dpe_str) (dpgn 6 sc_l_more.nd) (dpss_one (dps_for PassesOwn.never rfl (dpi_range1 (by rfl) (by exact T.range) (dpa_cons (dpv 0) dpa_nil)) (dpgn 7 sc_l_more.nd) (dpss_cons (dps_if (dPWpt (dpw_and (dpt_cmp (dop_eq (by rfl) (by exact hr.units)) (dpe_op dop_mod (dpv 2) (dpv 3)) dpe_int (nomark _)) (dpw_and1 (dpt_cmp dop_lt (dpe_callB dcl_lenD (by rfl) (by exact T.len) (by decide +kernel) (dpa_cons (dpv 1) dpa_nil)) (dpv 4) (nomark _))))) (dpss_one (dps_dput 1 (by exact Nat.lt_of_le_of_lt (Nat.add_le_add_left (by decide) _) hr.units) (qpv 1) (dky_tup (dpa_cons (dpv 5) (dpa_cons (dpv 6) (dpa_cons (dpv 7) dpa_nil)))) dpe_bl)) dpss_nil)
   (dpss_one (dpset 2 sc_l_more.nd (dpe_op dop_fdiv (dpv 2) (dpv 3))))))))))
   (dpss_one (dps_ret (dpv 1)))), fun ds Qd h => ?_⟩
 obtain ⟨n, es, b, r, m, rfl, hn, hb, hr0, hr1, hm, hg, hl, q⟩ := h
 show (_ : TSD) _ [some (false, .int n), some (true, dTD es), some (false, .int b), some (false, .int r), some (false, .int m), none, none, none] _
 walk_at "d"
 refine lp_rng (fun i ρ => ∃ (bb : Int) (es : List (List Key × D)) (x y z : Option (Bool × D)), ρ = [some (false, .int n), some (true, dTD es), some (false, .int bb), some (false, .int r), some (false, .int m), x, y, z] /\ 0 <= bb /\ GA n es /\ es.length <= 30) ⟨b, es, _, _, _, rfl, hb, hg, hl⟩ ?_ ?_
 ·rintro i ρ hi ⟨bb, es, x, y, z, rfl, hbb, hg, hl⟩
  walk_at "d"
  refine lp_list (fun j ρ => ∃ (bb : Int) (es : List (List Key × D)) (y z : Option (Bool × D)), ρ = [some (false, .int n), some (true, dTD es), some (false, .int bb), some (false, .int r), some (false, .int m), some (false, .int (0 + (i : Int))), y, z] /\ 0 <= bb /\ GA n es /\ es.length <= 30) ⟨bb, es, _, _, rfl, hbb, hg, hl⟩ ?_ ?_
  ·rintro j d ρ hd ⟨bb, es, y, z, rfl, hbb, hg, hl⟩
   obtain ⟨mk, rfl, hmk⟩ := mk_at hd
   walk_at "d"
   refine lp_rng (fun l ρ => ∃ (bb : Int) (es : List (List Key × D)) (z : Option (Bool × D)), ρ = [some (false, .int n), some (true, dTD es), some (false, .int bb), some (false, .int r), some (false, .int m), some (false, .int (0 + (i : Int))), some (false, .str mk), z] /\ 0 <= bb /\ GA n es /\ es.length <= 30) ⟨bb, es, _, rfl, hbb, hg, hl⟩ ?_ ?_
   ·rintro l ρ hl' ⟨bb, es, z, rfl, hbb, hg, hl⟩
    walk_at "d"
    have hc : CDiv bb r := by unfold CDiv; omega
    have h0 := Int.ediv_nonneg hbb (Int.le_of_lt hr0)
    refine ite2 (fun h1 => ?_) fun h1 => ?_
    ·walk_at "d"
     refine ite2 (fun h2 => ?_) fun h2 => ?_
     ·walk_at "d"
      have hlt : (es.length : Int) < m := by simpa using h2
      exact ⟨_, _, _, rfl, h0, hg.put ⟨_, _, _, rfl, by omega, by omega, by omega, by omega, hmk⟩, Nat.le_trans (putD_len _ _ _) (by omega)⟩
     ·walk_at "d"
      exact ⟨_, _, _, rfl, h0, hg, hl⟩
    ·walk_at "d"
     exact ⟨_, _, _, rfl, h0, hg, hl⟩
   ·rintro ρ ⟨bb, es, z, rfl, hbb, hg, hl⟩
    exact ⟨bb, es, _, _, rfl, hbb, hg, hl⟩
  ·rintro ρ ⟨bb, es, y, z, rfl, hbb, hg, hl⟩
   exact ⟨bb, es, _, _, _, rfl, hbb, hg, hl⟩
 ·rintro ρ ⟨bb, es, x, y, z, rfl, hbb, hg, hl⟩
  walk_at "d"
  exact q es hg hl
end
end K25
namespace K25
open PySem PySem.Spec PyProof.Rows L2 DL
section
variable {P : Program} {w : World} {K : W.Frag} {mg : Str -> Option Value} {base : Heap}
abbrev s_l_one_way : Stmt := top 14
theorem sc_l_one_way : FnScope ["_law_places", "_law_big_here", "_law_arrows", "_law_known", "_law_arrow", "_law_place", "_law_mark", "_law_spot"] ["_law_places", "_law_big_here"] (defScope s_l_one_way) := ⟨rfl, rfl, rfl, by decide +kernel, rfl, by decide +kernel, by decide +kernel⟩
def sp_one_way : SpD := fun ds Q _ => ∃ (n : Nat) (b : Int), ds = [.int n, .int b] /\ 1 <= n /\ n <= 6 /\ 0 <= b /\ ∀ es, GA n es -> es.length <= 30 -> Q (dTD es) true
theorem ok_l_one_way {f : Addr} {fd : FuncData} (F : Fun K "_law_one_way" "_law_one_way" s_l_one_way f fd) (T : Blt mg) (D_l_ring : Df P w K mg base "_law_ring" ["_law_places", "_law_big_here"] 2 (SpL K sp_ring)) : FnOk P w K mg base CX0 3 f fd ["_law_places", "_law_big_here"] (SpL K sp_one_way) := by
 refine ok0 F sc_l_one_way (fun ds Q X h => ?_) (fun cdv A outer s H E hr => ?_) fun ds Qd Xd h => h
 ·obtain ⟨n, b, rfl, _⟩ := h; rfl
 refine ⟨_, (dpss_cons (dpset 2 sc_l_one_way.nd (dpe_df (by exact D_l_ring) (by exact hr.mono (by omega)) (dpa_cons (dpv 0) (dpa_cons (dpv 1) dpa_nil))))
   (dpss_cons (dpset 1 sc_l_one_way.nd (dpe_op dop_fdiv (dpv 1) (dpe_op dop_pow dpe_int dpe_int)))
   (dpss_cons (dpset 3 sc_l_one_way.nd (dpe_dnewT ⟨pe_dnewT⟩))
   (dpss_cons (dps_for PassesOwn.never rfl (dpi_list (by rfl) (dpe_callTy (dcl_listDT (by rfl)) (by rfl) (by exact T.list) (by decide +kernel) (dpa_cons (dpv 2) dpa_nil))) (dpgn 4 sc_l_one_way.nd) (dpss_one (dps_dput 3 (by exact Nat.lt_of_le_of_lt (Nat.add_le_add_left (by decide) _) hr.units) (qpv 3) (dky_tup (dpa_cons (dpe_ix (dix (by rfl)) (dpv 4) dpe_int (fun _ _ => rfl)) (dpa_cons (dpe_ix (dix (by rfl)) (dpv 4) dpe_int (fun _ _ => rfl)) dpa_nil))) dpe_bl)))
   (dpss_cons (dps_for PassesOwn.never rfl (dpi_range1 (by rfl) (by exact T.range) (dpa_cons (dpv 0) dpa_nil)) (dpgn 5 sc_l_one_way.nd) (dpss_one (dps_for PassesOwn.never rfl (dpi_str dpe_str) (dpgn 6 sc_l_one_way.nd) (dpss_cons (dpset 7 sc_l_one_way.nd (dpe_op dop_mod (dpv 1) (dpe_op dop_mul dpe_int (dpv 0))))
   (dpss_cons (dpset 1 sc_l_one_way.nd (dpe_op dop_fdiv (dpv 1) (dpe_op dop_mul dpe_int (dpv 0))))
   (dpss_one (dps_if (dPWpt (dpw_and (dpt_cmp dop_lt (dpv 7) (dpv 0) (nomark _)) (dpw_and1 (dpt_dnotin (by exact Nat.lt_of_le_of_lt (Nat.add_le_add_left (by decide) _) hr.units) (dky_tup (dpa_cons (dpv 5) (dpa_cons (dpv 6) dpa_nil))) (dpv 3) (by rfl))))) (dpss_one (dps_dput 2 (by exact Nat.lt_of_le_of_lt (Nat.add_le_add_left (by decide) _) hr.units) (qpv 2) (dky_tup (dpa_cons (dpv 5) (dpa_cons (dpv 6) (dpa_cons (dpv 7) dpa_nil)))) dpe_bl)) dpss_nil)))))))
   (dpss_one (dps_ret (dpv 2)))))))), fun ds Qd h => ?_⟩
 obtain ⟨n, b, rfl, hn1, hn, hb, q⟩ := h
 show (_ : TSD) _ [some (false, .int n), some (false, .int b), none, none, none, none, none, none] _
 walk_at "d"
 refine ⟨n, b, rfl, hn1, hn, hb, fun es hg hl => ?_⟩
 walk_at "d"
 have hb' : 0 <= b / 10 ^ Int.toNat 7 := Int.ediv_nonneg hb (by decide)
 revert hb'
 generalize b / 10 ^ Int.toNat 7 = b1
 intro hb1
 refine lp_list (fun j ρ => ∃ (ek : List (List Key × D)) (x : Option (Bool × D)), ρ = [some (false, .int n), some (false, .int b1), some (true, dTD es), some (true, dTD ek), x, none, none, none] /\ ek.length <= j) ⟨[], _, rfl, Nat.le_refl _⟩ ?_ ?_
 ·rintro j d ρ hd ⟨ek, x, rfl, hk⟩
  have hjl : j < es.length := by
   have := (List.getElem?_eq_some_iff.mp hd).1
   unfold keysT at this
   rw [List.length_map] at this; exact this
  unfold keysT at hd
  rw [List.getElem?_map, List.getElem?_eq_getElem hjl] at hd
  obtain ⟨a, c, m, e, _⟩ := hg es[j] (List.getElem_mem hjl)
  have hd' : d = tupK es[j].1 := by cases hd; rfl
  subst hd'
  rw [e]
  show bName 4 (.tuple [.int a, .str m, .int c]) _ _
  walk_at "d"
  refine ⟨.int a, rfl, ?_⟩
  walk_at "d"
  refine ⟨.str m, rfl, ?_⟩
  walk_at "d"
  exact ⟨_, _, rfl, Nat.le_trans (putD_len _ _ _) (by omega)⟩
 ·rintro ρ ⟨ek, x, rfl, hk⟩
  walk_at "d"
  refine lp_rng (fun i ρ => ∃ (bb : Int) (es : List (List Key × D)) (x y z t : Option (Bool × D)), ρ = [some (false, .int n), some (false, .int bb), some (true, dTD es), some (true, dTD ek), x, y, z, t] /\ 0 <= bb /\ GA n es /\ es.length <= 6 + 4 * i) ⟨b1, es, _, _, _, _, rfl, hb1, hg, hl⟩ ?_ ?_
  ·rintro i ρ hi ⟨bb, es, x, y, z, t, rfl, hbb, hg, hl⟩
   walk_at "d"
   refine lp_list (fun j ρ => ∃ (bb : Int) (es : List (List Key × D)) (x z t : Option (Bool × D)), ρ = [some (false, .int n), some (false, .int bb), some (true, dTD es), some (true, dTD ek), x, some (false, .int (0 + (i : Int))), z, t] /\ 0 <= bb /\ GA n es /\ es.length <= 6 + 4 * i + j) ⟨bb, es, _, _, _, rfl, hbb, hg, hl⟩ ?_ ?_
   ·rintro j d ρ hd ⟨bb, es, x, z, t, rfl, hbb, hg, hl⟩
    have hj4 : j < 4 := (List.getElem?_eq_some_iff.mp hd).1
    obtain ⟨mk, rfl, hmk⟩ := mk_at hd
    have hm : IntMulOk 3 (n : Int) := CMul.ok (.inl ⟨by omega, by omega⟩)
    walk_at "d"
    have h3 : (0 : Int) < 3 * n := by omega
    have h0 := Int.ediv_nonneg hbb (Int.le_of_lt h3)
    have h1 := Int.emod_nonneg bb (Int.ne_of_gt h3)
    refine ⟨by unfold CDiv; omega, ?_⟩
    walk_at "d"
    refine ite2 (fun g1 => ?_) fun g1 => ?_
    ·have g1' : bb % (3 * n) < n := by simpa using g1
     walk_at "d"
     refine ite2 (fun g2 => ?_) fun g2 => ?_
     ·walk_at "d"
      exact ⟨_, _, _, _, _, rfl, h0, hg.put ⟨_, _, _, rfl, by omega, by omega, h1, g1', hmk⟩, Nat.le_trans (putD_len _ _ _) (by omega)⟩
     ·walk_at "d"
      exact ⟨_, _, _, _, _, rfl, h0, hg, by omega⟩
    ·walk_at "d"
     exact ⟨_, _, _, _, _, rfl, h0, hg, by omega⟩
   ·rintro ρ ⟨bb, es, x, z, t, rfl, hbb, hg, hl⟩
    have e4 : (DL.signs "abcd").length = 4 := rfl
    rw [e4] at hl
    exact ⟨bb, es, _, _, _, _, rfl, hbb, hg, by omega⟩
  ·rintro ρ ⟨bb, es, x, y, z, t, rfl, hbb, hg, hl⟩
   walk_at "d"
   exact q es hg (by omega)
abbrev Arr := Int × Str × Int
def arr (p : Arr) : D := .tuple [.int p.1, .str p.2.1, .int p.2.2]
def aD (as : List Arr) : D := .list (as.map arr)
def GArr (n : Nat) (p : Arr) : Prop := 0 <= p.1 /\ p.1 < n /\ 0 <= p.2.2 /\ p.2.2 < n /\ Mk p.2.1
theorem okTs_GA {n : Nat} {es : List (List Key × D)} (h : GA n es) : okTs (es.map fun p => p.1.map kV) = true := by
 cases es with
 | nil => rfl
 | cons p r =>
  obtain ⟨a, b, m, e, _⟩ := h p List.mem_cons_self
  rw [List.map_cons, e]
  show (!([V.int a, V.str m, V.int b] : List V).isEmpty && (sameKs [V.int a, V.str m, V.int b] [V.int a, V.str m, V.int b] && _)) = true
  rw [Bool.and_eq_true, Bool.and_eq_true]
  refine ⟨rfl, rfl, List.all_eq_true.mpr fun u hu => ?_⟩
  obtain ⟨q, hq, rfl⟩ := List.mem_map.mp hu
  obtain ⟨a', b', m', e', _⟩ := h q (List.mem_cons_of_mem _ hq)
  rw [e']; rfl
theorem arrs_of {n : Nat} : ∀ {xs : List D}, (∀ d ∈ xs, ∃ p, d = arr p /\ GArr n p) -> ∃ as : List Arr, xs = as.map arr /\ ∀ p ∈ as, GArr n p
 | [], _ => ⟨[], rfl, fun _ z => by cases z⟩
 | d :: r, h => by
  obtain ⟨p, rfl, hp⟩ := h d List.mem_cons_self
  obtain ⟨as, rfl, ha⟩ := arrs_of (xs := r) fun d hd => h d (List.mem_cons_of_mem _ hd)
  refine ⟨p :: as, rfl, fun q hq => ?_⟩
  rcases List.mem_cons.mp hq with rfl | hq
  ·exact hp
  ·exact ha q hq
theorem outD_len {lt : Nat -> Nat -> Bool} {xs : List D} : (outD lt xs).length = xs.length := by
 unfold outD
 split
 ·rfl
 ·rw [List.length_map, Array.length_toList]
  have p : Pl xs.length (runK lt (PySem.W.kas_sort xs.length)) := bel_run _ (bel_sort (by omega))
  have := p.size_eq
  simpa using this
theorem sorted_arrs {n : Nat} {es : List (List Key × D)} {lt : Nat -> Nat -> Bool} (h : GA n es) : ∃ as : List Arr, outD lt (keysT es) = as.map arr /\ as.length = es.length /\ ∀ p ∈ as, GArr n p := by
 obtain ⟨as, e, ha⟩ := arrs_of (n := n) (xs := outD lt (keysT es)) fun d hd => by
  obtain ⟨p, hp, rfl⟩ := List.mem_map.mp (outD_mem hd)
  obtain ⟨a, b, m, e, h1, h2, h3, h4, h5⟩ := h p hp
  exact ⟨(a, m, b), by rw [e]; rfl, h1, h2, h3, h4, h5⟩
 refine ⟨as, e, ?_, ha⟩
 have := congrArg List.length e
 rw [outD_len, List.length_map] at this
 unfold keysT at this
 rw [List.length_map] at this
 exact this.symm
abbrev s_l_reader : Stmt := top 15
theorem sc_l_reader : FnScope ["_law_big_here", "_law_most", "_law_places", "_law_way", "_law_arrows"] ["_law_big_here", "_law_most"] (defScope s_l_reader) := ⟨rfl, rfl, rfl, by decide +kernel, rfl, by decide +kernel, by decide +kernel⟩
def sp_reader : SpD := fun ds Q _ => ∃ (b : Int), ds = [.int b, .int 6] /\ 0 <= b /\ ∀ (n : Nat) (as : List Arr), 1 <= n -> n <= 6 -> as.length <= 30 -> (∀ p ∈ as, GArr n p) -> Q (.tuple [.int n, aD as]) true
theorem ok_l_reader {f : Addr} {fd : FuncData} (F : Fun K "_law_reader" "_law_reader" s_l_reader f fd) (T : Blt mg) (D_l_ring : Df P w K mg base "_law_ring" ["_law_places", "_law_big_here"] 2 (SpL K sp_ring)) (D_l_more : Df P w K mg base "_law_more" ["_law_places", "_law_arrows", "_law_big_here", "_law_rare", "_law_most"] 1 (SpLO K sp_more)) (D_l_one_way : Df P w K mg base "_law_one_way" ["_law_places", "_law_big_here"] 3 (SpL K sp_one_way)) : FnOk P w K mg base CX0 4 f fd ["_law_big_here", "_law_most"] (SpL K sp_reader) := by
 refine ok0 F sc_l_reader (fun ds Q X h => ?_) (fun cdv A outer s H E hr => ?_) fun ds Qd Xd h => h
 ·obtain ⟨b, rfl, _⟩ := h; rfl
 refine ⟨_, (dpss_cons (dpset 2 sc_l_reader.nd (dpe_op dop_add dpe_int (dpe_op dop_mod (dpv 0) (dpv 1))))
   (dpss_cons (dpset 3 sc_l_reader.nd (dpe_op dop_mod (dpe_op dop_fdiv (dpv 0) (dpv 1)) dpe_int))
   (dpss_cons (dpset 0 sc_l_reader.nd (dpe_op dop_fdiv (dpv 0) (dpe_op dop_mul dpe_int (dpv 1))))
   (dpss_cons (dps_jn (dps_if (dpt_cmp (dop_eq (by rfl) (by exact hr.units)) (dpv 3) dpe_int (nomark _)) (dpss_one (dpset 4 sc_l_reader.nd (dpe_dfO (by exact D_l_more) (by exact hr.mono (by omega)) (dpa_cons (dpv 2) (dpa_cons (dpe_dnewT ⟨pe_dnewT⟩) (dpa_cons (dpv 0) (dpa_cons dpe_int (dpa_cons dpe_int dpa_nil)))))))) (dpss_one (dps_if (dpt_cmp (dop_eq (by rfl) (by exact hr.units)) (dpv 3) dpe_int (nomark _)) (dpss_one (dpset 4 sc_l_reader.nd (dpe_dfO (by exact D_l_more) (by exact hr.mono (by omega)) (dpa_cons (dpv 2) (dpa_cons (dpe_dnewT ⟨pe_dnewT⟩) (dpa_cons (dpv 0) (dpa_cons dpe_int (dpa_cons dpe_int dpa_nil)))))))) (dpss_one (dps_if (dpt_cmp (dop_eq (by rfl) (by exact hr.units)) (dpv 3) dpe_int (nomark _)) (dpss_one (dpset 4 sc_l_reader.nd (dpe_df (by exact D_l_one_way) (by exact hr.mono (by omega)) (dpa_cons (dpv 2) (dpa_cons (dpv 0) dpa_nil))))) (dpss_one (dpset 4 sc_l_reader.nd (dpe_dfO (by exact D_l_more) (by exact hr.mono (by omega)) (dpa_cons (dpv 2) (dpa_cons (dpe_df (by exact D_l_ring) (by exact hr.mono (by omega)) (dpa_cons (dpv 2) (dpa_cons (dpv 0) dpa_nil))) (dpa_cons (dpe_op dop_fdiv (dpv 0) (dpe_op dop_pow dpe_int dpe_int)) (dpa_cons dpe_int (dpa_cons dpe_int dpa_nil))))))))))))))
   (dpss_one (dps_ret (dpe_tup (dpa_cons (dpv 2) (dpa_cons (dpe_callB (dcl_sortDT (by rfl)) (by rfl) (by exact T.sorted) (by decide +kernel) (dpa_cons (dpv 4) dpa_nil)) dpa_nil))))))))), fun ds Qd h => ?_⟩
 obtain ⟨b, rfl, hb, q⟩ := h
 show (_ : TSD) _ [some (false, .int b), some (false, .int 6), none, none, none] _
 walk_at "d"
 obtain ⟨n, hn, hn1, hn6⟩ : ∃ n : Nat, 1 + b % 6 = (n : Int) /\ 1 <= n /\ n <= 6 := by
  have := Int.emod_nonneg b (show (6 : Int) ≠ 0 by decide)
  have := Int.emod_lt_of_pos b (show (0 : Int) < 6 by decide)
  exact ⟨(1 + b % 6).toNat, by omega, by omega, by omega⟩
 rw [hn]
 have hb' : 0 <= b / (4 * 6) := Int.ediv_nonneg hb (by decide)
 revert hb'
 generalize b / (4 * 6) = b1
 generalize b / 6 % 4 = wy
 intro hb1
 have hb2 : 0 <= b1 / 10 ^ Int.toNat 7 := Int.ediv_nonneg hb1 (by decide)
 refine w_jn (fun ρ => ∃ (es : List (List Key × D)), ρ = [some (false, .int b1), some (false, .int 6), some (false, .int n), some (false, .int wy), some (true, dTD es)] /\ GA n es /\ es.length <= 30) ?_ ?_
 ·intro N hN
  walk_at "d"
  refine ite2 (fun g1 => ?_) fun g1 => ?_
  ·walk_at "d"
   refine ⟨rfl, n, [], b1, 2, 30, rfl, hn6, hb1, by decide, by decide, by decide, fun _ z => (by cases z), Nat.zero_le _, fun es' hg hl => ?_⟩
   walk_at "d"
   exact hN _ ⟨es', rfl, hg, hl⟩
  ·walk_at "d"
   refine ite2 (fun g2 => ?_) fun g2 => ?_
   ·walk_at "d"
    refine ⟨rfl, n, [], b1, 9, 30, rfl, hn6, hb1, by decide, by decide, by decide, fun _ z => (by cases z), Nat.zero_le _, fun es' hg hl => ?_⟩
    walk_at "d"
    exact hN _ ⟨es', rfl, hg, hl⟩
   ·walk_at "d"
    refine ite2 (fun g3 => ?_) fun g3 => ?_
    ·walk_at "d"
     refine ⟨n, b1, rfl, hn1, hn6, hb1, fun es' hg hl => ?_⟩
     walk_at "d"
     exact hN _ ⟨es', rfl, hg, hl⟩
    ·walk_at "d"
     refine ⟨n, b1, rfl, hn1, hn6, hb1, fun es' hg hl => ?_⟩
     walk_at "d"
     refine ⟨rfl, n, es', _, 11, 30, rfl, hn6, hb2, by decide, by decide, by decide, hg, by omega, fun es' hg hl => ?_⟩
     walk_at "d"
     exact hN _ ⟨es', rfl, hg, hl⟩
 ·rintro ρ ⟨es, rfl, hg, hl⟩
  walk_at "d"
  obtain ⟨as, e, hla, ha⟩ := sorted_arrs (lt := ltT (es.map fun p => p.1.map kV)) hg
  refine ⟨okTs_GA hg, by omega, ?_⟩
  rw [e]
  walk_at "d"
  exact q n as hn1 hn6 (by omega) ha
end
end K25
namespace K25
open PySem PySem.Spec PyProof.Rows L2 DL
section
variable {P : Program} {w : World} {K : W.Frag} {mg : Str -> Option Value} {base : Heap}
def ends (as : List Arr) (ps : List Int) (m : Str) : List Int := (as.filter fun p => decide (p.2.1 = m) && decide (p.1 ∈ ps)).map (·.2.2)
def nxt (as : List Arr) (ps : List Int) (m : Str) : List Int := setI (ends as ps m)
theorem ends_six {n : Nat} {as : List Arr} {ps : List Int} {m : Str} (hn : n <= 6) (h : ∀ p ∈ as, GArr n p) : Six (ends as ps m) := fun x hx => by
 unfold ends at hx
 obtain ⟨p, hp, rfl⟩ := List.mem_map.mp hx
 obtain ⟨_, _, h1, h2, _⟩ := h p (List.mem_filter.mp hp).1
 omega
theorem mk_ok {m : Str} (h : Mk m) : PyData.strOk m = true := by rcases h with rfl | rfl | rfl | rfl <;> decide +kernel
theorem eqv_s (a b : Str) : (PyData.str a).eqv (.str b) = decide (a = b) := by
 by_cases h : a = b <;> simp [PyData.eqv, h]
theorem trueD_snoc : ∀ (l : List Key) (es : List (Key × D)) (k : Key), trueD es (l ++ [k]) = putD (trueD es l) k (.bool true)
 | [], es, k => rfl
 | a :: l, es, k => by rw [List.cons_append, trueD, trueD_snoc l, trueD]
theorem putD_keys {es : List (Key × D)} {ns : List Int} {k : Int} {d : D} (h : es.map (·.1) = ns.map Sum.inl) (nd : ns.Nodup) : ∃ ms : List Int, (putD es (.inl k) d).map (·.1) = ms.map Sum.inl /\ ms.Nodup /\ ∀ x, x ∈ ms ↔ x ∈ ns ∨ x = k := by
 unfold putD
 split
 ·rename_i ha
  refine ⟨ns, ?_, nd, fun x => ⟨.inl, fun hx => hx.elim id fun e => ?_⟩⟩
  ·rw [List.map_map, ← h]
   refine List.map_congr_left fun p _ => ?_
   show (if p.1 = Sum.inl k then (p.1, d) else p).1 = p.1
   split <;> rfl
  ·obtain ⟨p, hp, hq⟩ := List.any_eq_true.mp ha
   have hq := of_decide_eq_true hq
   have : p.1 ∈ ns.map Sum.inl := h ▸ List.mem_map.mpr ⟨p, hp, rfl⟩
   obtain ⟨y, hy, e2⟩ := List.mem_map.mp this
   rw [hq] at e2
   cases e2
   subst e; exact hy
 ·rename_i ha
  refine ⟨ns ++ [k], by rw [List.map_append, List.map_append, h]; rfl, ?_, fun x => by rw [List.mem_append, List.mem_singleton]⟩
  rw [List.nodup_append]
  refine ⟨nd, by simp, fun x hx y hy e => ?_⟩
  rw [List.mem_singleton] at hy
  subst e hy
  have : (Sum.inl x : Key) ∈ es.map (·.1) := h ▸ List.mem_map.mpr ⟨x, hx, rfl⟩
  obtain ⟨p, hp, e⟩ := List.mem_map.mp this
  exact ha (List.any_eq_true.mpr ⟨p, hp, decide_eq_true e⟩)
theorem trueD_keys : ∀ (ks : List Int) {es : List (Key × D)} {ns : List Int}, es.map (·.1) = ns.map Sum.inl -> ns.Nodup -> ∃ ms : List Int, (trueD es (ks.map Sum.inl)).map (·.1) = ms.map Sum.inl /\ ms.Nodup /\ ∀ x, x ∈ ms ↔ x ∈ ns ∨ x ∈ ks
 | [], es, ns, h, nd => ⟨ns, h, nd, by simp⟩
 | k :: ks, es, ns, h, nd => by
  obtain ⟨ms, h1, h2, h3⟩ := putD_keys (k := k) (d := .bool true) h nd
  obtain ⟨m2, g1, g2, g3⟩ := trueD_keys ks h1 h2
  refine ⟨m2, g1, g2, fun x => ?_⟩
  rw [g3, h3, List.mem_cons, or_assoc]
theorem ends_len {as : List Arr} {ps : List Int} {m : Str} : (ends as ps m).length <= as.length := by unfold ends; rw [List.length_map]; exact List.length_filter_le _ _
theorem ends_take {as : List Arr} {ps : List Int} {m : Str} {j : Nat} {p : Arr} (h : as[j]? = some p) : ends (as.take (j + 1)) ps m = if (decide (p.2.1 = m) && decide (p.1 ∈ ps)) = true then ends (as.take j) ps m ++ [p.2.2] else ends (as.take j) ps m := by
 unfold ends
 obtain ⟨hj, e⟩ := List.getElem?_eq_some_iff.mp h
 rw [List.take_succ_eq_append_getElem hj, e, List.filter_append, List.map_append]
 split
 ·rename_i hc; rw [List.filter_cons_of_pos (by simpa using hc)]; rfl
 ·rename_i hc; rw [List.filter_cons_of_neg (by simpa using hc)]; simp
theorem look_places {ps : List Int} {a : Int} : (look (trueD [] (ps.map Sum.inl)) (.inl a)).isSome = decide (a ∈ ps) := by
 have := look_trueD (ps.map Sum.inl) [] (.inl a)
 have e : (Sum.inl a : Key) ∈ ps.map Sum.inl ↔ a ∈ ps := by
  rw [List.mem_map]
  exact ⟨fun ⟨b, hb, e⟩ => by cases e; exact hb, fun h => ⟨a, h, rfl⟩⟩
 rw [e] at this
 have h0 : (look ([] : List (Key × D)) (.inl a)).isSome = false := rfl
 rw [h0] at this
 by_cases h : a ∈ ps
 ·rw [decide_eq_true h]; exact this.mpr (.inl h)
 ·rw [decide_eq_false h]
  cases q : (look (trueD [] (ps.map Sum.inl)) (.inl a)).isSome with
  | false => rfl
  | true => rcases this.mp q with z | z; exact absurd z h; cases z
theorem in_ints {a : Int} {ps : List Int} : inD (.int a) (ps.map PyData.int) = decide (a ∈ ps) := by
 unfold inD
 rw [List.any_map, Bool.eq_iff_iff, List.any_eq_true, decide_eq_true_eq]
 constructor
 ·rintro ⟨x, hx, e⟩
  have e : x = a := by simpa [PyData.eqv] using e
  exact e ▸ hx
 ·intro h
  exact ⟨a, h, by simp [PyData.eqv]⟩
abbrev s_led : Stmt := top 4
theorem sc_led : FnScope ["arrows", "places", "mark", "held"] ["arrows", "places", "mark"] (defScope s_led) := ⟨rfl, rfl, rfl, by decide +kernel, rfl, by decide +kernel, by decide +kernel⟩
def sp_led : SpD := fun ds Q _ => ∃ (n : Nat) (as : List Arr) (ps : List Int) (m : Str), ds = [aD as, iD ps, .str m] /\ n <= 6 /\ (∀ p ∈ as, GArr n p) /\ as.length <= 30 /\ ps.length <= 6 /\ PyData.strOk m = true /\ Q (iD (nxt as ps m)) true
theorem ok_led {f : Addr} {fd : FuncData} (F : Fun K "led" "led" s_led f fd) (T : Blt mg) : FnOk P w K mg base CX0 1 f fd ["arrows", "places", "mark"] (SpL K sp_led) := by
 refine ok0 F sc_led (fun ds Q X h => ?_) (fun cdv A outer s H E hr => ?_) fun ds Qd Xd h => h
 ·obtain ⟨n, as, ps, m, rfl, _⟩ := h; rfl
 refine ⟨_, (dpss_cons (dpset 3 sc_led.nd (dpe_dc ["place"] [] rfl (by rfl) (LcScope.of (by kernel_rfl)) (dpi_list (by rfl) (dpv 1)) (fun _ _ _ => ⟨qpgn 0 (nd_of (by kernel_rfl)), qpv 0⟩)))
   (dpss_one (dps_ret (dpe_sortset (by rfl) (by rfl) (by rfl) (by exact T.sorted) (by decide +kernel) (by rfl) (by exact T.set) (by decide +kernel) (dpe_lc ["start", "sign", "end"] [("mark", 2), ("held", 3)] rfl (LcScope.of (by kernel_rfl)) (dpi_list (by rfl) (dpv 0)) (fun _ _ _ _ => ⟨(dpg_tup 3 (by rfl) (by rfl) (dpgs_cons (dpgn 0 (nd_of (by kernel_rfl))) (dpgs_cons (dpgn 1 (nd_of (by kernel_rfl))) (dpgs_cons (dpgn 2 (nd_of (by kernel_rfl))) dpgs_nil))) (by rfl) (by rfl)), (dpts_one (dPWpt (dpw_and (dpt_cmp (dop_eq (by rfl) (by exact hr.units)) (dpv 1) (dpv 3) (nomark _)) (dpw_and1 (dpt_din (by exact Nat.lt_of_le_of_lt (Nat.add_le_add_left (by decide) _) hr.units) (dky_of (dpv 0)) (dpv 4) (by rfl)))))), (dpb_emit (by rfl) (by rfl) (dpv 2))⟩)))))), fun ds Qd h => ?_⟩
 obtain ⟨n, as, ps, m, rfl, hn, ha, hl, hp, hm, q⟩ := h
 show (_ : TSD) _ [some (false, .list (as.map arr)), some (false, .list (ps.map PyData.int)), some (false, .str m), none] _
 walk_at "d"
 refine ⟨ps.map Sum.inl, by rw [List.map_map]; rfl, by rw [List.length_map]; omega, ?_⟩
 walk_at "d"
 refine lc_fltA (L := as) arr (fun p => .int p.2.2) (fun p => decide (p.2.1 = m) && decide (p.1 ∈ ps)) (fun p hp es Q' hl' q' => ?_) (by omega) ?_
 ·obtain ⟨a, s, c⟩ := p
  have hs := mk_ok (ha _ hp).2.2.2.2
  rw [show arr (a, s, c) = .tuple [.int a, .str s, .int c] from rfl]
  walk_at "d"
  refine ⟨⟨by simpa [PyData.canLay0] using hs, by simpa [PyData.canLay0] using hm, by simp [PyData.depth]⟩, ?_⟩
  rw [eqv_s]
  by_cases e1 : s = m
  ·rw [decide_eq_true e1]
   walk_at "d"
   rw [if_pos (show id true = true from rfl)]
   walk_at "d"
   rw [look_places]
   by_cases e2 : a ∈ ps
   ·rw [if_pos (by simpa using e2)]
    walk_at "d"
    rw [if_pos (by simp [e1, e2])] at q'
    exact q'
   ·rw [if_neg (by simpa using e2)]
    rw [if_neg (by simp [e2])] at q'
    exact q'
  ·rw [decide_eq_false e1]
   walk_at "d"
   rw [if_neg (by simp)]
   rw [if_neg (by simp [e1])] at q'
   exact q'
 ·refine ⟨ends as ps m, by unfold ends iD; rw [List.map_map]; rfl, ends_six hn ha, q⟩
abbrev s_l_behind : Stmt := top 16
theorem sc_l_behind : FnScope ["_law_reader_here", "_law_places", "_law_mark", "_law_found", "_law_here", "_law_sign", "_law_there"] ["_law_reader_here", "_law_places", "_law_mark"] (defScope s_l_behind) := ⟨rfl, rfl, rfl, by decide +kernel, rfl, by decide +kernel, by decide +kernel⟩
def sp_behind : SpD := fun ds Q _ => ∃ (n : Nat) (as : List Arr) (ps : List Int) (m : Str), ds = [.tuple [.int n, aD as], iD ps, .str m] /\ n <= 6 /\ (∀ p ∈ as, GArr n p) /\ as.length <= 30 /\ ps.length <= 6 /\ PyData.strOk m = true /\ Q (iD (nxt as ps m)) true
theorem ok_l_behind {f : Addr} {fd : FuncData} (F : Fun K "_law_behind" "_law_behind" s_l_behind f fd) (T : Blt mg) : FnOk P w K mg base CX0 1 f fd ["_law_reader_here", "_law_places", "_law_mark"] (SpL K sp_behind) := by
 refine ok0 F sc_l_behind (fun ds Q X h => ?_) (fun cdv A outer s H E hr => ?_) fun ds Qd Xd h => h
 ·obtain ⟨n, as, ps, m, rfl, _⟩ := h; rfl
 refine ⟨_, (dpss_cons (dpset 3 sc_l_behind.nd dpe_dnewK)
   (dpss_cons (dps_frz 0 (dps_for PassesOwn.never rfl (dpi_list (by rfl) (dpe_ix (dix (by rfl)) (dpv 0) dpe_int (fun _ _ => rfl))) (dpg_tup 3 (by rfl) (by rfl) (dpgs_cons (dpgn 4 sc_l_behind.nd) (dpgs_cons (dpgn 5 sc_l_behind.nd) (dpgs_cons (dpgn 6 sc_l_behind.nd) dpgs_nil))) (by rfl) (by rfl)) (dpss_one (dps_if (dPWpt (dpw_and (dpt_cmp (dop_eq (by rfl) (by exact hr.units)) (dpv 5) (dpv 2) (nomark _)) (dpw_and1 (dpt_cmp (dop_in (by rfl)) (dpv 4) (dpv 1) rfl)))) (dpss_one (dps_dput 3 (by exact Nat.lt_of_le_of_lt (Nat.add_le_add_left (by decide) _) hr.units) (qpv 3) (dky_of (dpv 6)) dpe_bl)) dpss_nil))))
   (dpss_one (dps_ret (dpe_callB (dcl_sortDI (by rfl)) (by rfl) (by exact T.sorted) (by decide +kernel) (dpa_cons (dpv 3) dpa_nil)))))), fun ds Qd h => ?_⟩
 obtain ⟨n, as, ps, m, rfl, hn, ha, hl, hp, hm, q⟩ := h
 show (_ : TSD) _ [some (false, .tuple [.int n, .list (as.map arr)]), some (false, .list (ps.map PyData.int)), some (false, .str m), none, none, none, none] _
 walk_at "d"
 refine ⟨.list (as.map arr), rfl, ?_⟩
 walk_at "d"
 refine lp_list (fun j ρ => ∃ (ks : List Int) (x y z : Option (Bool × D)), ρ = [some (false, .tuple [.int n, .list (as.map arr)]), some (false, iD ps), some (false, .str m), some (true, dKD (trueD [] (ks.map Sum.inl))), x, y, z] /\ ks = ends (as.take j) ps m) ⟨[], _, _, _, rfl, rfl⟩ ?_ ?_
 ·rintro j d ρ hd ⟨ks, x, y, z, rfl, hk⟩
  rw [List.getElem?_map] at hd
  obtain ⟨p, hp', rfl⟩ := Option.map_eq_some_iff.mp hd
  have hpm := List.mem_of_getElem? hp'
  rw [ends_take hp']
  obtain ⟨a, s, c⟩ := p
  have hs := mk_ok (ha _ hpm).2.2.2.2
  rw [show arr (a, s, c) = .tuple [.int a, .str s, .int c] from rfl]
  walk_at "d"
  refine ⟨⟨by simpa [PyData.canLay0] using hs, by simpa [PyData.canLay0] using hm, by simp [PyData.depth]⟩, ?_⟩
  rw [eqv_s]
  by_cases e1 : s = m
  ·rw [decide_eq_true e1]
   walk_at "d"
   rw [if_pos (show id true = true from rfl)]
   walk_at "d"
   have el : (ps.map PyData.int).all scalD = true := List.all_eq_true.mpr fun d hd => by obtain ⟨x, _, rfl⟩ := List.mem_map.mp hd; rfl
   refine w_in ⟨⟨rfl, el⟩, ?_⟩
   rw [in_ints]
   walk_at "d"
   by_cases e2 : a ∈ ps
   ·rw [if_pos (by simpa using e2)]
    walk_at "d"
    refine ⟨?_, ks ++ [c], _, _, _, by rw [List.map_append, List.map_cons, List.map_nil, trueD_snoc], by rw [if_pos (by simpa using e2), hk]⟩
    have := trueD_len (ks.map Sum.inl) []
    have := ends_len (as := as.take j) (ps := ps) (m := m)
    rw [List.length_map, List.length_nil] at *
    rw [List.length_take] at *
    rw [← hk] at *
    omega
   ·rw [if_neg (by simpa using e2)]
    walk_at "d"
    exact ⟨ks, _, _, _, rfl, by rw [if_neg (by simp [e2])]; exact hk⟩
  ·rw [decide_eq_false e1]
   walk_at "d"
   rw [if_neg (by simp)]
   walk_at "d"
   exact ⟨ks, _, _, _, rfl, by rw [if_neg (by simp [e1])]; exact hk⟩
 ·rintro ρ ⟨ks, x, y, z, rfl, hk⟩
  walk_at "d"
  rw [List.take_of_length_le (by rw [List.length_map]; exact Nat.le_refl _)] at hk
  subst hk
  obtain ⟨ms, m1, m2, m3⟩ := trueD_keys (ends as ps m) (es := []) (ns := []) rfl List.nodup_nil
  have h6 := ends_six (ps := ps) (m := m) hn ha
  have e : isort ms = nxt as ps m := by
   refine up_mem (isort_nodup_up m2) (setI_up _) fun x => ?_
   rw [isort_mem, m3]
   show _ ↔ x ∈ setI _
   rw [setI_mem h6]
   simp
  refine w_sortDI ⟨_, ms, rfl, m1, ?_, ?_⟩
  ·have := trueD_len ((ends as ps m).map Sum.inl) []
   have := ends_len (as := as) (ps := ps) (m := m)
   rw [List.length_map] at *
   simp at *
   omega
  ·rw [e]
   walk_at "d"
   exact q
end
end K25
namespace K25
open PySem PySem.Spec PyProof.Rows L2 DL M15
def nI (l : List Nat) : List Int := l.map fun (j : Nat) => (j : Int)
def Rl (rows : List (List Nat)) (i j : Nat) : Prop := ∃ r, rows[i]? = some r /\ j ∈ r
def inK (ks : List Nat) : List Key := ks.map fun (k : Nat) => Sum.inl (k : Int)
theorem look_key {es : List (Key × D)} {ks : List Nat} (h : es.map (·.1) = inK ks) (y : Nat) : (look es (.inl (y : Int))).isSome = decide (y ∈ ks) := by
 unfold look
 rw [Option.isSome_map, Bool.eq_iff_iff, List.find?_isSome, decide_eq_true_eq]
 constructor
 ·rintro ⟨p, hp, e⟩
  have : p.1 ∈ inK ks := h ▸ List.mem_map.mpr ⟨p, hp, rfl⟩
  obtain ⟨k, hk, e2⟩ := List.mem_map.mp this
  rw [of_decide_eq_true e] at e2
  have : (k : Int) = (y : Int) := Sum.inl.inj e2
  have : k = y := by omega
  exact this ▸ hk
 ·intro hy
  have : (Sum.inl (y : Int) : Key) ∈ es.map (·.1) := h ▸ List.mem_map.mpr ⟨y, hy, rfl⟩
  obtain ⟨p, hp, e⟩ := List.mem_map.mp this
  exact ⟨p, hp, decide_eq_true e⟩
theorem put_key {es : List (Key × D)} {ks : List Nat} {y : Nat} {d : D} (h : es.map (·.1) = inK ks) (hy : y ∉ ks) : (putD es (.inl (y : Int)) d).map (·.1) = inK (ks ++ [y]) := by
 unfold putD
 rw [if_neg, List.map_append, h]
 ·unfold inK; rw [List.map_append]; rfl
 ·intro z
  obtain ⟨p, hp, e⟩ := List.any_eq_true.mp z
  have : p.1 ∈ inK ks := h ▸ List.mem_map.mpr ⟨p, hp, rfl⟩
  obtain ⟨k, hk, e2⟩ := List.mem_map.mp this
  rw [of_decide_eq_true e] at e2
  have : (k : Int) = (y : Int) := Sum.inl.inj e2
  have : k = y := by omega
  exact hy (this ▸ hk)
theorem nd_snoc {ks : List Nat} {y : Nat} (h : ks.Nodup) (hy : y ∉ ks) : (ks ++ [y]).Nodup := by
 rw [List.nodup_append]
 exact ⟨h, by simp, fun a ha b hb e => hy (by rw [← List.mem_singleton.mp hb, ← e]; exact ha)⟩
section
variable {P : Program} {w : World} {K : W.Frag} {mg : Str -> Option Value} {base : Heap}
abbrev s_met_from : Stmt := top 1
theorem sc_met_from : FnScope ["nexts", "start", "ahead", "queue", "at", "place", "behind"] ["nexts", "start"] (defScope s_met_from) := ⟨rfl, rfl, rfl, by decide +kernel, rfl, by decide +kernel, by decide +kernel⟩
def sp_met : SpD := fun ds Q _ => ∃ (rows : List (List Nat)) (s : Nat), ds = [gD (rows.map nI), .int s] /\ rows.length <= 6 /\ s < rows.length /\ (∀ r ∈ rows, ∀ x ∈ r, x < rows.length) /\
 ∀ (es : List (Key × D)) (ks : List Nat), es.map (·.1) = inK ks -> ks.Nodup -> (∀ j, j ∈ ks ↔ TG (Rl rows) s j) -> Q (dKD es) true
theorem ok_met_from {f : Addr} {fd : FuncData} (F : Fun K "met_from" "met_from" s_met_from f fd) (T : Blt mg) : FnOk P w K mg base CX0 1 f fd ["nexts", "start"] (SpL K sp_met) := by
 refine ok0 F sc_met_from (fun ds Q X h => ?_) (fun cdv A outer s H E hr => ?_) fun ds Qd Xd h => h
 ·obtain ⟨rows, s, rfl, _⟩ := h; rfl
 refine ⟨_, (dpss_cons (dpset 2 sc_met_from.nd dpe_dnewK)
   (dpss_cons (dpset 3 sc_met_from.nd (dpe_lst (dpa_cons (dpv 1) dpa_nil)))
   (dpss_cons (dpset 4 sc_met_from.nd dpe_int)
   (dpss_cons (dps_while PassesOwn.never (dpt_cmp dop_lt (dpv 4) (dpe_callB (dcl_len (by rfl)) (by rfl) (by exact T.len) (by decide +kernel) (dpa_cons (dpv 3) dpa_nil)) (nomark _)) (dpss_cons (dpset 5 sc_met_from.nd (dpe_ix (dix (by rfl)) (dpv 3) (dpv 4) (fun _ _ => rfl)))
   (dpss_cons (dps_frz 0 (dps_for PassesOwn.never rfl (dpi_list (by rfl) (dpe_ix (dix (by rfl)) (dpv 0) (dpv 5) (fun _ _ => rfl))) (dpgn 6 sc_met_from.nd) (dpss_one (dps_if (dpt_dnotin (by exact Nat.lt_of_le_of_lt (Nat.add_le_add_left (by decide) _) hr.units) (dky_of (dpv 6)) (dpv 2) (by rfl)) (dpss_cons (dps_dput 2 (by exact Nat.lt_of_le_of_lt (Nat.add_le_add_left (by decide) _) hr.units) (qpv 2) (dky_of (dpv 6)) (dpv 5))
   (dpss_one (dps_append 3 (by rfl) (qpv 3) (dpv 6) (by rfl) (by rfl) (by rfl)))) dpss_nil))))
   (dpss_one (dps_augN 4 sc_met_from.nd dpe_int ip_add)))))
   (dpss_one (dps_ret (dpv 2))))))), fun ds Qd h => ?_⟩
 obtain ⟨rows, s, rfl, hn, hs, hx, q⟩ := h
 show (_ : TSD) _ [some (false, gD (rows.map nI)), some (false, .int s), none, none, none, none, none] _
 have lt : ∀ i j, Rl rows i j -> i < rows.length /\ j < rows.length := fun i j ⟨r, h1, h2⟩ => ⟨(List.getElem?_eq_some_iff.mp h1).1, hx r (List.mem_of_getElem? h1) j h2⟩
 walk_at "d"
 refine ⟨fun m ρ => ∃ (at_ : Nat) (ks : List Nat) (es : List (Key × D)) (x5 x6 : Option (Bool × D)), ρ = [some (false, gD (rows.map nI)), some (false, .int s), some (true, dKD es), some (true, iD (nI (s :: ks))), some (false, .int at_), x5, x6] /\ m = 7 - at_ /\ es.map (·.1) = inK ks /\ ks.Nodup /\ (∀ k ∈ ks, TG (Rl rows) s k) /\ at_ <= (s :: ks).length /\ (∀ (i x : Nat), i < at_ -> (s :: ks)[i]? = some x -> ∀ j, Rl rows x j -> j ∈ ks),
  ⟨_, 0, [], [], none, none, rfl, rfl, rfl, List.nodup_nil, by simp, Nat.zero_le _, fun i x h => absurd h (Nat.not_lt_zero _)⟩, ?_⟩
 rintro m ρ ⟨at_, ks, es, x5, x6, rfl, rfl, h2, h4, h5, h6, h7⟩
 have kn : ∀ k ∈ ks, k < rows.length := fun k hk => ((h5 k hk).last lt).2
 have kl := short h4 kn
 have hlq : (nI (s :: ks)).length = ks.length + 1 := by simp [nI]
 walk_at "d"
 refine ite2 (fun hlt => ?_) fun hge => ?_
 ·have hlt : at_ < (s :: ks).length := by simp [nI] at hlt; rw [List.length_cons]; omega
  obtain ⟨x, ex⟩ : ∃ x, (s :: ks)[at_]? = some x := ⟨(s :: ks)[at_], by simp [hlt]⟩
  have hxx : x = s ∨ TG (Rl rows) s x := by
   rcases List.mem_cons.mp (List.mem_of_getElem? ex) with e | e
   ·exact .inl e
   ·exact .inr (h5 x e)
  have hxn : x < rows.length := by
   rcases hxx with rfl | h
   ·exact hs
   ·exact (h.last lt).2
  obtain ⟨row, erow⟩ : ∃ row, rows[x]? = some row := ⟨rows[x], by simp [hxn]⟩
  walk_at "d"
  refine ⟨.int (x : Int), atI_nat (by rw [nI, List.map_map, List.getElem?_map, ex]; rfl), ?_⟩
  walk_at "d"
  refine ⟨iD (nI row), atI_nat (by rw [List.map_map, List.getElem?_map, erow]; rfl), ?_⟩
  walk_at "d"
  refine lp_list (fun j ρ => ∃ (more : List Nat) (es : List (Key × D)) (x6 : Option (Bool × D)), ρ = [some (false, gD (rows.map nI)), some (false, .int s), some (true, dKD es), some (true, iD (nI (s :: (ks ++ more)))), some (false, .int at_), some (false, .int x), x6] /\ es.map (·.1) = inK (ks ++ more) /\ (ks ++ more).Nodup /\ (∀ k ∈ ks ++ more, TG (Rl rows) s k) /\ (∀ (i y : Nat), i < j -> row[i]? = some y -> y ∈ ks ++ more)) ⟨[], es, _, by rw [List.append_nil], by rw [List.append_nil]; exact h2, by rw [List.append_nil]; exact h4, by rw [List.append_nil]; exact h5, fun i y h => absurd h (Nat.not_lt_zero _)⟩ ?_ ?_
  ·rintro j d ρ hd ⟨more, es, x6, rfl, k2, k4, k5, k6⟩
   obtain ⟨y, ey, rfl⟩ : ∃ y : Nat, row[j]? = some y /\ d = .int (y : Int) := by
    rw [nI, List.map_map, List.getElem?_map] at hd
    obtain ⟨y, e1, e2⟩ := Option.map_eq_some_iff.mp hd
    exact ⟨y, e1, e2.symm⟩
   have hR : Rl rows x y := ⟨row, erow, List.mem_of_getElem? ey⟩
   have hTG : TG (Rl rows) s y := by
    rcases hxx with rfl | h
    ·exact .one hR
    ·exact h.snoc hR
   have kn1 : ∀ k ∈ ks ++ more, k < rows.length := fun k hk => ((k5 k hk).last lt).2
   have kl1 := short k4 kn1
   have esl : es.length = (ks ++ more).length := by
    have := congrArg List.length k2
    unfold inK at this
    rw [List.length_map, List.length_map] at this; exact this
   walk_at "d"
   rw [look_key k2]
   by_cases hin : y ∈ ks ++ more
   ·rw [decide_eq_true hin]
    rw [if_neg (by simp)]
    walk_at "d"
    refine ⟨more, es, _, rfl, k2, k4, k5, fun i y' hi ey' => ?_⟩
    by_cases hij : i < j
    ·exact k6 i y' hij ey'
    ·have : i = j := by omega
     subst this
     rw [ey] at ey'; cases ey'
     exact hin
   ·rw [decide_eq_false hin]
    rw [if_pos (by simp)]
    walk_at "d"
    have pk := put_key (d := .int (x : Int)) k2 hin
    generalize putD es (.inl (y : Int)) (.int (x : Int)) = es' at pk
    refine ⟨_, rfl, by rw [List.length_map, nI, List.length_map, List.length_cons]; omega, ?_⟩
    walk_at "d"
    refine ⟨more ++ [y], es', _, by rw [← List.append_assoc, ← List.cons_append]; unfold nI iD; simp only [List.map_append, List.map_cons, List.map_nil, List.cons_append]; rfl, by rw [← List.append_assoc]; exact pk, by rw [← List.append_assoc]; exact nd_snoc k4 hin, ?_, ?_⟩
    ·rw [← List.append_assoc]
     intro k hk
     rcases List.mem_append.mp hk with z | z
     ·exact k5 k z
     ·rw [List.mem_singleton.mp z]; exact hTG
    ·intro i y' hi ey'
     rw [← List.append_assoc]
     by_cases hij : i < j
     ·exact List.mem_append_left _ (k6 i y' hij ey')
     ·have : i = j := by omega
      subst this
      rw [ey] at ey'; cases ey'
      exact List.mem_append_right _ (by simp)
  ·rintro ρ ⟨more, es, x6, rfl, k2, k4, k5, k6⟩
   walk_at "d"
   refine ⟨false, (at_ : Int), rfl, ?_⟩
   walk_at "d"
   have kn1 : ∀ k ∈ ks ++ more, k < rows.length := fun k hk => ((k5 k hk).last lt).2
   have kl1 := short k4 kn1
   have lr : ((nI row).map PyData.int).length = row.length := by simp [nI]
   rw [lr] at k6
   refine ⟨1, rfl, 7 - (at_ + 1), by rw [List.length_cons] at hlt; omega, at_ + 1, ks ++ more, es, _, _, rfl, rfl, k2, k4, k5, by rw [List.length_cons] at *; rw [List.length_append]; omega, ?_⟩
   intro i x' hi ex' j hj
   have hpre : (s :: (ks ++ more))[i]? = (s :: ks)[i]? := by
    rw [← List.cons_append, List.getElem?_append_left (by omega)]
   rw [hpre] at ex'
   by_cases hia : i < at_
   ·exact List.mem_append_left _ (h7 i x' hia ex' j hj)
   ·have : i = at_ := by omega
    subst this
    rw [ex] at ex'; cases ex'
    obtain ⟨r', e1, e2⟩ := hj
    rw [erow] at e1; cases e1
    obtain ⟨i', hi', ei'⟩ := List.mem_iff_getElem.mp e2
    exact k6 i' j hi' (by rw [← ei']; simp [hi'])
 ·have hat : at_ = (s :: ks).length := by
   simp [nI] at hge
   rw [List.length_cons] at *; omega
  walk_at "d"
  refine q es ks h2 h4 fun j => ⟨h5 j, fun h => ?_⟩
  refine h.closed (S := fun j => j ∈ ks) (fun j hj => h7 0 s (by rw [hat]; simp) rfl j hj) fun x j hx hj => ?_
  obtain ⟨i, hi, ei⟩ := List.mem_iff_getElem.mp hx
  exact h7 (i + 1) x (by rw [hat, List.length_cons]; omega) (by rw [List.getElem?_cons_succ, ← ei]; simp [hi]) j hj
abbrev s_all_meet_all : Stmt := top 2
theorem sc_all_meet_all : FnScope ["nexts"] ["nexts"] (defScope s_all_meet_all) := ⟨rfl, rfl, rfl, by decide +kernel, rfl, by decide +kernel, by decide +kernel⟩
open Classical in
noncomputable def allM (rows : List (List Nat)) (i : Nat) : Bool := decide (∀ j, j < rows.length -> TG (Rl rows) i j)
open Classical in
theorem allM_iff {rows : List (List Nat)} {i : Nat} : allM rows i = true ↔ ∀ j, j < rows.length -> TG (Rl rows) i j := by unfold allM; exact decide_eq_true_iff
def sp_meet : SpD := fun ds Q _ => ∃ (rows : List (List Nat)), ds = [gD (rows.map nI)] /\ rows.length <= 6 /\ (∀ r ∈ rows, ∀ x ∈ r, x < rows.length) /\ ∀ b : Bool, (b = true ↔ ∀ i j, i < rows.length -> j < rows.length -> TG (Rl rows) i j) -> Q (.bool b) true
theorem ok_all_meet_all {f : Addr} {fd : FuncData} (F : Fun K "all_meet_all" "all_meet_all" s_all_meet_all f fd) (T : Blt mg) (D_met_from : Df P w K mg base "met_from" ["nexts", "start"] 1 (SpL K sp_met)) : FnOk P w K mg base CX0 2 f fd ["nexts"] (SpL K sp_meet) := by
 refine ok0 F sc_all_meet_all (fun ds Q X h => ?_) (fun cdv A outer s H E hr => ?_) fun ds Qd Xd h => h
 ·obtain ⟨rows, rfl, _⟩ := h; rfl
 refine ⟨_, (dpss_one (dps_ret (dpe_callB (dcl_all (by rfl) (by rfl)) (by rfl) (by exact T.all) (by decide +kernel) (dpa_cons (dpe_lc ["place"] [("nexts", 0)] rfl (LcScope.of (by kernel_rfl)) (dpi_range1 (by rfl) (by exact T.range) (dpa_cons (dpe_callB (dcl_len (by rfl)) (by rfl) (by exact T.len) (by decide +kernel) (dpa_cons (dpv 0) dpa_nil)) dpa_nil)) (fun _ _ _ _ => ⟨(dpgn 0 (nd_of (by kernel_rfl))), dpts_nil, (dpb_emit (by rfl) (by rfl) (dpe_cmp (dop_eq (by rfl) (by exact hr.units)) (dpe_callB dcl_lenD (by rfl) (by exact T.len) (by decide +kernel) (dpa_cons (dpe_df (by exact D_met_from) (by exact hr.mono (by omega)) (dpa_cons (dpv 1) (dpa_cons (dpv 0) dpa_nil))) dpa_nil)) (dpe_callB (dcl_len (by rfl)) (by rfl) (by exact T.len) (by decide +kernel) (dpa_cons (dpv 1) dpa_nil)) (nomark _)))⟩)) dpa_nil)))), fun ds Qd h => ?_⟩
 obtain ⟨rows, rfl, hn, hx, q⟩ := h
 show (_ : TSD) _ [some (false, gD (rows.map nI))] _
 walk_at "d"
 have lm : (rows.map nI).length = rows.length := List.length_map _
 refine ⟨⟨by omega, by rw [lm]; omega⟩, ?_⟩
 rw [lm, Int.toNat_natCast]
 have lt : ∀ i j, Rl rows i j -> i < rows.length /\ j < rows.length := fun i j ⟨r, h1, h2⟩ => ⟨(List.getElem?_eq_some_iff.mp h1).1, hx r (List.mem_of_getElem? h1) j h2⟩
 refine lc_mapA (L := List.range rows.length) (fun x : Nat => .int (0 + (x : Int))) (fun i => .bool (allM rows i)) (fun i hi es Q' hl q' => ?_) (by rw [List.length_range]; omega) ?_
 ·have hi : i < rows.length := List.mem_range.mp hi
  walk_at "d"
  refine ⟨rows, i, by rw [Int.zero_add], hn, hi, hx, fun es' ks k1 k2 k3 => ?_⟩
  walk_at "d"
  have esl : es'.length = ks.length := by
   have := congrArg List.length k1
   unfold inK at this
   rw [List.length_map, List.length_map] at this; exact this
  have kn : ∀ k ∈ ks, k < rows.length := fun k hk => (((k3 k).mp hk).last lt).2
  have hf := full k2 kn
  have eb : id ((es'.length : Int) == ((rows.map nI).length : Int)) = allM rows i := by
   rw [Bool.eq_iff_iff]
   rw [id, beq_iff_eq, allM_iff, lm, esl]
   rw [show ((ks.length : Int) = (rows.length : Int)) ↔ ks.length = rows.length by omega, hf]
   exact ⟨fun h j hj => (k3 j).mp (h j hj), fun h j hj => (k3 j).mpr (h j hj)⟩
  rw [eb]
  exact q'
 ·walk_at "d"
  refine ⟨_, bools_map _ _, ?_⟩
  walk_at "d"
  refine q _ ?_
  rw [List.all_map, List.all_eq_true]
  simp only [List.mem_range, Function.comp, id, allM_iff]
  exact ⟨fun h i j hi hj => h i hi j hj, fun h i hi j hj => h i j hi hj⟩
end
end K25
namespace K25
open PySem PySem.Spec PyProof.Rows L2 DL M15
def bhd (as : List Arr) (i : Nat) : List Nat := (as.filter fun p => decide (p.1 = (i : Int))).map fun p => p.2.2.toNat
def nxs (as : List Arr) (n : Nat) : List (List Nat) := (List.range n).map (bhd as)
theorem nxs_len {as : List Arr} {n : Nat} : (nxs as n).length = n := by simp [nxs]
theorem nxs_at {as : List Arr} {n i : Nat} (h : i < n) : (nxs as n)[i]? = some (bhd as i) := by
 unfold nxs; rw [List.getElem?_map, List.getElem?_range h]; rfl
theorem bhd_take {as : List Arr} {j i : Nat} {p : Arr} (h : as[j]? = some p) : bhd (as.take (j + 1)) i = if p.1 = (i : Int) then bhd (as.take j) i ++ [p.2.2.toNat] else bhd (as.take j) i := by
 unfold bhd
 obtain ⟨hj, e⟩ := List.getElem?_eq_some_iff.mp h
 rw [List.take_succ_eq_append_getElem hj, e, List.filter_append, List.map_append]
 split
 ·rename_i hc; rw [List.filter_cons_of_pos (by simpa using hc)]; rfl
 ·rename_i hc; rw [List.filter_cons_of_neg (by simpa using hc)]; simp
theorem bhd_len {as : List Arr} {i : Nat} : (bhd as i).length <= as.length := by unfold bhd; rw [List.length_map]; exact List.length_filter_le _ _
def gN (rows : List (List Nat)) : List D := (rows.map nI).map iD
theorem gN_at {as : List Arr} {n i : Nat} (h : i < n) : (gN (nxs as n))[i]? = some (iD (nI (bhd as i))) := by
 unfold gN; rw [List.getElem?_map, List.getElem?_map, nxs_at h]; rfl
theorem gN_len {as : List Arr} {n : Nat} : (gN (nxs as n)).length = n := by simp [gN, nxs]
theorem gN_step {as : List Arr} {n j i : Nat} {p : Arr} (h : as[j]? = some p) (hi : p.1 = (i : Int)) (h2 : 0 <= p.2.2) (hin : i < n) : (gN (nxs (as.take j) n)).set i (iD (nI (bhd (as.take j) i) ++ [p.2.2])) = gN (nxs (as.take (j + 1)) n) := by
 apply List.ext_getElem?
 intro x
 by_cases hx : x < n
 ·rw [gN_at hx, bhd_take h, hi]
  by_cases e : i = x
  ·subst e
   rw [List.getElem?_set_self (by rw [gN_len]; exact hx), if_pos rfl]
   unfold nI
   rw [List.map_append, List.map_cons, List.map_nil, Int.toNat_of_nonneg h2]
  ·rw [List.getElem?_set_ne e, gN_at hx, if_neg (by omega)]
 ·rw [List.getElem?_eq_none (by rw [List.length_set, gN_len]; omega), List.getElem?_eq_none (by rw [gN_len]; omega)]
def Ra (as : List Arr) (n : Nat) : Nat -> Nat -> Prop := Rl (nxs as n)
theorem Ra_iff {as : List Arr} {n i j : Nat} (ha : ∀ p ∈ as, GArr n p) : Ra as n i j ↔ ∃ p ∈ as, p.1 = (i : Int) /\ p.2.2 = (j : Int) := by
 unfold Ra Rl
 constructor
 ·rintro ⟨r, h1, h2⟩
  have hi : i < n := by have := (List.getElem?_eq_some_iff.mp h1).1; rwa [nxs_len] at this
  rw [nxs_at hi] at h1
  cases h1
  obtain ⟨p, hp, rfl⟩ := List.mem_map.mp h2
  have hp := List.mem_filter.mp hp
  exact ⟨p, hp.1, of_decide_eq_true hp.2, (Int.toNat_of_nonneg (ha p hp.1).2.2.1).symm⟩
 ·rintro ⟨p, hp, h1, h2⟩
  have hg := ha p hp
  have hi : i < n := by have := hg.2.1; omega
  exact ⟨_, nxs_at hi, List.mem_map.mpr ⟨p, List.mem_filter.mpr ⟨hp, decide_eq_true h1⟩, by rw [h2]; rfl⟩⟩
theorem Ra_lt {as : List Arr} {n : Nat} (ha : ∀ p ∈ as, GArr n p) (i j : Nat) (h : Ra as n i j) : i < n /\ j < n := by
 obtain ⟨p, hp, h1, h2⟩ := (Ra_iff ha).mp h
 have := ha p hp
 exact ⟨by have := this.2.1; omega, by have := this.2.2.2.1; omega⟩
section
variable {P : Program} {w : World} {K : W.Frag} {mg : Str -> Option Value} {base : Heap}
theorem unp_rd {ρ : Ren} {i j : Nat} {n : Int} {xs : List D} : unpK ρ [i, j] [.int n, .list xs] .old = (ρ.set i (some (false, .int n))).set j (some (false, .list xs)) := rfl
abbrev s_together : Stmt := top 6
theorem sc_together : FnScope ["reader", "many", "arrows", "nexts", "start", "mark", "end"] ["reader"] (defScope s_together) := ⟨rfl, rfl, rfl, by decide +kernel, rfl, by decide +kernel, by decide +kernel⟩
def sp_together : SpD := fun ds Q _ => ∃ (n : Nat) (as : List Arr), ds = [.tuple [.int n, aD as]] /\ n <= 6 /\ (∀ p ∈ as, GArr n p) /\ as.length <= 30 /\ ∀ b : Bool, (b = true ↔ ∀ i j, i < n -> j < n -> TG (Ra as n) i j) -> Q (.bool b) true
theorem ok_together {f : Addr} {fd : FuncData} (F : Fun K "together" "together" s_together f fd) (T : Blt mg) (D_all_meet_all : Df P w K mg base "all_meet_all" ["nexts"] 2 (SpL K sp_meet)) : FnOk P w K mg base CX0 3 f fd ["reader"] (SpL K sp_together) := by
 refine ok0 F sc_together (fun ds Q X h => ?_) (fun cdv A outer s H E hr => ?_) fun ds Qd Xd h => h
 ·obtain ⟨n, as, rfl, _⟩ := h; rfl
 refine ⟨_, (dpss_cons (dps_unp [1, 2] 2 rfl (by rfl) (by rfl) (qpgs_cons (qpgn 1 sc_together.nd) (qpgs_cons (qpgn 2 sc_together.nd) qpgs_nil)) (by rfl) (by rfl) (dpv 0))
   (dpss_cons (dps_setlc (i := 3) (hN := sc_together.nd) (hyi := rfl) (hy := rfl) (hc := rfl) (own := ["place"]) (cap := []) (L := LcScope.of (by kernel_rfl)) (hi := (dpi_range1 (by rfl) (by exact T.range) (dpa_cons (dpv 1) dpa_nil))) (hin := (fun _ _ _ _ => ⟨(dpgn 0 (nd_of (by kernel_rfl))), dpts_nil, (dpb_emit (by rfl) (by rfl) (dpe_lst dpa_nil))⟩)))
   (dpss_cons (dps_frz 2 (dps_for PassesOwn.never rfl (dpi_list (by rfl) (dpv 2)) (dpg_tup 3 (by rfl) (by rfl) (dpgs_cons (dpgn 4 sc_together.nd) (dpgs_cons (dpgn 5 sc_together.nd) (dpgs_cons (dpgn 6 sc_together.nd) dpgs_nil))) (by rfl) (by rfl)) (dpss_one (dps_app2 3 (by rfl) (qpv 3) (dpv 4) (dpv 6) (fun _ _ => rfl) (by rfl) (by rfl) (by rfl)))))
   (dpss_one (dps_ret (dpe_df (by exact D_all_meet_all) (by exact hr.mono (by omega)) (dpa_cons (dpv 3) dpa_nil))))))), fun ds Qd h => ?_⟩
 obtain ⟨n, as, rfl, hn, ha, hl, q⟩ := h
 show (_ : TSD) _ [some (false, .tuple [.int n, .list (as.map arr)]), none, none, none, none, none, none] _
 walk_at "d"
 rw [unp_rd]
 walk_at "d"
 rw [Int.toNat_natCast]
 refine lc_mapA (L := List.range n) (fun x : Nat => .int (0 + (x : Int))) (fun _ => iD []) (fun i hi es Q' hl q' => ?_) (by rw [List.length_range]; omega) ?_
 ·walk_at "d"
  exact q'
 walk_at "d"
 have e0 : (List.range n).map (fun _ => iD []) = gN (nxs (as.take 0) n) := by
  unfold gN nxs
  rw [List.map_map, List.map_map]
  rfl
 rw [e0]
 refine lp_list (fun j ρ => ∃ (x y z : Option (Bool × D)), ρ = [some (false, .tuple [.int n, .list (as.map arr)]), some (false, .int n), some (false, .list (as.map arr)), some (true, .list (gN (nxs (as.take j) n))), x, y, z]) ⟨_, _, _, rfl⟩ ?_ ?_
 ·rintro j d ρ hd ⟨x, y, z, rfl⟩
  rw [List.getElem?_map] at hd
  obtain ⟨p, hp, rfl⟩ := Option.map_eq_some_iff.mp hd
  have hg := ha p (List.mem_of_getElem? hp)
  obtain ⟨a, m, c⟩ := p
  obtain ⟨h1, h2, h3, h4, h5⟩ := hg
  obtain ⟨i, rfl⟩ : ∃ i : Nat, a = (i : Int) := ⟨a.toNat, by simp only at h1; omega⟩
  have hi : i < n := by simp only at h2; omega
  rw [show arr ((i : Int), m, c) = .tuple [.int i, .str m, .int c] from rfl]
  walk_at "d"
  unfold dApp2
  refine ⟨_, rfl, ?_⟩
  walk_at "d"
  refine ⟨i, _, by rw [gN_len]; exact ixN_nat hi, gN_at hi, ?_, ?_⟩
  ·have := bhd_len (as := as.take j) (i := i)
   rw [List.length_take] at this
   rw [List.length_map, nI, List.length_map]
   omega
  walk_at "d"
  rw [show (gN (nxs (List.take j as) n)).set i (iD (nI (bhd (List.take j as) i) ++ [c])) = gN (nxs (as.take (j + 1)) n) from gN_step hp rfl h3 hi]
  exact ⟨_, _, _, rfl⟩
 ·rintro ρ ⟨x, y, z, rfl⟩
  rw [List.take_of_length_le (by rw [List.length_map]; exact Nat.le_refl _)]
  walk_at "d"
  refine ⟨nxs as n, rfl, by rw [nxs_len]; exact hn, fun r hr x hx => ?_, fun b hb => ?_⟩
  ·obtain ⟨i, hi, e⟩ := List.mem_iff_getElem.mp hr
   have := (Ra_lt ha i x ⟨r, by rw [← e]; exact List.getElem?_eq_getElem hi, hx⟩).2
   rwa [nxs_len]
  ·rw [nxs_len] at hb
   exact q b hb
def bR (n : Nat) (f : Nat -> Nat -> Bool) (i : Nat) : D := .list ((List.range n).map fun j => .bool (f i j))
def bG (n : Nat) (f : Nat -> Nat -> Bool) : List D := (List.range n).map (bR n f)
def setF (f : Nat -> Nat -> Bool) (i j : Nat) (b : Bool) : Nat -> Nat -> Bool := fun x y => if x = i /\ y = j then b else f x y
theorem bG_len {n : Nat} {f : Nat -> Nat -> Bool} : (bG n f).length = n := by simp [bG]
theorem bG_at {n i : Nat} {f : Nat -> Nat -> Bool} (h : i < n) : (bG n f)[i]? = some (bR n f i) := by unfold bG; rw [List.getElem?_map, List.getElem?_range h]; rfl
theorem bR_at {n i j : Nat} {f : Nat -> Nat -> Bool} (h : j < n) : ((List.range n).map fun j => PyData.bool (f i j))[j]? = some (.bool (f i j)) := by rw [List.getElem?_map, List.getElem?_range h]; rfl
theorem bG_set {n i j : Nat} {f : Nat -> Nat -> Bool} {b : Bool} (hi : i < n) (hj : j < n) : (bG n f).set i (.list (((List.range n).map fun j => PyData.bool (f i j)).set j (.bool b))) = bG n (setF f i j b) := by
 apply List.ext_getElem?
 intro x
 by_cases hx : x < n
 ·rw [bG_at hx]
  by_cases e : i = x
  ·subst e
   rw [List.getElem?_set_self (by rw [bG_len]; exact hx)]
   unfold bR
   congr 2
   apply List.ext_getElem?
   intro y
   by_cases hy : y < n
   ·rw [bR_at hy]
    by_cases e : j = y
    ·subst e
     rw [List.getElem?_set_self (by simpa using hy)]
     simp [setF]
    ·rw [List.getElem?_set_ne e, bR_at hy]
     have : ¬ y = j := fun z => e z.symm
     simp [setF, this]
   ·rw [List.getElem?_eq_none (by simp; omega), List.getElem?_eq_none (by simp; omega)]
  ·rw [List.getElem?_set_ne e, bG_at hx]
   have : ¬ x = i := fun z => e z.symm
   unfold bR
   simp [setF, this]
 ·rw [List.getElem?_eq_none (by rw [List.length_set, bG_len]; omega), List.getElem?_eq_none (by rw [bG_len]; omega)]
structure War (R : Nat -> Nat -> Prop) (n k : Nat) (Dn : Nat -> Nat -> Prop) (f : Nat -> Nat -> Bool) : Prop where
 snd : ∀ x y, x < n -> y < n -> f x y = true -> TG R x y
 cpl : ∀ x y, x < n -> y < n -> PL R k x y -> f x y = true
 more : ∀ x y, x < n -> y < n -> Dn x y -> PL R (k + 1) x y -> f x y = true
theorem War.mono {R : Nat -> Nat -> Prop} {n k : Nat} {Dn Dn' : Nat -> Nat -> Prop} {f : Nat -> Nat -> Bool} (W : War R n k Dn f) (h : ∀ x y, x < n -> y < n -> Dn' x y -> Dn x y) : War R n k Dn' f := ⟨W.snd, W.cpl, fun x y hx hy d => W.more x y hx hy (h x y hx hy d)⟩
theorem War.step {R : Nat -> Nat -> Prop} {n k i j : Nat} {Dn : Nat -> Nat -> Prop} {f : Nat -> Nat -> Bool} (W : War R n k Dn f) (hi : i < n) (hj : j < n) (hk : k < n) :
  War R n k (fun x y => Dn x y ∨ (x = i /\ y = j)) (setF f i j (f i j || (f i k && f k j))) := by
 have up : ∀ x y, f x y = true -> setF f i j (f i j || (f i k && f k j)) x y = true := fun x y h => by
  unfold setF
  split
  ·rename_i e; obtain ⟨rfl, rfl⟩ := e; rw [h]; rfl
  ·exact h
 refine ⟨fun x y hx hy h => ?_, fun x y hx hy h => up x y (W.cpl x y hx hy h), fun x y hx hy d h => ?_⟩
 ·unfold setF at h
  split at h
  ·rename_i e
   obtain ⟨rfl, rfl⟩ := e
   rw [Bool.or_eq_true, Bool.and_eq_true] at h
   rcases h with h | ⟨h1, h2⟩
   ·exact W.snd _ _ hx hy h
   ·exact (W.snd _ _ hx hk h1).trans (W.snd _ _ hk hy h2)
  ·exact W.snd x y hx hy h
 ·rcases d with d | ⟨rfl, rfl⟩
  ·exact up x y (W.more x y hx hy d h)
  ·unfold setF
   rw [if_pos ⟨rfl, rfl⟩, Bool.or_eq_true, Bool.and_eq_true]
   rcases h.up with h | ⟨h1, h2⟩
   ·exact .inl (W.cpl _ _ hx hy h)
   ·exact .inr ⟨W.cpl _ _ hx hk h1, W.cpl _ _ hk hy h2⟩
theorem War.next {R : Nat -> Nat -> Prop} {n k : Nat} {f : Nat -> Nat -> Bool} (W : War R n k (fun x _ => x < n) f) : War R n (k + 1) (fun _ _ => False) f := ⟨W.snd, fun x y hx hy h => W.more x y hx hy hx h, fun _ _ _ _ h => h.elim⟩
abbrev s_l_hanging : Stmt := top 17
theorem sc_l_hanging : FnScope ["_law_reader_here", "_law_many", "_law_lead", "_law_here", "_law_mark", "_law_there", "_law_k", "_law_i", "_law_j"] ["_law_reader_here"] (defScope s_l_hanging) := ⟨rfl, rfl, rfl, by decide +kernel, rfl, by decide +kernel, by decide +kernel⟩
theorem ok_l_hanging {f : Addr} {fd : FuncData} (F : Fun K "_law_hanging" "_law_hanging" s_l_hanging f fd) (T : Blt mg) : FnOk P w K mg base CX0 1 f fd ["_law_reader_here"] (SpL K sp_together) := by
 refine ok0 F sc_l_hanging (fun ds Q X h => ?_) (fun cdv A outer s H E hr => ?_) fun ds Qd Xd h => h
 ·obtain ⟨n, as, rfl, _⟩ := h; rfl
 refine ⟨_, (dpss_cons (dpset 1 sc_l_hanging.nd (dpe_ix (dix (by rfl)) (dpv 0) dpe_int (fun _ _ => rfl)))
   (dpss_cons (dps_setlc (i := 2) (hN := sc_l_hanging.nd) (hyi := rfl) (hy := rfl) (hc := rfl) (own := ["_law_i"]) (cap := [("_law_many", 1)]) (L := LcScope.of (by kernel_rfl)) (hi := (dpi_range1 (by rfl) (by exact T.range) (dpa_cons (dpv 1) dpa_nil))) (hin := (fun _ _ _ _ => ⟨(dpgn 0 (nd_of (by kernel_rfl))), dpts_nil, (dpb_emit (by rfl) (by rfl) (dpe_lc ["_law_j"] [] rfl (LcScope.of (by kernel_rfl)) (dpi_range1 (by rfl) (by exact T.range) (dpa_cons (dpv 1) dpa_nil)) (fun _ _ _ _ => ⟨(dpgn 0 (nd_of (by kernel_rfl))), dpts_nil, (dpb_emit (by rfl) (by rfl) dpe_bl)⟩)))⟩)))
   (dpss_cons (dps_frz 0 (dps_for PassesOwn.never rfl (dpi_list (by rfl) (dpe_ix (dix (by rfl)) (dpv 0) dpe_int (fun _ _ => rfl))) (dpg_tup 3 (by rfl) (by rfl) (dpgs_cons (dpgn 3 sc_l_hanging.nd) (dpgs_cons (dpgn 4 sc_l_hanging.nd) (dpgs_cons (dpgn 5 sc_l_hanging.nd) dpgs_nil))) (by rfl) (by rfl)) (dpss_one (dps_put2 2 (by rfl) (qpv 2) (dpv 3) (dpv 5) dpe_bl (fun _ _ => rfl)))))
   (dpss_cons (dps_for PassesOwn.never rfl (dpi_range1 (by rfl) (by exact T.range) (dpa_cons (dpv 1) dpa_nil)) (dpgn 6 sc_l_hanging.nd) (dpss_one (dps_for PassesOwn.never rfl (dpi_range1 (by rfl) (by exact T.range) (dpa_cons (dpv 1) dpa_nil)) (dpgn 7 sc_l_hanging.nd) (dpss_one (dps_for PassesOwn.never rfl (dpi_range1 (by rfl) (by exact T.range) (dpa_cons (dpv 1) dpa_nil)) (dpgn 8 sc_l_hanging.nd) (dpss_one (dps_put2 2 (by rfl) (qpv 2) (dpv 7) (dpv 8) (dpe_or (dpe_ix (dix (by rfl)) (dpe_ix (dix (by rfl)) (dpv 2) (dpv 7) (fun _ _ => rfl)) (dpv 8) (fun _ _ => rfl)) (dpe_one (dpe_and (dpe_ix (dix (by rfl)) (dpe_ix (dix (by rfl)) (dpv 2) (dpv 7) (fun _ _ => rfl)) (dpv 6) (fun _ _ => rfl)) (dpe_one (dpe_ix (dix (by rfl)) (dpe_ix (dix (by rfl)) (dpv 2) (dpv 6) (fun _ _ => rfl)) (dpv 8) (fun _ _ => rfl)))))) (fun _ _ => rfl))))))))
   (dpss_one (dps_ret (dpe_callB (dcl_all (by rfl) (by rfl)) (by rfl) (by exact T.all) (by decide +kernel) (dpa_cons (dpe_lc ["_law_row"] [] rfl (LcScope.of (by kernel_rfl)) (dpi_list (by rfl) (dpv 2)) (fun _ _ _ _ => ⟨(dpgn 0 (nd_of (by kernel_rfl))), dpts_nil, (dpb_emit (by rfl) (by rfl) (dpe_callB (dcl_all (by rfl) (by rfl)) (by rfl) (by exact T.all) (by decide +kernel) (dpa_cons (dpv 0) dpa_nil)))⟩)) dpa_nil)))))))), fun ds Qd h => ?_⟩
 obtain ⟨n, as, rfl, hn, ha, hl, q⟩ := h
 show (_ : TSD) _ [some (false, .tuple [.int n, .list (as.map arr)]), none, none, none, none, none, none, none, none] _
 walk_at "d"
 refine ⟨.int n, rfl, ?_⟩
 walk_at "d"
 rw [Int.toNat_natCast]
 refine lc_mapA (L := List.range n) (fun x : Nat => .int (0 + (x : Int))) (fun i => bR n (fun _ _ => false) i) (fun i hi es Q' hl q' => ?_) (by rw [List.length_range]; omega) ?_
 ·walk_at "d"
  rw [Int.toNat_natCast]
  refine lc_mapA (L := List.range n) (fun x : Nat => .int (0 + (x : Int))) (fun _ => .bool false) (fun i hi es Q' hl q' => ?_) (by rw [List.length_range]; omega) ?_
  ·walk_at "d"
   exact q'
  walk_at "d"
  exact q'
 walk_at "d"
 refine ⟨.list (as.map arr), rfl, ?_⟩
 walk_at "d"
 rw [show (List.range n).map (fun i => bR n (fun _ _ => false) i) = bG n (fun _ _ => false) from rfl]
 refine lp_list (fun j ρ => ∃ (f : Nat -> Nat -> Bool) (x y z : Option (Bool × D)), ρ = [some (false, .tuple [.int n, .list (as.map arr)]), some (false, .int n), some (true, .list (bG n f)), x, y, z, none, none, none] /\ ∀ u v, u < n -> v < n -> (f u v = true ↔ ∃ p ∈ as.take j, p.1 = (u : Int) /\ p.2.2 = (v : Int))) ⟨_, _, _, _, rfl, fun u v _ _ => ⟨fun h => (by cases h), fun ⟨p, hp, _⟩ => (by cases hp)⟩⟩ ?_ ?_
 ·rintro j d ρ hd ⟨f, x, y, z, rfl, hf⟩
  rw [List.getElem?_map] at hd
  obtain ⟨p, hp, rfl⟩ := Option.map_eq_some_iff.mp hd
  have hg := ha p (List.mem_of_getElem? hp)
  obtain ⟨hj, ej⟩ := List.getElem?_eq_some_iff.mp hp
  have htk : as.take (j + 1) = as.take j ++ [p] := by rw [List.take_succ_eq_append_getElem hj, ej]
  obtain ⟨a, m, c⟩ := p
  obtain ⟨h1, h2, h3, h4, h5⟩ := hg
  obtain ⟨i, rfl⟩ : ∃ i : Nat, a = (i : Int) := ⟨a.toNat, by simp only at h1; omega⟩
  obtain ⟨k, rfl⟩ : ∃ k : Nat, c = (k : Int) := ⟨c.toNat, by simp only at h3; omega⟩
  have hi : i < n := by simp only at h2; omega
  have hk : k < n := by simp only at h4; omega
  rw [show arr ((i : Int), m, (k : Int)) = .tuple [.int i, .str m, .int k] from rfl]
  walk_at "d"
  refine ⟨_, rfl, ?_⟩
  walk_at "d"
  refine ⟨_, i, _, rfl, by rw [bG_len]; exact ixN_nat hi, bG_at hi, ?_⟩
  walk_at "d"
  refine ⟨_, k, rfl, by rw [List.length_map, List.length_range]; exact ixN_nat hk, ?_⟩
  walk_at "d"
  rw [bG_set hi hk]
  refine ⟨_, _, _, _, rfl, fun u v hu hv => ?_⟩
  rw [htk]
  unfold setF
  constructor
  ·split
   ·rename_i e
    obtain ⟨rfl, rfl⟩ := e
    exact fun _ => ⟨_, List.mem_append_right _ (List.mem_singleton.mpr rfl), rfl, rfl⟩
   ·intro h
    obtain ⟨p, h1, h2⟩ := (hf u v hu hv).mp h
    exact ⟨p, List.mem_append_left _ h1, h2⟩
  ·rintro ⟨p, h1, h2, h3⟩
   split
   ·rfl
   ·rename_i e
    rcases List.mem_append.mp h1 with h1 | h1
    ·exact (hf u v hu hv).mpr ⟨p, h1, h2, h3⟩
    ·rw [List.mem_singleton.mp h1] at h2 h3
     simp only at h2 h3
     exact absurd ⟨by omega, by omega⟩ e
 ·rintro ρ ⟨f, x, y, z, rfl, hf⟩
  rw [List.take_of_length_le (by rw [List.length_map]; exact Nat.le_refl _)] at hf
  walk_at "d"
  rw [Int.toNat_natCast]
  refine lp_rng (fun k ρ => ∃ (f : Nat -> Nat -> Bool) (x y z u v t : Option (Bool × D)), ρ = [some (false, .tuple [.int n, .list (as.map arr)]), some (false, .int n), some (true, .list (bG n f)), x, y, z, u, v, t] /\ War (Ra as n) n k (fun _ _ => False) f) ⟨f, _, _, _, _, _, _, rfl, fun u v hu hv h => .one ((Ra_iff ha).mpr ((hf u v hu hv).mp h)), fun u v hu hv h => (hf u v hu hv).mpr ((Ra_iff ha).mp h.zero), fun _ _ _ _ h => h.elim⟩ ?_ ?_
  ·rintro k ρ hk ⟨f, x, y, z, u, v, t, rfl, W⟩
   walk_at "d"
   rw [Int.toNat_natCast]
   refine lp_rng (fun i ρ => ∃ (f : Nat -> Nat -> Bool) (x y z v t : Option (Bool × D)), ρ = [some (false, .tuple [.int n, .list (as.map arr)]), some (false, .int n), some (true, .list (bG n f)), x, y, z, some (false, .int (0 + (k : Int))), v, t] /\ War (Ra as n) n k (fun x _ => x < i) f) ⟨f, _, _, _, _, _, rfl, W.mono fun _ _ _ _ h => Nat.not_lt_zero _ h⟩ ?_ ?_
   ·rintro i ρ hi ⟨f, x, y, z, v, t, rfl, W⟩
    walk_at "d"
    rw [Int.toNat_natCast]
    refine lp_rng (fun j ρ => ∃ (f : Nat -> Nat -> Bool) (x y z t : Option (Bool × D)), ρ = [some (false, .tuple [.int n, .list (as.map arr)]), some (false, .int n), some (true, .list (bG n f)), x, y, z, some (false, .int (0 + (k : Int))), some (false, .int (0 + (i : Int))), t] /\ War (Ra as n) n k (fun x y => x < i ∨ (x = i /\ y < j)) f) ⟨f, _, _, _, _, rfl, W.mono fun _ _ _ _ h => h.resolve_right fun z => Nat.not_lt_zero _ z.2⟩ ?_ ?_
    ·rintro j ρ hj ⟨f, x, y, z, t, rfl, W⟩
     have W2 := (W.step hi hj hk).mono (Dn' := fun x y => x < i ∨ (x = i /\ y < j + 1)) fun x y _ _ h => by
      rcases h with h | ⟨rfl, h⟩
      ·exact .inl (.inl h)
      ·rcases Nat.lt_or_ge y j with h2 | h2
       ·exact .inl (.inr ⟨rfl, h2⟩)
       ·exact .inr ⟨rfl, by omega⟩
     have row : ∀ a, a < n -> atI (bG n f) (0 + (a : Int)) = some (.list ((List.range n).map fun j => .bool (f a j))) := fun a h => by rw [Int.zero_add]; exact atI_nat (bG_at h)
     have cel : ∀ a b, b < n -> atI ((List.range n).map fun j => PyData.bool (f a j)) (0 + (b : Int)) = some (.bool (f a b)) := fun a b h => by rw [Int.zero_add]; exact atI_nat (bR_at h)
     walk_at "d"
     refine ⟨_, row i hi, ?_⟩
     walk_at "d"
     refine ⟨_, cel i j hj, ?_⟩
     walk_at "d"
     cases c1 : f i j with
     | true =>
      rw [c1] at W2
      rw [if_pos rfl]
      walk_at "d"
      refine ⟨_, rfl, ?_⟩
      walk_at "d"
      refine ⟨_, i, _, rfl, by rw [bG_len, Int.zero_add]; exact ixN_nat hi, bG_at hi, ?_⟩
      walk_at "d"
      refine ⟨_, j, rfl, by rw [List.length_map, List.length_range, Int.zero_add]; exact ixN_nat hj, ?_⟩
      walk_at "d"
      rw [bG_set hi hj]
      exact ⟨_, _, _, _, _, rfl, W2⟩
     | false =>
      rw [c1] at W2
      rw [if_neg Bool.false_ne_true]
      walk_at "d"
      refine ⟨_, row i hi, ?_⟩
      walk_at "d"
      refine ⟨_, cel i k hk, ?_⟩
      walk_at "d"
      cases c2 : f i k with
      | true =>
       rw [c2] at W2
       rw [if_pos rfl]
       walk_at "d"
       refine ⟨_, row k hk, ?_⟩
       walk_at "d"
       refine ⟨_, cel k j hj, ?_⟩
       walk_at "d"
       refine ⟨_, rfl, ?_⟩
       walk_at "d"
       refine ⟨_, i, _, rfl, by rw [bG_len, Int.zero_add]; exact ixN_nat hi, bG_at hi, ?_⟩
       walk_at "d"
       refine ⟨_, j, rfl, by rw [List.length_map, List.length_range, Int.zero_add]; exact ixN_nat hj, ?_⟩
       walk_at "d"
       rw [bG_set hi hj]
       exact ⟨_, _, _, _, _, rfl, W2⟩
      | false =>
       rw [c2] at W2
       rw [if_neg Bool.false_ne_true]
       walk_at "d"
       refine ⟨_, rfl, ?_⟩
       walk_at "d"
       refine ⟨_, i, _, rfl, by rw [bG_len, Int.zero_add]; exact ixN_nat hi, bG_at hi, ?_⟩
       walk_at "d"
       refine ⟨_, j, rfl, by rw [List.length_map, List.length_range, Int.zero_add]; exact ixN_nat hj, ?_⟩
       walk_at "d"
       rw [bG_set hi hj]
       exact ⟨_, _, _, _, _, rfl, W2⟩
    ·rintro ρ ⟨f, x, y, z, t, rfl, W⟩
     walk_at "d"
     exact ⟨f, _, _, _, _, _, rfl, W.mono fun x y hx hy h => by rcases Nat.lt_or_ge x i with h2 | h2; exact .inl h2; exact .inr ⟨by omega, hy⟩⟩
   ·rintro ρ ⟨f, x, y, z, v, t, rfl, W⟩
    walk_at "d"
    exact ⟨f, _, _, _, _, _, _, rfl, W.next⟩
  ·rintro ρ ⟨f, x, y, z, u, v, t, rfl, W⟩
   walk_at "d"
   refine lc_mapA (L := List.range n) (bR n f) (fun i => .bool ((List.range n).all fun j => f i j)) (fun i hi es Q' hl q' => ?_) (by rw [List.length_range]; omega) ?_
   ·unfold bR
    walk_at "d"
    refine ⟨_, bools_map _ _, ?_⟩
    walk_at "d"
    rw [List.all_map]
    exact q'
   ·walk_at "d"
    refine ⟨_, bools_map _ _, ?_⟩
    walk_at "d"
    refine q _ ?_
    rw [List.all_map, List.all_eq_true]
    simp only [List.mem_range, Function.comp, id, List.all_eq_true]
    refine ⟨fun h i j hi hj => W.snd i j hi hj (h i hi j hj), fun h i hi j hj => W.cpl i j hi hj (PL.of (Ra_lt ha) (h i j hi hj))⟩
end
end K25
namespace K25
open PySem PySem.Spec PyProof.Rows L2 DL M15
def pq (p : Arr) : Int × Str := (p.1, p.2.1)
def kq (q : Int × Str) : List Key := [Sum.inl q.1, Sum.inr q.2]
def prD (p : Arr) : D := .tuple [.int p.1, .str p.2.1]
theorem kq_inj {p q : Int × Str} (h : kq p = kq q) : p = q := by
 unfold kq at h
 injection h with h1 h2
 injection h2 with h2 _
 exact Prod.ext (Sum.inl.inj h1) (Sum.inr.inj h2)
theorem kq_nodup {l : List (Int × Str)} : (l.map kq).Nodup ↔ l.Nodup := by
 unfold List.Nodup
 rw [List.pairwise_map]
 exact ⟨fun h => h.imp fun h e => h (congrArg kq e), fun h => h.imp fun h e => h (kq_inj e)⟩
theorem eqv_pr {p q : Arr} : (prD p).eqv (prD q) = decide (pq p = pq q) := by
 rw [Bool.eq_iff_iff, decide_eq_true_eq]
 simp [prD, pq, PyData.eqv, PyData.eqvAll]
theorem in_prs {p : Arr} {as : List Arr} : inD (prD p) (as.map prD) = decide (pq p ∈ as.map pq) := by
 unfold inD
 rw [List.any_map, Bool.eq_iff_iff, List.any_eq_true, decide_eq_true_eq, List.mem_map]
 constructor
 ·rintro ⟨x, hx, e⟩
  exact ⟨x, hx, by simpa [eqv_pr] using e⟩
 ·rintro ⟨x, hx, e⟩
  exact ⟨x, hx, by simp [eqv_pr, e]⟩
theorem lay_prs : ∀ {as : List Arr}, (∀ p ∈ as, PyData.strOk p.2.1 = true) -> PyData.canLayAll0 (as.map prD) = true
 | [], _ => rfl
 | p :: r, h => by
  have := lay_prs (as := r) fun x hx => h x (List.mem_cons_of_mem _ hx)
  rw [List.map_cons, PyData.canLayAll0, this]
  simp [prD, PyData.canLay0, PyData.canLayAll0, h p List.mem_cons_self]
theorem nodup_take {α : Type} [DecidableEq α] : ∀ (n : Nat) {l : List α}, n <= l.length -> (∀ k, (h : k < n) -> (h2 : k < l.length) -> l[k] ∉ l.take k) -> (l.take n).Nodup
 | 0, _, _, _ => by rw [List.take_zero]; exact List.nodup_nil
 | n + 1, l, hn, h => by
  have hl : n < l.length := hn
  rw [List.take_succ_eq_append_getElem hl, List.nodup_append]
  refine ⟨nodup_take n (Nat.le_of_lt hl) fun k hk => h k (Nat.lt_succ_of_lt hk), by simp, fun a ha b hb e => ?_⟩
  rw [List.mem_singleton.mp hb] at e
  exact h n (Nat.lt_succ_self n) hl (e ▸ ha)
theorem not_nodup {α : Type} {l : List α} {k : Nat} (h : k < l.length) (hm : l[k] ∈ l.take k) : ¬ l.Nodup := fun nd => by
 obtain ⟨i, hi, e⟩ := List.mem_iff_getElem.mp hm
 rw [List.length_take] at hi
 rw [List.getElem_take] at e
 have := (List.getElem_inj nd).mp e
 omega
section
variable {P : Program} {w : World} {K : W.Frag} {mg : Str -> Option Value} {base : Heap}
abbrev s_one_way : Stmt := top 7
theorem sc_one_way : FnScope ["reader", "many", "arrows"] ["reader"] (defScope s_one_way) := ⟨rfl, rfl, rfl, by decide +kernel, rfl, by decide +kernel, by decide +kernel⟩
def sp_one : SpD := fun ds Q _ => ∃ (n : Nat) (as : List Arr), ds = [.tuple [.int n, aD as]] /\ n <= 6 /\ (∀ p ∈ as, GArr n p) /\ as.length <= 30 /\ Q (.bool (decide (as.map pq).Nodup)) true
theorem ok_one_way {f : Addr} {fd : FuncData} (F : Fun K "one_way" "one_way" s_one_way f fd) (T : Blt mg) : FnOk P w K mg base CX0 1 f fd ["reader"] (SpL K sp_one) := by
 refine ok0 F sc_one_way (fun ds Q X h => ?_) (fun cdv A outer s H E hr => ?_) fun ds Qd Xd h => h
 ·obtain ⟨n, as, rfl, _⟩ := h; rfl
 refine ⟨_, (dpss_cons (dps_unp [1, 2] 2 rfl (by rfl) (by rfl) (qpgs_cons (qpgn 1 sc_one_way.nd) (qpgs_cons (qpgn 2 sc_one_way.nd) qpgs_nil)) (by rfl) (by rfl) (dpv 0))
   (dpss_one (dps_ret (dpe_cmp (dop_eq (by rfl) (by exact hr.units)) (dpe_lenset (by rfl) (by rfl) (by exact hr.units) (by rfl) (by exact T.len) (by decide +kernel) (by rfl) (by exact T.set) (by decide +kernel) (dpe_lc ["start", "mark", "end"] [] rfl (LcScope.of (by kernel_rfl)) (dpi_list (by rfl) (dpv 2)) (fun _ _ _ _ => ⟨(dpg_tup 3 (by rfl) (by rfl) (dpgs_cons (dpgn 0 (nd_of (by kernel_rfl))) (dpgs_cons (dpgn 1 (nd_of (by kernel_rfl))) (dpgs_cons (dpgn 2 (nd_of (by kernel_rfl))) dpgs_nil))) (by rfl) (by rfl)), dpts_nil, (dpb_emit (by rfl) (by rfl) (dpe_tup (dpa_cons (dpv 0) (dpa_cons (dpv 1) dpa_nil))))⟩))) (dpe_callB (dcl_len (by rfl)) (by rfl) (by exact T.len) (by decide +kernel) (dpa_cons (dpv 2) dpa_nil)) (nomark _))))), fun ds Qd h => ?_⟩
 obtain ⟨n, as, rfl, hn, ha, hl, q⟩ := h
 show (_ : TSD) _ [some (false, .tuple [.int n, .list (as.map arr)]), none, none] _
 walk_at "d"
 rw [unp_rd]
 walk_at "d"
 unfold dLS
 walk_at "d"
 refine lc_mapA (L := as) arr prD (fun p hp es Q' hl q' => ?_) (by omega) ?_
 ·obtain ⟨a, m, c⟩ := p
  rw [show arr (a, m, c) = .tuple [.int a, .str m, .int c] from rfl]
  walk_at "d"
  exact q'
 ·refine ⟨(as.map pq).map kq, by rw [List.map_map, List.map_map]; rfl, by rw [List.length_map, List.length_map]; omega, fun k hk => ?_⟩
  have hk := oneEach_nodup hk
  rw [List.length_map, List.length_map, kq_nodup] at hk
  walk_at "d"
  rw [List.length_map]
  have e : id ((k : Int) == (as.length : Int)) = decide (as.map pq).Nodup := by
   rw [Bool.eq_iff_iff, id, beq_iff_eq, decide_eq_true_eq, ← hk]
   omega
  rw [e]
  exact q
abbrev s_l_plain_way : Stmt := top 18
theorem sc_l_plain_way : FnScope ["_law_reader_here", "_law_pairs", "_law_k"] ["_law_reader_here"] (defScope s_l_plain_way) := ⟨rfl, rfl, rfl, by decide +kernel, rfl, by decide +kernel, by decide +kernel⟩
theorem ok_l_plain_way {f : Addr} {fd : FuncData} (F : Fun K "_law_plain_way" "_law_plain_way" s_l_plain_way f fd) (T : Blt mg) : FnOk P w K mg base CX0 1 f fd ["_law_reader_here"] (SpL K sp_one) := by
 refine ok0 F sc_l_plain_way (fun ds Q X h => ?_) (fun cdv A outer s H E hr => ?_) fun ds Qd Xd h => h
 ·obtain ⟨n, as, rfl, _⟩ := h; rfl
 refine ⟨_, (dpss_cons (dps_setlc (i := 1) (hN := sc_l_plain_way.nd) (hyi := rfl) (hy := rfl) (hc := rfl) (own := ["_law_here", "_law_mark", "_law_there"]) (cap := []) (L := LcScope.of (by kernel_rfl)) (hi := (dpi_list (by rfl) (dpe_ix (dix (by rfl)) (dpv 0) dpe_int (fun _ _ => rfl)))) (hin := (fun _ _ _ _ => ⟨(dpg_tup 3 (by rfl) (by rfl) (dpgs_cons (dpgn 0 (nd_of (by kernel_rfl))) (dpgs_cons (dpgn 1 (nd_of (by kernel_rfl))) (dpgs_cons (dpgn 2 (nd_of (by kernel_rfl))) dpgs_nil))) (by rfl) (by rfl)), dpts_nil, (dpb_emit (by rfl) (by rfl) (dpe_tup (dpa_cons (dpv 0) (dpa_cons (dpv 1) dpa_nil))))⟩)))
   (dpss_cons (dps_for PassesOwn.never rfl (dpi_range1 (by rfl) (by exact T.range) (dpa_cons (dpe_callB (dcl_len (by rfl)) (by rfl) (by exact T.len) (by decide +kernel) (dpa_cons (dpv 1) dpa_nil)) dpa_nil)) (dpgn 2 sc_l_plain_way.nd) (dpss_one (dps_if (dpt_cmp (dop_inD (by rfl) (by exact hr.units)) (dpe_ix (dix (by rfl)) (dpv 1) (dpv 2) (fun _ _ => rfl)) (dpe_slice (by rfl) (dpv 1) dpo_none (dpo_some (dpv 2))) rfl) (dpss_one (dps_ret dpe_bl)) dpss_nil)))
   (dpss_one (dps_ret dpe_bl)))), fun ds Qd h => ?_⟩
 obtain ⟨n, as, rfl, hn, ha, hl, q⟩ := h
 show (_ : TSD) _ [some (false, .tuple [.int n, .list (as.map arr)]), none, none] _
 walk_at "d"
 refine ⟨.list (as.map arr), rfl, ?_⟩
 walk_at "d"
 refine lc_mapA (L := as) arr prD (fun p hp es Q' hl q' => ?_) (by omega) ?_
 ·obtain ⟨a, m, c⟩ := p
  rw [show arr (a, m, c) = .tuple [.int a, .str m, .int c] from rfl]
  walk_at "d"
  exact q'
 walk_at "d"
 have lm : (as.map prD).length = as.length := List.length_map _
 have lq : (as.map pq).length = as.length := List.length_map _
 refine ⟨⟨by omega, by rw [lm]; omega⟩, trivial, ?_⟩
 rw [lm, Int.toNat_natCast]
 refine lp_rng (fun k ρ => ∃ (x : Option (Bool × D)), ρ = [some (false, .tuple [.int n, .list (as.map arr)]), some (true, .list (as.map prD)), x] /\ ∀ i, i < k -> (h2 : i < (as.map pq).length) -> (as.map pq)[i] ∉ (as.map pq).take i) ⟨_, rfl, fun i h => absurd h (Nat.not_lt_zero _)⟩ ?_ ?_
 ·rintro k ρ hk ⟨x, rfl, hx⟩
  have hkq : k < (as.map pq).length := by rw [lq]; exact hk
  walk_at "d"
  refine ⟨prD as[k], by rw [Int.zero_add]; exact atI_nat (by rw [List.getElem?_map, List.getElem?_eq_getElem hk]; rfl), ?_⟩
  walk_at "d"
  rw [cut_to (j := k) (by rw [Int.zero_add]), ← List.map_take, in_prs]
  have hok : ∀ p ∈ as, PyData.strOk p.2.1 = true := fun p hp => mk_ok (ha p hp).2.2.2.2
  refine ⟨⟨by simp [prD, PyData.canLay0, PyData.canLayAll0, hok as[k] (List.getElem_mem hk)], by simp [prD, PyData.depth, PyData.depthAll], lay_prs fun p hp => hok p (List.mem_of_mem_take hp)⟩, ?_⟩
  have e1 : pq as[k] = (as.map pq)[k] := by simp
  rw [List.map_take, e1]
  by_cases c : (as.map pq)[k] ∈ (as.map pq).take k
  ·rw [decide_eq_true c]
   walk_at "d"
   rw [decide_eq_false (not_nodup hkq c)] at q
   exact q
  ·rw [decide_eq_false c]
   walk_at "d"
   refine ⟨_, rfl, fun i hi h2 => ?_⟩
   rcases Nat.lt_or_ge i k with h | h
   ·exact hx i h h2
   ·have : i = k := by omega
    subst this
    exact c
 ·rintro ρ ⟨x, rfl, hx⟩
  walk_at "d"
  have := nodup_take as.length (l := as.map pq) (by rw [lq]; exact Nat.le_refl _) fun i h h2 => hx i h h2
  rw [List.take_of_length_le (by rw [lq]; exact Nat.le_refl _)] at this
  rw [decide_eq_true this] at q
  exact q
end
end K25
namespace K25
open PySem PySem.Spec PyProof.Rows L2 DL M15
def rangeI (n : Nat) : List Int := (List.range n).map fun (i : Nat) => (i : Int)
def rdp (as : List Arr) (n : Nat) (cs : List Nat) : List Int := cs.foldl (fun ps c => nxt as ps ⟨#[c]⟩) (rangeI n)
def rd (as : List Arr) (n : Nat) (z : Str) : Bool := decide (rdp as n z.cps.toList ≠ [])
theorem rdp_take {as : List Arr} {n j c : Nat} {cs : List Nat} (h : cs[j]? = some c) : rdp as n (cs.take (j + 1)) = nxt as (rdp as n (cs.take j)) ⟨#[c]⟩ := by
 obtain ⟨hj, e⟩ := List.getElem?_eq_some_iff.mp h
 unfold rdp
 rw [List.take_succ_eq_append_getElem hj, List.foldl_append, e]
 rfl
theorem fold_len {as : List Arr} : ∀ (cs : List Nat) (ps : List Int), ps.length <= 6 -> (cs.foldl (fun ps c => nxt as ps ⟨#[c]⟩) ps).length <= 6
 | [], _, h => h
 | c :: r, ps, _ => fold_len r _ (setI_len _)
theorem rdp_len {as : List Arr} {n : Nat} (h : n <= 6) (cs : List Nat) : (rdp as n cs).length <= 6 := fold_len cs _ (by unfold rangeI; rw [List.length_map, List.length_range]; exact h)
def Asc (b : Str) : Prop := ∀ c ∈ b.cps.toList, c < 128
theorem asc_one {z : Str} {c : Nat} (h : Asc z) (hc : c ∈ z.cps.toList) : PyData.strOk ⟨#[c]⟩ = true := by
 have := h c hc
 unfold PyData.strOk
 simp; omega
theorem cps_app (a b : Str) : (a ++ b).cps.toList = a.cps.toList ++ b.cps.toList := by
 show (a.cps ++ b.cps).toList = _
 simp
theorem len_app (a b : Str) : (a ++ b).length = a.length + b.length := by
 show (a.cps ++ b.cps).size = _
 rw [Array.size_append]; rfl
theorem asc_app {a b : Str} (h : Asc a) (h' : Asc b) : Asc (a ++ b) := fun c hc => by
 rw [cps_app] at hc
 rcases List.mem_append.mp hc with hc | hc
 ·exact h c hc
 ·exact h' c hc
theorem slice_mem {x : Str} {l u : Option Int} {c : Nat} (h : c ∈ (Txt.slice x l u).cps.toList) : c ∈ x.cps.toList := by
 unfold Txt.slice at h
 split at h
 ·exact h
 ·simp only [List.mem_filterMap] at h
  obtain ⟨i, _, e⟩ := h
  obtain ⟨hi, rfl⟩ := Array.getElem?_eq_some_iff.mp e
  simp
theorem asc_slice {x : Str} {l u : Option Int} (h : Asc x) : Asc (Txt.slice x l u) := fun c hc => h c (slice_mem hc)
theorem asc_mk {m : Str} (h : Mk m) : Asc m /\ m.length = 1 := by
 rcases h with rfl | rfl | rfl | rfl <;> exact ⟨by unfold Asc; decide, rfl⟩
theorem eqv_nil {xs : List D} : (PyData.list xs).eqv (.list []) = xs.isEmpty := by
 cases xs <;> simp [PyData.eqv, PyData.eqvAll]
theorem lay_ints (b : List Int) : (PyData.list (b.map PyData.int)).canLay0 = true := by
 have : PyData.canLayAll0 (b.map PyData.int) = true := by
  induction b with
  | nil => rfl
  | cons x r ih => rw [List.map_cons, PyData.canLayAll0, ih]; rfl
 simpa [PyData.canLay0] using this
theorem lay_arrs : ∀ {as : List Arr}, (∀ p ∈ as, PyData.strOk p.2.1 = true) -> PyData.canLayAll0 (as.map arr) = true
 | [], _ => rfl
 | p :: as, h => by
  rw [List.map_cons]
  simp only [PyData.canLayAll0, Bool.and_eq_true]
  refine ⟨?_, lay_arrs fun q hq => h q (List.mem_cons_of_mem _ hq)⟩
  have := h p List.mem_cons_self
  simp [arr, PyData.canLay0, PyData.canLayAll0, this]
theorem depth_arrs : ∀ as : List Arr, PyData.depthAll (as.map arr) <= 2
 | [] => by simp [PyData.depthAll]
 | p :: as => by
  have := depth_arrs as
  rw [List.map_cons]
  simp [PyData.depthAll, arr, PyData.depth]
  omega
section
variable {P : Program} {w : World} {K : W.Frag} {mg : Str -> Option Value} {base : Heap}
theorem rng_eq (n : Nat) : PyData.list (List.map (fun (i : Nat) => PyData.int (i : Int)) (List.range n)) = iD (rangeI n) := by unfold iD rangeI; rw [List.map_map]; rfl
theorem sign_at {z : Str} {j : Nat} {d : D} (h : (DL.signs z)[j]? = some d) : ∃ c, z.cps.toList[j]? = some c /\ d = .str ⟨#[c]⟩ := by
 unfold DL.signs at h
 rw [List.getElem?_map] at h
 obtain ⟨c, h1, h2⟩ := Option.map_eq_some_iff.mp h
 exact ⟨c, h1, h2.symm⟩
abbrev s_reads : Stmt := top 5
theorem sc_reads : FnScope ["reader", "word", "many", "arrows", "places", "sign"] ["reader", "word"] (defScope s_reads) := ⟨rfl, rfl, rfl, by decide +kernel, rfl, by decide +kernel, by decide +kernel⟩
def sp_reads : SpD := fun ds Q _ => ∃ (n : Nat) (as : List Arr) (z : Str), ds = [.tuple [.int n, aD as], .str z] /\ n <= 6 /\ (∀ p ∈ as, GArr n p) /\ as.length <= 30 /\ Asc z /\ z.length <= 1000 /\ Q (.bool (rd as n z)) true
theorem ok_reads {f : Addr} {fd : FuncData} (F : Fun K "reads" "reads" s_reads f fd) (T : Blt mg) (D_led : Df P w K mg base "led" ["arrows", "places", "mark"] 1 (SpL K sp_led)) : FnOk P w K mg base CX0 2 f fd ["reader", "word"] (SpL K sp_reads) := by
 refine ok0 F sc_reads (fun ds Q X h => ?_) (fun cdv A outer s H E hr => ?_) fun ds Qd Xd h => h
 ·obtain ⟨n, as, z, rfl, _⟩ := h; rfl
 refine ⟨_, (dpss_cons (dps_unp [2, 3] 2 rfl (by rfl) (by rfl) (qpgs_cons (qpgn 2 sc_reads.nd) (qpgs_cons (qpgn 3 sc_reads.nd) qpgs_nil)) (by rfl) (by rfl) (dpv 0))
   (dpss_cons (dpset 4 sc_reads.nd (dpe_listrange (by rfl) (by rfl) (by exact T.list) (by rfl) (by exact T.range) (dpa_cons (dpv 2) dpa_nil)))
   (dpss_cons (dps_frz 1 (dps_for PassesOwn.never rfl (dpi_str (dpv 1)) (dpgn 5 sc_reads.nd) (dpss_one (dpset 4 sc_reads.nd (dpe_df (by exact D_led) (by exact hr.mono (by omega)) (dpa_cons (dpv 3) (dpa_cons (dpv 4) (dpa_cons (dpv 5) dpa_nil))))))))
   (dpss_one (dps_ret (dpe_cmp dop_gt (dpe_callB (dcl_len (by rfl)) (by rfl) (by exact T.len) (by decide +kernel) (dpa_cons (dpv 4) dpa_nil)) dpe_int (nomark _))))))), fun ds Qd h => ?_⟩
 obtain ⟨n, as, z, rfl, hn, ha, hl, hz, hzl, q⟩ := h
 show (_ : TSD) _ [some (false, .tuple [.int n, .list (as.map arr)]), some (false, .str z), none, none, none, none] _
 walk_at "d"
 rw [unp_rd]
 walk_at "d"
 refine ⟨n, rfl, by omega, ?_⟩
 rw [rng_eq]
 walk_at "d"
 refine lp_list (fun j ρ => ∃ (x : Option (Bool × D)), ρ = [some (false, .tuple [.int n, .list (as.map arr)]), some (false, .str z), some (false, .int n), some (false, .list (as.map arr)), some (true, iD (rdp as n (z.cps.toList.take j))), x]) ⟨_, rfl⟩ ?_ ?_
 ·rintro j d ρ hd ⟨x, rfl⟩
  obtain ⟨c, hc, rfl⟩ := sign_at hd
  walk_at "d"
  refine ⟨n, as, rdp as n (z.cps.toList.take j), ⟨#[c]⟩, rfl, hn, ha, hl, rdp_len hn _, asc_one hz (List.mem_of_getElem? hc), ?_⟩
  rw [← rdp_take hc]
  walk_at "d"
  exact ⟨_, rfl⟩
 ·rintro ρ ⟨x, rfl⟩
  rw [List.take_of_length_le (by unfold DL.signs; rw [List.length_map]; exact Nat.le_refl _)]
  walk_at "d"
  have e : decide ((0 : Int) < ((rdp as n z.cps.toList).length : Int)) = rd as n z := by
   unfold rd
   cases rdp as n z.cps.toList with
   | nil => rfl
   | cons a r => rw [Bool.eq_iff_iff]; simp
  rw [e]
  exact q
abbrev s_l_is_read : Stmt := top 19
theorem sc_l_is_read : FnScope ["_law_reader_here", "_law_word", "_law_places", "_law_mark"] ["_law_reader_here", "_law_word"] (defScope s_l_is_read) := ⟨rfl, rfl, rfl, by decide +kernel, rfl, by decide +kernel, by decide +kernel⟩
theorem ok_l_is_read {f : Addr} {fd : FuncData} (F : Fun K "_law_is_read" "_law_is_read" s_l_is_read f fd) (T : Blt mg) (D_l_behind : Df P w K mg base "_law_behind" ["_law_reader_here", "_law_places", "_law_mark"] 1 (SpL K sp_behind)) : FnOk P w K mg base CX0 2 f fd ["_law_reader_here", "_law_word"] (SpL K sp_reads) := by
 refine ok0 F sc_l_is_read (fun ds Q X h => ?_) (fun cdv A outer s H E hr => ?_) fun ds Qd Xd h => h
 ·obtain ⟨n, as, z, rfl, _⟩ := h; rfl
 refine ⟨_, (dpss_cons (dpset 2 sc_l_is_read.nd (dpe_listrange (by rfl) (by rfl) (by exact T.list) (by rfl) (by exact T.range) (dpa_cons (dpe_ix (dix (by rfl)) (dpv 0) dpe_int (fun _ _ => rfl)) dpa_nil)))
   (dpss_cons (dps_frz 1 (dps_for PassesOwn.never rfl (dpi_str (dpv 1)) (dpgn 3 sc_l_is_read.nd) (dpss_one (dpset 2 sc_l_is_read.nd (dpe_df (by exact D_l_behind) (by exact hr.mono (by omega)) (dpa_cons (dpv 0) (dpa_cons (dpv 2) (dpa_cons (dpv 3) dpa_nil))))))))
   (dpss_one (dps_ret (dpe_cmp (dop_ne (by rfl) (by exact hr.units)) (dpv 2) (dpe_lst dpa_nil) (nomark _)))))), fun ds Qd h => ?_⟩
 obtain ⟨n, as, z, rfl, hn, ha, hl, hz, hzl, q⟩ := h
 show (_ : TSD) _ [some (false, .tuple [.int n, .list (as.map arr)]), some (false, .str z), none, none] _
 walk_at "d"
 refine ⟨.int n, rfl, ?_⟩
 walk_at "d"
 refine ⟨n, rfl, by omega, ?_⟩
 rw [rng_eq]
 walk_at "d"
 refine lp_list (fun j ρ => ∃ (x : Option (Bool × D)), ρ = [some (false, .tuple [.int n, .list (as.map arr)]), some (false, .str z), some (true, iD (rdp as n (z.cps.toList.take j))), x]) ⟨_, rfl⟩ ?_ ?_
 ·rintro j d ρ hd ⟨x, rfl⟩
  obtain ⟨c, hc, rfl⟩ := sign_at hd
  walk_at "d"
  refine ⟨n, as, rdp as n (z.cps.toList.take j), ⟨#[c]⟩, rfl, hn, ha, hl, rdp_len hn _, asc_one hz (List.mem_of_getElem? hc), ?_⟩
  rw [← rdp_take hc]
  walk_at "d"
  exact ⟨_, rfl⟩
 ·rintro ρ ⟨x, rfl⟩
  rw [List.take_of_length_le (by unfold DL.signs; rw [List.length_map]; exact Nat.le_refl _)]
  walk_at "d"
  refine ⟨⟨lay_iD _, rfl, depth_iD _⟩, ?_⟩
  have e : (!PyData.eqv (iD (rdp as n z.cps.toList)) (PyData.list [])) = rd as n z := by
   unfold rd iD
   rw [eqv_nil]
   cases rdp as n z.cps.toList <;> simp
  rw [e]
  exact q
theorem abcd_at {b : Int} : ∃ c, c < 128 /\ atI (Str.ofString "abcd").cps.toList (b % 4) = some c := by
 rw [show (Str.ofString "abcd").cps.toList = [97, 98, 99, 100] by decide +kernel]
 have h : b % 4 = 0 ∨ b % 4 = 1 ∨ b % 4 = 2 ∨ b % 4 = 3 := by omega
 rcases h with h | h | h | h <;> rw [h]
 ·exact ⟨97, by decide, rfl⟩
 ·exact ⟨98, by decide, rfl⟩
 ·exact ⟨99, by decide, rfl⟩
 ·exact ⟨100, by decide, rfl⟩
theorem cat_at {α : Type} {l : List α} {z : Int} (h : 0 <= z) (h' : z < l.length) : ∃ c, c ∈ l /\ atI l z = some c := by
 obtain ⟨j, rfl⟩ : ∃ j : Nat, z = j := ⟨z.toNat, by omega⟩
 have hj : j < l.length := by omega
 exact ⟨l[j], List.getElem_mem hj, atI_nat (List.getElem?_eq_getElem hj)⟩
theorem atI_map2 {α β : Type} {f : α -> β} {x : List α} {i : Int} {a : α} (h : atI x i = some a) : atI (x.map f) i = some (f a) := by
 unfold atI at *
 rw [List.length_map]
 obtain ⟨j, h1, h2⟩ := Option.bind_eq_some_iff.mp h
 rw [h1, Option.bind_some, List.getElem?_map, h2]
 rfl
abbrev s_l_gone : Stmt := top 20
theorem sc_l_gone : FnScope ["_law_reader_here", "_law_big_here", "_law_here", "_law_word", "_law_k", "_law_arrows", "_law_arrow"] ["_law_reader_here", "_law_big_here"] (defScope s_l_gone) := ⟨rfl, rfl, rfl, by decide +kernel, rfl, by decide +kernel, by decide +kernel⟩
def sp_gone : SpD := fun ds Q _ => ∃ (n : Nat) (as : List Arr) (b : Int), ds = [.tuple [.int n, aD as], .int b] /\ 1 <= n /\ n <= 6 /\ (∀ p ∈ as, GArr n p) /\ as.length <= 30 /\ 0 <= b /\ ∀ z : Str, Asc z -> z.length <= 20 -> Q (.str z) true
theorem ok_l_gone {f : Addr} {fd : FuncData} (F : Fun K "_law_gone" "_law_gone" s_l_gone f fd) (T : Blt mg) : FnOk P w K mg base CX0 1 f fd ["_law_reader_here", "_law_big_here"] (SpL K sp_gone) := by
 refine ok0 F sc_l_gone (fun ds Q X h => ?_) (fun cdv A outer s H E hr => ?_) fun ds Qd Xd h => h
 ·obtain ⟨n, as, b, rfl, _⟩ := h; rfl
 refine ⟨_, (dpss_cons (dpset 2 sc_l_gone.nd (dpe_op dop_mod (dpv 1) (dpe_ix (dix (by rfl)) (dpv 0) dpe_int (fun _ _ => rfl))))
   (dpss_cons (dpset 1 sc_l_gone.nd (dpe_op dop_fdiv (dpv 1) dpe_int))
   (dpss_cons (dpset 3 sc_l_gone.nd dpe_str)
   (dpss_cons (dps_for PassesOwn.never rfl (dpi_range1 (by rfl) (by exact T.range) (dpa_cons dpe_int dpa_nil)) (dpgn 4 sc_l_gone.nd) (dpss_cons (dps_setlc (i := 5) (hN := sc_l_gone.nd) (hyi := rfl) (hy := rfl) (hc := rfl) (own := ["_law_arrow"]) (cap := [("_law_here", 2)]) (L := LcScope.of (by kernel_rfl)) (hi := (dpi_list (by rfl) (dpe_ix (dix (by rfl)) (dpv 0) dpe_int (fun _ _ => rfl)))) (hin := (fun _ _ _ _ => ⟨(dpgn 0 (nd_of (by kernel_rfl))), (dpts_one (dpt_cmp (dop_eq (by rfl) (by exact hr.units)) (dpe_ix (dix (by rfl)) (dpv 0) dpe_int (fun _ _ => rfl)) (dpv 1) (nomark _))), (dpb_emit (by rfl) (by rfl) (dpv 0))⟩)))
   (dpss_one (dps_if (dpt_cmp (dop_ne (by rfl) (by exact hr.units)) (dpv 5) (dpe_lst dpa_nil) (nomark _)) (dpss_cons (dpset 6 sc_l_gone.nd (dpe_ix (dix (by rfl)) (dpv 5) (dpe_op dop_mod (dpv 1) (dpe_callB (dcl_len (by rfl)) (by rfl) (by exact T.len) (by decide +kernel) (dpa_cons (dpv 5) dpa_nil))) (fun _ _ => rfl)))
   (dpss_cons (dpset 3 sc_l_gone.nd (dpe_op dop_add (dpv 3) (dpe_ix (dix (by rfl)) (dpv 6) dpe_int (fun _ _ => rfl))))
   (dpss_cons (dpset 2 sc_l_gone.nd (dpe_ix (dix (by rfl)) (dpv 6) dpe_int (fun _ _ => rfl)))
   (dpss_one (dpset 1 sc_l_gone.nd (dpe_op dop_fdiv (dpv 1) dpe_int)))))) dpss_nil))))
   (dpss_one (dps_ret (dpv 3))))))), fun ds Qd h => ?_⟩
 obtain ⟨n, as, b, rfl, hn1, hn, ha, hl, hb, q⟩ := h
 show (_ : TSD) _ [some (false, .tuple [.int n, .list (as.map arr)]), some (false, .int b), none, none, none, none, none] _
 walk_at "d"
 refine ⟨.int n, rfl, ?_⟩
 walk_at "d"
 refine lp_rng (fun i ρ => ∃ (bb h : Int) (z : Str) (x u v : Option (Bool × D)), ρ = [some (false, .tuple [.int n, .list (as.map arr)]), some (false, .int bb), some (false, .int h), some (false, .str z), x, u, v] /\ 0 <= bb /\ Asc z /\ z.length <= i) ⟨_, _, _, _, _, _, rfl, Int.ediv_nonneg hb (by decide), fun _ z => (by cases z), Nat.le_refl _⟩ ?_ ?_
 ·rintro i ρ hi ⟨bb, h, z, x, u, v, rfl, hbb, hz, hzl⟩
  walk_at "d"
  refine ⟨.list (as.map arr), rfl, ?_⟩
  walk_at "d"
  refine lc_fltA (L := as) arr arr (fun p => decide (p.1 = h)) (fun p hp es Q' hl' q' => ?_) (by omega) ?_
  ·obtain ⟨a, m, c⟩ := p
   rw [show arr (a, m, c) = .tuple [.int a, .str m, .int c] from rfl]
   walk_at "d"
   refine ⟨.int a, rfl, ?_⟩
   walk_at "d"
   by_cases e : a = h
   ·subst e
    rw [if_pos (by simp)]
    rw [if_pos (by simp)] at q'
    walk_at "d"
    exact q'
   ·rw [if_neg (by simpa using e)]
    rw [if_neg (by simpa using e)] at q'
    walk_at "d"
    exact q'
  walk_at "d"
  have hok : ∀ p ∈ as.filter (fun p => decide (p.1 = h)), GArr n p := fun p hp => ha p (List.mem_filter.mp hp).1
  have hfl : (as.filter (fun p => decide (p.1 = h))).length <= 30 := Nat.le_trans (List.length_filter_le _ _) hl
  revert hok hfl
  generalize as.filter (fun p => decide (p.1 = h)) = fs
  intro hok hfl
  refine ⟨⟨by rw [PyData.canLay0]; exact lay_arrs fun p hp => mk_ok (hok p hp).2.2.2.2, rfl, by rw [PyData.depth]; have := depth_arrs fs; omega⟩, ?_⟩
  rw [eqv_nil]
  cases fs with
  | nil =>
   walk_at "d"
   rw [if_neg (by simp)]
   walk_at "d"
   exact ⟨_, _, z, _, _, _, rfl, hbb, hz, by omega⟩
  | cons f0 fr =>
   rw [show ((f0 :: fr).map arr).isEmpty = false from rfl]
   generalize hfs : f0 :: fr = fs at *
   have h0 : (0 : Int) < (fs.length : Int) := by rw [← hfs]; simp
   walk_at "d"
   rw [if_pos (by trivial)]
   walk_at "d"
   obtain ⟨p, hp, ep⟩ := cat_at (l := fs) (z := bb % (fs.length : Int)) (Int.emod_nonneg _ (Int.ne_of_gt h0)) (Int.emod_lt_of_pos bb h0)
   have hg := hok p hp
   obtain ⟨a, m, c⟩ := p
   obtain ⟨m1, m2⟩ := asc_mk hg.2.2.2.2
   simp only at m1 m2
   refine ⟨by rw [List.length_map]; exact h0, ?_⟩
   rw [List.length_map]
   walk_at "d"
   refine ⟨arr (a, m, c), atI_map2 ep, ?_⟩
   rw [show arr (a, m, c) = .tuple [.int a, .str m, .int c] from rfl]
   walk_at "d"
   refine ⟨.str m, rfl, ?_⟩
   walk_at "d"
   refine ⟨.int c, rfl, ?_⟩
   walk_at "d"
   exact ⟨_, _, z ++ m, _, _, _, rfl, Int.ediv_nonneg hbb (by decide), asc_app hz m1, by rw [len_app, m2]; omega⟩
 ·rintro ρ ⟨bb, h, z, x, u, v, rfl, hbb, hz, hzl⟩
  walk_at "d"
  exact q z hz (by simpa using hzl)
def GW (z : Str) : Prop := Asc z /\ z.length <= 1000
abbrev s_l_drawn_words : Stmt := top 21
theorem sc_l_drawn_words : FnScope ["_law_reader_here", "_law_big_here", "_law_word", "_law_size", "_law_k", "_law_gone_here", "_law_spot"] ["_law_reader_here", "_law_big_here"] (defScope s_l_drawn_words) := ⟨rfl, rfl, rfl, by decide +kernel, rfl, by decide +kernel, by decide +kernel⟩
def sp_drawn : SpD := fun ds Q _ => ∃ (n : Nat) (as : List Arr) (b : Int), ds = [.tuple [.int n, aD as], .int b] /\ 1 <= n /\ n <= 6 /\ (∀ p ∈ as, GArr n p) /\ as.length <= 30 /\ 0 <= b /\ ∀ zs : List Str, zs.length <= 5 -> (∀ z ∈ zs, GW z) -> Q (.list (zs.map .str)) true
theorem ok_l_drawn_words {f : Addr} {fd : FuncData} (F : Fun K "_law_drawn_words" "_law_drawn_words" s_l_drawn_words f fd) (T : Blt mg) (D_l_gone : Df P w K mg base "_law_gone" ["_law_reader_here", "_law_big_here"] 1 (SpL K sp_gone)) : FnOk P w K mg base CX0 2 f fd ["_law_reader_here", "_law_big_here"] (SpL K sp_drawn) := by
 refine ok0 F sc_l_drawn_words (fun ds Q X h => ?_) (fun cdv A outer s H E hr => ?_) fun ds Qd Xd h => h
 ·obtain ⟨n, as, b, rfl, _⟩ := h; rfl
 refine ⟨_, (dpss_cons (dpset 2 sc_l_drawn_words.nd dpe_str)
   (dpss_cons (dpset 3 sc_l_drawn_words.nd (dpe_op dop_mod (dpv 1) dpe_int))
   (dpss_cons (dpset 1 sc_l_drawn_words.nd (dpe_op dop_fdiv (dpv 1) dpe_int))
   (dpss_cons (dps_for PassesOwn.never rfl (dpi_range1 (by rfl) (by exact T.range) (dpa_cons (dpv 3) dpa_nil)) (dpgn 4 sc_l_drawn_words.nd) (dpss_cons (dpset 2 sc_l_drawn_words.nd (dpe_op dop_add (dpv 2) (dpe_ix dixS dpe_str (dpe_op dop_mod (dpv 1) dpe_int) (fun _ _ => rfl))))
   (dpss_one (dpset 1 sc_l_drawn_words.nd (dpe_op dop_fdiv (dpv 1) dpe_int)))))
   (dpss_cons (dpset 5 sc_l_drawn_words.nd (dpe_df (by exact D_l_gone) (by exact hr.mono (by omega)) (dpa_cons (dpv 0) (dpa_cons (dpv 1) dpa_nil))))
   (dpss_cons (dpset 5 sc_l_drawn_words.nd (dpe_sliceS (dpv 5) dpo_none (dpo_some (dpe_op dop_add dpe_int (dpe_op dop_mod (dpe_op dop_fdiv (dpv 1) dpe_int) dpe_int)))))
   (dpss_cons (dpset 6 sc_l_drawn_words.nd (dpe_op dop_mod (dpe_op dop_fdiv (dpv 1) dpe_int) (dpe_op dop_add (dpe_callB dcl_lenS (by rfl) (by exact T.len) (by decide +kernel) (dpa_cons (dpv 5) dpa_nil)) dpe_int)))
   (dpss_one (dps_ret (dpe_lst (dpa_cons (dpv 2) (dpa_cons (dpv 5) (dpa_cons (dpe_op dop_add (dpe_op dop_add (dpe_sliceS (dpv 5) dpo_none (dpo_some (dpv 6))) (dpe_ix dixS dpe_str (dpe_op dop_mod (dpe_op dop_fdiv (dpv 1) dpe_int) dpe_int) (fun _ _ => rfl))) (dpe_sliceS (dpv 5) (dpo_some (dpe_op dop_add (dpv 6) dpe_int)) dpo_none)) (dpa_cons dpe_str (dpa_cons (dpe_op dop_add (dpv 5) (dpe_sliceS (dpv 2) dpo_none (dpo_some (dpe_op dop_sub dpe_int (dpe_callB dcl_lenS (by rfl) (by exact T.len) (by decide +kernel) (dpa_cons (dpv 5) dpa_nil)))))) dpa_nil))))))))))))))), fun ds Qd h => ?_⟩
 obtain ⟨n, as, b, rfl, hn1, hn, ha, hl, hb, q⟩ := h
 show (_ : TSD) _ [some (false, .tuple [.int n, .list (as.map arr)]), some (false, .int b), none, none, none, none, none] _
 walk_at "d"
 have h21 := Int.emod_nonneg b (show (21 : Int) ≠ 0 by decide)
 have h21' := Int.emod_lt_of_pos b (show (0 : Int) < 21 by decide)
 obtain ⟨sz, esz, hsz⟩ : ∃ sz : Nat, b % 21 = (sz : Int) /\ sz <= 20 := ⟨(b % 21).toNat, by omega, by omega⟩
 rw [esz, Int.toNat_natCast]
 refine lp_rng (fun i ρ => ∃ (bb : Int) (z : Str) (x : Option (Bool × D)), ρ = [some (false, .tuple [.int n, .list (as.map arr)]), some (false, .int bb), some (false, .str z), some (false, .int sz), x, none, none] /\ 0 <= bb /\ Asc z /\ z.length <= i) ⟨_, _, _, rfl, Int.ediv_nonneg hb (by decide), fun _ z => (by cases z), Nat.le_refl _⟩ ?_ ?_
 ·rintro i ρ hi ⟨bb, z, x, rfl, hbb, hz, hzl⟩
  have hi' : i < sz := hi
  walk_at "d"
  obtain ⟨c, hc, ec⟩ := abcd_at (b := bb)
  have e1 : Str.length ⟨#[c]⟩ = 1 := rfl
  refine ⟨c, ec, ?_⟩
  walk_at "d"
  exact ⟨_, _, _, rfl, Int.ediv_nonneg hbb (by decide), asc_app hz (fun d hd => by
   have e : d = c := by simpa using hd
   omega), by rw [len_app, e1]; omega⟩
 ·rintro ρ ⟨bb, z, x, rfl, hbb, hz, hzl⟩
  walk_at "d"
  refine ⟨n, as, bb, rfl, hn1, hn, ha, hl, hbb, fun g hg hgl => ?_⟩
  walk_at "d"
  have g1l := Txt.slice_le g none (some (1 + bb / 7 % 20))
  have g1a := asc_slice (l := none) (u := some (1 + bb / 7 % 20)) hg
  revert g1l g1a
  generalize Txt.slice g none (some (1 + bb / 7 % 20)) = g1
  intro g1l g1a
  refine ⟨by omega, ?_⟩
  walk_at "d"
  obtain ⟨c, hc, ec⟩ := abcd_at (b := bb / 13)
  have e1 : Str.length ⟨#[c]⟩ = 1 := rfl
  refine ⟨c, ec, ?_⟩
  have al := Txt.slice_le g1 none (some (bb / 11 % ((g1.length : Int) + 1)))
  have aa := asc_slice (l := none) (u := some (bb / 11 % ((g1.length : Int) + 1))) g1a
  revert al aa
  generalize Txt.slice g1 none (some (bb / 11 % ((g1.length : Int) + 1))) = A
  intro al aa
  walk_at "d"
  have bl := Txt.slice_le g1 (some (bb / 11 % ((g1.length : Int) + 1) + 1)) none
  have ba := asc_slice (l := some (bb / 11 % ((g1.length : Int) + 1) + 1)) (u := none) g1a
  revert bl ba
  generalize Txt.slice g1 (some (bb / 11 % ((g1.length : Int) + 1) + 1)) none = B
  intro bl ba
  refine ⟨by rw [len_app, e1]; omega, ?_⟩
  have ol : (A ++ { cps := #[c] } ++ B).length <= 1000 := by rw [len_app, len_app, e1]; omega
  have oa : Asc (A ++ { cps := #[c] } ++ B) := asc_app (asc_app aa fun d hd => (by
   have e : d = c := by simpa using hd
   omega)) ba
  revert ol oa
  generalize A ++ { cps := #[c] } ++ B = O
  intro ol oa
  walk_at "d"
  have zl := Txt.slice_le z none (some (20 - (g1.length : Int)))
  have za := asc_slice (l := none) (u := some (20 - (g1.length : Int))) hz
  revert zl za
  generalize Txt.slice z none (some (20 - (g1.length : Int))) = Z
  intro zl za
  refine ⟨by omega, ?_⟩
  walk_at "d"
  have hz20 : z.length <= 20 := Nat.le_trans (by simpa using hzl) hsz
  have fin := q [z, g1, O, Str.ofString "", g1 ++ Z] (Nat.le_refl 5) fun y hy => by
   simp only [List.mem_cons, List.not_mem_nil, or_false] at hy
   rcases hy with rfl | rfl | rfl | rfl | rfl
   ·exact ⟨hz, by omega⟩
   ·exact ⟨g1a, by omega⟩
   ·exact ⟨oa, ol⟩
   ·exact ⟨fun _ z => (by cases z), by decide⟩
   ·exact ⟨asc_app g1a za, by rw [len_app]; omega⟩
  exact fin
end
end K25
namespace K25
open PySem PySem.Spec PyProof.Rows L2 DL M15
section
variable {P : Program} {w : World} {K : W.Frag} {mg : Str -> Option Value} {base : Heap}
abbrev s_l_same : Stmt := top 22
theorem sc_l_same : FnScope ["_law_found", "_law_due"] ["_law_found", "_law_due"] (defScope s_l_same) := ⟨rfl, rfl, rfl, by decide +kernel, rfl, by decide +kernel, by decide +kernel⟩
def sp_same : SpD := fun ds Q _ => ∃ (a : Bool), ds = [.bool a, .bool a] /\ Q (.bool true) true
theorem ok_l_same {f : Addr} {fd : FuncData} (F : Fun K "_law_same" "_law_same" s_l_same f fd) (T : Blt mg) : FnOk P w K mg base CX0 1 f fd ["_law_found", "_law_due"] (SpL K sp_same) := by
 refine ok0 F sc_l_same (fun ds Q X h => ?_) (fun cdv A outer s H E hr => ?_) fun ds Qd Xd h => h
 ·obtain ⟨a, rfl, _⟩ := h; rfl
 refine ⟨_, (dpss_one (dps_ret (dpe_and (dpe_isi (by rfl) kit_bool (by rfl) (by exact T.isinstance) (dpv 0) (by rfl) (by exact T.bool) (by decide +kernel)) (dpe_one (dpe_cmp (dop_eq (by rfl) (by exact hr.units)) (dpv 0) (dpv 1) (nomark _)))))), fun ds Qd h => ?_⟩
 obtain ⟨a, rfl, q⟩ := h
 show (_ : TSD) _ [some (false, .bool a), some (false, .bool a)] _
 walk_at "d"
 rw [if_pos (show isBool (PyData.bool a) = true from rfl)]
 walk_at "d"
 refine ⟨⟨rfl, rfl, by simp [PyData.depth]⟩, ?_⟩
 rw [show id ((PyData.bool a).eqv (.bool a)) = true by simp [PyData.eqv]]
 exact q
theorem flats_arr : ∀ {as : List Arr}, flats (as.map arr) = true
 | [] => rfl
 | p :: r => by rw [List.map_cons, flats, flats_arr (as := r)]; rfl
theorem hand_set {ρ0 ρ1 : Option (Bool × D)} {n : Int} {as : List Arr} {k : Kd} : setK [ρ0, ρ1, none, none] 2 (PyData.tuple [PyData.int n, PyData.list (List.map arr as)]) (kcons (PyData.int n) Kd.old (kcons (PyData.list (List.map arr as)) (kels (List.map arr as) k) (Kd.own []))) = [ρ0, ρ1, some (true, .tuple [.int n, .list (as.map arr)]), none] := by
 unfold kels
 rw [if_pos flats_arr]
 rfl
theorem rd_ok {n : Nat} {as : List Arr} (ha : ∀ p ∈ as, GArr n p) : (PyData.tuple [.int n, .list (as.map arr)]).canLay0 = true /\ (PyData.tuple [.int n, .list (as.map arr)]).depth <= 32 := by
 have h1 := lay_arrs fun p hp => mk_ok (ha p hp).2.2.2.2
 have h2 := depth_arrs as
 refine ⟨by simp [PyData.canLay0, PyData.canLayAll0, h1], ?_⟩
 simp [PyData.depth, PyData.depthAll]
 omega
abbrev s_l_right : Stmt := top 23
theorem sc_l_right : FnScope ["_law_reader_here", "_law_words", "_law_handed", "_law_word"] ["_law_reader_here", "_law_words"] (defScope s_l_right) := ⟨rfl, rfl, rfl, by decide +kernel, rfl, by decide +kernel, by decide +kernel⟩
def sp_right : SpD := fun ds Q _ => ∃ (n : Nat) (as : List Arr) (zs : List Str), ds = [.tuple [.int n, aD as], .list (zs.map .str)] /\ 1 <= n /\ n <= 6 /\ (∀ p ∈ as, GArr n p) /\ as.length <= 30 /\ zs.length <= 10 /\ (∀ z ∈ zs, GW z) /\ Q (.bool true) true
theorem ok_l_right {f : Addr} {fd : FuncData} (F : Fun K "_law_right" "_law_right" s_l_right f fd) (T : Blt mg) (D_reads : Df P w K mg base "reads" ["reader", "word"] 2 (SpL K sp_reads)) (D_l_is_read : Df P w K mg base "_law_is_read" ["_law_reader_here", "_law_word"] 2 (SpL K sp_reads)) (D_together : Df P w K mg base "together" ["reader"] 3 (SpL K sp_together)) (D_l_hanging : Df P w K mg base "_law_hanging" ["_law_reader_here"] 1 (SpL K sp_together)) (D_one_way : Df P w K mg base "one_way" ["reader"] 1 (SpL K sp_one)) (D_l_plain_way : Df P w K mg base "_law_plain_way" ["_law_reader_here"] 1 (SpL K sp_one)) (D_l_same : Df P w K mg base "_law_same" ["_law_found", "_law_due"] 1 (SpL K sp_same)) : FnOk P w K mg base CX0 4 f fd ["_law_reader_here", "_law_words"] (SpL K sp_right) := by
 refine ok0 F sc_l_right (fun ds Q X h => ?_) (fun cdv A outer s H E hr => ?_) fun ds Qd Xd h => h
 ·obtain ⟨n, as, zs, rfl, _⟩ := h; rfl
 refine ⟨_, (dpss_cons (dpset 2 sc_l_right.nd (dpe_tup (dpa_cons (dpe_ix (dix (by rfl)) (dpv 0) dpe_int (fun _ _ => rfl)) (dpa_cons (dpe_callTy (dcl_list (by rfl)) (by rfl) (by exact T.list) (by decide +kernel) (dpa_cons (dpe_ix (dix (by rfl)) (dpv 0) dpe_int (fun _ _ => rfl)) dpa_nil)) dpa_nil))))
   (dpss_cons (dps_frz 1 (dps_for PassesOwn.never rfl (dpi_list (by rfl) (dpv 1)) (dpgn 3 sc_l_right.nd) (dpss_one (dps_if (dpt_not (dpt_val (dpe_df (by exact D_l_same) (by exact hr.mono (by omega)) (dpa_cons (dpe_df (by exact D_reads) (by exact hr.mono (by omega)) (dpa_cons (dpv 2) (dpa_cons (dpv 3) dpa_nil))) (dpa_cons (dpe_df (by exact D_l_is_read) (by exact hr.mono (by omega)) (dpa_cons (dpv 0) (dpa_cons (dpv 3) dpa_nil))) dpa_nil))))) (dpss_one (dps_ret dpe_bl)) dpss_nil))))
   (dpss_cons (dps_if (dPWpt (dpw_or (dpt_not (dpt_val (dpe_df (by exact D_l_same) (by exact hr.mono (by omega)) (dpa_cons (dpe_df (by exact D_together) (by exact hr.mono (by omega)) (dpa_cons (dpv 2) dpa_nil)) (dpa_cons (dpe_df (by exact D_l_hanging) (by exact hr.mono (by omega)) (dpa_cons (dpv 0) dpa_nil)) dpa_nil))))) (dpw_or1 (dpt_cmp (dop_ne (by rfl) (by exact hr.units)) (dpv 2) (dpv 0) (nomark _))))) (dpss_one (dps_ret dpe_bl)) dpss_nil)
   (dpss_one (dps_ret (dpe_and (dpe_df (by exact D_l_same) (by exact hr.mono (by omega)) (dpa_cons (dpe_df (by exact D_one_way) (by exact hr.mono (by omega)) (dpa_cons (dpv 2) dpa_nil)) (dpa_cons (dpe_df (by exact D_l_plain_way) (by exact hr.mono (by omega)) (dpa_cons (dpv 0) dpa_nil)) dpa_nil))) (dpe_one (dpe_cmp (dop_eq (by rfl) (by exact hr.units)) (dpv 2) (dpv 0) (nomark _))))))))), fun ds Qd h => ?_⟩
 obtain ⟨n, as, zs, rfl, hn1, hn, ha, hl, hzl, hz, q⟩ := h
 show (_ : TSD) _ [some (false, .tuple [.int n, .list (as.map arr)]), some (false, .list (zs.map .str)), none, none] _
 walk_at "d"
 refine ⟨.int n, rfl, ?_⟩
 walk_at "d"
 refine ⟨.list (as.map arr), rfl, ?_⟩
 walk_at "d"
 rw [hand_set]
 walk_at "d"
 obtain ⟨ro1, ro2⟩ := rd_ok ha
 have req := SeqAt.eqv_refl (PyData.tuple [.int n, .list (as.map arr)]) ro1
 refine lp_list (fun j ρ => ∃ (x : Option (Bool × D)), ρ = [some (false, .tuple [.int n, .list (as.map arr)]), some (false, .list (zs.map .str)), some (true, .tuple [.int n, .list (as.map arr)]), x]) ⟨_, rfl⟩ ?_ ?_
 ·rintro j d ρ hd ⟨x, rfl⟩
  rw [List.getElem?_map] at hd
  obtain ⟨z, hz1, rfl⟩ := Option.map_eq_some_iff.mp hd
  have hgz := hz z (List.mem_of_getElem? hz1)
  walk_at "d"
  refine ⟨n, as, z, rfl, hn, ha, hl, hgz.1, hgz.2, ?_⟩
  walk_at "d"
  refine ⟨n, as, z, rfl, hn, ha, hl, hgz.1, hgz.2, ?_⟩
  walk_at "d"
  refine ⟨rd as n z, rfl, ?_⟩
  walk_at "d"
  exact ⟨_, rfl⟩
 ·rintro ρ ⟨x, rfl⟩
  walk_at "d"
  refine ⟨n, as, rfl, hn, ha, hl, fun b1 hb1 => ?_⟩
  walk_at "d"
  refine ⟨n, as, rfl, hn, ha, hl, fun b2 hb2 => ?_⟩
  have e : b2 = b1 := by rw [Bool.eq_iff_iff, hb1, hb2]
  subst e
  walk_at "d"
  refine ⟨b2, rfl, ?_⟩
  walk_at "d"
  refine ⟨⟨ro1, ro1, ro2⟩, ?_⟩
  rw [req]
  walk_at "d"
  refine ⟨n, as, rfl, hn, ha, hl, ?_⟩
  walk_at "d"
  refine ⟨n, as, rfl, hn, ha, hl, ?_⟩
  walk_at "d"
  refine ⟨_, rfl, ?_⟩
  walk_at "d"
  refine ⟨⟨ro1, ro1, ro2⟩, ?_⟩
  rw [req]
  walk_at "d"
  exact q
theorem set_rd2 {ρ : Ren} {i : Nat} {n : Int} {as : List Arr} : setK ρ i (.tuple [.int n, aD as]) (.own []) = (dropS ρ []).set i (some (true, .tuple [.int n, aD as])) := rfl
abbrev s_law : Stmt := top 24
theorem sc_law : FnScope ["_law_script", "_law_one", "_law_other", "_law_words", "_law_more_here"] ["_law_script"] (defScope s_law) := ⟨rfl, rfl, rfl, by decide +kernel, rfl, by decide +kernel, by decide +kernel⟩
def sp_lawD : SpD := fun ds Q _ => ∃ ns : List Int, ds = [scr ns] /\ ∀ o, Q (.bool true) o
theorem ok_lawD {f : Addr} {fd : FuncData} (F : Fun K "law" "law" s_law f fd) (T : Blt mg) (D_l_big : Df P w K mg base "_law_big" ["_law_script", "_law_at"] 2 (SpL K sp_big)) (D_l_reader : Df P w K mg base "_law_reader" ["_law_big_here", "_law_most"] 4 (SpL K sp_reader)) (D_l_drawn_words : Df P w K mg base "_law_drawn_words" ["_law_reader_here", "_law_big_here"] 2 (SpL K sp_drawn)) (D_l_right : Df P w K mg base "_law_right" ["_law_reader_here", "_law_words"] 4 (SpL K sp_right)) : FnOk P w K mg base CX0 5 f fd ["_law_script"] (SpL K sp_lawD) := by
 refine ok0 F sc_law (fun ds Q X h => ?_) (fun cdv A outer s H E hr => ?_) fun ds Qd Xd h => h
 ·obtain ⟨ns, rfl, _⟩ := h; rfl
 refine ⟨_, (dpss_cons (dpset 1 sc_law.nd (dpe_df (by exact D_l_reader) (by exact hr.mono (by omega)) (dpa_cons (dpe_df (by exact D_l_big) (by exact hr.mono (by omega)) (dpa_cons (dpv 0) (dpa_cons dpe_int dpa_nil))) (dpa_cons dpe_int dpa_nil))))
   (dpss_cons (dpset 2 sc_law.nd (dpe_df (by exact D_l_reader) (by exact hr.mono (by omega)) (dpa_cons (dpe_df (by exact D_l_big) (by exact hr.mono (by omega)) (dpa_cons (dpv 0) (dpa_cons dpe_int dpa_nil))) (dpa_cons dpe_int dpa_nil))))
   (dpss_cons (dpset 3 sc_law.nd (dpe_df (by exact D_l_drawn_words) (by exact hr.mono (by omega)) (dpa_cons (dpv 1) (dpa_cons (dpe_df (by exact D_l_big) (by exact hr.mono (by omega)) (dpa_cons (dpv 0) (dpa_cons dpe_int dpa_nil))) dpa_nil))))
   (dpss_cons (dpset 4 sc_law.nd (dpe_df (by exact D_l_drawn_words) (by exact hr.mono (by omega)) (dpa_cons (dpv 2) (dpa_cons (dpe_df (by exact D_l_big) (by exact hr.mono (by omega)) (dpa_cons (dpv 0) (dpa_cons dpe_int dpa_nil))) dpa_nil))))
   (dpss_one (dps_ret (dpe_and (dpe_df (by exact D_l_right) (by exact hr.mono (by omega)) (dpa_cons (dpv 1) (dpa_cons (dpv 3) dpa_nil))) (dpe_and (dpe_df (by exact D_l_right) (by exact hr.mono (by omega)) (dpa_cons (dpv 2) (dpa_cons (dpe_op dop_add (dpv 4) (dpv 3)) dpa_nil))) (dpe_one (dpe_df (by exact D_l_right) (by exact hr.mono (by omega)) (dpa_cons (dpv 1) (dpa_cons (dpe_op dop_add (dpv 4) (dpv 3)) dpa_nil)))))))))))), fun ds Qd h => ?_⟩
 obtain ⟨ns, rfl, q⟩ := h
 show (_ : TSD) _ [some (false, scr ns), none, none, none, none] _
 walk_at "d"
 refine ⟨ns, 0, rfl, by omega, fun z0 hz0 => ?_⟩
 walk_at "d"
 refine ⟨z0, rfl, hz0, fun n as h1 h2 h3 h4 => ?_⟩
 walk_at "d"
 rw [set_rd2]
 walk_at "d"
 refine ⟨ns, 1, rfl, by omega, fun z1 hz1 => ?_⟩
 walk_at "d"
 refine ⟨z1, rfl, hz1, fun n' as' h1' h2' h3' h4' => ?_⟩
 walk_at "d"
 rw [set_rd2]
 walk_at "d"
 refine ⟨ns, 2, rfl, by omega, fun z2 hz2 => ?_⟩
 walk_at "d"
 refine ⟨n, as, z2, rfl, h1, h2, h4, h3, hz2, fun zs hzl hzs => ?_⟩
 walk_at "d"
 refine ⟨ns, 3, rfl, by omega, fun z3 hz3 => ?_⟩
 walk_at "d"
 refine ⟨n', as', z3, rfl, h1', h2', h4', h3', hz3, fun ys hyl hys => ?_⟩
 walk_at "d"
 refine ⟨n, as, zs, rfl, h1, h2, h4, h3, by omega, hzs, ?_⟩
 have hyz : ∀ z ∈ ys ++ zs, GW z := fun z hz => by
  rcases List.mem_append.mp hz with h | h
  ·exact hys z h
  ·exact hzs z h
 have lyz : (ys ++ zs).length <= 10 := by rw [List.length_append]; omega
 have szl : (ys.map PyData.str).length + (zs.map PyData.str).length <= 1000000 := by rw [List.length_map, List.length_map]; omega
 walk_at "d"
 rw [← List.map_append]
 walk_at "d"
 refine ⟨n', as', ys ++ zs, rfl, h1', h2', h4', h3', lyz, hyz, ?_⟩
 walk_at "d"
 rw [← List.map_append]
 walk_at "d"
 refine ⟨n, as, ys ++ zs, rfl, h1, h2, h4, h3, lyz, hyz, ?_⟩
 walk_at "d"
 exact q _
def sp_lawH (K : W.Frag) : Sp := fun vs H Q _ => ∃ (a : Addr) (ns : List Int), vs = [.ref a] /\ SqL K H a (ns.map V.int) /\ ∀ H', Q (.bl true) H'
theorem law_of {vs : List V} {H : Hp} {Q : VK} {E : XK} (h : sp_lawH K vs H Q E) : SpL K sp_lawD vs H Q E := by
 obtain ⟨a, ns, rfl, hS, q⟩ := h
 refine ⟨[scr ns], fun d _ => d = .bool true, Xf, .cons (.scr ns hS) .nil, ⟨ns, rfl, fun _ => rfl⟩, fun d o v H' e _ r => ?_, fun _ _ z _ => z.elim⟩
 subst e
 have hv : Dn K H' v (.bool true) := by
  cases o with
  | true => obtain ⟨ms, h1, _⟩ := r; exact h1.den
  | false => exact r
 cases hv
 exact q H'
theorem ok_law {f : Addr} {fd : FuncData} (F : Fun K "law" "law" s_law f fd) (T : Blt mg) (D_l_big : Df P w K mg base "_law_big" ["_law_script", "_law_at"] 2 (SpL K sp_big)) (D_l_reader : Df P w K mg base "_law_reader" ["_law_big_here", "_law_most"] 4 (SpL K sp_reader)) (D_l_drawn_words : Df P w K mg base "_law_drawn_words" ["_law_reader_here", "_law_big_here"] 2 (SpL K sp_drawn)) (D_l_right : Df P w K mg base "_law_right" ["_law_reader_here", "_law_words"] 4 (SpL K sp_right)) : FnOk P w K mg base CX0 5 f fd ["_law_script"] (sp_lawH K) := (ok_lawD F T D_l_big D_l_reader D_l_drawn_words D_l_right).imp fun _ _ _ _ h => law_of h
end
end K25
namespace K25
open PySem PySem.Spec PyProof.Rows L2
theorem len0 (us : List Value) (h : us.length = 0) : us = [] := List.eq_nil_of_length_eq_zero h
theorem len1 (us : List Value) (h : us.length = 1) : ∃ a0, us = [a0] := by
 cases us with
 | nil => exact absurd h.symm (Nat.succ_ne_zero _)
 | cons a r =>
  have e := len0 r (Nat.succ.inj h)
  subst e
  exact ⟨a, rfl⟩
theorem len2 (us : List Value) (h : us.length = 2) : ∃ a0 a1, us = [a0, a1] := by
 cases us with
 | nil => exact absurd h.symm (Nat.succ_ne_zero _)
 | cons a r =>
  obtain ⟨a1, e⟩ := len1 r (Nat.succ.inj h)
  subst e
  exact ⟨a, a1, rfl⟩
theorem len3 (us : List Value) (h : us.length = 3) : ∃ a0 a1 a2, us = [a0, a1, a2] := by
 cases us with
 | nil => exact absurd h.symm (Nat.succ_ne_zero _)
 | cons a r =>
  obtain ⟨a1, a2, e⟩ := len2 r (Nat.succ.inj h)
  subst e
  exact ⟨a, a1, a2, rfl⟩
theorem len4 (us : List Value) (h : us.length = 4) : ∃ a0 a1 a2 a3, us = [a0, a1, a2, a3] := by
 cases us with
 | nil => exact absurd h.symm (Nat.succ_ne_zero _)
 | cons a r =>
  obtain ⟨a1, a2, a3, e⟩ := len3 r (Nat.succ.inj h)
  subst e
  exact ⟨a, a1, a2, a3, rfl⟩
theorem len5 (us : List Value) (h : us.length = 5) : ∃ a0 a1 a2 a3 a4, us = [a0, a1, a2, a3, a4] := by
 cases us with
 | nil => exact absurd h.symm (Nat.succ_ne_zero _)
 | cons a r =>
  obtain ⟨a1, a2, a3, a4, e⟩ := len4 r (Nat.succ.inj h)
  subst e
  exact ⟨a, a1, a2, a3, a4, rfl⟩
theorem all_mk {l : PySem.W.OpenLaw} {w : World} {K : W.Frag} {h : Heap} {mg : Str -> Option Value} {fa : Addr} (X : K.In h) (G : h.Ns mainGlobals mg) (hfa : mg "law" = some (.ref fa))
  {od1 an1 : Option Addr} {sl1 : Array (Option Value)} {oc1 kV1 dc1 pm1 cd1 ct1 : Value} {f1 : Addr}
  {od2 an2 : Option Addr} {sl2 : Array (Option Value)} {oc2 kV2 dc2 pm2 cd2 ct2 : Value} {f2 : Addr}
  {od3 an3 : Option Addr} {sl3 : Array (Option Value)} {oc3 kV3 dc3 pm3 cd3 ct3 : Value} {f3 : Addr}
  {od4 an4 : Option Addr} {sl4 : Array (Option Value)} {oc4 kV4 dc4 pm4 cd4 ct4 : Value} {f4 : Addr}
  {od5 an5 : Option Addr} {sl5 : Array (Option Value)} {oc5 kV5 dc5 pm5 cd5 ct5 : Value} {f5 : Addr}
  {od6 an6 : Option Addr} {sl6 : Array (Option Value)} {oc6 kV6 dc6 pm6 cd6 ct6 : Value} {f6 : Addr}
  {od7 an7 : Option Addr} {sl7 : Array (Option Value)} {oc7 kV7 dc7 pm7 cd7 ct7 : Value} {f7 : Addr}
  {od8 an8 : Option Addr} {sl8 : Array (Option Value)} {oc8 kV8 dc8 pm8 cd8 ct8 : Value} {f8 : Addr}
  {od9 an9 : Option Addr} {sl9 : Array (Option Value)} {oc9 kV9 dc9 pm9 cd9 ct9 : Value} {f9 : Addr}
  {od10 an10 : Option Addr} {sl10 : Array (Option Value)} {oc10 kV10 dc10 pm10 cd10 ct10 : Value} {f10 : Addr}
  {od11 an11 : Option Addr} {sl11 : Array (Option Value)} {oc11 kV11 dc11 pm11 cd11 ct11 : Value} {f11 : Addr}
  {od12 an12 : Option Addr} {sl12 : Array (Option Value)} {oc12 kV12 dc12 pm12 cd12 ct12 : Value} {f12 : Addr}
  {od13 an13 : Option Addr} {sl13 : Array (Option Value)} {oc13 kV13 dc13 pm13 cd13 ct13 : Value} {f13 : Addr}
  {od14 an14 : Option Addr} {sl14 : Array (Option Value)} {oc14 kV14 dc14 pm14 cd14 ct14 : Value} {f14 : Addr}
  {od15 an15 : Option Addr} {sl15 : Array (Option Value)} {oc15 kV15 dc15 pm15 cd15 ct15 : Value} {f15 : Addr}
  {od16 an16 : Option Addr} {sl16 : Array (Option Value)} {oc16 kV16 dc16 pm16 cd16 ct16 : Value} {f16 : Addr}
  {od17 an17 : Option Addr} {sl17 : Array (Option Value)} {oc17 kV17 dc17 pm17 cd17 ct17 : Value} {f17 : Addr}
  {od18 an18 : Option Addr} {sl18 : Array (Option Value)} {oc18 kV18 dc18 pm18 cd18 ct18 : Value} {f18 : Addr}
  {od19 an19 : Option Addr} {sl19 : Array (Option Value)} {oc19 kV19 dc19 pm19 cd19 ct19 : Value} {f19 : Addr}
  {od20 an20 : Option Addr} {sl20 : Array (Option Value)} {oc20 kV20 dc20 pm20 cd20 ct20 : Value} {f20 : Addr}
  {od21 an21 : Option Addr} {sl21 : Array (Option Value)} {oc21 kV21 dc21 pm21 cd21 ct21 : Value} {f21 : Addr}
  {od22 an22 : Option Addr} {sl22 : Array (Option Value)} {oc22 kV22 dc22 pm22 cd22 ct22 : Value} {f22 : Addr}
  (a1 : PySem.W.nsIn K mainGlobals "met_from" = some (some (.ref f1))) (l1 : K.lookup f1 = some ⟨oc1, od1, .func (PySem.W.fnOf "met_from" "met_from" (defArgs s_met_from) (defBody s_met_from) (defScope s_met_from) .none kV1 dc1 pm1 an1 cd1 ct1), sl1⟩) (c1 : PySem.W.codeIn K cd1 "met_from" = true) (k1 : PySem.W.keepIn K (.ref f1) = true)
  (a2 : PySem.W.nsIn K mainGlobals "all_meet_all" = some (some (.ref f2))) (l2 : K.lookup f2 = some ⟨oc2, od2, .func (PySem.W.fnOf "all_meet_all" "all_meet_all" (defArgs s_all_meet_all) (defBody s_all_meet_all) (defScope s_all_meet_all) .none kV2 dc2 pm2 an2 cd2 ct2), sl2⟩) (c2 : PySem.W.codeIn K cd2 "all_meet_all" = true) (k2 : PySem.W.keepIn K (.ref f2) = true)
  (a3 : PySem.W.nsIn K mainGlobals "led" = some (some (.ref f3))) (l3 : K.lookup f3 = some ⟨oc3, od3, .func (PySem.W.fnOf "led" "led" (defArgs s_led) (defBody s_led) (defScope s_led) .none kV3 dc3 pm3 an3 cd3 ct3), sl3⟩) (c3 : PySem.W.codeIn K cd3 "led" = true) (k3 : PySem.W.keepIn K (.ref f3) = true)
  (a4 : PySem.W.nsIn K mainGlobals "reads" = some (some (.ref f4))) (l4 : K.lookup f4 = some ⟨oc4, od4, .func (PySem.W.fnOf "reads" "reads" (defArgs s_reads) (defBody s_reads) (defScope s_reads) .none kV4 dc4 pm4 an4 cd4 ct4), sl4⟩) (c4 : PySem.W.codeIn K cd4 "reads" = true) (k4 : PySem.W.keepIn K (.ref f4) = true)
  (a5 : PySem.W.nsIn K mainGlobals "together" = some (some (.ref f5))) (l5 : K.lookup f5 = some ⟨oc5, od5, .func (PySem.W.fnOf "together" "together" (defArgs s_together) (defBody s_together) (defScope s_together) .none kV5 dc5 pm5 an5 cd5 ct5), sl5⟩) (c5 : PySem.W.codeIn K cd5 "together" = true) (k5 : PySem.W.keepIn K (.ref f5) = true)
  (a6 : PySem.W.nsIn K mainGlobals "one_way" = some (some (.ref f6))) (l6 : K.lookup f6 = some ⟨oc6, od6, .func (PySem.W.fnOf "one_way" "one_way" (defArgs s_one_way) (defBody s_one_way) (defScope s_one_way) .none kV6 dc6 pm6 an6 cd6 ct6), sl6⟩) (c6 : PySem.W.codeIn K cd6 "one_way" = true) (k6 : PySem.W.keepIn K (.ref f6) = true)
  (a7 : PySem.W.nsIn K mainGlobals "_law_cell_at" = some (some (.ref f7))) (l7 : K.lookup f7 = some ⟨oc7, od7, .func (PySem.W.fnOf "_law_cell_at" "_law_cell_at" (defArgs s_l_cell_at) (defBody s_l_cell_at) (defScope s_l_cell_at) .none kV7 dc7 pm7 an7 cd7 ct7), sl7⟩) (c7 : PySem.W.codeIn K cd7 "_law_cell_at" = true) (k7 : PySem.W.keepIn K (.ref f7) = true)
  (a8 : PySem.W.nsIn K mainGlobals "_law_big" = some (some (.ref f8))) (l8 : K.lookup f8 = some ⟨oc8, od8, .func (PySem.W.fnOf "_law_big" "_law_big" (defArgs s_l_big) (defBody s_l_big) (defScope s_l_big) .none kV8 dc8 pm8 an8 cd8 ct8), sl8⟩) (c8 : PySem.W.codeIn K cd8 "_law_big" = true) (k8 : PySem.W.keepIn K (.ref f8) = true)
  (a9 : PySem.W.nsIn K mainGlobals "_law_order" = some (some (.ref f9))) (l9 : K.lookup f9 = some ⟨oc9, od9, .func (PySem.W.fnOf "_law_order" "_law_order" (defArgs s_l_order) (defBody s_l_order) (defScope s_l_order) .none kV9 dc9 pm9 an9 cd9 ct9), sl9⟩) (c9 : PySem.W.codeIn K cd9 "_law_order" = true) (k9 : PySem.W.keepIn K (.ref f9) = true)
  (a10 : PySem.W.nsIn K mainGlobals "_law_ring" = some (some (.ref f10))) (l10 : K.lookup f10 = some ⟨oc10, od10, .func (PySem.W.fnOf "_law_ring" "_law_ring" (defArgs s_l_ring) (defBody s_l_ring) (defScope s_l_ring) .none kV10 dc10 pm10 an10 cd10 ct10), sl10⟩) (c10 : PySem.W.codeIn K cd10 "_law_ring" = true) (k10 : PySem.W.keepIn K (.ref f10) = true)
  (a11 : PySem.W.nsIn K mainGlobals "_law_more" = some (some (.ref f11))) (l11 : K.lookup f11 = some ⟨oc11, od11, .func (PySem.W.fnOf "_law_more" "_law_more" (defArgs s_l_more) (defBody s_l_more) (defScope s_l_more) .none kV11 dc11 pm11 an11 cd11 ct11), sl11⟩) (c11 : PySem.W.codeIn K cd11 "_law_more" = true) (k11 : PySem.W.keepIn K (.ref f11) = true)
  (a12 : PySem.W.nsIn K mainGlobals "_law_one_way" = some (some (.ref f12))) (l12 : K.lookup f12 = some ⟨oc12, od12, .func (PySem.W.fnOf "_law_one_way" "_law_one_way" (defArgs s_l_one_way) (defBody s_l_one_way) (defScope s_l_one_way) .none kV12 dc12 pm12 an12 cd12 ct12), sl12⟩) (c12 : PySem.W.codeIn K cd12 "_law_one_way" = true) (k12 : PySem.W.keepIn K (.ref f12) = true)
  (a13 : PySem.W.nsIn K mainGlobals "_law_reader" = some (some (.ref f13))) (l13 : K.lookup f13 = some ⟨oc13, od13, .func (PySem.W.fnOf "_law_reader" "_law_reader" (defArgs s_l_reader) (defBody s_l_reader) (defScope s_l_reader) .none kV13 dc13 pm13 an13 cd13 ct13), sl13⟩) (c13 : PySem.W.codeIn K cd13 "_law_reader" = true) (k13 : PySem.W.keepIn K (.ref f13) = true)
  (a14 : PySem.W.nsIn K mainGlobals "_law_behind" = some (some (.ref f14))) (l14 : K.lookup f14 = some ⟨oc14, od14, .func (PySem.W.fnOf "_law_behind" "_law_behind" (defArgs s_l_behind) (defBody s_l_behind) (defScope s_l_behind) .none kV14 dc14 pm14 an14 cd14 ct14), sl14⟩) (c14 : PySem.W.codeIn K cd14 "_law_behind" = true) (k14 : PySem.W.keepIn K (.ref f14) = true)
  (a15 : PySem.W.nsIn K mainGlobals "_law_hanging" = some (some (.ref f15))) (l15 : K.lookup f15 = some ⟨oc15, od15, .func (PySem.W.fnOf "_law_hanging" "_law_hanging" (defArgs s_l_hanging) (defBody s_l_hanging) (defScope s_l_hanging) .none kV15 dc15 pm15 an15 cd15 ct15), sl15⟩) (c15 : PySem.W.codeIn K cd15 "_law_hanging" = true) (k15 : PySem.W.keepIn K (.ref f15) = true)
  (a16 : PySem.W.nsIn K mainGlobals "_law_plain_way" = some (some (.ref f16))) (l16 : K.lookup f16 = some ⟨oc16, od16, .func (PySem.W.fnOf "_law_plain_way" "_law_plain_way" (defArgs s_l_plain_way) (defBody s_l_plain_way) (defScope s_l_plain_way) .none kV16 dc16 pm16 an16 cd16 ct16), sl16⟩) (c16 : PySem.W.codeIn K cd16 "_law_plain_way" = true) (k16 : PySem.W.keepIn K (.ref f16) = true)
  (a17 : PySem.W.nsIn K mainGlobals "_law_is_read" = some (some (.ref f17))) (l17 : K.lookup f17 = some ⟨oc17, od17, .func (PySem.W.fnOf "_law_is_read" "_law_is_read" (defArgs s_l_is_read) (defBody s_l_is_read) (defScope s_l_is_read) .none kV17 dc17 pm17 an17 cd17 ct17), sl17⟩) (c17 : PySem.W.codeIn K cd17 "_law_is_read" = true) (k17 : PySem.W.keepIn K (.ref f17) = true)
  (a18 : PySem.W.nsIn K mainGlobals "_law_gone" = some (some (.ref f18))) (l18 : K.lookup f18 = some ⟨oc18, od18, .func (PySem.W.fnOf "_law_gone" "_law_gone" (defArgs s_l_gone) (defBody s_l_gone) (defScope s_l_gone) .none kV18 dc18 pm18 an18 cd18 ct18), sl18⟩) (c18 : PySem.W.codeIn K cd18 "_law_gone" = true) (k18 : PySem.W.keepIn K (.ref f18) = true)
  (a19 : PySem.W.nsIn K mainGlobals "_law_drawn_words" = some (some (.ref f19))) (l19 : K.lookup f19 = some ⟨oc19, od19, .func (PySem.W.fnOf "_law_drawn_words" "_law_drawn_words" (defArgs s_l_drawn_words) (defBody s_l_drawn_words) (defScope s_l_drawn_words) .none kV19 dc19 pm19 an19 cd19 ct19), sl19⟩) (c19 : PySem.W.codeIn K cd19 "_law_drawn_words" = true) (k19 : PySem.W.keepIn K (.ref f19) = true)
  (a20 : PySem.W.nsIn K mainGlobals "_law_same" = some (some (.ref f20))) (l20 : K.lookup f20 = some ⟨oc20, od20, .func (PySem.W.fnOf "_law_same" "_law_same" (defArgs s_l_same) (defBody s_l_same) (defScope s_l_same) .none kV20 dc20 pm20 an20 cd20 ct20), sl20⟩) (c20 : PySem.W.codeIn K cd20 "_law_same" = true) (k20 : PySem.W.keepIn K (.ref f20) = true)
  (a21 : PySem.W.nsIn K mainGlobals "_law_right" = some (some (.ref f21))) (l21 : K.lookup f21 = some ⟨oc21, od21, .func (PySem.W.fnOf "_law_right" "_law_right" (defArgs s_l_right) (defBody s_l_right) (defScope s_l_right) .none kV21 dc21 pm21 an21 cd21 ct21), sl21⟩) (c21 : PySem.W.codeIn K cd21 "_law_right" = true) (k21 : PySem.W.keepIn K (.ref f21) = true)
  (a22 : PySem.W.nsIn K mainGlobals "law" = some (some (.ref f22))) (l22 : K.lookup f22 = some ⟨oc22, od22, .func (PySem.W.fnOf "law" "law" (defArgs s_law) (defBody s_law) (defScope s_law) .none kV22 dc22 pm22 an22 cd22 ct22), sl22⟩) (c22 : PySem.W.codeIn K cd22 "law" = true) (k22 : PySem.W.keepIn K (.ref f22) = true)
  
  (z_len : PySem.W.nsIn K mainGlobals "len" = some none) (z_range : PySem.W.nsIn K mainGlobals "range" = some none) (z_list : PySem.W.nsIn K mainGlobals "list" = some none) (z_int : PySem.W.nsIn K mainGlobals "int" = some none) (z_isinstance : PySem.W.nsIn K mainGlobals "isinstance" = some none) (z_any : PySem.W.nsIn K mainGlobals "any" = some none) (z_all : PySem.W.nsIn K mainGlobals "all" = some none) (z_set : PySem.W.nsIn K mainGlobals "set" = some none) (z_tuple : PySem.W.nsIn K mainGlobals "tuple" = some none) (z_sorted : PySem.W.nsIn K mainGlobals "sorted" = some none) (z_bool : PySem.W.nsIn K mainGlobals "bool" = some none) :
  ∃ fd : FuncData, (∀ (s : Shared) (v : Value), BindsTo s fd ⟨[v], []⟩ [("_law_script", v)]) /\ ∀ base : Heap, K.In base -> base.Ns mainGlobals mg -> FnOk l.prog w K mg base CX0 5 fa fd ["_law_script"] (sp_lawH K) := by
 have e := hfa.symm.trans (PySem.W.mg_of X G a22)
 cases e
 have T : Blt mg := ⟨PySem.W.mg_none_of X G z_len, PySem.W.mg_none_of X G z_range, PySem.W.mg_none_of X G z_list, PySem.W.mg_none_of X G z_int, PySem.W.mg_none_of X G z_isinstance, PySem.W.mg_none_of X G z_any, PySem.W.mg_none_of X G z_all, PySem.W.mg_none_of X G z_set, PySem.W.mg_none_of X G z_tuple, PySem.W.mg_none_of X G z_sorted, PySem.W.mg_none_of X G z_bool⟩
 have F1 := fun_mk (st := s_met_from) l1 c1 k1
 have b1 := F1.binds (ps := ["nexts", "start"]) fun _ _ _ _ _ _ us hl => by obtain ⟨_, _, e⟩ := len2 us hl; subst e; rfl
 have F2 := fun_mk (st := s_all_meet_all) l2 c2 k2
 have b2 := F2.binds (ps := ["nexts"]) fun _ _ _ _ _ _ us hl => by obtain ⟨_, e⟩ := len1 us hl; subst e; rfl
 have F3 := fun_mk (st := s_led) l3 c3 k3
 have b3 := F3.binds (ps := ["arrows", "places", "mark"]) fun _ _ _ _ _ _ us hl => by obtain ⟨_, _, _, e⟩ := len3 us hl; subst e; rfl
 have F4 := fun_mk (st := s_reads) l4 c4 k4
 have b4 := F4.binds (ps := ["reader", "word"]) fun _ _ _ _ _ _ us hl => by obtain ⟨_, _, e⟩ := len2 us hl; subst e; rfl
 have F5 := fun_mk (st := s_together) l5 c5 k5
 have b5 := F5.binds (ps := ["reader"]) fun _ _ _ _ _ _ us hl => by obtain ⟨_, e⟩ := len1 us hl; subst e; rfl
 have F6 := fun_mk (st := s_one_way) l6 c6 k6
 have b6 := F6.binds (ps := ["reader"]) fun _ _ _ _ _ _ us hl => by obtain ⟨_, e⟩ := len1 us hl; subst e; rfl
 have F7 := fun_mk (st := s_l_cell_at) l7 c7 k7
 have b7 := F7.binds (ps := ["_law_script", "_law_k"]) fun _ _ _ _ _ _ us hl => by obtain ⟨_, _, e⟩ := len2 us hl; subst e; rfl
 have F8 := fun_mk (st := s_l_big) l8 c8 k8
 have b8 := F8.binds (ps := ["_law_script", "_law_at"]) fun _ _ _ _ _ _ us hl => by obtain ⟨_, _, e⟩ := len2 us hl; subst e; rfl
 have F9 := fun_mk (st := s_l_order) l9 c9 k9
 have b9 := F9.binds (ps := ["_law_many", "_law_big_here"]) fun _ _ _ _ _ _ us hl => by obtain ⟨_, _, e⟩ := len2 us hl; subst e; rfl
 have F10 := fun_mk (st := s_l_ring) l10 c10 k10
 have b10 := F10.binds (ps := ["_law_places", "_law_big_here"]) fun _ _ _ _ _ _ us hl => by obtain ⟨_, _, e⟩ := len2 us hl; subst e; rfl
 have F11 := fun_mk (st := s_l_more) l11 c11 k11
 have b11 := F11.binds (ps := ["_law_places", "_law_arrows", "_law_big_here", "_law_rare", "_law_most"]) fun _ _ _ _ _ _ us hl => by obtain ⟨_, _, _, _, _, e⟩ := len5 us hl; subst e; rfl
 have F12 := fun_mk (st := s_l_one_way) l12 c12 k12
 have b12 := F12.binds (ps := ["_law_places", "_law_big_here"]) fun _ _ _ _ _ _ us hl => by obtain ⟨_, _, e⟩ := len2 us hl; subst e; rfl
 have F13 := fun_mk (st := s_l_reader) l13 c13 k13
 have b13 := F13.binds (ps := ["_law_big_here", "_law_most"]) fun _ _ _ _ _ _ us hl => by obtain ⟨_, _, e⟩ := len2 us hl; subst e; rfl
 have F14 := fun_mk (st := s_l_behind) l14 c14 k14
 have b14 := F14.binds (ps := ["_law_reader_here", "_law_places", "_law_mark"]) fun _ _ _ _ _ _ us hl => by obtain ⟨_, _, _, e⟩ := len3 us hl; subst e; rfl
 have F15 := fun_mk (st := s_l_hanging) l15 c15 k15
 have b15 := F15.binds (ps := ["_law_reader_here"]) fun _ _ _ _ _ _ us hl => by obtain ⟨_, e⟩ := len1 us hl; subst e; rfl
 have F16 := fun_mk (st := s_l_plain_way) l16 c16 k16
 have b16 := F16.binds (ps := ["_law_reader_here"]) fun _ _ _ _ _ _ us hl => by obtain ⟨_, e⟩ := len1 us hl; subst e; rfl
 have F17 := fun_mk (st := s_l_is_read) l17 c17 k17
 have b17 := F17.binds (ps := ["_law_reader_here", "_law_word"]) fun _ _ _ _ _ _ us hl => by obtain ⟨_, _, e⟩ := len2 us hl; subst e; rfl
 have F18 := fun_mk (st := s_l_gone) l18 c18 k18
 have b18 := F18.binds (ps := ["_law_reader_here", "_law_big_here"]) fun _ _ _ _ _ _ us hl => by obtain ⟨_, _, e⟩ := len2 us hl; subst e; rfl
 have F19 := fun_mk (st := s_l_drawn_words) l19 c19 k19
 have b19 := F19.binds (ps := ["_law_reader_here", "_law_big_here"]) fun _ _ _ _ _ _ us hl => by obtain ⟨_, _, e⟩ := len2 us hl; subst e; rfl
 have F20 := fun_mk (st := s_l_same) l20 c20 k20
 have b20 := F20.binds (ps := ["_law_found", "_law_due"]) fun _ _ _ _ _ _ us hl => by obtain ⟨_, _, e⟩ := len2 us hl; subst e; rfl
 have F21 := fun_mk (st := s_l_right) l21 c21 k21
 have b21 := F21.binds (ps := ["_law_reader_here", "_law_words"]) fun _ _ _ _ _ _ us hl => by obtain ⟨_, _, e⟩ := len2 us hl; subst e; rfl
 have F22 := fun_mk (st := s_law) l22 c22 k22
 refine ⟨PySem.W.fnOf "law" "law" (defArgs s_law) (defBody s_law) (defScope s_law) .none kV22 dc22 pm22 an22 cd22 ct22, fun s v => .of_eq rfl, fun base _ _ => ?_⟩
 have D_met_from : Df l.prog w K mg base "met_from" ["nexts", "start"] 1 (DL.SpL K sp_met) := ⟨_, _, ok_met_from F1 T , PySem.W.mg_of X G a1, k1, b1⟩
 have D_all_meet_all : Df l.prog w K mg base "all_meet_all" ["nexts"] 2 (DL.SpL K sp_meet) := ⟨_, _, ok_all_meet_all F2 T D_met_from, PySem.W.mg_of X G a2, k2, b2⟩
 have D_led : Df l.prog w K mg base "led" ["arrows", "places", "mark"] 1 (DL.SpL K sp_led) := ⟨_, _, ok_led F3 T , PySem.W.mg_of X G a3, k3, b3⟩
 have D_reads : Df l.prog w K mg base "reads" ["reader", "word"] 2 (DL.SpL K sp_reads) := ⟨_, _, ok_reads F4 T D_led, PySem.W.mg_of X G a4, k4, b4⟩
 have D_together : Df l.prog w K mg base "together" ["reader"] 3 (DL.SpL K sp_together) := ⟨_, _, ok_together F5 T D_all_meet_all, PySem.W.mg_of X G a5, k5, b5⟩
 have D_one_way : Df l.prog w K mg base "one_way" ["reader"] 1 (DL.SpL K sp_one) := ⟨_, _, ok_one_way F6 T , PySem.W.mg_of X G a6, k6, b6⟩
 have D_l_cell_at : Df l.prog w K mg base "_law_cell_at" ["_law_script", "_law_k"] 1 (DL.SpL K sp_cell) := ⟨_, _, ok_l_cell_at F7 T , PySem.W.mg_of X G a7, k7, b7⟩
 have D_l_big : Df l.prog w K mg base "_law_big" ["_law_script", "_law_at"] 2 (DL.SpL K sp_big) := ⟨_, _, ok_l_big F8 T D_l_cell_at, PySem.W.mg_of X G a8, k8, b8⟩
 have D_l_order : Df l.prog w K mg base "_law_order" ["_law_many", "_law_big_here"] 1 (DL.SpL K sp_order) := ⟨_, _, ok_l_order F9 T , PySem.W.mg_of X G a9, k9, b9⟩
 have D_l_ring : Df l.prog w K mg base "_law_ring" ["_law_places", "_law_big_here"] 2 (DL.SpL K sp_ring) := ⟨_, _, ok_l_ring F10 T D_l_order, PySem.W.mg_of X G a10, k10, b10⟩
 have D_l_more : Df l.prog w K mg base "_law_more" ["_law_places", "_law_arrows", "_law_big_here", "_law_rare", "_law_most"] 1 (DL.SpLO K sp_more) := ⟨_, _, ok_l_more F11 T , PySem.W.mg_of X G a11, k11, b11⟩
 have D_l_one_way : Df l.prog w K mg base "_law_one_way" ["_law_places", "_law_big_here"] 3 (DL.SpL K sp_one_way) := ⟨_, _, ok_l_one_way F12 T D_l_ring, PySem.W.mg_of X G a12, k12, b12⟩
 have D_l_reader : Df l.prog w K mg base "_law_reader" ["_law_big_here", "_law_most"] 4 (DL.SpL K sp_reader) := ⟨_, _, ok_l_reader F13 T D_l_ring D_l_more D_l_one_way, PySem.W.mg_of X G a13, k13, b13⟩
 have D_l_behind : Df l.prog w K mg base "_law_behind" ["_law_reader_here", "_law_places", "_law_mark"] 1 (DL.SpL K sp_behind) := ⟨_, _, ok_l_behind F14 T , PySem.W.mg_of X G a14, k14, b14⟩
 have D_l_hanging : Df l.prog w K mg base "_law_hanging" ["_law_reader_here"] 1 (DL.SpL K sp_together) := ⟨_, _, ok_l_hanging F15 T , PySem.W.mg_of X G a15, k15, b15⟩
 have D_l_plain_way : Df l.prog w K mg base "_law_plain_way" ["_law_reader_here"] 1 (DL.SpL K sp_one) := ⟨_, _, ok_l_plain_way F16 T , PySem.W.mg_of X G a16, k16, b16⟩
 have D_l_is_read : Df l.prog w K mg base "_law_is_read" ["_law_reader_here", "_law_word"] 2 (DL.SpL K sp_reads) := ⟨_, _, ok_l_is_read F17 T D_l_behind, PySem.W.mg_of X G a17, k17, b17⟩
 have D_l_gone : Df l.prog w K mg base "_law_gone" ["_law_reader_here", "_law_big_here"] 1 (DL.SpL K sp_gone) := ⟨_, _, ok_l_gone F18 T , PySem.W.mg_of X G a18, k18, b18⟩
 have D_l_drawn_words : Df l.prog w K mg base "_law_drawn_words" ["_law_reader_here", "_law_big_here"] 2 (DL.SpL K sp_drawn) := ⟨_, _, ok_l_drawn_words F19 T D_l_gone, PySem.W.mg_of X G a19, k19, b19⟩
 have D_l_same : Df l.prog w K mg base "_law_same" ["_law_found", "_law_due"] 1 (DL.SpL K sp_same) := ⟨_, _, ok_l_same F20 T , PySem.W.mg_of X G a20, k20, b20⟩
 have D_l_right : Df l.prog w K mg base "_law_right" ["_law_reader_here", "_law_words"] 4 (DL.SpL K sp_right) := ⟨_, _, ok_l_right F21 T D_reads D_l_is_read D_together D_l_hanging D_one_way D_l_plain_way D_l_same, PySem.W.mg_of X G a21, k21, b21⟩
 exact ok_law F22 T D_l_big D_l_reader D_l_drawn_words D_l_right
theorem walk {l : PySem.W.OpenLaw} {q : Program} {loose : List Str} {XP : (Str -> Option Value) -> Heap -> Prop} {YP : World -> Heap -> Prop} {d : DefRec} {K : Params -> W.Frag} (hn : l.most = some 63) (hdf : d.params.defaults = [])
  (hY : ∀ (w : World) (h : Heap), YP w h -> (K w.params).In h)
  (F : ∀ (w : World) (mg : Str -> Option Value) (fa : Addr) (h : Heap), (K w.params).In h -> h.Ns mainGlobals mg -> mg d.name = some (.ref fa) ->
   ∃ fd : FuncData, (∀ (s : Shared) (u : Value), BindsTo s fd ⟨[u], []⟩ [("_law_script", u)]) /\ ∀ base : Heap, (K w.params).In base -> base.Ns mainGlobals mg -> FnOk l.prog w (K w.params) mg base CX0 5 fa fd ["_law_script"] (sp_lawH (K w.params))) :
  PySem.W.WalkO q loose XP YP l.row.toRowW d [] (fun f vs => PySem.call f vs) :=
 L2.walk_of (n := 63) (k := 5) (x := "_law_script") (CX := fun _ => CX0) (sp := fun w => sp_lawH (K w.params)) hn (by decide) hdf ⟨rfl, by decide, by decide⟩ hY F (fun _ _ a ns hl _ hS => ⟨a, ns, rfl, hS, fun _ => rfl⟩) fun _ _ _ _ _ z => z
end K25
open PySem PySem.W PyProof.Rows
set_option maxRecDepth 100000 in
set_option maxHeartbeats 0 in
theorem PySem.Challenge.cw_foreverrows_k25_words_read_holds : PySem.Challenge.rw_foreverrows_k25_words_read.Holds := by
 w_on; o_law; k_head; (case hw => w_witness2)
 k_fill
 refine K25.walk (l := PySem.Challenge.rw_foreverrows_k25_words_read) rfl rfl (fun w h Y => PySem.W.kIn_of Y) ?F
 case F =>
  intro w mg fa h KX G hmg
  refine' K25.all_mk KX G hmg ?a1 ?l1 ?c1 ?k1 ?a2 ?l2 ?c2 ?k2 ?a3 ?l3 ?c3 ?k3 ?a4 ?l4 ?c4 ?k4 ?a5 ?l5 ?c5 ?k5 ?a6 ?l6 ?c6 ?k6 ?a7 ?l7 ?c7 ?k7 ?a8 ?l8 ?c8 ?k8 ?a9 ?l9 ?c9 ?k9 ?a10 ?l10 ?c10 ?k10 ?a11 ?l11 ?c11 ?k11 ?a12 ?l12 ?c12 ?k12 ?a13 ?l13 ?c13 ?k13 ?a14 ?l14 ?c14 ?k14 ?a15 ?l15 ?c15 ?k15 ?a16 ?l16 ?c16 ?k16 ?a17 ?l17 ?c17 ?k17 ?a18 ?l18 ?c18 ?k18 ?a19 ?l19 ?c19 ?k19 ?a20 ?l20 ?c20 ?k20 ?a21 ?l21 ?c21 ?k21 ?a22 ?l22 ?c22 ?k22 ?z_len ?z_range ?z_list ?z_int ?z_isinstance ?z_any ?z_all ?z_set ?z_tuple ?z_sorted ?z_bool
  (case a1 => k_is)
  (case l1 => k_is)
  (case c1 => k_is)
  (case k1 => k_is)
  (case a2 => k_is)
  (case l2 => k_is)
  (case c2 => k_is)
  (case k2 => k_is)
  (case a3 => k_is)
  (case l3 => k_is)
  (case c3 => k_is)
  (case k3 => k_is)
  (case a4 => k_is)
  (case l4 => k_is)
  (case c4 => k_is)
  (case k4 => k_is)
  (case a5 => k_is)
  (case l5 => k_is)
  (case c5 => k_is)
  (case k5 => k_is)
  (case a6 => k_is)
  (case l6 => k_is)
  (case c6 => k_is)
  (case k6 => k_is)
  (case a7 => k_is)
  (case l7 => k_is)
  (case c7 => k_is)
  (case k7 => k_is)
  (case a8 => k_is)
  (case l8 => k_is)
  (case c8 => k_is)
  (case k8 => k_is)
  (case a9 => k_is)
  (case l9 => k_is)
  (case c9 => k_is)
  (case k9 => k_is)
  (case a10 => k_is)
  (case l10 => k_is)
  (case c10 => k_is)
  (case k10 => k_is)
  (case a11 => k_is)
  (case l11 => k_is)
  (case c11 => k_is)
  (case k11 => k_is)
  (case a12 => k_is)
  (case l12 => k_is)
  (case c12 => k_is)
  (case k12 => k_is)
  (case a13 => k_is)
  (case l13 => k_is)
  (case c13 => k_is)
  (case k13 => k_is)
  (case a14 => k_is)
  (case l14 => k_is)
  (case c14 => k_is)
  (case k14 => k_is)
  (case a15 => k_is)
  (case l15 => k_is)
  (case c15 => k_is)
  (case k15 => k_is)
  (case a16 => k_is)
  (case l16 => k_is)
  (case c16 => k_is)
  (case k16 => k_is)
  (case a17 => k_is)
  (case l17 => k_is)
  (case c17 => k_is)
  (case k17 => k_is)
  (case a18 => k_is)
  (case l18 => k_is)
  (case c18 => k_is)
  (case k18 => k_is)
  (case a19 => k_is)
  (case l19 => k_is)
  (case c19 => k_is)
  (case k19 => k_is)
  (case a20 => k_is)
  (case l20 => k_is)
  (case c20 => k_is)
  (case k20 => k_is)
  (case a21 => k_is)
  (case l21 => k_is)
  (case c21 => k_is)
  (case k21 => k_is)
  (case a22 => k_is)
  (case l22 => k_is)
  (case c22 => k_is)
  (case k22 => k_is)
  (case z_len => k_is)
  (case z_range => k_is)
  (case z_list => k_is)
  (case z_int => k_is)
  (case z_isinstance => k_is)
  (case z_any => k_is)
  (case z_all => k_is)
  (case z_set => k_is)
  (case z_tuple => k_is)
  (case z_sorted => k_is)
  (case z_bool => k_is)
