import PyProof.Rows.All
import Wide.All
import OpenK.AllK
import Wide.FinOn
import Lean
import PyProof.EqAt
import PyProof.EqKinds
import PyProof.TupleCall
import PyProof.NeData
import PyProof.P3Eq
import PyProof.EnumMake
import PyProof.EnumFor
import PyProof.ConsumeWalk
import PyProof.ListRange
import PyProof.ZipIter
import KE.IntBitsLaws
import KE.RegMulBits
import PyProof.ExcArgs
import PyProof.DictWalks
import KE.KRevSl
import PyProof.DictItems
import PyProof.DictDisplay
import PyProof.SeqI3
import PyProof.NsDelKeeps
import PyProof.StrWalks
import PyProof.StrBlockH
import PyProof.StrBlock2
import KE.KMinKey
import PyProof.Rows.CallKwBuiltin
import KE.KIntText
import PyProof.StrCalls2
import PyProof.StrLawsTight
import PyProof.Rows.StrItems
import PyProof.FactsAll.tuple_1
import PyProof.FactsAll.tuple_2
import PyProof.FString5
import PyProof.Rows.RuleC_int
import KE.KRevIter
import PyProof.StrReplace2
import PyProof.Rows.SetFrom
import PySem.Challenge.RW_foreverrows_k52_joined
set_option Elab.async false
set_option linter.all false
set_option maxRecDepth 100000
open List (mem_range mem_cons_self mem_cons_of_mem mem_cons mem_append mem_append_left mem_append_right append_nil nodup_cons length_take length_append length_map map_cons length_drop size_toArray length_set replicate_succ flatten_cons append_assoc nil_append mem_map all_eq_true any_eq_true getD_eq_getElem?_getD mem_singleton length_range length_cons nodup_nil nodup_append mem_of_mem_take map_append map_map map_take take_length mem_iff_getElem?)
namespace L2
open PySem PySem.Spec PyProof.Rows
abbrev Key:=Sum Int Str
def keyIs : Key -> Value -> Bool
 | .inl k,v=>Value.isInt k v
 | .inr x,v=>Value.isStrOf x v
def keyH (w : World) : Key -> Int
 | .inl k=>hashInt k
 | .inr x=>hashStr w x
theorem keyIs_shape : ∀ {k : Key} {v : Value},keyIs k v = true -> (∃ i t,k = Sum.inl i /\ v = Value.int i t) \/ (∃ x t,k = Sum.inr x /\ v = Value.str x t)
 | .inl i,v,h=>by
  obtain ⟨t,e⟩:=Value.isInt_shape (k:=i) (v:=v) h
  exact .inl ⟨i,t,rfl,e⟩
 | .inr x,v,h=>by
  obtain ⟨t,e⟩:=Value.isStrOf_shape (x:=x) (v:=v) h
  exact .inr ⟨x,t,rfl,e⟩
theorem keyIs_int (i : Int) (t : Tok) : keyIs (.inl i) (.int i t) = true:=by simp [keyIs,Value.isInt]
theorem keyIs_str (x : Str) (t : Tok) : keyIs (.inr x) (.str x t) = true:=by simp [keyIs,Value.isStrOf]
theorem key_ll (a b : Int) : decide ((Sum.inl a : Key) = Sum.inl b) = (a == b):=by
 by_cases e : a = b
 ·subst e; simp
 ·have h : ¬ (Sum.inl a : Key) = Sum.inl b:=fun q=>e (Sum.inl.inj q)
  rw [decide_eq_false h]
  exact (beq_eq_false_iff_ne.mpr e).symm
theorem key_rr (a b : Str) : decide ((Sum.inr a : Key) = Sum.inr b) = decide (a = b):=by
 by_cases e : a = b
 ·subst e; simp
 ·have h : ¬ (Sum.inr a : Key) = Sum.inr b:=fun q=>e (Sum.inr.inj q)
  rw [decide_eq_false h,decide_eq_false e]
theorem key_lr (a : Int) (b : Str) : decide ((Sum.inl a : Key) = Sum.inr b) = false:=decide_eq_false (fun q=>nomatch q)
theorem key_rl (a : Str) (b : Int) : decide ((Sum.inr a : Key) = Sum.inl b) = false:=decide_eq_false (fun q=>nomatch q)
def mixKind (prog : Program) (w : World) : PySem.KeyKind prog w Key where
 is:=keyIs
 hash:=keyH w
 inj:=fun v a b ha hb=>by
  rcases keyIs_shape ha with ⟨i,t,rfl,rfl⟩ | ⟨x,t,rfl,rfl⟩
  ·rcases keyIs_shape hb with ⟨j,u,rfl,e⟩ | ⟨y,u,rfl,e⟩
   ·injection e with e1 _; rw [e1]
   ·exact nomatch e
  ·rcases keyIs_shape hb with ⟨j,u,rfl,e⟩ | ⟨y,u,rfl,e⟩
   ·exact nomatch e
   ·injection e with e1 _; rw [e1]
 byValue:=fun k v h=>by
  rcases keyIs_shape h with ⟨i,t,rfl,rfl⟩ | ⟨x,t,rfl,rfl⟩ <;> rfl
 pyHash:=fun hv h=>by
  rcases keyIs_shape hv with ⟨i,t,rfl,rfl⟩ | ⟨x,t,rfl,rfl⟩
  ·exact wpAny_pyHash_int h
  ·exact wpAny_pyHash_str h
 eqBool:=fun hu hv h=>by
  rcases keyIs_shape hu with ⟨i,t,rfl,rfl⟩ | ⟨x,t,rfl,rfl⟩
  ·rcases keyIs_shape hv with ⟨j,u,rfl,rfl⟩ | ⟨y,u,rfl,rfl⟩
   ·rw [key_ll] at h; exact wpAny_eqBool_int h
   ·rw [key_lr] at h; exact SeqAt.EqAt.int_str i t y u _ _ _ _ h
  ·rcases keyIs_shape hv with ⟨j,u,rfl,rfl⟩ | ⟨y,u,rfl,rfl⟩
   ·rw [key_rl] at h; exact SeqAt.EqAt.str_int x t j u _ _ _ _ h
   ·rw [key_rr] at h; exact wpAny_eqBool_str h
 «strs»:=fun k x t v h=>by
  rcases keyIs_shape h with ⟨i,u,rfl,e⟩ | ⟨y,u,rfl,e⟩
  ·exact nomatch e
  ·injection e with e1 _
   subst e1
   cases v <;> rfl
theorem mixKind_int (prog : Program) (w : World) (i : Int) (t : Tok) : (mixKind prog w).is (.inl i) (.int i t) = true:=keyIs_int i t
theorem mixKind_str (prog : Program) (w : World) (x : Str) (t : Tok) : (mixKind prog w).is (.inr x) (.str x t) = true:=keyIs_str x t
inductive V where
 | non | bl (b : Bool) | int (i : Int) | str (x : Str) | byt (b : Array UInt8) | flt (b : UInt64) | ref (a : Addr) | ty (n : String)
 deriving DecidableEq
def RelV : V -> Value -> Prop
 | .non,u=>u = Value.none
 | .bl b,u=>u = Value.bool b
 | .int i,u=>∃ t,u = Value.int i t
 | .str x,u=>∃ t,u = Value.str x t
 | .byt b,u=>∃ t,u = Value.bytes b t
 | .flt b,u=>∃ t,u = Value.float b t
 | .ref a,u=>u = Value.ref a
 | .ty n,u=>u = Value.type n
abbrev Vals : List V -> List Value -> Prop:=Paired RelV
theorem Vals.length {xs : List V} {us : List Value} (r : Vals xs us) : xs.length = us.length:=Paired.length r
theorem Vals.get : ∀ {xs : List V} {us : List Value} {i : Nat} {x : V},Vals xs us -> xs[i]? = some x -> ∃ u,us[i]? = some u /\ RelV x u
 | _,_,_,_,.nil,e=>by simp at e
 | _,_,0,_,.cons r _,e=>by simp at e; subst e; exact ⟨_,rfl,r⟩
 | _,_,i + 1,x,.cons _ t,e=>by
  obtain ⟨u,h1,h2⟩:=Vals.get (i:=i) (x:=x) t (by simpa using e)
  exact ⟨u,by simpa using h1,h2⟩
theorem Vals.set {x : V} {u : Value} (r : RelV x u) : ∀ {xs : List V} {us : List Value} (i : Nat),Vals xs us -> Vals (xs.set i x) (us.set i u)
 | _,_,_,.nil=>.nil
 | _,_,0,.cons _ t=>.cons r t
 | _,_,i + 1,.cons q t=>.cons q (Vals.set r i t)
theorem Vals.append : ∀ {xs ys : List V} {us ws : List Value},Vals xs us -> Vals ys ws -> Vals (xs ++ ys) (us ++ ws)
 | _,_,_,_,.nil,s=>s
 | _,_,_,_,.cons r t,s=>.cons r (Vals.append t s)
theorem Vals.take : ∀ {xs : List V} {us : List Value} (n : Nat),Vals xs us -> Vals (xs.take n) (us.take n)
 | _,_,0,_=>.nil
 | _,_,_ + 1,.nil=>.nil
 | _,_,n + 1,.cons r t=>.cons r (Vals.take n t)
theorem Vals.drop : ∀ {xs : List V} {us : List Value} (n : Nat),Vals xs us -> Vals (xs.drop n) (us.drop n)
 | _,_,0,r=>r
 | _,_,_ + 1,.nil=>.nil
 | _,_,n + 1,.cons _ t=>Vals.drop n t
def RelO : Option V -> Option Value -> Prop
 | some v,some u=>RelV v u
 | none,none=>True
 | _,_=>False
def KV {κ : Type} : List (κ × V) -> List (κ × Value) -> Prop:=Paired fun (p : κ × V) (q : κ × Value)=>p.1 = q.1 /\ RelV p.2 q.2
def kV : Key -> V
 | .inl i=>.int i
 | .inr x=>.str x
inductive HO where
 /-- a list -/
 | lst (xs : List V)
 /-- a tuple (never changes) -/
 | tup (xs : List V)
 /-- a dict whose keys are ints and texts; one whose keys are tuples of ints and texts (the empty one is both) -/
 | dK (kvs : List (Key × V)) | dT (kvs : List (List Key × V))
 /-- a set of ints: its members,its size -/
 | set (S : Int -> Bool) (n : Nat)
 /-- an instance of the class at C,its dict at dx,its attributes -/
 | ins (C dx : Addr) (fs : List (Str × V))
 /-- the dict of the instance at x -/
 | own (x : Addr)
 /-- the dict of an exception -/
 | xd (fs : List (Str × V))
 /-- a bound method,f of x -/
 | met (f x : Addr)
 /-- a range object lo,lo + 1,.. below hi -/
 | rng (lo hi : Int)
 /-- a thing that is known to the object (the script; a dict while a loop walks it): read,never written while it is so -/
 | frz (o : Obj) (u : HO)
 /-- a code object's table -/
 | tbl (ps : Array Value)
 /-- any other thing,by what is true of its one object (a def of one's own: SetO a S n:=HO.ext fun h=>..) -/
 | ext (φ : Heap -> Prop)
abbrev Hp:=Addr -> Option HO
def upd (H : Hp) (a : Addr) (o : HO) : Hp:=fun b=>if b = a then some o else H b
theorem upd_same {H : Hp} {a : Addr} {o : HO} : upd H a o a = some o:=by unfold upd; rw [if_pos rfl]
theorem upd_ne {H : Hp} {a b : Addr} {o : HO} (h : b ≠ a) : upd H a o b = H b:=by unfold upd; rw [if_neg h]
theorem ne_of_none {H : Hp} {a b : Addr} {o : HO} (h : H a = some o) (h' : H b = none) : a ≠ b:=by
 intro e; subst e; rw [h] at h'; cases h'
section
variable (P : Program) (w : World)
def ObjOk (H : Hp) (h : Heap) (a : Addr) : HO -> Prop
 | .lst xs=>xs.length <= sizeLine /\ ∃ (its : List Value) (n : Nat),Vals xs its /\ h.get? a = some { cls:=.type "list",data:=.seq its.toArray n }
 | .tup xs=>xs.length <= sizeLine /\ ∃ its : List Value,Vals xs its /\ IsTup h a its.toArray
 | .dK kvs=>kvs.length <= sizeLine /\ (a == sysModules) = false /\ ∃ vs,KV kvs vs /\ h.DictOf (mixKind P w) a vs
 | .dT kvs=>kvs.length <= sizeLine /\ (a == sysModules) = false /\ ∃ xs : List (List Key × Addr × Value),
   Paired (fun (p : List Key × V) (q : List Key × Addr × Value)=>p.1 = q.1 /\ H q.2.1 = some (.tup (p.1.map kV)) /\ RelV p.2 q.2.2) kvs xs /\
   ∃ o es ep,h.get? a = some o /\ o.ExactDict /\ o.data = .dict es ep /\ es.toList = xs.map (entryOfKey (tupleKind (mixKind P w))) /\ (xs.map (·.1)).Nodup
 | .set S n=>h.SetOf (intKind P w) a S n
 | .ins C dx fs=>H dx = some (.own a) /\ fs.length <= 1000 /\ dx ≠ a /\ h.get? a = some (PySem.W.instObj C dx) /\
   ∃ mA,h.Ns1 dx mA /\ (∀ f,RelO (fs.lookup f) (mA f)) /\ PySem.Within mA (fs.map (·.1))
 | .own _=>∃ o,h.get? a = some o
 | .xd fs=>∃ mA,h.Ns1 a mA /\ ∀ f,RelO (fs.lookup f) (mA f)
 | .rng lo hi=>∃ t u v,h.get? a = some { cls:=.type "range",data:=.fields #[.int lo t,.int hi u,.int 1 v] }
 | .frz o u=>h.get? a = some o /\ ObjOk H h a u
 | .tbl ps=>h.get? a = some { cls:=.none,data:=.fields ps }
 | .met f x=>h.get? a = some (PySem.W.methodObj (.ref f) (.ref x))
 | .ext φ=>φ h /\ (∃ o,h.get? a = some o) /\ ∀ h1 h2 : Heap,φ h1 -> (∀ o,h1.get? a = some o -> h2.get? a = some o) -> φ h2
def HOk (H : Hp) (h : Heap) : Prop:=∀ a o,H a = some o -> ObjOk P w H h a o
end
section
variable {P : Program} {w : World} {H H' : Hp} {h h' : Heap} {a : Addr} {o : HO}
theorem ObjOk.lt (x : ObjOk P w H h a o) : a < h.objs.size:=by
 cases o with
 | lst xs=>obtain ⟨_,_,_,_,e⟩:=x; exact Heap.lt_size e
 | tup xs=>obtain ⟨_,_,_,p⟩:=x; exact p.lt
 | dK kvs=>obtain ⟨_,_,_,_,o,_,_,e,_⟩:=x; exact Heap.lt_size e
 | dT kvs=>obtain ⟨_,_,_,_,o,_,_,e,_⟩:=x; exact Heap.lt_size e
 | set S n=>obtain ⟨o,_,_,_,e,_⟩:=x; exact Heap.lt_size e
 | ins C dx fs=>obtain ⟨_,_,_,e,_⟩:=x; exact Heap.lt_size e
 | own y=>obtain ⟨_,e⟩:=x; exact Heap.lt_size e
 | xd fs=>obtain ⟨_,⟨_,_,_,e,_⟩,_⟩:=x; exact Heap.lt_size e
 | rng lo hi=>obtain ⟨_,_,_,e⟩:=x; exact Heap.lt_size e
 | frz ob u=>obtain ⟨e,_⟩:=x; exact Heap.lt_size e
 | tbl ps=>exact Heap.lt_size (show h.get? a = some _ from x)
 | met f y=>exact Heap.lt_size (show h.get? a = some _ from x)
 | ext φ=>obtain ⟨_,⟨_,e⟩,_⟩:=x; exact Heap.lt_size e
theorem Paired.mapP {α β : Type} {F G : α -> β -> Prop} : ∀ {l₁ : List α} {l₂ : List β},Paired F l₁ l₂ -> (∀ a b,F a b -> G a b) -> Paired G l₁ l₂
 | _,_,.nil,_=>.nil
 | _,_,.cons r t,f=>.cons (f _ _ r) (Paired.mapP t f)
theorem ObjOk.stay (x : ObjOk P w H h a o) (k : ∀ b u,(b = a \/ H b = some (.own a)) -> h.get? b = some u -> h'.get? b = some u)
  (ho : ∀ b,H b = some (.own a) -> H' b = some (.own a)) (ht : ∀ b xs,H b = some (.tup xs) -> H' b = some (.tup xs)) : ObjOk P w H' h' a o:=by
 induction o with
 | lst xs=>obtain ⟨z,its,n,r,e⟩:=x; exact ⟨z,its,n,r,k _ _ (.inl rfl) e⟩
 | tup xs=>obtain ⟨z,its,r,ob,e,c⟩:=x; exact ⟨z,its,r,ob,k _ _ (.inl rfl) e,c⟩
 | dK kvs=>obtain ⟨z,y,vs,r,ob,es,ep,e,c⟩:=x; exact ⟨z,y,vs,r,ob,es,ep,k _ _ (.inl rfl) e,c⟩
 | dT kvs =>
  obtain ⟨z,y,xs,r,ob,es,ep,e,c⟩:=x
  exact ⟨z,y,xs,Paired.mapP r fun p q z=>⟨z.1,ht _ _ z.2.1,z.2.2⟩,ob,es,ep,k _ _ (.inl rfl) e,c⟩
 | set S n=>obtain ⟨ob,es,ep,t,e,c⟩:=x; exact ⟨ob,es,ep,t,k _ _ (.inl rfl) e,c⟩
 | ins C dx fs =>
  obtain ⟨d,z,ne,e,mA,⟨od,es,ep,e2,c⟩,r⟩:=x
  exact ⟨ho _ d,z,ne,k _ _ (.inl rfl) e,mA,⟨od,es,ep,k _ _ (.inr d) e2,c⟩,r⟩
 | own y=>obtain ⟨ob,e⟩:=x; exact ⟨ob,k _ _ (.inl rfl) e⟩
 | xd fs=>obtain ⟨mA,⟨od,es,ep,e,c⟩,r⟩:=x; exact ⟨mA,⟨od,es,ep,k _ _ (.inl rfl) e,c⟩,r⟩
 | rng lo hi=>obtain ⟨t,u,v,e⟩:=x; exact ⟨t,u,v,k _ _ (.inl rfl) e⟩
 | frz ob u ih=>obtain ⟨e,q⟩:=x; exact ⟨k _ _ (.inl rfl) e,ih q⟩
 | tbl ps =>
  have e : h.get? a = some { cls:=.none,data:=.fields ps }:=x
  show h'.get? a = some { cls:=.none,data:=.fields ps }
  exact k a _ (.inl rfl) e
 | met f y =>
  have e : h.get? a = some (PySem.W.methodObj (.ref f) (.ref y)):=x
  show h'.get? a = some (PySem.W.methodObj (.ref f) (.ref y))
  exact k a _ (.inl rfl) e
 | ext φ=>obtain ⟨p,⟨o,e⟩,st⟩:=x; exact ⟨st _ _ p fun o q=>k _ _ (.inl rfl) q,⟨o,k _ _ (.inl rfl) e⟩,st⟩
theorem HOk.lt (x : HOk P w H h) (e : H a = some o) : a < h.objs.size:=(x a o e).lt
theorem HOk.fresh (x : HOk P w H h) (e : h.objs.size <= a) : H a = none:=by
 cases q : H a with
 | none=>rfl
 | some u=>exact absurd (Nat.lt_of_lt_of_le (x.lt q) e) (Nat.lt_irrefl _)
theorem HOk.kept (x : HOk P w H h) (k : ∀ b u,h.get? b = some u -> h'.get? b = some u) : HOk P w H h':=fun a o e =>
 (x a o e).stay (fun b u _ q=>k b u q) (fun _ q=>q) fun _ _ q=>q
theorem HOk.laid (x : HOk P w H h) (k : ∀ b u,h.get? b = some u -> h'.get? b = some u) (hp : h.objs.size <= a) (new : ObjOk P w (upd H a o) h' a o) : HOk P w (upd H a o) h':=fun b u e=>by
 have hn:=x.fresh hp
 by_cases hb : b = a
 ·subst hb; rw [upd_same] at e; cases e; exact new
 ·rw [upd_ne hb] at e
  exact (x b u e).stay (fun c v _ q=>k c v q) (fun c q=>by rw [upd_ne (ne_of_none q hn)]; exact q) fun c xs q=>by rw [upd_ne (ne_of_none q hn)]; exact q
end
def Rd (H : Hp) (a : Addr) (u : HO) : Prop:=H a = some u \/ ∃ o,H a = some (.frz o u)
theorem Rd.ok {P : Program} {w : World} {H : Hp} {h : Heap} {a : Addr} {u : HO} (r : Rd H a u) (x : HOk P w H h) : ObjOk P w H h a u:=by
 rcases r with r | ⟨o,r⟩
 ·exact x a u r
 ·obtain ⟨_,q⟩:=x a _ r
  exact q
def Mut : Option HO -> Prop
 | some (.lst _)=>True
 | some (.dK _)=>True
 | some (.dT _)=>True
 | some (.set _ _)=>True
 | some (.ins _ _ _)=>True
 | some (.ext _)=>True
 | _=>False
section
variable {P : Program} {w : World} {H : Hp} {h h' : Heap} {x e : Addr} {o' : HO}
theorem HOk.write (ok : HOk P w H h) (mu : Mut (H x)) (he : e = x \/ H e = some (.own x)) (k : ∀ b u,b ≠ e -> h.get? b = some u -> h'.get? b = some u) (heo : ∃ u,h'.get? e = some u)
  (new : ObjOk P w (upd H x o') h' x o') : HOk P w (upd H x o') h':=fun b u q=>by
 have nown : ∀ c y,H c = some (.own y) -> c ≠ x:=fun c y r z=>by subst z; rw [r] at mu; exact mu
 have ntup : ∀ c xs,H c = some (.tup xs) -> c ≠ x:=fun c xs r z=>by subst z; rw [r] at mu; exact mu
 by_cases hb : b = x
 ·subst hb; rw [upd_same] at q; cases q; exact new
 ·rw [upd_ne hb] at q
  by_cases hbe : b = e
  ·have q' : H b = some (.own x):=by
    rcases he with z | z
    ·exact absurd (hbe.trans z) hb
    ·rw [hbe]; exact z
   rw [q] at q'; cases q'
   obtain ⟨v,hv⟩:=heo
   exact ⟨v,by rw [hbe]; exact hv⟩
  ·refine (ok b u q).stay (fun c v hc r=>k c v ?_ r) (fun c r=>by rw [upd_ne (nown c b r)]; exact r) fun c xs r=>by rw [upd_ne (ntup c xs r)]; exact r
   rcases hc with rfl | hc
   ·exact hbe
   ·rintro rfl
    rcases he with z | z
    ·exact nown c b hc z
    ·rw [hc] at z; cases z; exact hb rfl
end
structure Un (fs ex : List Addr) (H H' : Hp) (h h' : Heap) : Prop where
 keep : ∀ b o,h.get? b = some o -> H b = none -> b ∉ fs -> b ∉ ex -> h'.get? b = some o
 slot : ∀ b o,h.get? b = some o -> H b = none -> b ∈ fs -> b ∉ ex -> ∃ sl,h'.get? b = some { o with slots:=sl }
 free : ∀ b o,h.get? b = some o -> H b = none -> b ∉ ex -> H' b = none
 there : ∀ b o,h.get? b = some o -> b ∉ ex -> ∃ o',h'.get? b = some o'
 tups : ∀ b xs,H b = some (.tup xs) -> H' b = some (.tup xs)
 frzs : ∀ b o u,H b = some (.frz o u) -> H' b = some (.frz o u)
 tbls : ∀ b ps,H b = some (.tbl ps) -> ∃ more,H' b = some (.tbl (ps ++ more))
section
variable {fs ex : List Addr} {H H1 : Hp} {h h1 h' : Heap} {a x e : Addr} {o : HO}
theorem Un.any (u : Un fs ex H H1 h h1) {b : Addr} {ob : Obj} (q : h.get? b = some ob) (n : H b = none) (hx : b ∉ ex) : ∃ sl,h1.get? b = some { ob with slots:=sl }:=by
 by_cases hb : b ∈ fs
 ·exact u.slot b ob q n hb hx
 ·exact ⟨ob.slots,u.keep b ob q n hb hx⟩
theorem Un.kept (k : ∀ b u,h.get? b = some u -> h'.get? b = some u) : Un fs ex H H h h' :=
 ⟨fun b ob q _ _ _=>k b ob q,fun b ob q _ _ _=>⟨ob.slots,k b ob q⟩,fun _ _ _ n _=>n,fun b ob q _=>⟨ob,k b ob q⟩,fun _ _ q=>q,fun _ _ _ q=>q,fun _ ps q=>⟨#[],by rw [q]; simp⟩⟩
theorem Un.refl : Un fs ex H H h h:=Un.kept fun _ _ q=>q
theorem Un.laid (k : ∀ b u,h.get? b = some u -> h'.get? b = some u) (hp : h.objs.size <= a) (hn : H a = none) : Un fs ex H (upd H a o) h h' where
 keep:=fun b u q _ _ _=>k b u q
 slot:=fun b u q _ _ _=>⟨u.slots,k b u q⟩
 free:=fun b u q n _=>by rw [upd_ne (Nat.ne_of_lt (Nat.lt_of_lt_of_le (Heap.lt_size q) hp))]; exact n
 there:=fun b u q _=>⟨u,k b u q⟩
 tups:=fun b xs q=>by rw [upd_ne (ne_of_none q hn)]; exact q
 frzs:=fun b u xs q=>by rw [upd_ne (ne_of_none q hn)]; exact q
 tbls:=fun b ps q=>⟨#[],by rw [upd_ne (ne_of_none q hn),q]; simp⟩
theorem Un.write (mu : Mut (H x)) (he : e = x \/ H e = some (.own x)) (k : ∀ b u,b ≠ e -> h.get? b = some u -> h'.get? b = some u) (heo : ∃ u,h'.get? e = some u) : Un fs ex H (upd H x o) h h':=by
 have hx : ∀ b,H b = none -> b ≠ x:=fun b n z=>by subst z; rw [n] at mu; exact mu
 have hb : ∀ b,H b = none -> b ≠ e:=fun b n z=>by
  subst z
  rcases he with r | r
  ·exact hx b n r
  ·rw [n] at r; cases r
 have hm : ∀ b u,H b = some u -> ¬ Mut (some u) -> b ≠ x:=fun b u q nm z=>by subst z; rw [q] at mu; exact nm mu
 refine ⟨fun b u q n _ _=>k b u (hb b n) q,fun b u q n _ _=>⟨u.slots,k b u (hb b n) q⟩,fun b u q n _=>by rw [upd_ne (hx b n)]; exact n,fun b u q _=>?_,
  fun b xs q=>by rw [upd_ne (hm b _ q fun z=>z)]; exact q,fun b u xs q=>by rw [upd_ne (hm b _ q fun z=>z)]; exact q,fun b ps q=>⟨#[],by rw [upd_ne (hm b _ q fun z=>z),q]; simp⟩⟩
 by_cases hbe : b = e
 ·subst hbe; exact heo
 ·exact ⟨u,k b u hbe q⟩
end
def trk (h : Heap) (H : Hp) : List Addr:=(List.range h.objs.size).filter fun a=>(H a).isSome
def hidT (h : Heap) (H : Hp) : Heap:=PySem.W.hideAll h (trk h H)
theorem hidT_size (h : Heap) (H : Hp) : (hidT h H).objs.size = h.objs.size:=PySem.W.hideAll_size _ _
theorem hidT_get {h : Heap} {H : Hp} {b : Addr} {o : Obj} (e : h.get? b = some o) (n : H b = none) : (hidT h H).get? b = some o :=
 PySem.W.hideAll_get _ e fun hm=>by
  have q : (H b).isSome = true:=(List.mem_filter.mp hm).2
  rw [n] at q; simp at q
theorem of_hidT {h : Heap} {H : Hp} {b : Addr} {o : Obj} (e : (hidT h H).get? b = some o) : h.get? b = some o /\ H b = none:=by
 have e' : h.get? b = some o:=PySem.W.of_hideAll (trk h H) e
 refine ⟨e',?_⟩
 cases q : H b with
 | none=>rfl
 | some x =>
  have hm : b ∈ trk h H:=List.mem_filter.mpr ⟨mem_range.mpr (Heap.lt_size e'),by simp [q]⟩
  have z : (hidT h H).get? b = none:=PySem.W.hideAll_none (trk h H) hm
  rw [z] at e; cases e
def allNews (g h : Heap) (L : Addr) : List (Addr × Obj):=(List.range h.objs.size).filterMap fun a=>if a = L \/ (g.get? a).isSome = true then none else (h.get? a).map fun o=>(a,o)
def rest (g h : Heap) (L d : Addr) : List (Addr × Obj):=(allNews g h L).filter fun p=>decide (p.1 ≠ d)
structure Mod (K : W.Frag) (mg : Str -> Option Value) (base : Heap) : Prop where
 kin : K.In base
 glob : base.Ns mainGlobals mg
 blt : ∃ mb,base.Ns builtinsNs mb /\ ∀ x : Str,x ≠ "__name__" -> mb x = bootBuiltins x
 nolimit : base.NoLimit
 seer : base.NoSeer
structure Cx where
 prog : Program
 w : World
 K : W.Frag
 mg : Str -> Option Value
 base : Heap
 A : Around
 N : List Str
 s₀ : Shared
 H₀ : Hp
 env : Env
 outer : List Env
 stack : List Env
 ex : List Addr
 fn : Str -> Bool
 calm : Bool
 pn : List (Addr × Obj)
 xe : Value -> Shared -> Prop
def frs (l : List Env) : List Addr:=l.filterMap (·.frame)
abbrev Cx.fs (X : Cx) : List Addr:=frs X.outer
def Vis (sc : Scope) (x : Str) : Prop:=sc.names.lookup x = some .local \/ sc.names.lookup x = some .cell \/ sc.names.lookup x = some .free
def Loc (sc : Scope) (x : Str) : Prop:=sc.names.lookup x = some .local \/ sc.names.lookup x = some .cell
def Look (env : Env) (h : Heap) (m : Str -> Option Value) (x : Str) (u : Value) : Prop :=
 (env.kindOf x = some .local /\ m x = some u) \/ ((env.kindOf x = some .cell \/ env.kindOf x = some .free) /\ ∃ c,env.cells.lookup x = some c /\ h.IsCell c (some u))
structure Cx.Ok (X : Cx) : Prop where
 mod : Mod X.K X.mg X.base
 kind : X.env.scope.kind = .function
 glob : X.env.globals = mainGlobals
 blt : X.env.builtins = builtinsNs
 above : X.s₀.heap.objs.size <= X.env.locals
 inj : ∀ x y c,X.env.cells.lookup x = some c -> X.env.cells.lookup y = some c -> x = y
 has : ∀ x,(X.env.kindOf x = some .cell \/ X.env.kindOf x = some .free) -> ∃ c,X.env.cells.lookup x = some c
 cab : ∀ x c,X.fn x = true -> X.env.cells.lookup x = some c -> X.s₀.heap.objs.size <= c
 hd : X.calm = true -> X.A.handled = none
 frames : X.A.frames = some X.stack
 stk : X.stack = X.outer \/ (X.stack = X.env :: X.outer /\ X.env.frame = some X.env.locals)
 exf : ∀ b ∈ X.ex,b ≠ X.env.locals /\ ∀ x c,X.env.cells.lookup x = some c -> c ≠ b
 bs : ∀ b o,X.base.get? b = some o -> X.s₀.heap.get? b = some o /\ X.H₀ b = none
 bsz : X.base.objs.size <= X.s₀.heap.objs.size
 noex : ∀ b o,X.base.get? b = some o -> b ∉ X.ex
 exfs : ∀ b ∈ X.ex,b ∉ X.fs
 funs : X.s₀.heap.FunFrames X.base X.outer
 frf : ∀ b ∈ X.fs,X.H₀ b = none
structure Inv (X : Cx) (pins : List (Addr × Obj)) (σ : List (Option V)) (H : Hp) (s : Shared) : Prop where
 ok : X.Ok
 os : s.os = X.s₀.os
 bare : AllBare s.gens
 base : Un X.fs X.ex X.H₀ H X.s₀.heap s.heap
 loc : ∃ m,s.heap.Ns X.env.locals m /\ ∀ (i : Nat) (x : Str) (v : V),X.N[i]? = some x -> σ[i]? = some (some v) -> Vis X.env.scope x -> ∃ u,RelV v u /\ Look X.env s.heap m x u
 cell : ∀ x c,X.env.cells.lookup x = some c -> ∃ v,s.heap.IsCell c v
 free : H X.env.locals = none
 freeC : ∀ x c,X.env.cells.lookup x = some c -> H c = none
 pin : ∀ p ∈ X.pn ++ pins,s.heap.get? p.1 = some p.2 /\ H p.1 = none /\ p.1 ≠ X.env.locals /\ p.1 ∉ X.fs /\ ∀ v,p.2.data ≠ .cell v
 hok : HOk X.prog X.w H s.heap
 len : σ.length = X.N.length
section
variable {X : Cx} {pins : List (Addr × Obj)} {σ : List (Option V)} {H H' : Hp} {s : Shared} {h' : Heap}
theorem Cx.Ok.nofr (ok : X.Ok) {b : Addr} {o : Obj} (e : X.base.get? b = some o) : b ∉ X.fs:=fun hb=>by
 have:=(ok.funs.mem hb).1
 rw [e] at this; cases this
theorem Inv.bs (I : Inv X pins σ H s) : ∀ b o,X.base.get? b = some o -> s.heap.get? b = some o /\ H b = none:=fun b o e =>
 ⟨I.base.keep b o (I.ok.bs b o e).1 (I.ok.bs b o e).2 (I.ok.nofr e) (I.ok.noex b o e),I.base.free b o (I.ok.bs b o e).1 (I.ok.bs b o e).2 (I.ok.noex b o e)⟩
theorem Inv.bk (I : Inv X pins σ H s) : ∀ b o,X.base.get? b = some o -> s.heap.get? b = some o:=fun b o e=>(I.bs b o e).1
theorem Inv.mod (I : Inv X pins σ H s) : Mod X.K X.mg X.base:=I.ok.mod
theorem Inv.kIn (I : Inv X pins σ H s) : X.K.In s.heap:=I.ok.mod.kin.keeps I.bk
theorem Inv.lt (I : Inv X pins σ H s) : X.env.locals < s.heap.objs.size:=let ⟨_,hn,_⟩:=I.loc; hn.lt
theorem Inv.sz (I : Inv X pins σ H s) : X.s₀.heap.objs.size <= s.heap.objs.size:=Nat.le_trans I.ok.above (Nat.le_of_lt I.lt)
theorem Inv.nofs (I : Inv X pins σ H s) {a : Addr} (h : s.heap.objs.size <= a) : a ∉ X.fs:=fun hb=>by
 obtain ⟨_,o,ho,_⟩:=I.ok.funs.mem hb
 exact absurd (Nat.lt_of_lt_of_le (Heap.lt_size ho) (Nat.le_trans I.sz h)) (Nat.lt_irrefl _)
theorem Inv.cne (I : Inv X pins σ H s) : ∀ x c,X.env.cells.lookup x = some c -> c ≠ X.env.locals:=fun x c e z=>by
 obtain ⟨v,o,ho,hd⟩:=I.cell x c e
 obtain ⟨m,⟨o',es,ep,ho',hd',_⟩,_⟩:=I.loc
 rw [z,ho'] at ho; cases ho; rw [hd'] at hd; cases hd
theorem Inv.funs (I : Inv X pins σ H s) : s.heap.FunFrames X.base X.outer:=by
 have all : ∀ (l : List Env),(∀ b ∈ frs l,b ∈ X.fs) -> X.s₀.heap.FunFrames X.base l -> s.heap.FunFrames X.base l:=by
  intro l
  induction l with
  | nil=>intro _ _; trivial
  | cons env r ih =>
   intro hs hl
   obtain ⟨hk,⟨L,o,hf,hn,ho,hd⟩,hr⟩:=hl
   have hL : L ∈ X.fs:=hs L (by unfold frs; rw [List.filterMap_cons,hf]; exact mem_cons_self)
   obtain ⟨sl,e⟩:=I.base.slot L o ho (I.ok.frf L hL) hL fun z=>I.ok.exfs L z hL
   exact ⟨hk,⟨L,_,hf,hn,e,hd⟩,ih (fun b hb=>hs b (by unfold frs; rw [List.filterMap_cons,hf]; exact mem_cons_of_mem _ hb)) hr⟩
 exact all X.outer (fun _ hb=>hb) I.ok.funs
theorem Inv.stack (I : Inv X pins σ H s) : s.heap.FunFrames X.base X.stack:=by
 rcases I.ok.stk with e | ⟨e,hf⟩
 ·rw [e]; exact I.funs
 ·rw [e]
  obtain ⟨m,hn,_⟩:=I.loc
  refine .cons (by rw [I.ok.kind]; decide) hf hn ?_ I.funs
  exact Heap.get?_none_of_le (Nat.le_trans I.ok.bsz I.ok.above)
theorem Inv.stkSub (I : Inv X pins σ H s) : ∀ b ∈ frs X.stack,b ∈ X.env.locals :: X.fs:=fun b hb=>by
 rcases I.ok.stk with e | ⟨e,hf⟩
 ·rw [e] at hb; exact mem_cons_of_mem _ hb
 ·rw [e] at hb
  unfold frs at hb
  rw [List.filterMap_cons,hf] at hb
  exact hb
theorem Inv.stkFree (I : Inv X pins σ H s) : ∀ b ∈ frs X.stack,H b = none:=fun b hb=>by
 rcases mem_cons.mp (I.stkSub b hb) with e | hb
 ·rw [e]; exact I.free
 ·obtain ⟨_,o,ho,_⟩:=I.ok.funs.mem hb
  exact I.base.free b o ho (I.ok.frf b hb) fun z=>I.ok.exfs b z hb
theorem Inv.step {g' : Array GenState} {t' : Nat} {d' : Drawn} {ch : List Addr} (I : Inv X pins σ H s)
  (hch : ∀ b ∈ ch,(b ∈ X.ex \/ X.s₀.heap.objs.size <= b) /\ b ≠ X.env.locals /\ (∀ x c,X.env.cells.lookup x = some c -> c ≠ b) /\ ∀ p ∈ X.pn ++ pins,p.1 ≠ b)
  (keep : ∀ b o,b ≠ X.env.locals -> b ∉ X.fs -> b ∉ ch -> s.heap.get? b = some o -> H b = none -> h'.get? b = some o)
  (slot : ∀ b o,b ≠ X.env.locals -> b ∈ X.fs -> b ∉ ch -> s.heap.get? b = some o -> H b = none -> ∃ sl,h'.get? b = some { o with slots:=sl }) (free : ∀ b o,b ∉ ch -> s.heap.get? b = some o -> H b = none -> H' b = none)
  (there : ∀ b o,b ∉ ch -> s.heap.get? b = some o -> ∃ o',h'.get? b = some o')
  (tups : ∀ b xs,H b = some (.tup xs) -> H' b = some (.tup xs)) (frzs : ∀ b o u,H b = some (.frz o u) -> H' b = some (.frz o u)) (tbls : ∀ b ps,H b = some (.tbl ps) -> ∃ more,H' b = some (.tbl (ps ++ more)))
  (ns : ∀ m,s.heap.Ns X.env.locals m -> h'.Ns X.env.locals m) (hok : HOk X.prog X.w H' h') (hg : AllBare g') :
  Inv X pins σ H' { s with heap:=h',gens:=g',drawn:=d',toks:=t' }:=by
 have neL : ∀ b o,X.s₀.heap.get? b = some o -> b ≠ X.env.locals:=fun b o e=>Nat.ne_of_lt (Nat.lt_of_lt_of_le (Heap.lt_size e) I.ok.above)
 have neC : ∀ b o,X.s₀.heap.get? b = some o -> b ∉ X.ex -> b ∉ ch:=fun b o e hx hb=>by
  rcases (hch b hb).1 with z | z
  ·exact hx z
  ·exact absurd (Nat.lt_of_lt_of_le (Heap.lt_size e) z) (Nat.lt_irrefl _)
 have cellK : ∀ x c,X.env.cells.lookup x = some c -> ∀ v,s.heap.IsCell c v -> h'.IsCell c v:=fun x c e v ⟨o,ho,hd⟩=>by
  have nch : c ∉ ch:=fun z=>(hch c z).2.2.1 x c e rfl
  by_cases hc : c ∈ X.fs
  ·obtain ⟨sl,q⟩:=slot c o (I.cne x c e) hc nch ho (I.freeC x c e)
   exact ⟨_,q,hd⟩
  ·exact ⟨o,keep c o (I.cne x c e) hc nch ho (I.freeC x c e),hd⟩
 refine ⟨I.ok,I.os,hg,⟨fun b o e n hb hx=>?_,fun b o e n hb hx=>?_,fun b o e n hx=>?_,fun b o e hx=>?_,fun b xs e=>tups b xs (I.base.tups b xs e),fun b o xs e=>frzs b o xs (I.base.frzs b o xs e),fun b ps e=>?_⟩,?_,fun x c e=>?_,?_,fun x c e=>?_,fun p hp=>?_,hok,I.len⟩
 ·exact keep b o (neL b o e) hb (neC b o e hx) (I.base.keep b o e n hb hx) (I.base.free b o e n hx)
 ·obtain ⟨sl,e1⟩:=I.base.slot b o e n hb hx
  obtain ⟨sl',e2⟩:=slot b _ (neL b o e) hb (neC b o e hx) e1 (I.base.free b o e n hx)
  exact ⟨sl',e2⟩
 ·obtain ⟨o',e1⟩:=I.base.there b o e hx
  exact free b o' (neC b o e hx) e1 (I.base.free b o e n hx)
 ·obtain ⟨o',e1⟩:=I.base.there b o e hx
  exact there b o' (neC b o e hx) e1
 ·obtain ⟨m1,e1⟩:=I.base.tbls b ps e
  obtain ⟨m2,e2⟩:=tbls b _ e1
  exact ⟨m1 ++ m2,by rw [e2,Array.append_assoc]⟩
 ·obtain ⟨m,hn,hl⟩:=I.loc
  refine ⟨m,ns m hn,fun i x v e1 e2 e3=>?_⟩
  obtain ⟨u,r,l⟩:=hl i x v e1 e2 e3
  refine ⟨u,r,?_⟩
  rcases l with l | ⟨k,c,e,z⟩
  ·exact .inl l
  ·exact .inr ⟨k,c,e,cellK x c e _ z⟩
 ·obtain ⟨v,z⟩:=I.cell x c e
  exact ⟨v,cellK x c e v z⟩
 ·obtain ⟨m,⟨o,_,_,ho,_⟩,_⟩:=I.loc
  exact free _ o (fun z=>(hch _ z).2.1 rfl) ho I.free
 ·obtain ⟨v,o,ho,hd⟩:=I.cell x c e
  exact free c o (fun z=>(hch c z).2.2.1 x c e rfl) ho (I.freeC x c e)
 ·obtain ⟨e,n,ne,nf,d⟩:=I.pin p hp
  have nch : p.1 ∉ ch:=fun z=>(hch p.1 z).2.2.2 p hp rfl
  exact ⟨keep p.1 p.2 ne nf nch e n,free p.1 p.2 nch e n,ne,nf,d⟩
theorem Inv.un {t' : Nat} (I : Inv X pins σ H s) (u : Un X.fs [] H H' s.heap h') (hok : HOk X.prog X.w H' h') : Inv X pins σ H' { s with heap:=h',toks:=t' }:=by
 obtain ⟨m,⟨o,es,ep,ho,r⟩,_⟩:=id I.loc
 obtain ⟨sl,hL⟩:=u.any ho I.free (by simp)
 exact I.step (g':=s.gens) (d':=s.drawn) (ch:=[]) (fun _ z=>nomatch z) (fun b o _ hb _ e n=>u.keep b o e n hb (by simp)) (fun b o _ hb _ e n=>u.slot b o e n hb (by simp)) (fun b o _ e n=>u.free b o e n (by simp)) (fun b o _ e=>u.there b o e (by simp)) u.tups u.frzs u.tbls (fun m' hm=>by
  obtain ⟨o',es',ep',ho',r'⟩:=hm
  rw [ho] at ho'; cases ho'
  exact ⟨_,es',ep',hL,r'⟩) hok I.bare
theorem Inv.call {g' : Array GenState} {t' : Nat} {d' : Drawn} {ch : List Addr} (I : Inv X pins σ H s) (u : Un (frs X.stack) ch H H' s.heap h') (hok : HOk X.prog X.w H' h') (hg : AllBare g')
  (hch : ∀ b ∈ ch,(b ∈ X.ex \/ X.s₀.heap.objs.size <= b) /\ b ≠ X.env.locals /\ (∀ x c,X.env.cells.lookup x = some c -> c ≠ b) /\ ∀ p ∈ X.pn ++ pins,p.1 ≠ b) :
  Inv X pins σ H' { s with heap:=h',gens:=g',drawn:=d',toks:=t' }:=by
 obtain ⟨m,⟨o,es,ep,ho,r⟩,_⟩:=id I.loc
 obtain ⟨sl,hL⟩:=u.any ho I.free fun z=>(hch _ z).2.1 rfl
 exact I.step (ch:=ch) hch (fun b o hL hb hc e n=>u.keep b o e n (fun z=>(mem_cons.mp (I.stkSub b z)).elim hL hb) hc) (fun b o _ _ hc e n=>u.any e n hc) (fun b o hc e n=>u.free b o e n hc) (fun b o hc e=>u.there b o e hc) u.tups u.frzs u.tbls (fun m' hm=>by
  obtain ⟨o',es',ep',ho',r'⟩:=hm
  rw [ho] at ho'; cases ho'
  exact ⟨_,es',ep',hL,r'⟩) hok hg
theorem Inv.turned {t' : Nat} {it : Addr} (I : Inv X pins σ H s) (k : ∀ b o,b ≠ it -> s.heap.get? b = some o -> h'.get? b = some o) (hn : H it = none) (hL : it ≠ X.env.locals)
  (h1 : it ∈ X.ex \/ X.s₀.heap.objs.size <= it) (h2 : ∀ x c,X.env.cells.lookup x = some c -> c ≠ it) (h3 : ∀ p ∈ X.pn ++ pins,p.1 ≠ it) : Inv X pins σ H { s with heap:=h',toks:=t' }:=by
 have nit : ∀ b u,H b = some u -> b ≠ it:=fun b u e z=>by rw [z,hn] at e; cases e
 refine I.step (g':=s.gens) (d':=s.drawn) (ch:=[it]) (fun b hb=>?_) (fun b o _ _ hc e _=>k b o (fun z=>hc (by simp [z])) e) (fun b o _ _ hc e _=>⟨o.slots,k b o (fun z=>hc (by simp [z])) e⟩) (fun _ _ _ _ n=>n)
  (fun b o hc e=>⟨o,k b o (fun z=>hc (by simp [z])) e⟩) (fun _ _ e=>e) (fun _ _ _ e=>e) (fun b ps e=>⟨#[],by rw [e]; simp⟩) (fun m hm=>?_) (fun b u e=>?_) I.bare
 ·have e : b = it:=by simpa using hb
  subst e
  exact ⟨h1,hL,h2,h3⟩
 ·obtain ⟨o,es,ep,ho,r⟩:=hm
  exact ⟨o,es,ep,k _ o (Ne.symm hL) ho,r⟩
 ·refine (I.hok b u e).stay (fun c v hc q=>k c v ?_ q) (fun _ q=>q) fun _ _ q=>q
  rcases hc with z | z
  ·rw [z]; exact nit b u e
  ·exact nit c _ z
theorem Inv.tok (I : Inv X pins σ H s) (t : Nat) : Inv X pins σ H { s with toks:=t }:=I.un (h':=s.heap) (t':=t) Un.refl I.hok
theorem Inv.kept {t' : Nat} (I : Inv X pins σ H s) (k : ∀ b u,s.heap.get? b = some u -> h'.get? b = some u) : Inv X pins σ H { s with heap:=h',toks:=t' }:=I.un (Un.kept k) (I.hok.kept k)
theorem Inv.laid {a : Addr} {o : HO} {t' : Nat} (I : Inv X pins σ H s) (k : ∀ b u,s.heap.get? b = some u -> h'.get? b = some u) (hp : s.heap.objs.size <= a) (new : ObjOk X.prog X.w (upd H a o) h' a o) :
  Inv X pins σ (upd H a o) { s with heap:=h',toks:=t' }:=I.un (Un.laid k hp (I.hok.fresh hp)) (I.hok.laid k hp new)
theorem Inv.write {x e : Addr} {o : HO} {t' : Nat} (I : Inv X pins σ H s) (mu : Mut (H x)) (he : e = x \/ H e = some (.own x)) (k : ∀ b u,b ≠ e -> s.heap.get? b = some u -> h'.get? b = some u) (heo : ∃ u,h'.get? e = some u)
  (new : ObjOk X.prog X.w (upd H x o) h' x o) : Inv X pins σ (upd H x o) { s with heap:=h',toks:=t' }:=I.un (Un.write mu he k heo) (I.hok.write mu he k heo new)
theorem Inv.pins_of {pins' : List (Addr × Obj)} (I : Inv X pins σ H s) (h : ∀ p ∈ pins',s.heap.get? p.1 = some p.2 /\ H p.1 = none /\ p.1 ≠ X.env.locals /\ p.1 ∉ X.fs /\ ∀ v,p.2.data ≠ .cell v) : Inv X pins' σ H s :=
 ⟨I.ok,I.os,I.bare,I.base,I.loc,I.cell,I.free,I.freeC,fun p hp=>(mem_append.mp hp).elim (fun z=>I.pin p (mem_append_left _ z)) (h p),I.hok,I.len⟩
theorem nodup_ix {N : List Str} (hN : N.Nodup) {i j : Nat} {x : Str} (a : N[i]? = some x) (b : N[j]? = some x) : i = j:=by
 obtain ⟨h1,e1⟩:=List.getElem?_eq_some_iff.mp a
 obtain ⟨h2,e2⟩:=List.getElem?_eq_some_iff.mp b
 exact (List.getElem_inj hN).mp (e1.trans e2.symm)
theorem store_ok2 {M : Model} {A : Around} {E : Value -> Shared -> Prop} {i : Nat} {x : Str} {v : V} {u : Value} {Q : Unit -> Shared -> Prop} (I : Inv X pins σ H s) (hN : X.N.Nodup) (hi : X.N[i]? = some x) (hx : Loc X.env.scope x) (r : RelV v u)
  (h : ∀ s',Inv X pins (σ.set i (some v)) H s' -> (∃ a,Heap.SameBut a s.heap s'.heap /\ (a = X.env.locals \/ X.env.cells.lookup x = some a)) -> Q () s') (hf : X.fn x = true \/ X.env.scope.names.lookup x = some .local:=by first | exact .inl rfl | exact .inr rfl | assumption) : wpAny M A (storeName X.env x u) Q E s:=by
 obtain ⟨m,hn,hl⟩:=id I.loc
 have hcls : (X.env.scope.kind == .class || (X.env.scope.kind == .module && X.env.locals != X.env.globals)) = false:=by rw [I.ok.kind]; rfl
 have hiσ : i < σ.length:=by rw [I.len]; exact (List.getElem?_eq_some_iff.mp hi).1
 have cne:=I.cne
 have tracked : ∀ {a : Addr} {h' : Heap},(∃ o,s.heap.get? a = some o /\ H a = none) -> Heap.SameBut a s.heap h' -> HOk X.prog X.w H h':=fun {a h'} ha hs b ob e=>by
  obtain ⟨_,_,hfree⟩:=ha
  refine (I.hok b ob e).stay (fun c w' hc q=>(hs.2 c ?_).trans q) (fun _ q=>q) fun _ _ q=>q
  rintro rfl
  rcases hc with rfl | hc
  ·rw [hfree] at e; cases e
  ·rw [hfree] at hc; cases hc
 rcases hx with hk | hk
 ·refine wpAny_storeName_local hk hn (fun h' hn' hs=>?_) hcls
  obtain ⟨oL,_,_,hoL,_⟩:=id hn
  refine h _ ⟨I.ok,I.os,I.bare,⟨fun b o e n hb hx=>?_,fun b o e n hb hx=>?_,I.base.free,fun b o e hx=>?_,I.base.tups,I.base.frzs,I.base.tbls⟩,⟨_,hn',fun j y v' e1 e2 e3=>?_⟩,fun y c e=>?_,I.free,I.freeC,fun p hp=>?_,tracked ⟨oL,hoL,I.free⟩ hs,by simpa using I.len⟩ ⟨_,hs,.inl rfl⟩
  ·exact (hs.2 b (Nat.ne_of_lt (Nat.lt_of_lt_of_le (Heap.lt_size e) I.ok.above))).trans (I.base.keep b o e n hb hx)
  ·obtain ⟨sl,e1⟩:=I.base.slot b o e n hb hx
   exact ⟨sl,(hs.2 b (Nat.ne_of_lt (Nat.lt_of_lt_of_le (Heap.lt_size e) I.ok.above))).trans e1⟩
  ·obtain ⟨o',e1⟩:=I.base.there b o e hx
   exact ⟨o',(hs.2 b (Nat.ne_of_lt (Nat.lt_of_lt_of_le (Heap.lt_size e) I.ok.above))).trans e1⟩
  ·by_cases hj : j = i
   ·subst hj
    rw [hi] at e1; cases e1
    rw [List.getElem?_set_self hiσ] at e2
    cases e2
    exact ⟨u,r,.inl ⟨hk,by simp⟩⟩
   ·rw [List.getElem?_set_ne (Ne.symm hj)] at e2
    obtain ⟨u',r',q⟩:=hl j y v' e1 e2 e3
    refine ⟨u',r',?_⟩
    rcases q with ⟨k,e⟩ | ⟨k,c,e,z⟩
    ·refine .inl ⟨k,?_⟩
     have : y ≠ x:=fun e=>hj (nodup_ix hN e1 (e ▸ hi))
     simp [this,e]
    ·exact .inr ⟨k,c,e,z.sameBut hs (cne y c e)⟩
  ·obtain ⟨w',z⟩:=I.cell y c e
   exact ⟨w',z.sameBut hs (cne y c e)⟩
  ·obtain ⟨e,n,ne,nf,d⟩:=I.pin p hp
   exact ⟨(hs.2 p.1 ne).trans e,n,ne,nf,d⟩
 ·have hfn : X.fn x = true:=by
   rcases hf with z | z
   ·exact z
   ·rw [z] at hk; cases hk
  obtain ⟨c,hc⟩:=I.ok.has x (.inl hk)
  obtain ⟨w',z⟩:=I.cell x c hc
  refine wpAny_storeName_cell I.ok.kind hk hc z (fun h' hc' hs=>?_)
  obtain ⟨oc,hoc,hocd⟩:=id z
  refine h { s with heap:=h' } ⟨I.ok,I.os,I.bare,⟨fun b o e n hb hx=>?_,fun b o e n hb hx=>?_,I.base.free,fun b o e hx=>?_,I.base.tups,I.base.frzs,I.base.tbls⟩,⟨m,hn.sameBut hs (Ne.symm (cne x c hc)),fun j y v' e1 e2 e3=>?_⟩,fun y c' e=>?_,I.free,I.freeC,fun p hp=>?_,tracked ⟨oc,hoc,I.freeC x c hc⟩ hs,by simpa using I.len⟩ ⟨c,hs,.inr hc⟩
  ·exact (hs.2 b (Nat.ne_of_lt (Nat.lt_of_lt_of_le (Heap.lt_size e) (I.ok.cab x c hfn hc)))).trans (I.base.keep b o e n hb hx)
  ·obtain ⟨sl,e1⟩:=I.base.slot b o e n hb hx
   exact ⟨sl,(hs.2 b (Nat.ne_of_lt (Nat.lt_of_lt_of_le (Heap.lt_size e) (I.ok.cab x c hfn hc)))).trans e1⟩
  ·obtain ⟨o',e1⟩:=I.base.there b o e hx
   exact ⟨o',(hs.2 b (Nat.ne_of_lt (Nat.lt_of_lt_of_le (Heap.lt_size e) (I.ok.cab x c hfn hc)))).trans e1⟩
  ·by_cases hj : j = i
   ·subst hj
    rw [hi] at e1; cases e1
    rw [List.getElem?_set_self hiσ] at e2
    cases e2
    exact ⟨u,r,.inr ⟨.inl hk,c,hc,hc'⟩⟩
   ·rw [List.getElem?_set_ne (Ne.symm hj)] at e2
    obtain ⟨u',r',q⟩:=hl j y v' e1 e2 e3
    refine ⟨u',r',?_⟩
    rcases q with q | ⟨k,c',e,z'⟩
    ·exact .inl q
    ·refine .inr ⟨k,c',e,z'.sameBut hs ?_⟩
     rintro rfl
     exact hj (nodup_ix hN e1 (I.ok.inj _ _ _ e hc ▸ hi))
  ·by_cases hcc : c' = c
   ·subst hcc; exact ⟨_,hc'⟩
   ·obtain ⟨w2,z2⟩:=I.cell y c' e
    exact ⟨w2,z2.sameBut hs hcc⟩
  ·obtain ⟨e,n,ne,nf,d⟩:=I.pin p hp
   refine ⟨(hs.2 p.1 ?_).trans e,n,ne,nf,d⟩
   intro q
   rw [q,hoc] at e
   have q' : oc = p.2:=Option.some.inj e
   exact d w' (by rw [<- q']; exact hocd)
theorem store_ok {M : Model} {A : Around} {E : Value -> Shared -> Prop} {i : Nat} {x : Str} {v : V} {u : Value} {Q : Unit -> Shared -> Prop} (I : Inv X pins σ H s) (hN : X.N.Nodup) (hi : X.N[i]? = some x) (hx : Loc X.env.scope x) (r : RelV v u)
  (h : ∀ s',Inv X pins (σ.set i (some v)) H s' -> Q () s') (hf : X.fn x = true \/ X.env.scope.names.lookup x = some .local:=by first | exact .inl rfl | exact .inr rfl | assumption) : wpAny M A (storeName X.env x u) Q E s :=
 store_ok2 I hN hi hx r (fun s' I' _=>h s' I') hf
theorem Inv.call' {s' : Shared} {ch : List Addr} (I : Inv X pins σ H s) (ho : s'.os = s.os) (u : Un (frs X.stack) ch H H' s.heap s'.heap) (hok : HOk X.prog X.w H' s'.heap) (hg : AllBare s'.gens)
  (hch : ∀ b ∈ ch,(b ∈ X.ex \/ X.s₀.heap.objs.size <= b) /\ b ≠ X.env.locals /\ (∀ x c,X.env.cells.lookup x = some c -> c ≠ b) /\ ∀ p ∈ X.pn ++ pins,p.1 ≠ b) : Inv X pins σ H' s':=by
 obtain ⟨h',g',d',t',o'⟩:=s'
 have e : o' = s.os:=ho
 subst e
 exact I.call (g':=g') (t':=t') (d':=d') u hok hg hch
end
abbrev XK:=Value -> Option Addr -> Hp -> Prop
abbrev St:=List (Option V)
abbrev VK:=V -> Hp -> Prop
abbrev TE:=St -> Hp -> VK -> Prop
abbrev TT:=St -> Hp -> (Bool -> Hp -> Prop) -> Prop
abbrev TA:=St -> Hp -> (List V -> Hp -> Prop) -> Prop
structure Ends where
 nx : St -> Hp -> Prop
 rt : VK
 bk : St -> Hp -> Prop:=fun _ _=>False
 ct : St -> Hp -> Prop:=fun _ _=>False
abbrev TS:=Ends -> St -> Hp -> Prop
def EP (X : Cx) (pins : List (Addr × Obj)) (σ : St) (Q : VK) (u : Value) (s' : Shared) : Prop:=∃ v H',Inv X pins σ H' s' /\ RelV v u /\ Q v H'
def TP (X : Cx) (pins : List (Addr × Obj)) (σ : St) (Q : Bool -> Hp -> Prop) (b : Bool) (s' : Shared) : Prop:=∃ H',Inv X pins σ H' s' /\ Q b H'
def AP (X : Cx) (pins : List (Addr × Obj)) (σ : St) (Q : List V -> Hp -> Prop) (us : List Value) (s' : Shared) : Prop:=∃ vs H',Inv X pins σ H' s' /\ Vals vs us /\ Q vs H'
def SP (X : Cx) (pins : List (Addr × Obj)) (D : Ends) (f : Flow) (s' : Shared) : Prop :=
 match f with
 | .next=>∃ σ' H',Inv X pins σ' H' s' /\ D.nx σ' H'
 | .brk=>∃ σ' H',Inv X pins σ' H' s' /\ D.bk σ' H'
 | .cont=>∃ σ' H',Inv X pins σ' H' s' /\ D.ct σ' H'
 | .ret u=>∃ v σ' H',Inv X pins σ' H' s' /\ RelV v u /\ D.rt v H'
def PE (X : Cx) (e : Expr) (t : TE) : Prop :=
 ∀ (pins : List (Addr × Obj)) (s : Shared) (σ : St) (H : Hp) (Q : VK),Inv X pins σ H s -> t σ H Q -> wpAny (model X.prog X.w) X.A (eval e X.env) (EP X pins σ Q) X.xe s
def PT (X : Cx) (e : Expr) (t : TT) : Prop :=
 ∀ (pins : List (Addr × Obj)) (s : Shared) (σ : St) (H : Hp) (Q : Bool -> Hp -> Prop),Inv X pins σ H s -> t σ H Q -> wpAny (model X.prog X.w) X.A (isTrue e X.env (eval e X.env)) (TP X pins σ Q) X.xe s
def PW (X : Cx) (e : Expr) (t : TT) : Prop :=
 ∀ (whole : Sem Value) (pins : List (Addr × Obj)) (s : Shared) (σ : St) (H : Hp) (Q : Bool -> Hp -> Prop),Inv X pins σ H s -> t σ H Q -> wpAny (model X.prog X.w) X.A (isTrue e X.env whole) (TP X pins σ Q) X.xe s
theorem PW.pt {X : Cx} {e : Expr} {t : TT} (h : PW X e t) : PT X e t:=h _
def PA (X : Cx) (es : List Expr) (t : TA) : Prop :=
 ∀ (pos : Pos) (pins : List (Addr × Obj)) (s : Shared) (σ : St) (H : Hp) (Q : List V -> Hp -> Prop),Inv X pins σ H s -> t σ H Q -> wpAny (model X.prog X.w) X.A (spliced (backTo pos (starEach es X.env))) (AP X pins σ Q) X.xe s
def PS (X : Cx) (st : Stmt) (t : TS) : Prop :=
 ∀ (pins : List (Addr × Obj)) (s : Shared) (σ : St) (H : Hp) (D : Ends),Inv X pins σ H s -> t D σ H -> wpAny (model X.prog X.w) X.A (exec st X.env) (SP X pins D) X.xe s
def PSs (X : Cx) (st : List Stmt) (t : TS) : Prop :=
 ∀ (pins : List (Addr × Obj)) (s : Shared) (σ : St) (H : Hp) (D : Ends),Inv X pins σ H s -> t D σ H -> wpAny (model X.prog X.w) X.A (execs st X.env) (SP X pins D) X.xe s
theorem thn {α : Type} {t : Sem α} {Q Q' : α -> Shared -> Prop} {M : Model} {A : Around} {E : Value -> Shared -> Prop} {s : Shared} (h : wpAny M A t Q E s) (hQ : ∀ a s,Q a s -> Q' a s) : wpAny M A t Q' E s:=wpAny_mono h hQ fun _ _ x=>x
section
variable {X : Cx}
theorem bin {a b : Expr} {ta tb : TE} (ha : PE X a ta) (hb : PE X b tb) {pins : List (Addr × Obj)} {s : Shared} {σ : St} {H : Hp} {R : V -> V -> Hp -> Prop} (I : Inv X pins σ H s) (h : ta σ H fun x H1=>tb σ H1 fun y H2=>R x y H2)
  {α : Type} {Q : α -> Shared -> Prop} {f : Value -> Value -> Sem α}
  (hf : ∀ v u s2 x y H2,Inv X pins σ H2 s2 -> RelV x v -> RelV y u -> R x y H2 -> wpAny (model X.prog X.w) X.A (f v u) Q X.xe s2) :
  wpAny (model X.prog X.w) X.A (eval a X.env) (fun v s₁=>wpAny (model X.prog X.w) X.A (eval b X.env) (fun u s₂=>wpAny (model X.prog X.w) X.A (f v u) Q X.xe s₂) X.xe s₁) X.xe s:=by
 refine thn (ha pins s σ H _ I h) fun v s1 ⟨x,H1,I1,r1,q1⟩=>?_
 refine thn (hb pins s1 σ H1 _ I1 q1) fun u s2 ⟨y,H2,I2,r2,q2⟩=>?_
 exact hf v u s2 x y H2 I2 r1 r2 q2
def tVar (i : Nat) : TE:=fun σ H Q=>∃ v,σ[i]? = some (some v) /\ Q v H
def tC (v : V) : TE:=fun _ H Q=>Q v H
theorem pe_var {i : Nat} {x : Str} {pos : Pos} (hN : X.N[i]? = some x) (hv : Vis X.env.scope x) (hd : (x == ("__debug__" : Str)) = false:=by decide) (hcd : (x == ("__classdict__" : Str)) = false:=by decide) : PE X (.Name x pos) (tVar i):=by
 intro pins s σ H Q I h
 obtain ⟨v,e,h⟩:=h
 obtain ⟨m,hn,hl⟩:=I.loc
 obtain ⟨u,r,l⟩:=hl i x v hN e hv
 have fin : EP X pins σ Q u s:=⟨v,H,I,r,h⟩
 rcases l with ⟨hk,hm⟩ | ⟨hk,c,hc,hcell⟩
 ·exact wpAny_Name (wpAny_loadName_local I.ok.kind hk hn hm fin) hd
 ·rcases hk with hk | hk
  ·exact wpAny_Name (wpAny_loadName_cell I.ok.kind hk hc hcell fin) hd
  ·exact wpAny_Name (wpAny_loadName_free I.ok.kind hk hc hcell fin hcd) hd
theorem pe_int {i j pos} : PE X (.Constant (.int i) j pos) (tC (.int i)):=fun _ _ _ H _ I h=>wpAny_Constant_int ⟨.int i,H,I.tok _,⟨_,rfl⟩,h⟩
theorem pe_bl {b j pos} : PE X (.Constant (.bool b) j pos) (tC (.bl b)):=fun _ _ _ H _ I h=>Constant_bool ⟨.bl b,H,I,rfl,h⟩
theorem pe_non {j pos} : PE X (.Constant .none j pos) (tC .non):=fun _ _ _ H _ I h=>Constant_none ⟨.non,H,I,rfl,h⟩
theorem pe_str {x j pos} : PE X (.Constant (.str x) j pos) (tC (.str x)):=fun _ _ _ H _ I h=>Calls.Constant_str ⟨.str x,H,I.tok _,⟨_,rfl⟩,h⟩
def Gl (X : Cx) (x : Str) : Prop:=X.env.kindOf x = some .globalImplicit
theorem ld_glob {E : Value -> Shared -> Prop} {pins : List (Addr × Obj)} {s : Shared} {σ : St} {H : Hp} {x : Str} {u : Value} {pos : Pos} {Q : Value -> Shared -> Prop} (I : Inv X pins σ H s) (hg : Gl X x) (hm : X.mg x = some u) (h : Q u s)
  (hd : (x == ("__debug__" : Str)) = false:=by decide) : wpAny (model X.prog X.w) X.A (eval (.Name x pos) X.env) Q E s :=
 Calls.Name_function_global I.ok.kind hg (Calls.loadGlobal_global (by rw [I.ok.glob]; exact I.mod.glob.keeps I.bk) hm h) hd
theorem ld_blt {E : Value -> Shared -> Prop} {pins : List (Addr × Obj)} {s : Shared} {σ : St} {H : Hp} {x : Str} {u : Value} {pos : Pos} {Q : Value -> Shared -> Prop} (I : Inv X pins σ H s) (hg : Gl X x) (hm : X.mg x = none) (hv : bootBuiltins x = some u) (h : Q u s)
  (hn : x ≠ "__name__":=by decide) (hd : (x == ("__debug__" : Str)) = false:=by decide) : wpAny (model X.prog X.w) X.A (eval (.Name x pos) X.env) Q E s:=by
 obtain ⟨mb,h1,h2⟩:=I.mod.blt
 exact Calls.Name_function_global I.ok.kind hg (Calls.loadGlobal_builtin (by rw [I.ok.glob]; exact I.mod.glob.keeps I.bk) hm (by rw [I.ok.blt]; exact h1.keeps I.bk) ((h2 x hn).trans hv) h) hd
theorem pe_glob {x : Str} {v : V} {u : Value} {pos : Pos} (hg : Gl X x) (hm : X.mg x = some u) (r : RelV v u) (hd : (x == ("__debug__" : Str)) = false:=by decide) : PE X (.Name x pos) (tC v) :=
 fun _ _ _ H _ I h=>ld_glob I hg hm ⟨v,H,I,r,h⟩ hd
theorem pe_bltn {x : Str} {v : V} {u : Value} {pos : Pos} (hg : Gl X x) (hm : X.mg x = none) (hv : bootBuiltins x = some u) (r : RelV v u) (hn : x ≠ "__name__":=by decide) (hd : (x == ("__debug__" : Str)) = false:=by decide) : PE X (.Name x pos) (tC v) :=
 fun _ _ _ H _ I h=>ld_blt I hg hm hv ⟨v,H,I,r,h⟩ hn hd
variable {a b : Expr} {ta tb : TE} {pos : Pos}
def PC (X : Cx) (op : CmpOp) (a b : Expr) (t : TE) : Prop :=
 ∀ (pins : List (Addr × Obj)) (s : Shared) (σ : St) (H : Hp) (Q : VK),Inv X pins σ H s -> t σ H Q ->
  wpAny (model X.prog X.w) X.A (eval a X.env) (fun v s₁=>wpAny (model X.prog X.w) X.A (eval b X.env) (fun u s₂=>wpAny (model X.prog X.w) X.A (compareOp op v u) (EP X pins σ Q) X.xe s₂) X.xe s₁) X.xe s
def tB (t : TE) : TT:=fun σ H Q=>t σ H fun x H1=>∃ c,x = .bl c /\ Q c H1
theorem pt_cmp {op : CmpOp} {t : TE} (h : PC X op a b t) (h1 : behindInMarks op b = false:=by first | exact nobehind _ (by decide) (by decide) | rfl) : PT X (.Compare a [op] [b] pos) (tB t):=by
 intro pins s σ H Q I hw
 refine wpAny_isTrue_Compare1 (thn (h pins s σ H _ I hw) fun v s1 h1=>thn h1 fun u s2 h2=>thn h2 fun c s3 ⟨x,H1,I1,r1,q1⟩=>?_) h1
 obtain ⟨d,rfl,q⟩:=q1
 cases r1
 exact wpAny_truthy_bool ⟨H1,I1,q⟩
theorem pt_val {e : Expr} {t : TE} (h : PE X e t) (he : ∀ whole,isTrue e X.env whole = (do let v <- whole; standAt e.pos; holding [v] (truthy v)):=by intro _; rfl) : PT X e (tB t):=by
 intro pins s σ H Q I hw
 refine isTrue_plain (thn (h pins s σ H _ I hw) fun v s1 ⟨x,H1,I1,r1,q1⟩=>?_) (he _)
 obtain ⟨d,rfl,q⟩:=q1
 cases r1
 exact wpAny_truthy_bool ⟨H1,I1,q⟩
variable {tA tB' : TT} {rest : List Expr}
def tAnd (t u : TT) : TT:=fun σ H Q=>t σ H fun c H1=>if c = true then u σ H1 Q else Q false H1
def tOr (t u : TT) : TT:=fun σ H Q=>t σ H fun c H1=>if c = true then Q true H1 else u σ H1 Q
def tNot (t : TT) : TT:=fun σ H Q=>t σ H fun c H1=>Q (!c) H1
theorem pw_and1 (ha : PT X a tA) : PW X (.BoolOp .And [a] pos) tA:=by
 intro wh pins s σ H Q I h
 refine isTrue_and (thn (ha pins s σ H Q I h) fun c s1 e=>?_)
 cases c with
 | true=>exact isTrue_and_nil e
 | false=>exact e
theorem pw_or1 (ha : PT X a tA) : PW X (.BoolOp .Or [a] pos) tA:=by
 intro wh pins s σ H Q I h
 refine isTrue_or (thn (ha pins s σ H Q I h) fun c s1 e=>?_)
 cases c with
 | false=>exact isTrue_or_nil e
 | true=>exact e
theorem pw_and (ha : PT X a tA) (hb : PW X (.BoolOp .And (b :: rest) pos) tB') : PW X (.BoolOp .And (a :: b :: rest) pos) (tAnd tA tB'):=by
 intro wh pins s σ H Q I h
 refine isTrue_and (thn (ha pins s σ H _ I h) fun c s1 ⟨H1,I1,q1⟩=>?_)
 cases c with
 | true=>exact hb wh pins s1 σ H1 Q I1 q1
 | false=>exact ⟨H1,I1,q1⟩
theorem pw_or (ha : PT X a tA) (hb : PW X (.BoolOp .Or (b :: rest) pos) tB') : PW X (.BoolOp .Or (a :: b :: rest) pos) (tOr tA tB'):=by
 intro wh pins s σ H Q I h
 refine isTrue_or (thn (ha pins s σ H _ I h) fun c s1 ⟨H1,I1,q1⟩=>?_)
 cases c with
 | true=>exact ⟨H1,I1,q1⟩
 | false=>exact hb wh pins s1 σ H1 Q I1 q1
theorem pt_not (ha : PT X a tA) : PT X (.UnaryOp .Not a pos) (tNot tA):=by
 intro pins s σ H Q I h
 exact isTrue_not (ha pins s σ H (fun c H1=>Q (!c) H1) I h)
def tAndV (ta tb : TE) : TE:=fun σ H Q=>ta σ H fun x H1=>∃ c,x = .bl c /\ if c = true then tb σ H1 Q else Q (.bl false) H1
def tOrV (ta tb : TE) : TE:=fun σ H Q=>ta σ H fun x H1=>∃ c,x = .bl c /\ if c = true then Q (.bl true) H1 else tb σ H1 Q
def tNotV (ta : TE) : TE:=fun σ H Q=>ta σ H fun x H1=>∃ c,x = .bl c /\ Q (.bl (!c)) H1
theorem pe_one {op} {t : TE} (h : PE X a t) : PE X (.BoolOp op [a] pos) t:=fun pins s σ H Q I hw=>BoolOp_one (h pins s σ H Q I hw)
theorem pe_and (ha : PE X a ta) (hb : PE X (.BoolOp .And (b :: rest) pos) tb) : PE X (.BoolOp .And (a :: b :: rest) pos) (tAndV ta tb):=by
 intro pins s σ H Q I h
 refine BoolOp_and (thn (ha pins s σ H _ I h) fun v s1 ⟨x,H1,I1,r1,q1⟩=>?_)
 obtain ⟨c,rfl,q1⟩:=q1
 cases r1
 refine wpAny_truthy_bool ?_
 cases c with
 | true=>exact hb pins s1 σ H1 Q I1 q1
 | false=>exact ⟨.bl false,H1,I1,rfl,q1⟩
theorem pe_not (ha : PE X a ta) : PE X (.UnaryOp .Not a pos) (tNotV ta):=by
 intro pins s σ H Q I h
 refine UnaryOp_ (thn (ha pins s σ H _ I h) fun v s1 ⟨x,H1,I1,r1,q1⟩=>?_)
 obtain ⟨c,rfl,q1⟩:=q1
 cases r1
 exact not_of (wpAny_truthy_bool ⟨.bl (!c),H1,I1,rfl,q1⟩)
def tIf (t : TT) (ta tb : TE) : TE:=fun σ H Q=>t σ H fun c H1=>if c = true then ta σ H1 Q else tb σ H1 Q
theorem pe_ifExp {c : Expr} (hc : PT X c tA) (ha : PE X a ta) (hb : PE X b tb) : PE X (.IfExp c a b pos) (tIf tA ta tb):=by
 intro pins s σ H Q I h
 refine wpAny_IfExp (thn (hc pins s σ H _ I h) fun d s1 ⟨H1,I1,q1⟩=>?_)
 cases d with
 | true=>exact ha pins s1 σ H1 Q I1 q1
 | false=>exact hb pins s1 σ H1 Q I1 q1
end
def SqL (K : W.Frag) (H : Hp) (a : Addr) (xs : List V) : Prop :=
 Rd H a (.lst xs) \/
  ∃ (o : Obj) (its : Array Value) (n : Nat),K.lookup a = some o /\ o.cls = .type "list" /\ o.dict = none /\ o.data = .seq its n /\ its.size <= sizeLine /\ Vals xs its.toList
def SqT (K : W.Frag) (H : Hp) (a : Addr) (xs : List V) : Prop :=
 Rd H a (.tup xs) \/
  ∃ (o : Obj) (its : Array Value) (n : Nat),K.lookup a = some o /\ o.cls = .type "tuple" /\ o.data = .seq its n /\ its.size <= sizeLine /\ Vals xs its.toList
def absV : Value -> Option V
 | .none=>some .non
 | .bool b=>some (.bl b)
 | .int i _=>some (.int i)
 | .str x _=>some (.str x)
 | .bytes b _=>some (.byt b)
 | .float b _=>some (.flt b)
 | .ref a=>some (.ref a)
 | .type n=>some (.ty n)
 | _=>none
theorem RelV.abs {x : V} {u : Value} (r : RelV x u) : absV u = some x:=by
 cases x with
 | non=>cases r; rfl
 | bl _=>cases r; rfl
 | int _=>obtain ⟨t,rfl⟩:=r; rfl
 | str _=>obtain ⟨t,rfl⟩:=r; rfl
 | byt _=>obtain ⟨t,rfl⟩:=r; rfl
 | flt _=>obtain ⟨t,rfl⟩:=r; rfl
 | ref _=>cases r; rfl
 | ty _=>cases r; rfl
theorem RelV.inj {x y : V} {u : Value} (r : RelV x u) (q : RelV y u) : x = y:=Option.some.inj (r.abs.symm.trans q.abs)
theorem Vals.inj : ∀ {xs ys : List V} {us : List Value},Vals xs us -> Vals ys us -> xs = ys
 | _,_,_,.nil,.nil=>rfl
 | _,_,_,.cons r t,.cons r' t'=>by rw [r.inj r',Vals.inj t t']
section
variable {X : Cx} {pins : List (Addr × Obj)} {σ : St} {H : Hp} {s : Shared} {a : Addr} {xs ys : List V}
theorem SqL.of {K : W.Frag} (h : H a = some (.lst xs)) : SqL K H a xs:=.inl (.inl h)
theorem SqT.of {K : W.Frag} (h : H a = some (.tup xs)) : SqT K H a xs:=.inl (.inl h)
theorem Inv.list (I : Inv X pins σ H s) (h : SqL X.K H a xs) : ∃ its : List Value,Vals xs its /\ PlainL s.heap a its.toArray /\ xs.length <= sizeLine:=by
 rcases h with h | ⟨o,its,n,hk,hc,hd,hs,hz,r⟩
 ·obtain ⟨z,its,n,r,e⟩:=h.ok I.hok
  exact ⟨its,r,⟨_,n,e,rfl,rfl,rfl⟩,z⟩
 ·refine ⟨its.toList,r,⟨o,n,I.kIn a o hk,hc,hd,by simpa using hs⟩,?_⟩
  have e:=r.length
  simp only [Array.length_toList] at e
  omega
theorem Inv.tuple (I : Inv X pins σ H s) (h : SqT X.K H a xs) : ∃ its : List Value,Vals xs its /\ IsTup s.heap a its.toArray /\ xs.length <= sizeLine:=by
 rcases h with h | ⟨o,its,n,hk,hc,hs,hz,r⟩
 ·obtain ⟨z,its,r,p⟩:=h.ok I.hok
  exact ⟨its,r,p,z⟩
 ·refine ⟨its.toList,r,⟨o,I.kIn a o hk,hc,n,by simpa using hs⟩,?_⟩
  have e:=r.length
  simp only [Array.length_toList] at e
  omega
theorem Inv.list_inj (I : Inv X pins σ H s) (h : SqL X.K H a xs) (h' : SqL X.K H a ys) : xs = ys:=by
 obtain ⟨its,r,⟨o,n,e,_,_,d⟩,_⟩:=I.list h
 obtain ⟨its',r',⟨o',n',e',_,_,d'⟩,_⟩:=I.list h'
 rw [e] at e'; cases e'
 rw [d] at d'
 injection d' with d1 _
 have : its = its':=by simpa using congrArg Array.toList d1
 subst this
 exact r.inj r'
theorem Inv.tuple_inj (I : Inv X pins σ H s) (h : SqT X.K H a xs) (h' : SqT X.K H a ys) : xs = ys:=by
 obtain ⟨its,r,⟨o,e,_,n,d⟩,_⟩:=I.tuple h
 obtain ⟨its',r',⟨o',e',_,n',d'⟩,_⟩:=I.tuple h'
 rw [e] at e'; cases e'
 rw [d] at d'
 injection d' with d1 _
 have : its = its':=by simpa using congrArg Array.toList d1
 subst this
 exact r.inj r'
end
abbrev Cx.wish (X : Cx) (E : Value -> Shared -> Prop) : Cx:={ X with xe:=E }
abbrev Cx.nox (X : Cx) : Cx:=X.wish fun _ _=>False
theorem Cx.Ok.wish {X : Cx} (ok : X.Ok) (E : Value -> Shared -> Prop) : (X.wish E).Ok :=
 ⟨ok.mod,ok.kind,ok.glob,ok.blt,ok.above,ok.inj,ok.has,ok.cab,ok.hd,ok.frames,ok.stk,ok.exf,ok.bs,ok.bsz,ok.noex,ok.exfs,ok.funs,ok.frf⟩
theorem Cx.Ok.unwish {X : Cx} {E : Value -> Shared -> Prop} (ok : (X.wish E).Ok) : X.Ok :=
 ⟨ok.mod,ok.kind,ok.glob,ok.blt,ok.above,ok.inj,ok.has,ok.cab,ok.hd,ok.frames,ok.stk,ok.exf,ok.bs,ok.bsz,ok.noex,ok.exfs,ok.funs,ok.frf⟩
section
variable {X : Cx} {pins : List (Addr × Obj)} {σ : St} {H : Hp} {s : Shared} {E : Value -> Shared -> Prop}
theorem Inv.wish (I : Inv X pins σ H s) (E : Value -> Shared -> Prop) : Inv (X.wish E) pins σ H s:=⟨I.ok.wish E,I.os,I.bare,I.base,I.loc,I.cell,I.free,I.freeC,I.pin,I.hok,I.len⟩
theorem Inv.unwish (I : Inv (X.wish E) pins σ H s) : Inv X pins σ H s:=⟨I.ok.unwish,I.os,I.bare,I.base,I.loc,I.cell,I.free,I.freeC,I.pin,I.hok,I.len⟩
theorem SP.unwish {D : Ends} {f : Flow} {s' : Shared} (h : SP (X.wish E) pins D f s') : SP X pins D f s':=by
 cases f with
 | next=>obtain ⟨σ',H',I,q⟩:=h; exact ⟨σ',H',I.unwish,q⟩
 | brk=>obtain ⟨σ',H',I,q⟩:=h; exact ⟨σ',H',I.unwish,q⟩
 | cont=>obtain ⟨σ',H',I,q⟩:=h; exact ⟨σ',H',I.unwish,q⟩
 | ret u=>obtain ⟨v,σ',H',I,r,q⟩:=h; exact ⟨v,σ',H',I.unwish,r,q⟩
theorem PT.nox {e : Expr} {t : TT} (h : PT X.nox e t) : PT X e t:=fun pins s σ H Q I hw =>
 wpAny_mono (h pins s σ H Q (I.wish _) hw) (fun _ _ ⟨H',I',q⟩=>⟨H',I'.unwish,q⟩) fun _ _ z=>False.elim z
theorem PSs.nox {st : List Stmt} {t : TS} (h : PSs X.nox st t) : PSs X st t:=fun pins s σ H D I hw =>
 wpAny_mono (h pins s σ H D (I.wish _) hw) (fun _ _ q=>q.unwish) fun _ _ z=>False.elim z
end
section
variable {X : Cx} {st : Stmt} {rest : List Stmt} {t u : TS} {e : Expr} {te : TE} {pos : Pos}
def tNext : TS:=fun D σ H=>D.nx σ H
def tSeq (t u : TS) : TS:=fun D σ H=>t { D with nx:=u D } σ H
theorem pss_nil : PSs X [] tNext:=fun _ _ σ H _ I h=>wpAny_execs_nil ⟨σ,H,I,h⟩
theorem pss_cons (h1 : PS X st t) (h2 : PSs X rest u) : PSs X (st :: rest) (tSeq t u):=by
 intro pins s σ H D I h
 refine wpAny_execs_cons (thn (h1 pins s σ H { D with nx:=u D } I h) fun f s1 q=>?_)
 cases f with
 | next =>
  obtain ⟨σ',H',I',q⟩:=q
  exact h2 pins s1 σ' H' D I' q
 | ret v=>exact q
 | brk=>exact q
 | cont=>exact q
theorem pss_one (h1 : PS X st t) : PSs X [st] t:=by
 intro pins s σ H D I h
 refine wpAny_execs_cons (thn (h1 pins s σ H D I h) fun f s1 q=>?_)
 cases f with
 | next=>exact wpAny_execs_nil q
 | ret v=>exact q
 | brk=>exact q
 | cont=>exact q
theorem Inv.quiet {pins : List (Addr × Obj)} {σ : St} {H : Hp} {s : Shared} (I : Inv X pins σ H s) : interactive X.env = false:=by simp [interactive,I.ok.kind]
def tDrop (te : TE) : TS:=fun D σ H=>te σ H fun _ H1=>D.nx σ H1
theorem ps_expr (he : PE X e te) (hs : swapsWith e none pos.line X.env = pure false:=by rfl) : PS X (.Expr e pos) (tDrop te):=by
 intro pins s σ H D I h
 exact wpAny_Expr_any (thn (he pins s σ H _ I h) fun v s1 ⟨x,H1,I1,r1,q1⟩=>⟨σ,H1,I1,q1⟩) I.quiet hs
def tRet (te : TE) : TS:=fun D σ H=>te σ H D.rt
theorem ps_ret (he : PE X e te) : PS X (.Return (some e) pos) (tRet te):=by
 intro pins s σ H D I h
 exact wpAny_Return_some (thn (he pins s σ H _ I h) fun v s1 ⟨x,H1,I1,r1,q1⟩=>⟨x,σ,H1,I1,r1,q1⟩)
def tRetN : TS:=fun D _ H=>D.rt .non H
def tIfS (c : TT) (t u : TS) : TS:=fun D σ H=>c σ H fun b H1=>if b = true then t D σ H1 else u D σ H1
theorem ps_if {c : Expr} {a b : List Stmt} {tc : TT} (hc : PT X c tc) (ha : PSs X a t) (hb : PSs X b u) : PS X (.If c a b pos) (tIfS tc t u):=by
 intro pins s σ H D I h
 refine wpAny_If (thn (hc pins s σ H _ I h) fun d s1 ⟨H1,I1,q1⟩=>?_)
 cases d with
 | true=>exact ha pins s1 σ H1 D I1 q1
 | false=>exact hb pins s1 σ H1 D I1 q1
end
abbrev TG:=V -> St -> Hp -> (St -> Hp -> Prop) -> Prop
abbrev TGs:=List V -> St -> Hp -> (St -> Hp -> Prop) -> Prop
def PG (X : Cx) (target : Expr) (t : TG) : Prop :=
 ∀ (pins : List (Addr × Obj)) (s : Shared) (σ : St) (H : Hp) (v : V) (u : Value) (Q : St -> Hp -> Prop),Inv X pins σ H s -> RelV v u -> t v σ H Q ->
  wpAny (model X.prog X.w) X.A (assign target X.env u) (fun _ s'=>∃ σ' H',Inv X pins σ' H' s' /\ Q σ' H') X.xe s
def PGs (X : Cx) (ts : List Expr) (t : TGs) : Prop :=
 ∀ (pins : List (Addr × Obj)) (s : Shared) (σ : St) (H : Hp) (vs : List V) (us : List Value) (Q : St -> Hp -> Prop),Inv X pins σ H s -> Vals vs us -> t vs σ H Q ->
  wpAny (model X.prog X.w) X.A (assignInOrder ((assignEach ts X.env).map (·.2)) us) (fun _ s'=>∃ σ' H',Inv X pins σ' H' s' /\ Q σ' H') X.xe s
abbrev TSet:=V -> V -> V -> Hp -> (Hp -> Prop) -> Prop
def PSet (X : Cx) (t : TSet) : Prop :=
 ∀ (pins : List (Addr × Obj)) (s : Shared) (σ : St) (H : Hp) (o i v : V) (ov iv u : Value) (Q : Hp -> Prop),Inv X pins σ H s -> RelV o ov -> RelV i iv -> RelV v u -> t o i v H Q ->
  wpAny (model X.prog X.w) X.A (setItem ov iv u) (fun _ s'=>∃ H',Inv X pins σ H' s' /\ Q H') X.xe s
abbrev TIp:=V -> V -> Hp -> VK -> Prop
def PIp (X : Cx) (op : Operator) (t : TIp) : Prop :=
 ∀ (pins : List (Addr × Obj)) (s : Shared) (σ : St) (H : Hp) (x y : V) (v u : Value) (Q : VK),Inv X pins σ H s -> RelV x v -> RelV y u -> t x y H Q ->
  wpAny (model X.prog X.w) X.A (inplaceOp op v u) (EP X pins σ Q) X.xe s
section
variable {X : Cx} {pos : Pos}
def gName (i : Nat) : TG:=fun v σ H Q=>Q (σ.set i (some v)) H
theorem pg_name {i : Nat} {x : Str} (hN : X.N.Nodup) (hi : X.N[i]? = some x) (hx : Loc X.env.scope x) (hf : X.fn x = true \/ X.env.scope.names.lookup x = some .local:=by first | exact .inl rfl | exact .inr rfl | assumption) : PG X (.Name x pos) (gName i):=by
 intro pins s σ H v u Q I r h
 exact wpAny_assign_Name (store_ok I hN hi hx r (fun s' I'=>⟨_,H,I',h⟩) hf)
def gNil : TGs:=fun vs σ H Q=>vs = [] /\ Q σ H
def gCons (t : TG) (u : TGs) : TGs:=fun vs σ H Q=>∃ v r,vs = v :: r /\ t v σ H fun σ' H'=>u r σ' H' Q
theorem pgs_nil : PGs X [] gNil:=by
 intro pins s σ H vs us Q I r h
 obtain ⟨e,h⟩:=h
 subst e
 cases r
 exact assignInOrder_nil ⟨σ,H,I,h⟩
theorem pgs_cons {e : Expr} {es : List Expr} {t : TG} {u : TGs} (h1 : PG X e t) (h2 : PGs X es u)
  (hs : (assignEach (e :: es) X.env).map (·.2) = assign e X.env :: (assignEach es X.env).map (·.2):=by rfl) : PGs X (e :: es) (gCons t u):=by
 intro pins s σ H vs us Q I r h
 obtain ⟨v,vr,e1,h⟩:=h
 subst e1
 cases r with
 | cons r rr =>
  rw [hs]
  refine assignInOrder_cons (thn (h1 pins s σ H _ _ _ I r h) fun _ s1 ⟨σ1,H1,I1,q1⟩=>?_)
  exact h2 pins s1 σ1 H1 _ _ Q I1 rr q1
def gTup (K : W.Frag) (n : Nat) (t : TGs) : TG:=fun v σ H Q=>∃ a xs,v = .ref a /\ SqT K H a xs /\ xs.length = n /\ t xs σ H Q
theorem pg_tup {es : List Expr} {k : Nat} {t : TGs} {n : Nat} (hc : X.calm = true) (h : PGs X es t)
  (hn : (assignEach es X.env).length = n:=by rfl) (hst : (assignEach es X.env).findIdx? (·.1) = none:=by rfl) : PG X (.Tuple es k pos) (gTup X.K n t):=by
 intro pins s σ H v u Q I r hw
 obtain ⟨a,xs,e1,hq,hl,hw⟩:=hw
 subst e1
 cases r
 obtain ⟨its,rv,ht,hz⟩:=I.tuple hq
 refine assign_Tuple_tuple (I.ok.hd hc) ht (by simp [hn,<- hl,rv.length]) hst fun h' hx=>?_
 have I1 : Inv X pins σ H { s with heap:=h' }:=I.kept (t':=s.toks) fun b o e=>hx b o (Nat.ne_of_lt (Heap.lt_size e)) e
 exact h pins _ σ H xs _ Q I1 (by simpa using rv) hw
def gSub (to ti : TE) (t : TSet) : TG:=fun v σ H Q=>to σ H fun o H1=>ti σ H1 fun i H2=>t o i v H2 fun H3=>Q σ H3
theorem pg_sub {o i : Expr} {to ti : TE} {t : TSet} (ho : PE X o to) (hi : PE X i ti) (hs : PSet X t)
  (ha : ∀ v,assign (.Subscript o i pos) X.env v = (do
   let ov <- holding [v] (eval o X.env)
   let iv <- holding [v,ov] (eval i X.env)
   standAt pos
   holding [v,ov,iv] (setItem ov iv v)
   release [v,ov,iv] []):=by intro _; rfl) : PG X (.Subscript o i pos) (gSub to ti t):=by
 intro pins s σ H v u Q I r h
 rw [ha]
 refine wpAny_bind (wpAny_holding (thn (ho pins s σ H _ I h) fun ov s1 ⟨x,H1,I1,r1,q1⟩=>?_))
 refine wpAny_bind (wpAny_holding (thn (hi pins s1 σ H1 _ I1 q1) fun iv s2 ⟨y,H2,I2,r2,q2⟩=>?_))
 refine wpAny_bind (wpAny_standAt (wpAny_bind (wpAny_holding (thn (hs pins s2 σ H2 x y v ov iv u _ I2 r1 r2 r q2) fun _ s3 ⟨H3,I3,q3⟩=>?_))))
 exact wpAny_release ⟨σ,H3,I3,q3⟩
def tAsg (te : TE) (g : TG) : TS:=fun D σ H=>te σ H fun x H1=>g x σ H1 D.nx
theorem ps_asg {tg e : Expr} {te : TE} {g : TG} (he : PE X e te) (hg : PG X tg g) (hs : swapsWithSole [tg] e pos.line X.env = pure false:=by rfl) (hw : swappedStores [tg] e X.env = pure none:=by rfl)
  (h1 : (assignEach [tg] X.env).map (·.2) = [assign tg X.env]:=by rfl) : PS X (.Assign [tg] e pos) (tAsg te g):=by
 intro pins s σ H D I h
 refine wpAny_Assign_stores (thn (he pins s σ H _ I h) fun v s1 ⟨x,H1,I1,r1,q1⟩=>?_) hs hw
 rw [h1]
 exact thn (hg pins s1 σ H1 x v _ I1 r1 q1) fun _ s2 q=>q
theorem ps_set {i : Nat} {x : Str} {e : Expr} {te : TE} {pos' : Pos} (hN : X.N.Nodup) (hi : X.N[i]? = some x) (hx : Loc X.env.scope x) (he : PE X e te) (hs : swapsWith e (some (.Name x pos')) pos.line X.env = pure false:=by rfl) (hf : X.fn x = true \/ X.env.scope.names.lookup x = some .local:=by first | exact .inl rfl | exact .inr rfl | assumption) :
  PS X (.Assign [.Name x pos'] e pos) (tAsg te (gName i)):=by
 intro pins s σ H D I h
 refine wpAny_Assign_Name (thn (he pins s σ H _ I h) fun v s1 ⟨y,H1,I1,r1,q1⟩=>?_) hs
 exact store_ok I1 hN hi hx r1 (fun s2 I2=>⟨_,H1,I2,q1⟩) hf
def tAug (i : Nat) (te : TE) (ti : TIp) : TS:=fun D σ H=>∃ x,σ[i]? = some (some x) /\ te σ H fun y H1=>ti x y H1 fun z H2=>D.nx (σ.set i (some z)) H2
def tAugS (to ti te : TE) (tget : V -> V -> Hp -> VK -> Prop) (tip : TIp) (tset : TSet) : TS:=fun D σ H=>to σ H fun o H1=>ti σ H1 fun i H2=>tget o i H2 fun x H3=>te σ H3 fun y H4=>tip x y H4 fun z H5=>tset o i z H5 fun H6=>D.nx σ H6
def PGet (X : Cx) (t : V -> V -> Hp -> VK -> Prop) : Prop :=
 ∀ (pins : List (Addr × Obj)) (s : Shared) (σ : St) (H : Hp) (o i : V) (ov iv : Value) (Q : VK),Inv X pins σ H s -> RelV o ov -> RelV i iv -> t o i H Q ->
  wpAny (model X.prog X.w) X.A (getItem ov iv) (EP X pins σ Q) X.xe s
theorem ps_augS {o i e : Expr} {to ti te : TE} {tget : V -> V -> Hp -> VK -> Prop} {tip : TIp} {tset : TSet} {op : Operator} {tpos : Pos} (ho : PE X o to) (hi : PE X i ti) (hg : PGet X tget) (he : PE X e te) (hp : PIp X op tip) (hs : PSet X tset)
  (ha : ∀ ov iv new,augStore i ov iv new = (do holding [new,ov,iv] (setItem ov iv new); release [new,ov,iv] []; pure .next):=by intros; rfl) : PS X (.AugAssign (.Subscript o i tpos) op e pos) (tAugS to ti te tget tip tset):=by
 intro pins s σ H D I h
 refine wpAny_AugAssign_SubscriptAny (thn (ho pins s σ H _ I h) fun ov s1 ⟨x1,H1,I1,r1,q1⟩=>?_) ha
 refine thn (hi pins s1 σ H1 _ I1 q1) fun iv s2 ⟨x2,H2,I2,r2,q2⟩=>?_
 refine thn (hg pins s2 σ H2 x1 x2 ov iv _ I2 r1 r2 q2) fun old s3 ⟨x3,H3,I3,r3,q3⟩=>?_
 refine thn (he pins s3 σ H3 _ I3 q3) fun v s4 ⟨x4,H4,I4,r4,q4⟩=>?_
 refine thn (hp pins s4 σ H4 x3 x4 old v _ I4 r3 r4 q4) fun new s5 ⟨x5,H5,I5,r5,q5⟩=>?_
 exact thn (hs pins s5 σ H5 x1 x2 x5 ov iv new _ I5 r1 r2 r5 q5) fun _ s6 ⟨H6,I6,q6⟩=>⟨σ,H6,I6,q6⟩
def ipI (f : Int -> Int -> Int) : TIp:=fun x y H Q=>∃ i j,x = .int i /\ y = .int j /\ Q (.int (f i j)) H
theorem ip_add : PIp X .Add (ipI fun i j=>i + j):=by
 intro pins s σ H x y v u Q I r1 r2 h
 obtain ⟨i,j,e1,e2,q⟩:=h
 subst e1; subst e2
 obtain ⟨t,rfl⟩:=r1
 obtain ⟨t',rfl⟩:=r2
 exact iadd_int ⟨.int _,H,I.tok _,⟨_,rfl⟩,q⟩
def tWhile (c : TT) (tb : TS) : TS:=fun D σ H=>∃ W : Nat -> St -> Hp -> Prop,(∃ m,W m σ H) /\ ∀ m σ H,W m σ H ->
 c σ H fun b H1=>if b = true then ∃ N : St -> Hp -> Prop,(∀ σ' H',N σ' H' -> ∃ m',m' < m /\ W m' σ' H') /\ tb { D with nx:=N,ct:=N,bk:=D.nx } σ H1 else D.nx σ H1
theorem ps_while {c : Expr} {body : List Stmt} {tc : TT} {tb : TS} (hp : PassesOwn (model X.prog X.w) X.A X.env X.xe) (hc : PT X c tc) (hb : PSs X body tb) : PS X (.While c body [] pos) (tWhile tc tb):=by
 intro pins s σ H D I h
 obtain ⟨W,⟨m0,w0⟩,turn⟩:=h
 refine wpAny_While (codeAny_whileLoop (fun n s'=>∃ σ' H',Inv X pins σ' H' s' /\ W n σ' H') ?_ m0 ⟨σ,H,I,w0⟩)
 rintro n s1 ⟨σ1,H1,I1,w1⟩
 refine wpAny_passesOwn hp (thn (hc pins s1 σ1 H1 _ I1 (turn n σ1 H1 w1)) fun b s2 ⟨H2,I2,q2⟩=>?_)
 cases b with
 | true =>
  obtain ⟨N,hN,q2⟩:=q2
  rw [if_pos rfl]
  refine wpAny_passesOwn hp (thn (hb pins s2 σ1 H2 _ I2 q2) fun f s3 q3=>?_)
  cases f with
  | next =>
   obtain ⟨σ3,H3,I3,n3⟩:=q3
   obtain ⟨m',hm,w3⟩:=hN σ3 H3 n3
   exact ⟨m',hm,σ3,H3,I3,w3⟩
  | cont =>
   obtain ⟨σ3,H3,I3,n3⟩:=q3
   obtain ⟨m',hm,w3⟩:=hN σ3 H3 n3
   exact ⟨m',hm,σ3,H3,I3,w3⟩
  | brk=>exact q3
  | ret v=>exact q3
 | false =>
  rw [if_neg Bool.false_ne_true]
  exact wpAny_execs_nil ⟨σ1,H2,I2,q2⟩
end
structure It where
 go : Nat -> Hp -> Prop
 yld : Nat -> Hp -> V -> Hp -> Prop
 stop : Nat -> Hp -> Prop
def FpOk (X : Cx) (pins : List (Addr × Obj)) (H : Hp) (b : Addr) : Prop :=
 H b = none /\ b ≠ X.env.locals /\ b ∉ X.fs /\ (b ∈ X.ex \/ X.s₀.heap.objs.size <= b) /\ (∀ x c,X.env.cells.lookup x = some c -> c ≠ b) /\ ∀ p ∈ X.pn ++ pins,p.1 ≠ b
theorem Inv.fpOk {X : Cx} {pins : List (Addr × Obj)} {σ : St} {H H' : Hp} {s : Shared} {b : Addr} (I : Inv X pins σ H s) (hb : s.heap.objs.size <= b) (hn : H' b = none) : FpOk X pins H' b:=by
 refine ⟨hn,Nat.ne_of_gt (Nat.lt_of_lt_of_le I.lt hb),I.nofs hb,.inr (Nat.le_trans I.sz hb),fun x c e z=>?_,fun p hp z=>?_⟩
 ·obtain ⟨v,q⟩:=I.cell x c e
  exact absurd (Nat.lt_of_lt_of_le q.lt (by rw [z]; exact hb)) (Nat.lt_irrefl _)
 ·exact absurd (Nat.lt_of_lt_of_le (Heap.lt_size (I.pin p hp).1) (by rw [z]; exact hb)) (Nat.lt_irrefl _)
structure Turn (P : Program) (w : World) (K : W.Frag) (tg : Expr) (J : It) (fp : List Addr) (it : Addr) (tn : Nat -> Heap -> Prop) : Prop where
 mem : it ∈ fp
 obj : ∀ i h,tn i h -> ∀ b ∈ fp,∃ o,h.get? b = some o /\ ∀ v,o.data ≠ .cell v
 keep : ∀ i h h',tn i h -> (∀ b ∈ fp,∀ o,h.get? b = some o -> h'.get? b = some o) -> tn i h'
 item : ∀ (X : Cx),X.prog = P -> X.w = w -> X.K = K -> X.calm = true -> ∀ (i : Nat) (pins : List (Addr × Obj)) (s : Shared) (σ : St) (H : Hp) (E : Value -> Shared -> Prop),Inv X pins σ H s -> (∀ b ∈ fp,FpOk X pins H b) -> tn i s.heap -> J.go i H ->
  wpAny (model P w) X.A (pyNext (.ref it)) (fun r s1=>∃ u,r = some u /\
   wpAny (model P w) X.A (letOwnedTupleGo tg (.ref it) u) (fun _ s2=>∃ x H',Inv X pins σ H' s2 /\ RelV x u /\ J.yld i H x H' /\ tn (i + 1) s2.heap /\ ∀ b ∈ fp,H' b = none) E s1) E s
 done : ∀ (X : Cx),X.prog = P -> X.w = w -> X.K = K -> X.calm = true -> ∀ (i : Nat) (pins : List (Addr × Obj)) (s : Shared) (σ : St) (H : Hp) (E : Value -> Shared -> Prop),Inv X pins σ H s -> (∀ b ∈ fp,FpOk X pins H b) -> tn i s.heap -> J.stop i H ->
  wpAny (model P w) X.A (pyNext (.ref it)) (fun r s1=>r = none /\ Inv X pins σ H s1) E s
 self : ∀ (A : Around) (i : Nat) (s : Shared) (Q : Value -> Shared -> Prop) (E : Value -> Shared -> Prop),tn i s.heap -> Q (.ref it) s -> wpAny (model P w) A (pyIter (.ref it)) Q E s
abbrev TI:=St -> Hp -> (It -> Hp -> Prop) -> Prop
def PIE (X : Cx) (pins : List (Addr × Obj)) (σ : St) (tg : Expr) (R : It -> Hp -> Prop) (itv : Value) (s2 : Shared) : Prop :=
 ∃ (it : Addr) (fp : List Addr) (tn : Nat -> Heap -> Prop) (J : It) (H' : Hp),itv = .ref it /\ Inv X pins σ H' s2 /\ Turn X.prog X.w X.K tg J fp it tn /\ tn 0 s2.heap /\ (∀ b ∈ fp,FpOk X pins H' b) /\ R J H'
def PI (X : Cx) (tg iter : Expr) (wi : TI) : Prop :=
 ∀ (pins : List (Addr × Obj)) (s : Shared) (σ : St) (H : Hp) (R : It -> Hp -> Prop),Inv X pins σ H s -> wi σ H R ->
  wpAny (model X.prog X.w) X.A (eval iter X.env) (fun v s1=>wpAny (model X.prog X.w) X.A (pyIter v) (PIE X pins σ tg R) X.xe s1) X.xe s
theorem go_of {M : Model} {A : Around} {E : Value -> Shared -> Prop} {s : Shared} {tg : Expr} {it : Addr} {u : Value} {o : Obj} {n : String} {vs : Array Value} {Q : Unit -> Shared -> Prop} (ho : s.heap.get? it = some o) (hc : o.cls = .type n) (hd : o.data = .fields vs)
  (hn : ["enumerate","zip","dict_itemiterator","dict_reverseitemiterator","odict_iterator","itertools.zip_longest","itertools.pairwise"].contains n = false) (hQ : Q () s) : wpAny M A (letOwnedTupleGo tg (.ref it) u) Q E s:=by
 unfold letOwnedTupleGo
 cases tg <;> first
  | exact wpAny_pure hQ
  | (cases u <;> first
    | exact wpAny_pure hQ
    | (refine wpAny_bind (wpAny_load ho ?_)
       rw [hc,hd]
       show wpAny M A (if (["enumerate","zip","dict_itemiterator","dict_reverseitemiterator","odict_iterator","itertools.zip_longest","itertools.pairwise"].contains n && vs[0]? == some (rawInt _)) = true then _ else _) Q E s
       rw [if_neg (by intro h; rw [hn,Bool.false_and] at h; cases h)]
       exact wpAny_pure hQ))
def Itl (K : W.Frag) (a : Addr) : It :=
 ⟨fun i H=>∃ xs x,SqL K H a xs /\ xs[i]? = some x,fun i H x H'=>H' = H /\ ∀ xs,SqL K H a xs -> xs[i]? = some x,fun i H=>∃ xs,SqL K H a xs /\ xs.length <= i⟩
def Itt (K : W.Frag) (a : Addr) : It :=
 ⟨fun i H=>∃ xs x,SqT K H a xs /\ xs[i]? = some x,fun i H x H'=>H' = H /\ ∀ xs,SqT K H a xs -> xs[i]? = some x,fun i H=>∃ xs,SqT K H a xs /\ xs.length <= i⟩
def Itr (lo : Int) (n : Nat) : It:=⟨fun i _=>i < n,fun i H x H'=>H' = H /\ x = .int (lo + i),fun i _=>n <= i⟩
theorem turn_list {P : Program} {w : World} {K : W.Frag} {tg : Expr} (a it : Addr) : Turn P w K tg (Itl K a) [it] it (fun i h=>h.IsListIter it a i) where
 mem:=by simp
 obj:=fun i h st b hb=>by
  have e : b = it:=by simpa using hb
  subst e
  obtain ⟨o,e,c,d⟩:=st
  exact ⟨o,e,fun v z=>by rw [d] at z; cases z⟩
 keep:=fun i h h' st k=>st.at fun o e=>k it (by simp) o e
 item:=by
  intro X hP hw hK hc i pins s σ H E I hf st hg
  subst hP hw hK
  obtain ⟨xs,x,hq,hx⟩:=hg
  obtain ⟨its,rv,p,hz⟩:=I.list hq
  obtain ⟨u,hu,ru⟩:=rv.get hx
  obtain ⟨f0,f1,f2,f3,f4,f5⟩:=hf it (by simp)
  refine wpAny_pyNext_list_item st p.isList (x:=u) (by simpa using hu) fun h' st' sb=>?_
  have I1 : Inv X pins σ H { s with heap:=h' }:=I.turned (t':=s.toks) (fun b o hb e=>(sb.2 b hb).trans e) f0 f1 f3 f4 f5
  obtain ⟨o,e,c,d⟩:=id st'
  exact ⟨u,rfl,go_of (s:={ s with heap:=h' }) e c d (by decide) ⟨x,H,I1,ru,⟨rfl,fun ys hy=>by rw [I.list_inj hy hq]; exact hx⟩,st',fun b hb=>(hf b hb).1⟩⟩
 done:=by
  intro X hP hw hK hc i pins s σ H E I hf st hg
  subst hP hw hK
  obtain ⟨xs,hq,hx⟩:=hg
  obtain ⟨its,rv,p,hz⟩:=I.list hq
  obtain ⟨f0,f1,f2,f3,f4,f5⟩:=hf it (by simp)
  have hl:=rv.length
  exact wpAny_pyNext_list_end (I.ok.hd hc) st p.isList (by simp; omega) fun h' eb=>⟨rfl,I.turned (t':=s.toks) (fun b o hb e=>eb b o hb e) f0 f1 f3 f4 f5⟩
 self:=fun _ _ _ _ _ st h=>wpAny_pyIter_listiter st h
theorem turn_tuple {P : Program} {w : World} {K : W.Frag} {tg : Expr} (a it : Addr) : Turn P w K tg (Itt K a) [it] it (fun i h=>h.IsTupleIter it a i) where
 mem:=by simp
 obj:=fun i h st b hb=>by
  have e : b = it:=by simpa using hb
  subst e
  obtain ⟨o,e,c,d⟩:=st
  exact ⟨o,e,fun v z=>by rw [d] at z; cases z⟩
 keep:=fun i h h' st k=>st.at fun o e=>k it (by simp) o e
 item:=by
  intro X hP hw hK hc i pins s σ H E I hf st hg
  subst hP hw hK
  obtain ⟨xs,x,hq,hx⟩:=hg
  obtain ⟨its,rv,p,hz⟩:=I.tuple hq
  obtain ⟨u,hu,ru⟩:=rv.get hx
  obtain ⟨f0,f1,f2,f3,f4,f5⟩:=hf it (by simp)
  refine wpAny_pyNext_tuple_item st (show s.heap.IsTuple a its.toArray from p) (x:=u) (by simpa using hu) fun h' st' sb=>?_
  have I1 : Inv X pins σ H { s with heap:=h' }:=I.turned (t':=s.toks) (fun b o hb e=>(sb.2 b hb).trans e) f0 f1 f3 f4 f5
  obtain ⟨o,e,c,d⟩:=id st'
  exact ⟨u,rfl,go_of (s:={ s with heap:=h' }) e c d (by decide) ⟨x,H,I1,ru,⟨rfl,fun ys hy=>by rw [I.tuple_inj hy hq]; exact hx⟩,st',fun b hb=>(hf b hb).1⟩⟩
 done:=by
  intro X hP hw hK hc i pins s σ H E I hf st hg
  subst hP hw hK
  obtain ⟨xs,hq,hx⟩:=hg
  obtain ⟨its,rv,p,hz⟩:=I.tuple hq
  obtain ⟨f0,f1,f2,f3,f4,f5⟩:=hf it (by simp)
  have hl:=rv.length
  exact wpAny_pyNext_tuple_end (I.ok.hd hc) st (show s.heap.IsTuple a its.toArray from p) (by simp; omega) fun h' eb=>⟨rfl,I.turned (t':=s.toks) (fun b o hb e=>eb b o hb e) f0 f1 f3 f4 f5⟩
 self:=fun _ _ _ _ _ st h=>wpAny_pyIter_tupleiter st h
theorem turn_range {P : Program} {w : World} {K : W.Frag} {tg : Expr} (it : Addr) (lo : Int) (n : Nat) : Turn P w K tg (Itr lo n) [it] it (fun i h=>IsRangeIter h it (lo + (i : Nat) * 1) ((n : Int) - (i : Nat)) 1) where
 mem:=by simp
 obj:=fun i h st b hb=>by
  have e : b = it:=by simpa using hb
  subst e
  exact ⟨_,st,fun v z=>by
   have z' : Data.fields _ = Data.cell v:=z
   cases z'⟩
 keep:=fun i h h' st k=>k it (by simp) _ st
 item:=by
  intro X hP hw hK hc i pins s σ H E I hf st hg
  subst hP hw hK
  obtain ⟨f0,f1,f2,f3,f4,f5⟩:=hf it (by simp)
  have W:=Walks.range (prog:=X.prog) (w:=X.w) (I.ok.hd hc) it lo 1 n
  refine W.item i s _ _ hg st fun v h' tk hv st' kk=>?_
  obtain ⟨t,rfl⟩:=hv
  have I1 : Inv X pins σ H { s with heap:=h',toks:=tk }:=I.turned (fun b o hb e=>kk b o (by simpa using hb) e) f0 f1 f3 f4 f5
  refine ⟨_,rfl,go_of (s:={ s with heap:=h',toks:=tk }) (n:="range_iterator") st' rfl rfl (by decide) ⟨.int (lo + i),H,I1,⟨t,?_⟩,⟨rfl,rfl⟩,st',fun b hb=>(hf b hb).1⟩⟩
  rw [Int.mul_one]
 done:=by
  intro X hP hw hK hc i pins s σ H E I hf st hg
  subst hP hw hK
  obtain ⟨f0,f1,f2,f3,f4,f5⟩:=hf it (by simp)
  exact wpAny_pyNext_range_end (I.ok.hd hc) st (by have : n <= i:=hg; omega) fun h' eb=>⟨rfl,I.turned (t':=s.toks) (fun b o hb e=>eb b o hb e) f0 f1 f3 f4 f5⟩
 self:=fun _ _ _ _ _ st h=>wpAny_pyIter_rangeiter st h
section
variable {X : Cx} {tg : Expr}
def iList (K : W.Frag) (tl : TE) : TI:=fun σ H R=>tl σ H fun x H1=>∃ a,x = .ref a /\ (∃ xs,SqL K H1 a xs) /\ R (Itl K a) H1
def iTup (K : W.Frag) (tl : TE) : TI:=fun σ H R=>tl σ H fun x H1=>∃ a,x = .ref a /\ (∃ xs,SqT K H1 a xs) /\ R (Itt K a) H1
theorem pi_list {l : Expr} {tl : TE} (hl : PE X l tl) : PI X tg l (iList X.K tl):=by
 intro pins s σ H R I h
 refine thn (hl pins s σ H _ I h) fun v s1 ⟨x,H1,I1,r1,q1⟩=>?_
 obtain ⟨a,e,⟨xs,hq⟩,q⟩:=q1
 subst e
 cases r1
 obtain ⟨its,rv,p,hz⟩:=I1.list hq
 refine wpAny_pyIter_list p.isList ?_
 refine ⟨s1.heap.objs.size,[s1.heap.objs.size],_,_,H1,rfl,I1.kept (t':=s1.toks) fun b o e=>Heap.get?_push_of_some _ e,turn_list a _,⟨_,Heap.get?_push_size _ rfl,rfl,rfl⟩,fun b hb=>?_,q⟩
 have e : b = s1.heap.objs.size:=by simpa using hb
 subst e
 exact I1.fpOk (Nat.le_refl _) (I1.hok.fresh (Nat.le_refl _))
theorem pi_tup {l : Expr} {tl : TE} (hl : PE X l tl) : PI X tg l (iTup X.K tl):=by
 intro pins s σ H R I h
 refine thn (hl pins s σ H _ I h) fun v s1 ⟨x,H1,I1,r1,q1⟩=>?_
 obtain ⟨a,e,⟨xs,hq⟩,q⟩:=q1
 subst e
 cases r1
 obtain ⟨its,rv,p,hz⟩:=I1.tuple hq
 refine wpAny_pyIter_tuple (show s1.heap.IsTuple a its.toArray from p) ?_
 refine ⟨s1.heap.objs.size,[s1.heap.objs.size],_,_,H1,rfl,I1.kept (t':=s1.toks) fun b o e=>Heap.get?_push_of_some _ e,turn_tuple a _,⟨_,Heap.get?_push_size _ rfl,rfl,rfl⟩,fun b hb=>?_,q⟩
 have e : b = s1.heap.objs.size:=by simpa using hb
 subst e
 exact I1.fpOk (Nat.le_refl _) (I1.hok.fresh (Nat.le_refl _))
theorem range_it {pins : List (Addr × Obj)} {σ : St} {H : Hp} {s : Shared} {R : It -> Hp -> Prop} {E : Value -> Shared -> Prop} {lo hi : Int} {t u v : Tok} {tk : Nat} (I : Inv X pins σ H s) (h1 : -(2 ^ 62) <= lo) (h2 : lo < 2 ^ 62) (h3 : -(2 ^ 62) <= hi) (h4 : hi < 2 ^ 62)
  (q : R (Itr lo (hi - lo).toNat) H) : wpAny (model X.prog X.w) X.A (pyIter (.ref s.heap.objs.size)) (PIE X pins σ tg R) E { s with heap:=s.heap.push { cls:=.type "range",data:=.fields #[.int lo t,.int hi u,.int 1 v] },toks:=tk }:=by
 refine wpAny_pyIter_range (IsRange.new ..) (small_one h1 h2 h3 h4) ?_
 have I1 : Inv X pins σ H { s with heap:=s.heap.push { cls:=.type "range",data:=.fields #[.int lo t,.int hi u,.int 1 v] },toks:=tk }:=I.kept fun b o e=>Heap.get?_push_of_some _ e
 refine ⟨(s.heap.push { cls:=.type "range",data:=.fields #[.int lo t,.int hi u,.int 1 v] }).objs.size,[(s.heap.push { cls:=.type "range",data:=.fields #[.int lo t,.int hi u,.int 1 v] }).objs.size],_,_,H,rfl,
  I1.kept (t':=tk) fun b o e=>Heap.get?_push_of_some _ e,turn_range _ lo (hi - lo).toNat,?_,fun b hb=>?_,q⟩
 ·have e1 : lo + ((0 : Nat) : Int) * 1 = lo:=by simp
  have e2 : (((hi - lo).toNat : Nat) : Int) - ((0 : Nat) : Int) = Builtin.Range.rangeSize lo hi 1:=by rw [rangeSize_one]; split <;> omega
  show IsRangeIter _ _ (lo + ((0 : Nat) : Int) * 1) ((((hi - lo).toNat : Nat) : Int) - ((0 : Nat) : Int)) 1
  rw [e1,e2]
  exact Heap.get?_push_size _ rfl
 ·have e : b = (s.heap.push { cls:=.type "range",data:=.fields #[.int lo t,.int hi u,.int 1 v] }).objs.size:=by simpa using hb
  subst e
  exact I1.fpOk (Nat.le_refl _) (I1.hok.fresh (Nat.le_refl _))
def iRng1 (ta : TA) : TI:=fun σ H R=>ta σ H fun vs H1=>∃ j : Int,vs = [.int j] /\ -(2 ^ 62) <= j /\ j < 2 ^ 62 /\ R (Itr 0 j.toNat) H1
def iRng2 (ta : TA) : TI:=fun σ H R=>ta σ H fun vs H1=>∃ i j : Int,vs = [.int i,.int j] /\ (-(2 ^ 62) <= i /\ i < 2 ^ 62 /\ -(2 ^ 62) <= j /\ j < 2 ^ 62) /\ R (Itr i (j - i).toNat) H1
theorem pi_range1 {a : Expr} {ta : TA} {p pos : Pos} (hg : Gl X "range") (hm : X.mg "range" = none) (ha : PA X [a] ta) (hs : starEach [a] X.env = [(false,eval a X.env)]:=by rfl) : PI X tg (.Call (.Name "range" p) [a] [] pos) (iRng1 ta):=by
 intro pins s σ H R I h
 refine Call_ (ld_blt I hg hm boot_range (PyProof.Rows.callWith_type1 (thn (ha pos pins s σ H _ I h) fun us s1 ⟨vs,H1,I1,r1,q1⟩=>?_) hs rfl))
 obtain ⟨j,e,q1,q2,q⟩:=q1
 subst e
 cases r1 with
 | cons r rr =>
  cases rr
  obtain ⟨t,rfl⟩:=r
  exact call_range_1 (range_it I1 (by omega) (by omega) q1 q2 (by simpa using q))
def tFor (wi : TI) (g : TG) (tb : TS) : TS:=fun D σ H=>wi σ H fun J H1=>∃ W : Nat -> Nat -> St -> Hp -> Prop,(∃ m,W 0 m σ H1) /\ ∀ i m σ H,W i m σ H ->
 (J.stop i H /\ D.nx σ H) \/ (J.go i H /\ ∃ N : St -> Hp -> Prop,(∀ σ' H',N σ' H' -> ∃ m',m' < m /\ W (i + 1) m' σ' H') /\ ∀ x H',J.yld i H x H' -> g x σ H' fun σ2 H2=>tb { D with nx:=N,ct:=N,bk:=D.nx } σ2 H2)
def pinsAt (fp : List Addr) (h : Heap) : List (Addr × Obj):=fp.filterMap fun b=>(h.get? b).map fun o=>(b,o)
theorem mem_pinsAt {fp : List Addr} {h : Heap} {b : Addr} {o : Obj} (hb : b ∈ fp) (e : h.get? b = some o) : (b,o) ∈ pinsAt fp h:=List.mem_filterMap.mpr ⟨b,hb,by rw [e]; rfl⟩
theorem of_pinsAt {fp : List Addr} {h : Heap} {p : Addr × Obj} (hp : p ∈ pinsAt fp h) : p.1 ∈ fp /\ h.get? p.1 = some p.2:=by
 obtain ⟨b,hb,e⟩:=List.mem_filterMap.mp hp
 cases q : h.get? b with
 | none=>rw [q] at e; cases e
 | some o =>
  rw [q] at e
  have e' : (b,o) = p:=Option.some.inj e
  subst e'
  exact ⟨hb,q⟩
theorem Inv.pinned {pins : List (Addr × Obj)} {σ : St} {H : Hp} {s : Shared} {fp : List Addr} (I : Inv X pins σ H s) (hf : ∀ b ∈ fp,FpOk X pins H b) (ho : ∀ b ∈ fp,∃ o,s.heap.get? b = some o /\ ∀ v,o.data ≠ .cell v) : Inv X (pins ++ pinsAt fp s.heap) σ H s :=
 I.pins_of fun p hp=>(mem_append.mp hp).elim (fun z=>I.pin p (mem_append_right _ z)) fun z=>by
  obtain ⟨hb,e⟩:=of_pinsAt z
  obtain ⟨f0,f1,f2,_⟩:=hf p.1 hb
  obtain ⟨o,e',d⟩:=ho p.1 hb
  rw [e] at e'; cases e'
  exact ⟨e,f0,f1,f2,d⟩
theorem Inv.unpinned {pins pl : List (Addr × Obj)} {σ : St} {H : Hp} {s : Shared} (I : Inv X (pins ++ pl) σ H s) : Inv X pins σ H s:=I.pins_of fun p hp=>I.pin p (mem_append_right _ (mem_append_left _ hp))
theorem ps_for {iter : Expr} {body : List Stmt} {wi : TI} {g : TG} {tb : TS} {pos : Pos} (hp : PassesOwn (model X.prog X.w) X.A X.env X.xe) (hc : X.calm = true) (hi : PI X tg iter wi) (hg : PG X tg g) (hb : PSs X body tb)
  (hs : ∀ x,foldedSetIterable iter X.env x = pure x:=by intro _; rfl) : PS X (.For tg iter body [] pos) (tFor wi g tb):=by
 intro pins s σ H D I h
 refine wpAny_For (thn (hi pins s σ H _ I h) fun v s1 h1=>thn h1 fun itv s2 h2=>?_) hs
 obtain ⟨it,fp,tn,J,H2,e,I2,T,st2,f2,W,⟨m0,w0⟩,turn⟩:=h2
 subst e
 have stat : ∀ {H' : Hp},(∀ b ∈ fp,H' b = none) -> ∀ b ∈ fp,FpOk X pins H' b:=fun hn b hb=>⟨hn b hb,(f2 b hb).2⟩
 refine codeAny_forLoop_any (fun n s'=>∃ i σ' H',Inv X pins σ' H' s' /\ tn i s'.heap /\ (∀ b ∈ fp,H' b = none) /\ W i n σ' H') ?_ m0 ⟨0,σ,H2,I2,st2,fun b hb=>(f2 b hb).1,w0⟩
 rintro n s3 ⟨i,σ3,H3,I3,st3,fr3,w3⟩
 rcases turn i n σ3 H3 w3 with ⟨stop,qn⟩ | ⟨go,N,hN,step⟩
 ·refine wpAny_passesOwn hp (thn (T.done X rfl rfl rfl hc i pins s3 σ3 H3 X.xe I3 (stat fr3) st3 stop) fun r s4 ⟨hr,I4⟩=>?_)
  subst hr
  exact wpAny_execs_nil ⟨σ3,H3,I4,qn⟩
 ·refine wpAny_passesOwn hp (thn (T.item X rfl rfl rfl hc i pins s3 σ3 H3 X.xe I3 (stat fr3) st3 go) fun r s4 ⟨u,hr,h4⟩=>?_)
  subst hr
  refine wpAny_passesOwn hp (thn h4 fun _ s5 ⟨x,H5,I5,r5,y5,st5,fr5⟩=>?_)
  have I5':=I5.pinned (stat fr5) (T.obj _ _ st5)
  refine wpAny_passesOwn hp (thn (hg _ s5 σ3 H5 x u _ I5' r5 (step x H5 y5)) fun _ s6 ⟨σ6,H6,I6,q6⟩=>?_)
  refine wpAny_passesOwn hp (thn (hb _ s6 σ6 H6 _ I6 q6) fun f s7 q7=>?_)
  have again : ∀ {σ7 : St} {H7 : Hp},Inv X (pins ++ pinsAt fp s5.heap) σ7 H7 s7 -> N σ7 H7 -> ∃ m,m < n /\ ∃ i σ' H',Inv X pins σ' H' s7 /\ tn i s7.heap /\ (∀ b ∈ fp,H' b = none) /\ W i m σ' H':=fun {σ7 H7} I7 n7=>by
   obtain ⟨m',hm,w7⟩:=hN σ7 H7 n7
   refine ⟨m',hm,i + 1,σ7,H7,I7.unpinned,T.keep _ _ _ st5 fun b hb o e=>(I7.pin (b,o) (mem_append_right _ (mem_append_right _ (mem_pinsAt hb e)))).1,fun b hb=>?_,w7⟩
   obtain ⟨o,e,d⟩:=T.obj _ _ st5 b hb
   exact (I7.pin (b,o) (mem_append_right _ (mem_append_right _ (mem_pinsAt hb e)))).2.1
  cases f with
  | next=>obtain ⟨σ7,H7,I7,n7⟩:=q7; exact again I7 n7
  | cont=>obtain ⟨σ7,H7,I7,n7⟩:=q7; exact again I7 n7
  | brk=>obtain ⟨σ7,H7,I7,q7⟩:=q7; exact ⟨σ7,H7,I7.unpinned,q7⟩
  | ret v=>obtain ⟨x7,σ7,H7,I7,r7,q7⟩:=q7; exact ⟨x7,σ7,H7,I7.unpinned,r7,q7⟩
end
theorem for_list {K : W.Frag} {a : Addr} {xs : List V} {g : TG} {tb : TS} {D : Ends} {σ : St} {H : Hp} (Pv : Nat -> St -> Hp -> Prop) (h0 : Pv 0 σ H) (hl : ∀ i σ H,i <= xs.length -> Pv i σ H -> SqL K H a xs)
  (hs : ∀ i x σ H,xs[i]? = some x -> Pv i σ H -> g x σ H fun σ2 H2=>tb { D with nx:=Pv (i + 1),ct:=Pv (i + 1),bk:=D.nx } σ2 H2) (hd : ∀ σ H,Pv xs.length σ H -> D.nx σ H) :
  ∃ W : Nat -> Nat -> St -> Hp -> Prop,(∃ m,W 0 m σ H) /\ ∀ i m σ H,W i m σ H ->
   ((Itl K a).stop i H /\ D.nx σ H) \/ ((Itl K a).go i H /\ ∃ N : St -> Hp -> Prop,(∀ σ' H',N σ' H' -> ∃ m',m' < m /\ W (i + 1) m' σ' H') /\ ∀ x H',(Itl K a).yld i H x H' -> g x σ H' fun σ2 H2=>tb { D with nx:=N,ct:=N,bk:=D.nx } σ2 H2):=by
 refine ⟨fun i m σ H=>m = xs.length - i /\ i <= xs.length /\ Pv i σ H,⟨xs.length,by simp,Nat.zero_le _,h0⟩,?_⟩
 rintro i m σ H ⟨rfl,hi,p⟩
 have q:=hl i σ H hi p
 by_cases hlt : i < xs.length
 ·refine .inr ⟨⟨xs,xs[i],q,by simp [hlt]⟩,Pv (i + 1),fun σ' H' p'=>⟨xs.length - (i + 1),by omega,rfl,hlt,p'⟩,fun x H' y=>?_⟩
  obtain ⟨e,y⟩:=y
  subst e
  exact hs i x σ _ (y xs q) p
 ·have e : i = xs.length:=by omega
  subst e
  exact .inl ⟨⟨xs,q,Nat.le_refl _⟩,hd σ H p⟩
abbrev R2:=V -> V -> Hp -> VK -> Prop
def OpR (X : Cx) (f : Value -> Value -> Sem Value) (r : R2) : Prop :=
 ∀ (pins : List (Addr × Obj)) (s : Shared) (σ : St) (H : Hp) (x y : V) (v u : Value) (Q : VK),Inv X pins σ H s -> RelV x v -> RelV y u -> r x y H Q ->
  wpAny (model X.prog X.w) X.A (f v u) (EP X pins σ Q) X.xe s
def CallR (X : Cx) (f : Value) (r : List V -> Hp -> VK -> Prop) : Prop :=
 ∀ (pins : List (Addr × Obj)) (s : Shared) (σ : St) (H : Hp) (xs : List V) (us : List Value) (Q : VK),Inv X pins σ H s -> Vals xs us -> r xs H Q ->
  wpAny (model X.prog X.w) X.A (call f us) (EP X pins σ Q) X.xe s
def tOp (r : R2) (ta tb : TE) : TE:=fun σ H Q=>ta σ H fun x H1=>tb σ H1 fun y H2=>r x y H2 Q
def tUn (r : V -> Hp -> VK -> Prop) (ta : TE) : TE:=fun σ H Q=>ta σ H fun x H1=>r x H1 Q
def rI (C : Int -> Int -> Prop) (g : Int -> Int -> V) : R2:=fun x y H Q=>∃ i j,x = .int i /\ y = .int j /\ C i j /\ Q (g i j) H
def rI0 (g : Int -> Int -> V) : R2:=fun x y H Q=>∃ i j,x = .int i /\ y = .int j /\ Q (g i j) H
def rU (g : Int -> V) : V -> Hp -> VK -> Prop:=fun x H Q=>∃ i,x = .int i /\ Q (g i) H
section
variable {X : Cx} {a b : Expr} {ta tb : TE} {pos : Pos}
theorem binT (ha : PE X a ta) (hb : PE X b tb) {pins : List (Addr × Obj)} {s : Shared} {σ : St} {H : Hp} {R : V -> V -> Hp -> Prop} (I : Inv X pins σ H s)
  (h : ta σ H fun x H1=>tb σ H1 fun y H2=>R x y H2) {Q : Value -> Shared -> Prop} {f : Value -> Value -> Sem Value}
  (hf : ∀ v u s2 x y H2,Inv X pins σ H2 s2 -> RelV x v -> RelV y u -> R x y H2 -> wpAny (model X.prog X.w) X.A (f v u) Q X.xe s2) :
  wpAny (model X.prog X.w) X.A (eval a X.env) (fun v s₁=>wpAny (model X.prog X.w) X.A (eval b X.env) (fun u s₂=>wpAny (model X.prog X.w) X.A (f v u) Q X.xe s₂) X.xe s₁) X.xe s:=by
 refine thn (ha pins s σ H _ I h) fun v s1 ⟨x,H1,I1,r1,q1⟩=>?_
 refine thn (hb pins s1 σ H1 _ I1 q1) fun u s2 ⟨y,H2,I2,r2,q2⟩=>?_
 exact hf v u s2 x y H2 I2 r1 r2 q2
theorem pe_op {op : Operator} {r : R2} (ho : OpR X (binaryOp op) r) (ha : PE X a ta) (hb : PE X b tb) : PE X (.BinOp a op b pos) (tOp r ta tb):=by
 intro pins s σ H Q I h
 exact wpAny_BinOp (binT ha hb I h fun v u s2 x y H2 I2 rx ry q=>ho pins s2 σ H2 x y v u Q I2 rx ry q)
theorem opI {f : Value -> Value -> Sem Value} {C : Int -> Int -> Prop} {g : Int -> Int -> Int}
  (rule : ∀ (i j : Int) (t u : Tok) (s : Shared) (Q : Value -> Shared -> Prop) (E : Value -> Shared -> Prop),C i j -> Q (.int (g i j) s.toks) { s with toks:=s.toks + 1 } -> wpAny (model X.prog X.w) X.A (f (.int i t) (.int j u)) Q E s) :
  OpR X f (rI C fun i j=>.int (g i j)):=by
 intro pins s σ H x y v u Q I rx ry h
 obtain ⟨i,j,rfl,rfl,hc,q⟩:=h
 obtain ⟨t,rfl⟩:=rx
 obtain ⟨t',rfl⟩:=ry
 exact rule i j t t' s _ _ hc ⟨.int (g i j),H,I.tok _,⟨_,rfl⟩,q⟩
theorem opI0 {f : Value -> Value -> Sem Value} {g : Int -> Int -> Int}
  (rule : ∀ (i j : Int) (t u : Tok) (s : Shared) (Q : Value -> Shared -> Prop) (E : Value -> Shared -> Prop),Q (.int (g i j) s.toks) { s with toks:=s.toks + 1 } -> wpAny (model X.prog X.w) X.A (f (.int i t) (.int j u)) Q E s) :
  OpR X f (rI0 fun i j=>.int (g i j)):=by
 intro pins s σ H x y v u Q I rx ry h
 obtain ⟨i,j,rfl,rfl,q⟩:=h
 obtain ⟨t,rfl⟩:=rx
 obtain ⟨t',rfl⟩:=ry
 exact rule i j t t' s _ _ ⟨.int (g i j),H,I.tok _,⟨_,rfl⟩,q⟩
theorem opB0 {f : Value -> Value -> Sem Value} {g : Int -> Int -> Bool}
  (rule : ∀ (i j : Int) (t u : Tok) (s : Shared) (Q : Value -> Shared -> Prop) (E : Value -> Shared -> Prop),Q (.bool (g i j)) s -> wpAny (model X.prog X.w) X.A (f (.int i t) (.int j u)) Q E s) :
  OpR X f (rI0 fun i j=>.bl (g i j)):=by
 intro pins s σ H x y v u Q I rx ry h
 obtain ⟨i,j,rfl,rfl,q⟩:=h
 obtain ⟨t,rfl⟩:=rx
 obtain ⟨t',rfl⟩:=ry
 exact rule i j t t' s _ _ ⟨.bl (g i j),H,I,rfl,q⟩
def CDiv (i j : Int) : Prop:=0 < j /\ j < 1073741824
def CPow (i j : Int) : Prop:=0 <= j /\ j <= 1000000 /\ i.natAbs < 2 ^ 64
def CMul (i j : Int) : Prop:=(-(2 ^ 64) < i /\ i < 2 ^ 64) \/ (-(2 ^ 64) < j /\ j < 2 ^ 64)
theorem CMul.ok {i j : Int} (h : CMul i j) : IntMulOk i j:=by
 rcases h with ⟨h1,h2⟩ | ⟨h1,h2⟩
 ·exact .of_left (intBits_le_64 h1 h2)
 ·exact .of_right (intBits_le_64 h1 h2)
theorem op_add : OpR X (binaryOp .Add) (rI0 fun i j=>.int (i + j)):=opI0 fun _ _ _ _ _ _ _ q=>add_int q
theorem op_sub : OpR X (binaryOp .Sub) (rI0 fun i j=>.int (i - j)):=opI0 fun _ _ _ _ _ _ _ q=>sub_int q
theorem op_fdiv : OpR X (binaryOp .FloorDiv) (rI CDiv fun i j=>.int (i / j)):=opI fun i j _ _ _ _ _ hc q=>by
 have h1 : (0 : Int) < j:=hc.1
 have h2 : j < 1073741824:=hc.2
 exact floordiv_int (by omega) (by rw [Int.fdiv_eq_ediv_of_nonneg i (by omega)]; exact q) (.inl (PyProof.noPylong_small (by omega)))
theorem op_mod : OpR X (binaryOp .Mod) (rI (fun _ j=>0 < j) fun i j=>.int (i % j)):=opI fun i j _ _ _ _ _ hc q=>by
 have h1 : (0 : Int) < j:=hc
 exact mod_int' (by omega) (by rw [Int.fmod_eq_emod_of_nonneg i (by omega)]; exact q)
theorem op_pow : OpR X (binaryOp .Pow) (rI CPow fun i j=>.int (i ^ j.toNat)):=opI fun _ _ _ _ _ _ _ hc q=>pow_int_small hc.1 hc.2.1 hc.2.2 q
end
def scal : V -> V -> Bool
 | .non,.non=>true | .non,.int _=>true | .int _,.non=>true | .non,.bl _=>true | .bl _,.non=>true | .non,.str _=>true | .str _,.non=>true
 | .int _,.int _=>true | .bl _,.bl _=>true | .str _,.str _=>true | .byt _,.byt _=>true
 | .int _,.str _=>true | .str _,.int _=>true | .bl _,.str _=>true | .str _,.bl _=>true
 | _,_=>false
def rEq : R2:=fun x y H Q=>scal x y = true /\ Q (.bl (decide (x = y))) H
def rNe : R2:=fun x y H Q=>scal x y = true /\ Q (.bl (!decide (x = y))) H
theorem dec_int {i j : Int} : decide (V.int i = V.int j) = (i == j):=by
 rw [Bool.eq_iff_iff]
 simp
theorem dec_bl {i j : Bool} : decide (V.bl i = V.bl j) = (i == j):=by
 rw [Bool.eq_iff_iff]
 simp
theorem dec_str {i j : Str} : decide (V.str i = V.str j) = (i == j):=by
 rw [Bool.eq_iff_iff]
 simp
theorem dec_byt {i j : Array UInt8} : decide (V.byt i = V.byt j) = (i.toList == j.toList):=by
 rw [Bool.eq_iff_iff]
 cases i
 cases j
 simp
section
variable {X : Cx} {a b c : Expr} {ta tb tc : TE} {pos : Pos}
theorem fin_bl {pins : List (Addr × Obj)} {σ : St} {H : Hp} {s : Shared} {Q : VK} {k k' : Bool} (I : Inv X pins σ H s) (q : Q (.bl k) H) (e : k = k') : EP X pins σ Q (.bool k') s:=by
 subst e
 exact ⟨.bl k,H,I,rfl,q⟩
theorem op_eq : OpR X (compareOp .Eq) rEq:=by
 intro pins s σ H x y v u Q I rx ry h
 obtain ⟨hs,q⟩:=h
 cases x with
 | non =>
  cases rx
  cases y with
  | non=>cases ry; exact PySem.EqNone.eq_none_none (fin_bl I q (by simp))
  | bl j=>cases ry; exact PySem.EqNone.eq_none_bool (fin_bl I q (by simp))
  | int j=>obtain ⟨t',rfl⟩:=ry; exact PySem.EqNone.eq_none_int (fin_bl I q (by simp))
  | str j=>obtain ⟨t',rfl⟩:=ry; exact PySem.EqNone.eq_none_str (fin_bl I q (by simp))
  | _=>exact absurd (show false = true from hs) Bool.false_ne_true
 | bl i =>
  cases rx
  cases y with
  | non=>cases ry; exact PySem.EqNone.eq_bool_none (fin_bl I q (by simp))
  | bl j=>cases ry; exact eq_bool (fin_bl I q dec_bl)
  | str j=>obtain ⟨t',rfl⟩:=ry; exact PySem.EqMixed.eq_bool_str (fin_bl I q (by simp))
  | _=>exact absurd (show false = true from hs) Bool.false_ne_true
 | int i =>
  obtain ⟨t,rfl⟩:=rx
  cases y with
  | non=>cases ry; exact PySem.EqNone.eq_int_none (fin_bl I q (by simp))
  | int j=>obtain ⟨t',rfl⟩:=ry; exact eq_int (fin_bl I q dec_int)
  | str j=>obtain ⟨t',rfl⟩:=ry; exact PySem.EqMixed.eq_int_str (fin_bl I q (by simp))
  | _=>exact absurd (show false = true from hs) Bool.false_ne_true
 | str i =>
  obtain ⟨t,rfl⟩:=rx
  cases y with
  | non=>cases ry; exact PySem.EqNone.eq_str_none (fin_bl I q (by simp))
  | bl j=>cases ry; exact PySem.EqMixed.eq_str_bool (fin_bl I q (by simp))
  | int j=>obtain ⟨t',rfl⟩:=ry; exact PySem.EqMixed.eq_str_int (fin_bl I q (by simp))
  | str j=>obtain ⟨t',rfl⟩:=ry; exact eq_str (fin_bl I q dec_str)
  | _=>exact absurd (show false = true from hs) Bool.false_ne_true
 | byt i =>
  obtain ⟨t,rfl⟩:=rx
  cases y with
  | byt j=>obtain ⟨t',rfl⟩:=ry; exact PySem.W.eq_bytes (fin_bl I q dec_byt)
  | _=>exact absurd (show false = true from hs) Bool.false_ne_true
 | _=>cases y <;> exact absurd (show false = true from hs) Bool.false_ne_true
theorem op_lt : OpR X (compareOp .Lt) (rI0 fun i j=>.bl (decide (i < j))):=opB0 fun _ _ _ _ _ _ _ q=>lt_int q
theorem op_le : OpR X (compareOp .LtE) (rI0 fun i j=>.bl (decide (i <= j))):=opB0 fun _ _ _ _ _ _ _ q=>le_int q
theorem op_gt : OpR X (compareOp .Gt) (rI0 fun i j=>.bl (decide (j < i))):=opB0 fun _ _ _ _ _ _ _ q=>gt_int q
theorem op_ge : OpR X (compareOp .GtE) (rI0 fun i j=>.bl (decide (j <= i))):=opB0 fun _ _ _ _ _ _ _ q=>ge_int q
theorem op_isN : OpR X (compareOp .Is) (fun x y H Q=>y = .non /\ Q (.bl (decide (x = .non))) H):=by
 intro pins s σ H x y v u Q I rx ry h
 obtain ⟨rfl,q⟩:=h
 cases ry
 refine is_none_gen (fin_bl I q ?_)
 cases x <;> first
  | (cases rx; rfl)
  | (obtain ⟨t,rfl⟩:=rx; rfl)
theorem OpR.or {f : Value -> Value -> Sem Value} {r r' : R2} (h : OpR X f r) (h' : OpR X f r') : OpR X f (fun x y H Q=>r x y H Q \/ r' x y H Q):=by
 intro pins s σ H x y v u Q I rx ry q
 rcases q with q | q
 ·exact h pins s σ H x y v u Q I rx ry q
 ·exact h' pins s σ H x y v u Q I rx ry q
theorem nomark (b : Expr) {op : CmpOp} (h : op ≠ .In:=by decide) (h2 : op ≠ .NotIn:=by decide) : behindInMarks op b = false:=by
 have e1 : (op == CmpOp.In) = false:=by cases op <;> first | rfl | exact absurd rfl h
 have e2 : (op == CmpOp.NotIn) = false:=by cases op <;> first | rfl | exact absurd rfl h2
 cases b <;> simp [behindInMarks,e1,e2]
theorem pe_cmpR {op : CmpOp} {r : R2} (ho : OpR X (compareOp op) r) (ha : PE X a ta) (hb : PE X b tb) (hm : behindInMarks op b = false) : PE X (.Compare a [op] [b] pos) (tOp r ta tb):=by
 intro pins s σ H Q I h
 exact wpAny_Compare1 (binT ha hb I h fun v u s2 x y H2 I2 rx ry q=>ho pins s2 σ H2 x y v u Q I2 rx ry q) hm
def tTest (t : TE) : TT:=fun σ H Q=>t σ H fun x H'=>∃ k,x = .bl k /\ Q k H'
theorem pt_cmpR {op : CmpOp} {r : R2} (ho : OpR X (compareOp op) r) (ha : PE X a ta) (hb : PE X b tb) (hm : behindInMarks op b = false) : PT X (.Compare a [op] [b] pos) (tTest (tOp r ta tb)):=by
 intro pins s σ H Q I h
 refine wpAny_isTrue_Compare1 (thn (ha pins s σ H _ I h) fun v s1 ⟨x,H1,I1,r1,q1⟩=>thn (hb pins s1 σ H1 _ I1 q1) fun u s2 ⟨y,H2,I2,r2,q2⟩ =>
  thn (ho pins s2 σ H2 x y v u _ I2 r1 r2 q2) fun c s3 ⟨z,H3,I3,r3,k,e,q3⟩=>?_) hm
 subst e
 cases r3
 exact wpAny_truthy_bool ⟨H3,I3,q3⟩
def tChain (r r' : R2) (ta tb tc : TE) : TE:=fun σ H Q=>ta σ H fun x H1=>tb σ H1 fun y H2=>r x y H2 fun z H3=>∃ k,z = .bl k /\
 (if k = true then tc σ H3 fun w' H4=>r' y w' H4 Q else Q (.bl false) H3)
theorem pt_chain {op op' : CmpOp} {r r' : R2} (ho : OpR X (compareOp op) r) (ho' : OpR X (compareOp op') r') (ha : PE X a ta) (hb : PE X b tb) (hc : PE X c tc)
  (hm : lastMarks [op,op'] [b,c] = false:=by with_unfolding_all rfl) : PT X (.Compare a [op,op'] [b,c] pos) (tTest (tChain r r' ta tb tc)):=by
 intro pins s σ H Q I h
 refine isTrue_chain (thn (ha pins s σ H _ I h) fun v s1 ⟨x,H1,I1,r1,q1⟩=>test_link (thn (hb pins s1 σ H1 _ I1 q1) fun u s2 ⟨y,H2,I2,r2,q2⟩ =>
  thn (ho pins s2 σ H2 x y v u _ I2 r1 r2 q2) fun d s3 ⟨z,H3,I3,r3,k,e,q3⟩=>?_)) hm
 subst e
 cases r3
 refine wpAny_truthy_bool ?_
 cases k with
 | false =>
  obtain ⟨k',e',q'⟩:=q3
  cases e'
  exact ite_ff ⟨H3,I3,q'⟩
 | true =>
  refine ite_tt (test_last (thn (hc pins s3 σ H3 _ I3 q3) fun w' s4 ⟨z',H4,I4,r4,q4⟩=>thn (ho' pins s4 σ H4 y z' u w' _ I4 r2 r4 q4) fun d' s5 ⟨z2,H5,I5,r5,k2,e2,q5⟩=>?_))
  subst e2
  cases r5
  exact wpAny_truthy_bool ⟨H5,I5,q5⟩
theorem line63 : (sizeLine : Nat) < 2 ^ 63:=by rw [sizeLine_eq]; decide
theorem op_add_str : OpR X (binaryOp .Add) (fun x y H Q=>∃ i j,x = .str i /\ y = .str j /\ i.length + j.length <= sizeLine /\ Q (.str (i ++ j)) H):=by
 intro pins s σ H x y v u Q I rx ry h
 obtain ⟨i,j,rfl,rfl,hz,q⟩:=h
 obtain ⟨t,rfl⟩:=rx
 obtain ⟨t',rfl⟩:=ry
 exact add_str (fun t' tk=>⟨.str (i ++ j),H,I.tok _,⟨_,rfl⟩,q⟩) hz
theorem vals1 {x : V} {us : List Value} (r : Vals [x] us) : ∃ u,us = [u] /\ RelV x u:=by
 cases r with
 | cons r1 r2=>cases r2; exact ⟨_,rfl,r1⟩
theorem vals2 {x y : V} {us : List Value} (r : Vals [x,y] us) : ∃ u w',us = [u,w'] /\ RelV x u /\ RelV y w':=by
 cases r with
 | cons r1 r2 =>
  cases r2 with
  | cons r3 r4=>cases r4; exact ⟨_,_,rfl,r1,r3⟩
theorem call_max2 (hc : X.calm = true) : CallR X (.builtin "max") (fun xs H Q=>∃ i j,xs = [.int i,.int j] /\ Q (.int (if j > i then j else i)) H):=by
 intro pins s σ H xs us Q I r h
 obtain ⟨i,j,rfl,q⟩:=h
 obtain ⟨u,w',rfl,⟨t,rfl⟩,⟨t',rfl⟩⟩:=vals2 r
 refine max_two_ints (I.ok.hd hc) fun h' tk k=>⟨_,H,I.kept k,?_,q⟩
 by_cases hj : j > i
 ·rw [if_pos hj,if_pos hj]; exact ⟨_,rfl⟩
 ·rw [if_neg hj,if_neg hj]; exact ⟨_,rfl⟩
theorem call_min2 (hc : X.calm = true) : CallR X (.builtin "min") (fun xs H Q=>∃ i j,xs = [.int i,.int j] /\ Q (.int (if j < i then j else i)) H):=by
 intro pins s σ H xs us Q I r h
 obtain ⟨i,j,rfl,q⟩:=h
 obtain ⟨u,w',rfl,⟨t,rfl⟩,⟨t',rfl⟩⟩:=vals2 r
 refine min_two_ints (I.ok.hd hc) fun h' tk k=>⟨_,H,I.kept k,?_,q⟩
 by_cases hj : j < i
 ·rw [if_pos hj,if_pos hj]; exact ⟨_,rfl⟩
 ·rw [if_neg hj,if_neg hj]; exact ⟨_,rfl⟩
theorem call_int1 : CallR X (.type "int") (fun xs H Q=>(∃ i,xs = [.int i] /\ Q (.int i) H) \/ ∃ k,xs = [.bl k] /\ Q (.int (if k then 1 else 0)) H):=by
 intro pins s σ H xs us Q I r h
 rcases h with ⟨i,rfl,q⟩ | ⟨k,rfl,q⟩
 ·obtain ⟨u,rfl,t,rfl⟩:=vals1 r
  exact call_int_int ⟨.int i,H,I,⟨_,rfl⟩,q⟩
 ·obtain ⟨u,rfl,r1⟩:=vals1 r
  cases r1
  exact call_int_bool ⟨.int (if k then 1 else 0),H,I.tok _,⟨_,rfl⟩,q⟩
end
structure ObjM (h : Heap) (x dx C : Addr) (mA : Str -> Option Value) : Prop where
 obj : h.get? x = some (PySem.W.instObj C dx)
 ns : h.Ns1 dx mA
 ne : dx ≠ x
theorem lookIn_ns {h : Heap} {dx : Addr} {mA : Str -> Option Value} (n : h.Ns1 dx mA) : ∃ od,h.get? dx = some od /\ ∀ name,PySem.W.lookIn name od = some (mA name):=by
 obtain ⟨o,es,ep,ho,hd,hk,_,hm⟩:=n
 refine ⟨o,ho,fun name=>?_⟩
 have e:=hm name
 unfold nsFind findBy at e
 rw [<- Array.find?_toList] at e
 unfold PySem.W.lookIn
 rw [hd]
 dsimp only
 split
 ·rename_i y q
  rw [q] at e
  exact congrArg some e
 ·rename_i q
  rw [q] at e
  have a : es.toList.any (·.refKey) = false:=by
   rw [List.any_eq_false]
   intro y hy
   obtain ⟨z,t,hkey⟩:=hk y (Array.mem_toList_iff.mp hy)
   simp [DictEntry.refKey,hkey]
  have a' : ¬ es.toList.any (·.refKey) = true:=by rw [a]; exact Bool.false_ne_true
  rw [if_neg a']
  exact congrArg some e
theorem ObjM.look {h : Heap} {x dx C : Addr} {mA : Str -> Option Value} (I : ObjM h x dx C mA) : ∃ od,PySem.W.InstAt h x (PySem.W.instObj C dx) C (some od) /\ ∀ name,PySem.W.lookIn name od = some (mA name) :=
 let ⟨od,ho,hl⟩:=lookIn_ns I.ns
 ⟨od,⟨I.obj,rfl,rfl,ho⟩,hl⟩
section
variable {P : Program} {w : World} {H : Hp} {h : Heap} {a C dx : Addr} {fs : List (Str × V)}
theorem ins_get (hok : HOk P w H h) (e : H a = some (.ins C dx fs)) : ∃ mA,ObjM h a dx C mA /\ (∀ f,RelO (fs.lookup f) (mA f)) /\ PySem.Within mA (fs.map (·.1)) /\ fs.length <= 1000 /\ H dx = some (.own a):=by
 obtain ⟨d,z,ne,ob,mA,n,r,q⟩:=(show ObjOk P w H h a (.ins C dx fs) from hok a _ e)
 exact ⟨mA,⟨ob,n,ne⟩,r,q,z,d⟩
end
structure Cls (K : W.Frag) (C : Addr) : Prop where
 pg : PySem.W.plainGet K C Str.empty = true
 hd : PySem.W.hasDictIn K C = true
 po : PySem.W.plainOver K C = true
 sa : PySem.W.findIn K (.ref C) "__setattr__" = some (some (.builtin "object.__setattr__"))
theorem Cls.get {K : W.Frag} {C : Addr} (c : Cls K C) (f : Str) : PySem.W.plainGet K C f = true:=c.pg
section
variable {X : Cx} {pins : List (Addr × Obj)} {σ : St} {H : Hp} {s : Shared} {A : Around} {E : Value -> Shared -> Prop} {Q : Value -> Shared -> Prop} {c : Value} {b : Bool}
inductive TyOf (K : W.Frag) (H : Hp) : V -> Value -> Prop where
 | non : TyOf K H .non (.type "NoneType")
 | bl (x : Bool) : TyOf K H (.bl x) (.type "bool")
 | int (i : Int) : TyOf K H (.int i) (.type "int")
 | str (x : Str) : TyOf K H (.str x) (.type "str")
 | flt (x : UInt64) : TyOf K H (.flt x) (.type "float")
 | lst {a : Addr} {xs : List V} (e : H a = some (.lst xs)) : TyOf K H (.ref a) (.type "list")
 | frz {a : Addr} {o : Obj} {xs : List V} (e : H a = some (.frz o (.lst xs))) : TyOf K H (.ref a) (.type "list")
 | tup {a : Addr} {xs : List V} (e : H a = some (.tup xs)) : TyOf K H (.ref a) (.type "tuple")
 | dK {a : Addr} {kvs : List (Key × V)} (e : H a = some (.dK kvs)) : TyOf K H (.ref a) (.type "dict")
 | dT {a : Addr} {kvs : List (List Key × V)} (e : H a = some (.dT kvs)) : TyOf K H (.ref a) (.type "dict")
 | ins {a C dx : Addr} {fs : List (Str × V)} (e : H a = some (.ins C dx fs)) (cl : Cls K C) (ha : PySem.W.findIn K (.ref C) "__class__" = some (some (.builtin "object.__class__")))
   (hn : PySem.W.specialIn K (.builtin "object.__class__") "__get__" = some (some (.builtin "getset_descriptor.__get__"))) (htk : PySem.W.takesIn K (.builtin "object.__class__") = some true)
   (hm : PySem.W.mroIn K C (.type "object") = some true) : TyOf K H (.ref a) (.ref C)
theorem isinst_ok {x : V} {u t : Value} (I : Inv X pins σ H s) (rx : RelV x u) (ty : TyOf X.K H x t) (e : PySem.W.kitOne X.K t c = some b) (h : ∀ tk,Q (.bool b) { s with toks:=tk }) :
  wpAny (model X.prog X.w) A (call (.builtin "isinstance") [u,c]) Q E s:=by
 cases ty with
 | non=>cases (show u = Value.none from rx); exact PySem.W.kia_one PySem.W.kitx_none I.kIn True.intro e (fun z=>nomatch z) h
 | bl y=>cases (show u = Value.bool y from rx); exact PySem.W.kia_one PySem.W.kitx_bool I.kIn True.intro e (fun z=>nomatch z) h
 | int i=>obtain ⟨t,q⟩:=(show ∃ t,u = Value.int i t from rx); cases q; exact PySem.W.kia_one PySem.W.kitx_int I.kIn True.intro e (fun z=>nomatch z) h
 | str y=>obtain ⟨t,q⟩:=(show ∃ t,u = Value.str y t from rx); cases q; exact PySem.W.kia_one PySem.W.kitx_str I.kIn True.intro e (fun z=>nomatch z) h
 | flt y=>obtain ⟨t,q⟩:=(show ∃ t,u = Value.float y t from rx); cases q; exact PySem.W.kia_one PySem.W.kitx_float I.kIn True.intro e (fun z=>nomatch z) h
 | @lst a xs ea =>
  cases (show u = Value.ref a from rx)
  obtain ⟨_,_,n,_,h1⟩:=(show ObjOk X.prog X.w H s.heap a (.lst xs) from I.hok a _ ea)
  exact PySem.W.kia_one PySem.W.kitx_list I.kIn ⟨_,h1,rfl⟩ e (fun z=>nomatch z) h
 | @frz a ob xs ea =>
  cases (show u = Value.ref a from rx)
  obtain ⟨_,_,_,n,_,h1⟩:=(show ObjOk X.prog X.w H s.heap a (.frz ob (.lst xs)) from I.hok a _ ea)
  exact PySem.W.kia_one PySem.W.kitx_list I.kIn ⟨_,h1,rfl⟩ e (fun z=>nomatch z) h
 | @tup a xs ea =>
  cases (show u = Value.ref a from rx)
  obtain ⟨_,_,_,p⟩:=(show ObjOk X.prog X.w H s.heap a (.tup xs) from I.hok a _ ea)
  obtain ⟨o,h1,h2,_⟩:=p
  exact PySem.W.kia_one PySem.W.kitx_tuple I.kIn ⟨o,h1,h2⟩ e (fun z=>nomatch z) h
 | @dK a kvs ea =>
  cases (show u = Value.ref a from rx)
  obtain ⟨_,_,vs,_,p⟩:=(show ObjOk X.prog X.w H s.heap a (.dK kvs) from I.hok a _ ea)
  obtain ⟨o,es,ep,h1,h2,_⟩:=p
  exact PySem.W.kia_one PySem.W.kitx_dict I.kIn ⟨o,h1,h2.1⟩ e (fun z=>nomatch z) h
 | @dT a kvs ea =>
  cases (show u = Value.ref a from rx)
  obtain ⟨_,_,xs,_,o,es,ep,h1,h2,_⟩:=(show ObjOk X.prog X.w H s.heap a (.dT kvs) from I.hok a _ ea)
  exact PySem.W.kia_one PySem.W.kitx_dict I.kIn ⟨o,h1,h2.1⟩ e (fun z=>nomatch z) h
 | @ins a C dx fs ea cl ha hn htk hm =>
  cases (show u = Value.ref a from rx)
  obtain ⟨mA,O,_⟩:=ins_get I.hok ea
  obtain ⟨od,J,_⟩:=O.look
  exact PySem.W.kia_one (PySem.W.kitx_own (cl.get _) cl.hd ha hn htk hm) I.kIn J e (fun z=>nomatch z) h
end
structure Room (k : Nat) (A : Around) : Prop where
 hd : A.handled = none
 dp : A.depth + 3 * k + 5 < recursionLimit
 un : A.units + 16 * k + 200 < cLine
 gd : A.guards = some []
theorem Room.mono {j k : Nat} {A : Around} (r : Room k A) (h : j <= k) : Room j A:=⟨r.hd,by have:=r.dp; omega,by have:=r.un; omega,r.gd⟩
theorem Room.deeper {k : Nat} {A : Around} (r : Room (k + 1) A) (env : Env) : Room k (A.deeper env) :=
 ⟨r.hd,by have:=r.dp; show A.depth + 1 + 3 * k + 5 < _; omega,by have:=r.un; show A.units + 3 + 16 * k + 200 < _; omega,r.gd⟩
theorem Room.depth {k : Nat} {A : Around} (r : Room k A) : A.depth < recursionLimit:=by have:=r.dp; omega
theorem Room.units {k : Nat} {A : Around} (r : Room k A) : A.units + 64 < cLine:=by have:=r.un; omega
def tNil : TA:=fun _ H Q=>Q [] H
def tCons (ta : TE) (tr : TA) : TA:=fun σ H Q=>ta σ H fun x H1=>tr σ H1 fun xs H2=>Q (x :: xs) H2
section
variable {X : Cx} {e : Expr} {es : List Expr} {te : TE} {t : TA} {pos : Pos}
theorem pa_nil : PA X [] tNil:=fun _ _ _ _ H Q I h=>Calls.spliced_nil ⟨[],H,I,.nil,h⟩
theorem pa_cons (ha : PE X e te) (hr : PA X es t) (hs : starEach (e :: es) X.env = (false,eval e X.env) :: starEach es X.env:=by rfl) : PA X (e :: es) (tCons te t):=by
 intro pos pins s σ H Q I h
 rw [hs]
 show wpAny _ _ (spliced ((false,eval e X.env) :: backTo pos (starEach es X.env))) _ _ s
 refine Calls.spliced_cons (thn (ha pins s σ H _ I h) fun u s1 ⟨x,H1,I1,r1,q1⟩=>?_)
 exact thn (hr pos pins s1 σ H1 _ I1 q1) fun us s2 ⟨xs,H2,I2,r2,q2⟩=>⟨x :: xs,H2,I2,.cons r1 r2,q2⟩
def tTup (t : TA) : TE:=fun σ H Q=>t σ H fun xs H1=>xs.length <= sizeLine /\ ∀ p,H1 p = none -> Q (.ref p) (upd H1 p (.tup xs))
def tLst (t : TA) : TE:=fun σ H Q=>t σ H fun xs H1=>xs.length <= sizeLine /\ ∀ p,H1 p = none -> Q (.ref p) (upd H1 p (.lst xs))
theorem pe_tup {x1} (h : PA X es t) : PE X (.Tuple es x1 pos) (tTup t):=by
 intro pins s σ H Q I hq
 refine wpAny_Tuple_spliced (thn (h pos pins s σ H _ I hq) fun us s1 ⟨xs,H1,I1,r,z,q⟩=>⟨by rw [<- r.length]; exact z,?_⟩)
 have hf : H1 s1.heap.objs.size = none:=I1.hok.fresh (Nat.le_refl _)
 refine ⟨.ref s1.heap.objs.size,upd H1 s1.heap.objs.size (.tup xs),I1.laid (t':=s1.toks) (fun b u e=>Heap.get?_push_of_some _ e) (Nat.le_refl _) ?_,rfl,q _ hf⟩
 exact ⟨z,us,r,⟨_,Heap.get?_push_size _ rfl,rfl,_,rfl⟩⟩
theorem pe_lst (h : PA X es t) : PE X (.List es pos) (tLst t):=by
 intro pins s σ H Q I hq
 refine wpAny_List_spliced (thn (h pos pins s σ H _ I hq) fun us s1 ⟨xs,H1,I1,r,z,q⟩=>⟨by rw [<- r.length]; exact z,?_⟩)
 have hf : H1 s1.heap.objs.size = none:=I1.hok.fresh (Nat.le_refl _)
 refine ⟨.ref s1.heap.objs.size,upd H1 s1.heap.objs.size (.lst xs),I1.laid (t':=s1.toks) (fun b u e=>Heap.get?_push_of_some _ e) (Nat.le_refl _) ?_,rfl,q _ hf⟩
 exact ⟨z,us,0,r,Heap.get?_push_size _ rfl⟩
end
abbrev Sp:=List V -> Hp -> VK -> XK -> Prop
abbrev CXT:=List Env -> Hp -> Shared -> XK -> Value -> Shared -> Prop
structure Env0 (P : Program) (w : World) (K : W.Frag) (mg : Str -> Option Value) (base : Heap) (A : Around) (outer : List Env) (s : Shared) (H : Hp) : Prop where
 frames : A.frames = some outer
 mod : Mod K mg base
 bs : ∀ b o,base.get? b = some o -> s.heap.get? b = some o /\ H b = none
 bsz : base.objs.size <= s.heap.objs.size
 funs : s.heap.FunFrames base outer
 frf : ∀ b ∈ frs outer,H b = none
 hok : HOk P w H s.heap
 bare : AllBare s.gens
def CE (outer : List Env) (P : Program) (w : World) (H : Hp) (s : Shared) (Q : VK) (u : Value) (s' : Shared) : Prop :=
 ∃ v H',s'.os = s.os /\ AllBare s'.gens /\ Un (frs outer) [] H H' s.heap s'.heap /\ HOk P w H' s'.heap /\ RelV v u /\ Q v H'
def CR (CX : CXT) (outer : List Env) (P : Program) (w : World) (H : Hp) (s : Shared) (Q : VK) (E : XK) (r : Result) (s' : Shared) : Prop :=
 match r with
 | .ok (.ret u)=>CE outer P w H s Q u s'
 | .ok _=>False
 | .error e=>CX outer H s E e s'
structure FnOk (P : Program) (w : World) (K : W.Frag) (mg : Str -> Option Value) (base : Heap) (CX : CXT) (k : Nat) (f : Addr) (fd : FuncData) (ps : List Str) (sp : Sp) : Prop where
 len : ∀ vs H Q E,sp vs H Q E -> vs.length = ps.length
 run : ∀ (A : Around) (outer : List Env) (s : Shared) (H : Hp) (args : Args) (us : List Value) (vs : List V) (Q : VK) (E : XK),Room k A -> Env0 P w K mg base A outer s H -> BindsTo s fd args (ps.zip us) -> Vals vs us -> sp vs H Q E ->
  codeAny (model P w) A (.call (.ref f) args) (CR CX outer P w H s Q E) s
theorem FnOk.imp {P : Program} {w : World} {K : W.Frag} {mg : Str -> Option Value} {base : Heap} {CX : CXT} {k : Nat} {f : Addr} {fd : FuncData} {ps : List Str} {sp sp' : Sp} (F : FnOk P w K mg base CX k f fd ps sp)
  (h : ∀ vs H Q E,sp' vs H Q E -> sp vs H Q E) : FnOk P w K mg base CX k f fd ps sp' :=
 ⟨fun vs H Q E q=>F.len vs H Q E (h _ _ _ _ q),fun A outer s H args us vs Q E hr he hb hv hs=>F.run A outer s H args us vs Q E hr he hb hv (h _ _ _ _ hs)⟩
section
variable {X : Cx} {pins : List (Addr × Obj)} {σ : St} {H : Hp} {s s' : Shared}
theorem Inv.env0 (I : Inv X pins σ H s) : Env0 X.prog X.w X.K X.mg X.base X.A X.stack s H :=
 ⟨I.ok.frames,I.ok.mod,I.bs,Nat.le_trans I.ok.bsz I.sz,I.stack,I.stkFree,I.hok,I.bare⟩
theorem Inv.after {Q : VK} {u : Value} (I : Inv X pins σ H s) (h : CE X.stack X.prog X.w H s Q u s') : EP X pins σ Q u s':=by
 obtain ⟨v,H',os,bare,un,hok,r,q⟩:=h
 obtain ⟨hh,g,d,t,os'⟩:=s'
 obtain rfl : os' = s.os:=os
 exact ⟨v,H',I.call (h':=hh) (g':=g) (d':=d) (t':=t) (ch:=[]) un hok bare (fun b z=>absurd z (by simp)),r,q⟩
end
def tCall (sp : Sp) (dvs : List V) (E : XK) (t : TA) : TE:=fun σ H Q=>t σ H fun vs H1=>sp (vs ++ dvs) H1 Q E
def Binds (K : W.Frag) (fd : FuncData) (ps : List Str) (ds : List Value) : Prop :=
 ∀ (s : Shared) (us : List Value),K.In s.heap -> (us ++ ds).length = ps.length -> BindsTo s fd ⟨us,[]⟩ (ps.zip (us ++ ds))
theorem Binds.all {K : W.Frag} {fd : FuncData} {ps : List Str} (h : ∀ us : List Value,us.length = ps.length -> bindArgs fd ⟨us,[]⟩ = pure (ps.zip us)) : Binds K fd ps []:=fun s us _ hl=>by
 rw [append_nil] at hl ⊢
 exact .of_eq (h us hl)
def Passes (CX : CXT) (X : Cx) (E : XK) : Prop:=∀ (pins : List (Addr × Obj)) (σ : St) (H : Hp) (s : Shared) (e : Value) (s' : Shared),Inv X pins σ H s -> CX X.stack H s E e s' -> X.xe e s'
section
variable {X : Cx} {CX : CXT} {k : Nat} {f : Addr} {fd : FuncData} {ps : List Str} {sp : Sp} {dvs : List V} {ds : List Value} {E : XK} {x : Str} {p pos : Pos} {e : Expr} {es : List Expr} {t : TA}
theorem run_fn {pins : List (Addr × Obj)} {σ : St} {H : Hp} {s : Shared} {Q : VK} {us : List Value} {vs : List V} (F : FnOk X.prog X.w X.K X.mg X.base CX k f fd ps sp) (hr : Room k X.A) (hb : Binds X.K fd ps ds) (hd : Vals dvs ds) (hx : Passes CX X E)
  (I : Inv X pins σ H s) (r : Vals vs us) (h : sp (vs ++ dvs) H Q E) : wpAny (model X.prog X.w) X.A (call (.ref f) us) (EP X pins σ Q) X.xe s:=by
 have r2 : Vals (vs ++ dvs) (us ++ ds):=r.append hd
 have hl : (us ++ ds).length = ps.length:=by rw [<- r2.length]; exact F.len _ _ _ _ h
 refine wpAny_call (codeAny_mono (F.run X.A X.stack s H ⟨us,[]⟩ (us ++ ds) (vs ++ dvs) Q E hr I.env0 (hb s us I.kIn hl) r2 h) fun r s' hq=>?_)
 cases r with
 | error e=>exact hx pins σ H s e s' I hq
 | ok fl =>
  cases fl with
  | ret u=>exact I.after hq
  | next=>exact False.elim hq
  | brk=>exact False.elim hq
  | cont=>exact False.elim hq
theorem pe_call (F : FnOk X.prog X.w X.K X.mg X.base CX k f fd ps sp) (hr : Room k X.A) (hg : Gl X x) (hm : X.mg x = some (.ref f)) (hk : PySem.W.keepIn X.K (.ref f) = true) (hb : Binds X.K fd ps ds) (hd : Vals dvs ds) (hx : Passes CX X E)
  (ha : PA X (e :: es) t) (hdb : (x == ("__debug__" : Str)) = false:=by decide) (he : starEach (e :: es) X.env = (false,eval e X.env) :: starEach es X.env:=by rfl) (hpl : (backTo pos (starEach es X.env)).any (·.1) = false:=by rfl) :
  PE X (.Call (.Name x p) (e :: es) [] pos) (tCall sp dvs E t):=by
 intro pins s σ H Q I h
 refine wpAny_Call_Name_kw (ld_glob I hg hm ?_ hdb)
 refine PySem.W.callWith_K (h₀:=X.base) I.ok.mod.kin hk (thn (ha pos pins s σ H _ I h) fun us s1 ⟨vs,H1,I1,r,q⟩=>⟨I1.kIn,?_⟩) he hpl
 exact run_fn F hr hb hd hx I1 r q
end
structure FnScope (N P : List Str) (sc : Scope) : Prop where
 kind : sc.kind = .function
 co : sc.isCoroutine = false
 gen : sc.isGenerator = false
 nd : N.Nodup
 pre : N.take P.length = P
 par : ∀ x ∈ P,sc.names.lookup x = some .local \/ sc.names.lookup x = some .cell
 nofree : ∀ y ∈ sc.names,y.2 ≠ .free
theorem bindL_out {kindOf : Str -> Option NameKind} {x : Str} : ∀ {binds : List (Str × Value)} {m : Str -> Option Value},(∀ v,(x,v) ∉ binds) -> bindL kindOf binds m x = m x
 | [],_,_=>rfl
 | (n,v) :: r,m,h=>by
  unfold bindL
  rw [bindL_out fun w hw=>h w (mem_cons_of_mem _ hw)]
  split
  ·have : x ≠ n:=by rintro rfl; exact h v mem_cons_self
   simp [this]
  ·rfl
theorem bindC_out {kindOf : Str -> Option NameKind} {x : Str} : ∀ {binds : List (Str × Value)} {m : Str -> Option Value},(∀ v,(x,v) ∉ binds) -> bindC kindOf binds m x = m x
 | [],_,_=>rfl
 | (n,v) :: r,m,h=>by
  unfold bindC
  rw [bindC_out fun w hw=>h w (mem_cons_of_mem _ hw)]
  split
  ·rfl
  ·have : x ≠ n:=by rintro rfl; exact h v mem_cons_self
   simp [this]
theorem bindL_get {kindOf : Str -> Option NameKind} {x : Str} {v : Value} : ∀ {P : List Str} {vs : List Value} {i : Nat} {m : Str -> Option Value},P.Nodup -> P[i]? = some x -> vs[i]? = some v -> kindOf x = some .local ->
  bindL kindOf (P.zip vs) m x = some v
 | [],_,_,_,_,h,_,_=>by simp at h
 | _ :: _,[],_,_,_,_,h,_=>by simp at h
 | p :: P,w :: vs,0,m,nd,h1,h2,hk=>by
  simp at h1 h2; subst h1; subst h2
  show bindL kindOf ((p,w) :: P.zip vs) m p = _
  unfold bindL
  rw [bindL_out fun v hv=>(nodup_cons.mp nd).1 (List.of_mem_zip hv).1,if_pos hk]
  simp
 | p :: P,w :: vs,i + 1,m,nd,h1,h2,hk=>by
  show bindL kindOf ((p,w) :: P.zip vs) m x = _
  unfold bindL
  exact bindL_get (i:=i) (nodup_cons.mp nd).2 (by simpa using h1) (by simpa using h2) hk
theorem bindC_get {kindOf : Str -> Option NameKind} {x : Str} {v : Value} : ∀ {P : List Str} {vs : List Value} {i : Nat} {m : Str -> Option Value},P.Nodup -> P[i]? = some x -> vs[i]? = some v -> kindOf x ≠ some .local ->
  bindC kindOf (P.zip vs) m x = some v
 | [],_,_,_,_,h,_,_=>by simp at h
 | _ :: _,[],_,_,_,_,h,_=>by simp at h
 | p :: P,w :: vs,0,m,nd,h1,h2,hk=>by
  simp at h1 h2; subst h1; subst h2
  show bindC kindOf ((p,w) :: P.zip vs) m p = _
  unfold bindC
  rw [bindC_out fun v hv=>(nodup_cons.mp nd).1 (List.of_mem_zip hv).1,if_neg hk]
  simp
 | p :: P,w :: vs,i + 1,m,nd,h1,h2,hk=>by
  show bindC kindOf ((p,w) :: P.zip vs) m x = _
  unfold bindC
  exact bindC_get (i:=i) (nodup_cons.mp nd).2 (by simpa using h1) (by simpa using h2) hk
def start (N : List Str) (vs : List V) : St:=vs.map some ++ List.replicate (N.length - vs.length) none
def cxOf (CX : CXT) (P : Program) (w : World) (K : W.Frag) (mg : Str -> Option Value) (base : Heap) (N : List Str) (qual : Str) (scope : Scope) (f : Addr) (cd : Value) (A : Around) (outer : List Env) (s : Shared) (H : Hp) (E : XK) : Cx where
 prog:=P
 w:=w
 K:=K
 mg:=mg
 base:=base
 A:=A.deeper (envOfC qual scope s.heap.objs.size f cd)
 N:=N
 s₀:=s
 H₀:=H
 env:=envOfC qual scope s.heap.objs.size f cd
 outer:=outer
 stack:=envOfC qual scope s.heap.objs.size f cd :: outer
 ex:=[]
 calm:=true
 fn:=fun _=>true
 pn:=[]
 xe:=fun e s'=>wpAny (model P w) (A.deeper (envOfC qual scope s.heap.objs.size f cd)) (leaving (envOfC qual scope s.heap.objs.size f cd) e) (fun _ s''=>CX outer H s E e s'') (fun e' s''=>CX outer H s E e' s'') s'
theorem cell_has {sc : Scope} {n : Nat} {x : Str} (h : sc.names.lookup x = some .cell) : ∃ c,(cellsFrom n sc.names []).lookup x = some c:=by
 have q:=PySem.W.cellsFrom_some sc.names n [] (.inl h)
 exact Option.isSome_iff_exists.mp q
theorem inv_start {CX : CXT} {P : Program} {w : World} {K : W.Frag} {mg : Str -> Option Value} {base : Heap} {N ps : List Str} {qual : Str} {scope : Scope} {f : Addr} {cd : Value} {A : Around} {outer : List Env} {s s1 : Shared} {H : Hp} {E : XK} {us : List Value} {vs : List V}
  (S : FnScope N ps scope) (hd : A.handled = none) (e0 : Env0 P w K mg base A outer s H) (hl : vs.length = ps.length) (r : Vals vs us)
  (x : InCallC s s.heap.objs.size (bindL (envOfC qual scope s.heap.objs.size f cd).kindOf (ps.zip us) fun _=>none) (cellsFrom (s.heap.objs.size + 1) scope.names []) (bindC (envOfC qual scope s.heap.objs.size f cd).kindOf (ps.zip us) fun _=>none) s1) :
  Inv (cxOf CX P w K mg base N qual scope f cd A outer s H E) [] (start N vs) H s1:=by
 have hpl : ps.length <= N.length:=by have:=congrArg List.length S.pre; rw [length_take] at this; omega
 obtain ⟨h1,tk,rfl,hk⟩:=x.done
 have noA : ∀ b : Addr,b ∉ (cxOf CX P w K mg base N qual scope f cd A outer s H E).ex:=fun b z=>absurd (show b ∈ ([] : List Addr) from z) (by simp)
 refine ⟨⟨e0.mod,S.kind,rfl,rfl,Nat.le_refl _,fun y z c h1 h2=>?_,fun y hy=>?_,fun y c _ h=>?_,fun _=>hd,Around.frames_deeper e0.frames,.inr ⟨rfl,rfl⟩,fun b z=>absurd z (noA b),e0.bs,e0.bsz,fun b _ _=>noA b,fun b z=>absurd z (noA b),e0.funs,e0.frf⟩,
  rfl,e0.bare,Un.kept hk,⟨_,x.toInCall.ns,fun i y v h1 h2 h3=>?_⟩,fun y c h=>⟨_,x.cell y c h⟩,e0.hok.fresh (Nat.le_refl _),fun y c h=>?_,fun p hp=>absurd (show p ∈ ([] : List (Addr × Obj)) from hp) (by simp),e0.hok.kept hk,?_⟩
 ·exact name_of_addr x.apart (PySem.mem_of_lookup h1) (PySem.mem_of_lookup h2)
 ·have hy : scope.names.lookup y = some .cell \/ scope.names.lookup y = some .free:=hy
  rcases hy with hy | hy
  ·exact cell_has hy
  ·exact absurd rfl (S.nofree _ (PySem.mem_of_lookup hy))
 ·exact Nat.le_of_lt (x.above y c (PySem.mem_of_lookup h))
 ·have hi : i < vs.length:=by
   unfold start at h2
   by_cases hi : i < vs.length
   ·exact hi
   ·rw [List.getElem?_append_right (by simpa using hi)] at h2
    rw [List.getElem?_replicate] at h2
    split at h2 <;> cases h2
  have ha : vs[i]? = some v:=by
   unfold start at h2
   rw [List.getElem?_append_left (by simpa using hi),List.getElem?_map] at h2
   cases e : vs[i]? with
   | none=>rw [e] at h2; cases h2
   | some a=>rw [e] at h2; cases h2; rfl
  obtain ⟨u,hu,rv⟩:=r.get ha
  have hp : ps[i]? = some y:=by
   rw [<- S.pre,List.getElem?_take_of_lt (by omega)]; exact h1
  have ndP : ps.Nodup:=by rw [<- S.pre]; exact S.nd.sublist (List.take_sublist _ _)
  refine ⟨u,rv,?_⟩
  rcases S.par y (List.mem_of_getElem? hp) with k | k
  ·exact .inl ⟨k,bindL_get ndP hp hu k⟩
  ·obtain ⟨c,e⟩:=cell_has (n:=s.heap.objs.size + 1) k
   refine .inr ⟨.inl k,c,e,?_⟩
   have q:=x.cell y c e
   rw [bindC_get ndP hp hu (by show scope.names.lookup y ≠ _; rw [k]; decide)] at q
   exact q
 ·exact e0.hok.fresh (Nat.le_of_lt (x.above y c (PySem.mem_of_lookup h)))
 ·unfold start
  show _ = N.length
  rw [length_append,length_map,List.length_replicate]
  omega
theorem fn_of {CX : CXT} {P : Program} {w : World} {K : W.Frag} {mg : Str -> Option Value} {base : Heap} {k : Nat} {f : Addr} {name qual : Str} {params : Arguments} {body : List Stmt} {scope : Scope} {dV kV doc pm cdv ct oc : Value} {an od : Option Addr}
  {osl : Array (Option Value)} {N ps : List Str} {sp : Sp} (lk : K.lookup f = some ⟨oc,od,.func (PySem.W.fnOf name qual params body scope dV kV doc pm an cdv ct),osl⟩) (hcd : PySem.W.codeIn K cdv qual = true) (S : FnScope N ps scope)
  (len : ∀ vs H Q E,sp vs H Q E -> vs.length = ps.length)
  (hbody : ∀ (A : Around) (outer : List Env) (s : Shared) (H : Hp) (vs : List V) (Q : VK) (E : XK),Room k (A.deeper (envOfC qual scope s.heap.objs.size f cdv)) -> sp vs H Q E ->
   ∃ t,PSs (cxOf CX P w K mg base N qual scope f cdv A outer s H E) body t /\ t { nx:=fun _ H'=>Q .non H',rt:=Q } (start N vs) H) :
  FnOk P w K mg base CX (k + 1) f (PySem.W.fnOf name qual params body scope dV kV doc pm an cdv ct) ps sp:=by
 refine ⟨len,fun A outer s H args us vs Q E hr e0 hb r hsp=>?_⟩
 have hl:=len _ _ _ _ hsp
 have KX : K.In s.heap:=e0.mod.kin.keeps fun b o e=>(e0.bs b o e).1
 have lim : s.heap.NoLimit:=e0.mod.nolimit.keeps fun b o e=>(e0.bs b o e).1
 have hkind : ∀ y ∈ ps.zip us,scope.names.lookup y.1 = some .local \/ (scope.names.lookup y.1 = some .cell /\ ((cellsFrom (s.heap.objs.size + 1) scope.names []).lookup y.1).isSome = true):=fun ⟨n,v⟩ hy=>by
  rcases S.par n (List.of_mem_zip hy).1 with q | q
  ·exact .inl q
  ·exact .inr ⟨q,PySem.W.cellsFrom_some _ _ _ (.inl q)⟩
 refine codeAny_call_function hr.depth (KX _ _ lk) rfl S.co S.gen rfl (PySem.W.codeRec_of KX hcd) (hb _ _ _ _ ?_)
 refine wpAny_newFunctionEnv_cells S.kind hkind fun env he s1 x=>?_
 subst he
 refine ⟨lim.keeps x.toInCall.keep,codeAny_func ?_⟩
 obtain ⟨t,ht,hq⟩:=hbody A outer s H vs Q E (hr.deeper _) hsp
 have I : Inv (cxOf CX P w K mg base N qual scope f cdv A outer s H E) [] (start N vs) H s1:=inv_start S hr.hd e0 hl r x
 refine wpAny_mono (ht [] s1 (start N vs) H _ I hq) (fun fl s' hs=>?_) fun e s' hs=>hs
 have fin : ∀ {σ' : St} {H' : Hp} {v : V} {u : Value},Inv (cxOf CX P w K mg base N qual scope f cdv A outer s H E) [] σ' H' s' -> RelV v u -> Q v H' -> CE outer P w H s Q u s' :=
  fun {σ' H' v u} J rv q=>⟨v,H',J.os,J.bare,J.base,J.hok,rv,q⟩
 cases fl with
 | ret u =>
  obtain ⟨v,σ',H',J,rv,q⟩:=hs
  exact fin J rv q
 | next =>
  obtain ⟨σ',H',J,q⟩:=hs
  exact fin (v:=V.non) (u:=Value.none) J rfl q
 | brk =>
  obtain ⟨_,_,_,q⟩:=hs
  exact False.elim q
 | cont =>
  obtain ⟨_,_,_,q⟩:=hs
  exact False.elim q
section
variable {X : Cx} {x : Str} {p pos : Pos} {e : Expr} {es : List Expr} {t : TA} {id T : String} {r : List V -> Hp -> VK -> Prop}
def tCB (r : List V -> Hp -> VK -> Prop) (t : TA) : TE:=fun σ H Q=>t σ H fun vs H1=>r vs H1 Q
theorem pe_callB (hc : CallR X (.builtin id) r) (hg : Gl X x) (hm : X.mg x = none) (hv : bootBuiltins x = some (.builtin id)) (ha : PA X (e :: es) t) (hn : x ≠ "__name__":=by decide) (hdb : (x == ("__debug__" : Str)) = false:=by decide)
  (he : starEach (e :: es) X.env = (false,eval e X.env) :: starEach es X.env:=by rfl) (hpl : (backTo pos (starEach es X.env)).any (·.1) = false:=by rfl) : PE X (.Call (.Name x p) (e :: es) [] pos) (tCB r t):=by
 intro pins s σ H Q I h
 refine wpAny_Call_Name_kw (ld_blt I hg hm hv ?_ hn hdb)
 exact PyProof.Rows.callWith_builtin1 (thn (ha pos pins s σ H _ I h) fun us s1 ⟨vs,H1,I1,r1,q1⟩=>hc pins s1 σ H1 vs us Q I1 r1 q1) he hpl
theorem pe_callTy (hc : CallR X (.type T) r) (hg : Gl X x) (hm : X.mg x = none) (hv : bootBuiltins x = some (.type T)) (ha : PA X (e :: es) t) (hn : x ≠ "__name__":=by decide) (hdb : (x == ("__debug__" : Str)) = false:=by decide)
  (he : starEach (e :: es) X.env = (false,eval e X.env) :: starEach es X.env:=by rfl) (hpl : (backTo pos (starEach es X.env)).any (·.1) = false:=by rfl) : PE X (.Call (.Name x p) (e :: es) [] pos) (tCB r t):=by
 intro pins s σ H Q I h
 refine wpAny_Call_Name_kw (ld_blt I hg hm hv ?_ hn hdb)
 exact PyProof.Rows.callWith_type1 (thn (ha pos pins s σ H _ I h) fun us s1 ⟨vs,H1,I1,r1,q1⟩=>hc pins s1 σ H1 vs us Q I1 r1 q1) he hpl
end
end L2
namespace HT
open PySem PyProof.Rows
section
open PySem.SeqAt
open PySem.AutoSeq1 (wpAny_loadPart')
open PySem.MeetsSeq PySem.MeetsSeq2 PySem.MeetsSeq3
end
section
def sIx (n d : Nat) : Option Int -> Nat
 | none=>d
 | some v=>if v < 0 then (v + (n : Int)).toNat else min v.toNat n
theorem sIx_none (n d : Nat) : sIx n d none = d:=rfl
theorem sIx_nat (n d k : Nat) : sIx n d (some (k : Int)) = min k n:=by
 show (if (k : Int) < 0 then ((k : Int) + (n : Int)).toNat else min (k : Int).toNat n) = min k n
 rw [if_neg (by omega),Int.toNat_natCast]
end
end HT
namespace L2
open PySem PySem.Spec PyProof.Rows
abbrev TO:=St -> Hp -> (Option Int -> Hp -> Prop) -> Prop
def PO (X : Cx) (e : Option Expr) (t : TO) : Prop :=
 ∀ (pins : List (Addr × Obj)) (s : Shared) (σ : St) (H : Hp) (Q : Option Int -> Hp -> Prop),Inv X pins σ H s -> t σ H Q ->
  wpAny (model X.prog X.w) X.A (evalPart e X.env) (fun u s'=>∃ o H',Inv X pins σ H' s' /\ IsPart u o /\ Q o H') X.xe s
def tNoPart : TO:=fun _ H Q=>Q none H
def tPart (t : TE) : TO:=fun σ H Q=>t σ H fun x H1=>∃ i,x = .int i /\ Q (some i) H1
theorem intsAre_of {ns : List Int} : ∀ {us : List Value},Vals (ns.map V.int) us -> IntsAre us ns:=by
 induction ns with
 | nil=>intro us r; rw [List.map_nil] at r; cases r; exact .nil
 | cons n ns ih =>
  intro us r
  rw [map_cons] at r
  cases r with
  | cons r1 r2 =>
   obtain ⟨t,e⟩:=r1
   subst e
   exact .cons n t (ih r2)
section
variable {X : Cx} {e : Expr} {te : TE} {lo hi : Option Expr} {tl th : TO} {pos p2 : Pos}
theorem po_none : PO X none tNoPart:=by
 intro pins s σ H Q I h
 rw [evalPart_none]
 exact wpAny_pure ⟨none,H,I,.none,h⟩
theorem po_some (h : PE X e te) : PO X (some e) (tPart te):=by
 intro pins s σ H Q I hw
 rw [evalPart_some]
 refine thn (h pins s σ H _ I hw) fun u s1 ⟨x,H1,I1,r1,q1⟩=>?_
 obtain ⟨i,rfl,q⟩:=q1
 obtain ⟨t,rfl⟩:=r1
 exact ⟨some i,H1,I1,.int i t,q⟩
def SlR (X : Cx) (r : V -> Option Int -> Option Int -> Hp -> VK -> Prop) : Prop :=
 ∀ (pins : List (Addr × Obj)) (s : Shared) (σ : St) (H : Hp) (x : V) (v vl vu : Value) (lo hi : Option Int) (sl : Addr) (Q : VK),Inv X pins σ H s -> RelV x v -> s.heap.IsSliceOf sl vl vu .none -> IsPart vl lo -> IsPart vu hi -> r x lo hi H Q ->
  ∃ T id,typeLookup (.type T) "__getitem__" = pure (some (.builtin id)) /\ s.TypeIs v T /\ wpAny (model X.prog X.w) X.A (getItem v (.ref sl)) (EP X pins σ Q) X.xe s
def tSl (r : V -> Option Int -> Option Int -> Hp -> VK -> Prop) (te : TE) (tl th : TO) : TE:=fun σ H Q=>te σ H fun x H1=>tl σ H1 fun l H2=>th σ H2 fun u H3=>r x l u H3 Q
theorem pe_slice {r : V -> Option Int -> Option Int -> Hp -> VK -> Prop} (hr : SlR X r) (he : PE X e te) (hl : PO X lo tl) (hu : PO X hi th) : PE X (.Subscript e (.Slice lo hi none p2) pos) (tSl r te tl th):=by
 intro pins s σ H Q I h
 refine Subscript_ (thn (he pins s σ H _ I h) fun v s1 ⟨x,H1,I1,r1,q1⟩=>?_)
 refine wpAny_Slice (thn (hl pins s1 σ H1 _ I1 q1) fun vl s2 ⟨l,H2,I2,pl,q2⟩=>thn (hu pins s2 σ H2 _ I2 q2) fun vu s3 ⟨u,H3,I3,pu,q3⟩=>?_)
 rw [evalPart_none]
 refine wpAny_pure ?_
 have I4 : Inv X pins σ H3 { s3 with heap:=s3.heap.push { cls:=.type "slice",data:=.fields #[vl,vu,.none] } }:=I3.kept (t':=s3.toks) fun b ob q=>Heap.get?_push_of_some _ q
 obtain ⟨T,id,hT,ht,hg⟩:=hr pins { s3 with heap:=s3.heap.push { cls:=.type "slice",data:=.fields #[vl,vu,.none] } } σ H3 x v vl vu l u s3.heap.objs.size Q I4 r1 (Heap.IsSliceOf.new ..) pl pu q3
 show wpAny (model X.prog X.w) X.A (subscriptTail e (.Slice lo hi none p2) v (.ref s3.heap.objs.size)) (EP X pins σ Q) X.xe { s3 with heap:=s3.heap.push { cls:=.type "slice",data:=.fields #[vl,vu,.none] } }
 exact tail_any (ops:=[.ref s3.heap.objs.size,v]) ht hT hg (by with_unfolding_all rfl)
def cutV (xs : List V) (lo hi : Option Int) : List V:=(xs.drop (HT.sIx xs.length 0 lo)).take (HT.sIx xs.length xs.length hi - HT.sIx xs.length 0 lo)
theorem cutV_length (xs : List V) (lo hi : Option Int) : (cutV xs lo hi).length <= xs.length:=by
 unfold cutV
 rw [length_take,length_drop]
 omega
end
def ixN (n : Nat) (i : Int) : Option Nat:=if 0 <= i then (if i < n then some i.toNat else none) else if -(n : Int) <= i then some (i + n).toNat else none
def atI {α : Type} (xs : List α) (i : Int) : Option α:=(ixN xs.length i).bind fun j=>xs[j]?
theorem ixN_seq {n : Nat} {i : Int} {j : Nat} (h : ixN n i = some j) : seqIndex? i n = some j /\ j < n /\ -(n : Int) <= i /\ i < n:=by
 unfold ixN at h
 by_cases h0 : 0 <= i
 ·rw [if_pos h0] at h
  by_cases h1 : i < n
  ·rw [if_pos h1] at h
   have e : i.toNat = j:=Option.some.inj h
   exact ⟨by rw [seqIndex_of h0 h1,e],by omega,by omega,h1⟩
  ·rw [if_neg h1] at h; cases h
 ·rw [if_neg h0] at h
  by_cases h1 : -(n : Int) <= i
  ·rw [if_pos h1] at h
   have e : (i + n).toNat = j:=Option.some.inj h
   exact ⟨by rw [seqIndex_neg (by omega) h1,e],by omega,h1,by omega⟩
  ·rw [if_neg h1] at h; cases h
theorem atI_get {α : Type} {xs : List α} {i : Int} {v : α} (h : atI xs i = some v) : ∃ j,seqIndex? i xs.length = some j /\ xs[j]? = some v /\ j < xs.length /\ -(xs.length : Int) <= i /\ i < xs.length:=by
 unfold atI at h
 cases e : ixN xs.length i with
 | none=>rw [e] at h; cases h
 | some j =>
  rw [e] at h
  obtain ⟨h1,h2,h3,h4⟩:=ixN_seq e
  exact ⟨j,h1,h,h2,h3,h4⟩
theorem atI_nat {α : Type} {xs : List α} {j : Nat} {v : α} (h : xs[j]? = some v) : atI xs (j : Int) = some v:=by
 have hj : j < xs.length:=(List.getElem?_eq_some_iff.mp h).1
 have e : ixN xs.length (j : Int) = some j:=by
  unfold ixN
  rw [if_pos (by omega),if_pos (by omega)]; simp
 unfold atI; rw [e]; exact h
def PlainIx (b : Expr) : Prop:=∀ o i,subscripted b false o i = operate [o,i] (getItem o i)
def IxR (X : Cx) (r : R2) : Prop :=
 ∀ (value slice : Expr) (pins : List (Addr × Obj)) (s : Shared) (σ : St) (H : Hp) (x y : V) (v u : Value) (Q : VK),Inv X pins σ H s -> RelV x v -> RelV y u -> r x y H Q ->
  subscripted slice false v u = operate [v,u] (getItem v u) -> wpAny (model X.prog X.w) X.A (subscriptTail value slice v u) (EP X pins σ Q) X.xe s
def MtR (X : Cx) (id : String) (r : V -> List V -> Hp -> VK -> Prop) : Prop :=
 ∀ (pins : List (Addr × Obj)) (s : Shared) (σ : St) (H : Hp) (x : V) (xs : List V) (v : Value) (us : List Value) (Q : VK),Inv X pins σ H s -> RelV x v -> Vals xs us -> r x xs H Q ->
  wpAny (model X.prog X.w) X.A (call (.builtin id) (v :: us)) (EP X pins σ Q) X.xe s
section
variable {X : Cx} {a b : Expr} {ta tb : TE} {pos : Pos}
theorem IxR.or {r r' : R2} (h : IxR X r) (h' : IxR X r') : IxR X (fun x y H Q=>r x y H Q \/ r' x y H Q):=by
 intro value slice pins s σ H x y v u Q I rx ry q hs
 rcases q with q | q
 ·exact h value slice pins s σ H x y v u Q I rx ry q hs
 ·exact h' value slice pins s σ H x y v u Q I rx ry q hs
theorem pe_ix {r : R2} (hr : IxR X r) (ha : PE X a ta) (hb : PE X b tb) (hs : PlainIx b) : PE X (.Subscript a b pos) (tOp r ta tb):=by
 intro pins s σ H Q I h
 exact Subscript_ (binT ha hb I h fun v u s2 x y H2 I2 rx ry q=>hr a b pins s2 σ H2 x y v u Q I2 rx ry q (hs _ _))
def rIxL (K : W.Frag) : R2:=fun x y H Q=>∃ p xs i v,x = .ref p /\ y = .int i /\ SqL K H p xs /\ atI xs i = some v /\ Q v H
def rIxT (K : W.Frag) : R2:=fun x y H Q=>∃ p xs i v,x = .ref p /\ y = .int i /\ SqT K H p xs /\ atI xs i = some v /\ Q v H
def rIxS : R2:=fun x y H Q=>∃ z i c,x = .str z /\ y = .int i /\ z.length <= sizeLine /\ atI z.cps.toList i = some c /\ Q (.str ⟨#[c]⟩) H
theorem ix_list : IxR X (rIxL X.K):=by
 intro value slice pins s σ H x y v u Q I rx ry h hs
 obtain ⟨p,xs,i,z,rfl,rfl,hq,he,q⟩:=h
 cases rx
 obtain ⟨t,rfl⟩:=ry
 obtain ⟨its,r,pl,hz⟩:=I.list hq
 obtain ⟨j,h1,h2,h3,h4,h5⟩:=atI_get he
 obtain ⟨w,ew,rw'⟩:=r.get h2
 have hl:=r.length
 have hn:=line63
 have fin : EP X pins σ Q w s:=⟨z,H,I,rw',q⟩
 by_cases h0 : 0 <= i
 ·have hj : i.toNat = j:=by
   rw [seqIndex_of h0 h5] at h1
   exact Option.some.inj h1
  exact item_listR pl.isList h0 (by omega) (by rw [hj]; simpa using ew) fin hs
 ·have hj : (i + (its.toArray.size : Int)).toNat = j:=by
   rw [seqIndex_neg (by omega) h4] at h1
   rw [size_toArray,<- hl]
   exact Option.some.inj h1
  exact subscriptTail_builtinR (x:=w) pl.isList.typeIs slot_list_getitem.lookup
   (wpAny_getItem_list_neg (Q:=fun r s'=>r = w /\ EP X pins σ Q r s') pl.isList (by omega) (by rw [size_toArray] <;> omega) (by omega) (by rw [hj]; simpa using ew) ⟨rfl,fin⟩) hs
theorem ix_tup : IxR X (rIxT X.K):=by
 intro value slice pins s σ H x y v u Q I rx ry h hs
 obtain ⟨p,xs,i,z,rfl,rfl,hq,he,q⟩:=h
 cases rx
 obtain ⟨t,rfl⟩:=ry
 obtain ⟨its,r,pl,hz⟩:=I.tuple hq
 obtain ⟨j,h1,h2,h3,h4,h5⟩:=atI_get he
 obtain ⟨w,ew,rw'⟩:=r.get h2
 have hl:=r.length
 have hn:=line63
 have fin : EP X pins σ Q w s:=⟨z,H,I,rw',q⟩
 exact subscriptTail_builtinR (x:=w) pl.typeIs slot_tuple_getitem.lookup
  (getItem_tuple (j:=j) (Q:=fun r s'=>r = w /\ EP X pins σ Q r s') pl (by omega) (by omega) (by rw [size_toArray,<- hl]; exact h1) (by simpa using ew) ⟨rfl,fin⟩) hs
theorem ix_str : IxR X rIxS:=by
 intro value slice pins s σ H x y v u Q I rx ry h hs
 obtain ⟨z,i,c,rfl,rfl,hz,he,q⟩:=h
 obtain ⟨t,rfl⟩:=rx
 obtain ⟨t',rfl⟩:=ry
 obtain ⟨j,h1,h2,h3,h4,h5⟩:=atI_get he
 have hl : z.cps.toList.length = z.length:=by simp [Str.length]
 rw [hl] at h1 h4 h5
 have hn:=line63
 exact tail_any (typeIs_str s z t) slot_str_getitem.lookup (getItem_str (c:=c) (by
  have e1 : decide (i < -(2 ^ 63 : Int)) = false:=decide_eq_false (by omega)
  have e2 : decide (i ≥ 2 ^ 63) = false:=decide_eq_false (by omega)
  rw [e1,e2,Bool.or_false]) (by rw [h1]; simpa using h2) ⟨.str ⟨#[c]⟩,H,I.tok _,⟨_,rfl⟩,q⟩) hs
def rIx (K : W.Frag) : R2:=fun x y H Q=>rIxL K x y H Q \/ rIxT K x y H Q \/ rIxS x y H Q
theorem ix_seq : IxR X (rIx X.K):=ix_list.or (ix_tup.or ix_str)
theorem mapSeq_set (its : List Value) (n j : Nat) (u : Value) : Obj.mapSeq (·.setIfInBounds j u) { cls:=.type "list",data:=.seq its.toArray n } = { cls:=.type "list",data:=.seq (its.set j u).toArray n }:=by
 simp [Obj.mapSeq]
theorem Inv.lst {pins : List (Addr × Obj)} {σ : St} {H : Hp} {s : Shared} {p : Addr} {xs : List V} (I : Inv X pins σ H s) (h : H p = some (.lst xs)) :
  ∃ (its : List Value) (n : Nat),Vals xs its /\ s.heap.get? p = some { cls:=.type "list",data:=.seq its.toArray n } /\ xs.length <= sizeLine:=by
 obtain ⟨z,its,n,r,e⟩:=I.hok p _ h
 exact ⟨its,n,r,e,z⟩
theorem Inv.lstUpd {pins : List (Addr × Obj)} {σ : St} {H : Hp} {s : Shared} {p : Addr} {xs ys : List V} {its its' : List Value} {n n' : Nat} {f : Obj -> Obj} (I : Inv X pins σ H s) (h : H p = some (.lst xs))
  (ho : s.heap.get? p = some { cls:=.type "list",data:=.seq its.toArray n }) (hf : f { cls:=.type "list",data:=.seq its.toArray n } = { cls:=.type "list",data:=.seq its'.toArray n' }) (r : Vals ys its') (hz : ys.length <= sizeLine) (t : Nat) :
  Inv X pins σ (upd H p (.lst ys)) { s with heap:=s.heap.update p f,toks:=t }:=by
 have e : (s.heap.update p f).get? p = some { cls:=.type "list",data:=.seq its'.toArray n' }:=by
  rw [Heap.get?_update_self f ho (by rw [hf] <;> rfl),hf]
 refine I.write (x:=p) (e:=p) (by rw [h]; trivial) (.inl rfl) (fun b u hb q=>(Heap.get?_update_other _ _ (Ne.symm hb)).trans q) ⟨_,e⟩ ?_
 exact ⟨hz,its',n',r,e⟩
def rSetL : V -> V -> V -> Hp -> (Hp -> Prop) -> Prop:=fun o i v H Q=>∃ p xs k j,o = .ref p /\ i = .int k /\ H p = some (.lst xs) /\ ixN xs.length k = some j /\ Q (upd H p (.lst (xs.set j v)))
theorem set_list : PSet X rSetL:=by
 intro pins s σ H o i v ov iv u Q I ro ri rv h
 obtain ⟨p,xs,k,j,rfl,rfl,hp,hj,q⟩:=h
 cases ro
 obtain ⟨t,rfl⟩:=ri
 obtain ⟨its,n,r,ho,hz⟩:=I.lst hp
 obtain ⟨h1,h2,h3,h4⟩:=ixN_seq hj
 have hl:=r.length
 have hn:=line63
 have I' : Inv X pins σ (upd H p (.lst (xs.set j v))) { s with heap:=s.heap.update p (Obj.mapSeq (·.setIfInBounds j u)) } :=
  I.lstUpd hp ho (mapSeq_set its n j u) (r.set rv j) (by rw [length_set]; exact hz) s.toks
 by_cases h0 : 0 <= k
 ·have hk : k.toNat = j:=by
   rw [seqIndex_of h0 h4] at h1
   exact Option.some.inj h1
  exact PySem.W.ki_setAt ho h0 (by omega) (by rw [size_toArray,<- hl]; exact h4) (by rw [hk]; exact ⟨_,I',q⟩)
 ·have hk : (k + (its.toArray.size : Int)).toNat = j:=by
   rw [seqIndex_neg (by omega) h3] at h1
   rw [size_toArray,<- hl]
   exact Option.some.inj h1
  exact PySem.W.ki_setBack ho (by omega) (by rw [size_toArray,<- hl]; exact h3) (by omega) (by rw [hk]; exact ⟨_,I',q⟩)
theorem slice_bounds (lo hi : Option Int) (n : Nat) : (sliceBounds lo hi none n).1 = ((HT.sIx n 0 lo : Nat) : Int) /\ (sliceBounds lo hi none n).2.1 = ((HT.sIx n n hi : Nat) : Int) /\ (sliceBounds lo hi none n).2.2 = 1:=by
 refine ⟨?_,?_,rfl⟩
 ·cases lo with
  | none=>simp [sliceBounds,HT.sIx]
  | some i =>
   simp only [sliceBounds,HT.sIx,Option.getD_none,show (1 : Int) > 0 by decide,if_true]
   by_cases h : i < 0
   ·simp only [h,if_true] <;> omega
   ·simp only [h,if_false] <;> omega
 ·cases hi with
  | none=>simp [sliceBounds,HT.sIx]
  | some i =>
   simp only [sliceBounds,HT.sIx,Option.getD_none,show (1 : Int) > 0 by decide,if_true]
   by_cases h : i < 0
   ·simp only [h,if_true] <;> omega
   ·simp only [h,if_false] <;> omega
theorem slicePick_cut (its : List Value) (lo hi : Option Int) : slicePick its.toArray lo hi none = ((its.drop (HT.sIx its.length 0 lo)).take (HT.sIx its.length its.length hi - HT.sIx its.length 0 lo)).toArray:=by
 obtain ⟨h1,h2,h3⟩:=slice_bounds lo hi its.toArray.size
 unfold slicePick
 rw [h1,h2,h3]
 simp only [sliceRange_one,pick_run,size_toArray] <;> rfl
def rSlL (K : W.Frag) : V -> Option Int -> Option Int -> Hp -> VK -> Prop:=fun x lo hi H Q=>∃ a xs,x = .ref a /\ SqL K H a xs /\ ∀ p,H p = none -> Q (.ref p) (upd H p (.lst (cutV xs lo hi)))
theorem sl_list : SlR X (rSlL X.K):=by
 intro pins s σ H x v vl vu lo hi sl Q I rx hs pl pu h
 obtain ⟨a,xs,rfl,hx,q⟩:=h
 cases rx
 obtain ⟨its,r,ht,hz⟩:=I.list hx
 have hlen:=r.length
 refine ⟨"list",_,slot_list_getitem.lookup,ht.isList.typeIs,?_⟩
 refine wpAny_getItem_list_slice ht.isList hs pl pu .none (by simp) ?_ (by rw [size_toArray] <;> omega)
 rw [slicePick_cut,<- hlen]
 refine ⟨.ref s.heap.objs.size,_,I.laid (t':=s.toks) (o:=.lst (cutV xs lo hi)) (fun b ob q=>Heap.get?_push_of_some _ q) (Nat.le_refl _) ?_,rfl,q _ (I.hok.fresh (Nat.le_refl _))⟩
 exact ⟨Nat.le_trans (cutV_length xs lo hi) hz,_,0,(r.drop (HT.sIx xs.length 0 lo)).take (HT.sIx xs.length xs.length hi - HT.sIx xs.length 0 lo),Heap.get?_push_size _ rfl⟩
def flatV : V -> Bool
 | .non=>true
 | .bl _=>true
 | .int _=>true
 | .str _=>true
 | _=>false
def eqV : V -> V -> Bool
 | .non,.non=>true
 | .bl a,.bl b=>a == b
 | .bl a,.int b=>(if a then 1 else 0) == b
 | .int a,.bl b=>a == (if b then 1 else 0)
 | .int a,.int b=>a == b
 | .str a,.str b=>a == b
 | _,_=>false
theorem eqAt_V {A : Around} {s : Shared} {y x : V} {u v : Value} (ry : RelV y u) (rx : RelV x v) (fy : flatV y = true) (fx : flatV x = true) : SeqAt.EqAt A s u v (eqV y x):=by
 cases y with
 | non =>
  cases ry
  cases x with
  | non=>cases rx; exact SeqAt.EqAt.same _
  | bl b=>cases rx; exact SeqAt.EqAt.none_bool b
  | int b=>obtain ⟨t,rfl⟩:=rx; exact SeqAt.EqAt.none_int b t
  | str b=>obtain ⟨t,rfl⟩:=rx; exact SeqAt.EqAt.none_str b t
  | _=>exact absurd (show false = true from fx) Bool.false_ne_true
 | bl a =>
  cases ry
  cases x with
  | non=>cases rx; exact SeqAt.EqAt.bool_none a
  | bl b=>cases rx; exact SeqAt.EqAt.bool_bool a b
  | int b=>obtain ⟨t,rfl⟩:=rx; exact SeqAt.EqAt.bool_int a b t
  | str b=>obtain ⟨t,rfl⟩:=rx; exact SeqAt.EqAt.bool_str a b t
  | _=>exact absurd (show false = true from fx) Bool.false_ne_true
 | int a =>
  obtain ⟨t',rfl⟩:=ry
  cases x with
  | non=>cases rx; exact SeqAt.EqAt.int_none a t'
  | bl b=>cases rx; exact SeqAt.EqAt.int_bool a t' b
  | int b=>obtain ⟨t,rfl⟩:=rx; exact SeqAt.EqAt.int_int a t' b t
  | str b=>obtain ⟨t,rfl⟩:=rx; exact SeqAt.EqAt.int_str a t' b t
  | _=>exact absurd (show false = true from fx) Bool.false_ne_true
 | str a =>
  obtain ⟨t',rfl⟩:=ry
  cases x with
  | non=>cases rx; exact SeqAt.EqAt.str_none a t'
  | bl b=>cases rx; exact SeqAt.EqAt.str_bool a t' b
  | int b=>obtain ⟨t,rfl⟩:=rx; exact SeqAt.EqAt.str_int a t' b t
  | str b=>obtain ⟨t,rfl⟩:=rx; exact SeqAt.EqAt.str_str a t' b t
  | _=>exact absurd (show false = true from fx) Bool.false_ne_true
 | _=>exact absurd (show false = true from fy) Bool.false_ne_true
def eqU (x : V) (u : Value) : Bool:=match u with
 | .none=>eqV .non x
 | .bool b=>eqV (.bl b) x
 | .int i _=>eqV (.int i) x
 | .str z _=>eqV (.str z) x
 | _=>false
theorem eqU_of {x y : V} {u : Value} (r : RelV y u) (f : flatV y = true) : eqU x u = eqV y x:=by
 cases y with
 | non=>cases r; rfl
 | bl b=>cases r; rfl
 | int i=>obtain ⟨t,rfl⟩:=r; rfl
 | str z=>obtain ⟨t,rfl⟩:=r; rfl
 | _=>exact absurd (show false = true from f) Bool.false_ne_true
theorem any_eqU {x : V} : ∀ {xs : List V} {us : List Value},Vals xs us -> xs.all flatV = true -> us.any (eqU x) = xs.any fun y=>eqV y x
 | _,_,.nil,_=>rfl
 | y :: xs,u :: us,.cons r t,f=>by
  rw [List.all_cons,Bool.and_eq_true] at f
  rw [List.any_cons,List.any_cons,eqU_of r f.1,any_eqU t f.2]
theorem mem_eqAt {A : Around} {s : Shared} {x : V} {v : Value} (rx : RelV x v) (fx : flatV x = true) : ∀ {xs : List V} {us : List Value},Vals xs us -> xs.all flatV = true -> ∀ u ∈ us,SeqAt.EqAt A s u v (eqU x u)
 | _,_,.nil,_=>fun u hu=>by cases hu
 | y :: xs,u :: us,.cons r t,f=>fun u' hu=>by
  rw [List.all_cons,Bool.and_eq_true] at f
  rcases mem_cons.mp hu with rfl | hu
  ·rw [eqU_of r f.1]; exact eqAt_V r rx f.1 fx
  ·exact mem_eqAt rx fx t f.2 u' hu
def inV (x : V) (xs : List V) : Bool:=xs.any fun y=>eqV y x
def rIn (K : W.Frag) (neg : Bool) : R2:=fun x y H Q=>∃ p xs,y = .ref p /\ (SqL K H p xs \/ SqT K H p xs) /\ flatV x = true /\ xs.all flatV = true /\ Q (.bl (if neg then !inV x xs else inV x xs)) H
theorem op_in_seq : OpR X (compareOp .In) (rIn X.K false):=by
 intro pins s σ H x y v u Q I rx ry h
 obtain ⟨p,xs,rfl,hq,fx,fs,q⟩:=h
 cases ry
 rcases hq with hq | hq
 ·obtain ⟨its,r,pl,hz⟩:=I.list hq
  refine SeqAt.in_listAt (eqU x) pl.isList (fun w hw=>mem_eqAt rx fx r fs w (by simpa using hw)) ⟨.bl _,H,I,rfl,?_⟩
  rw [show its.toArray.any (eqU x) = its.any (eqU x) by simp,any_eqU r fs]
  exact q
 ·obtain ⟨its,r,pl,hz⟩:=I.tuple hq
  refine SeqAt.in_tupleAt (eqU x) pl (fun w hw=>mem_eqAt rx fx r fs w (by simpa using hw)) ⟨.bl _,H,I,rfl,?_⟩
  rw [show its.toArray.any (eqU x) = its.any (eqU x) by simp,any_eqU r fs]
  exact q
theorem op_notIn_seq : OpR X (compareOp .NotIn) (rIn X.K true):=by
 intro pins s σ H x y v u Q I rx ry h
 obtain ⟨p,xs,rfl,hq,fx,fs,q⟩:=h
 cases ry
 rcases hq with hq | hq
 ·obtain ⟨its,r,pl,hz⟩:=I.list hq
  refine SeqAt.notIn_listAt (eqU x) pl.isList (fun w hw=>mem_eqAt rx fx r fs w (by simpa using hw)) ⟨.bl _,H,I,rfl,?_⟩
  rw [show its.toArray.any (eqU x) = its.any (eqU x) by simp,any_eqU r fs]
  exact q
 ·obtain ⟨its,r,pl,hz⟩:=I.tuple hq
  refine SeqAt.notIn_tupleAt (eqU x) pl (fun w hw=>mem_eqAt rx fx r fs w (by simpa using hw)) ⟨.bl _,H,I,rfl,?_⟩
  rw [show its.toArray.any (eqU x) = its.any (eqU x) by simp,any_eqU r fs]
  exact q
theorem call_len_seq : CallR X (.builtin "len") (fun xs H Q=>∃ p ys,xs = [.ref p] /\ (SqL X.K H p ys \/ SqT X.K H p ys) /\ Q (.int ys.length) H):=by
 intro pins s σ H xs us Q I r h
 obtain ⟨p,ys,rfl,hq,q⟩:=h
 obtain ⟨u,rfl,rx⟩:=vals1 r
 cases rx
 have hn:=line63
 rcases hq with hq | hq
 ·obtain ⟨its,r',pl,hz⟩:=I.list hq
  have hlen:=r'.length
  exact Calls.call_len_list pl.isList (by simp only [size_toArray] <;> omega) ⟨.int ys.length,H,I.tok _,⟨s.toks + 1,by rw [size_toArray,hlen]⟩,q⟩
 ·obtain ⟨its,r',pl,hz⟩:=I.tuple hq
  have hlen:=r'.length
  exact len_tuple pl (by simp only [size_toArray] <;> omega) ⟨.int ys.length,H,I.tok _,⟨s.toks + 1,by rw [size_toArray,hlen]⟩,q⟩
theorem call_list_of : CallR X (.type "list") (fun xs H Q=>∃ p ys,xs = [.ref p] /\ (SqL X.K H p ys \/ SqT X.K H p ys) /\ ∀ l,H l = none -> Q (.ref l) (upd H l (.lst ys))):=by
 intro pins s σ H xs us Q I r h
 obtain ⟨p,ys,rfl,hq,q⟩:=h
 obtain ⟨u,rfl,rx⟩:=vals1 r
 cases rx
 have fin : ∀ (its : List Value),Vals ys its -> ys.length <= sizeLine -> ∀ (h' : Heap) (c' : Nat),(∀ b o',s.heap.get? b = some o' -> h'.get? b = some o') ->
   h'.get? s.heap.objs.size = some { cls:=.type "list",dict:=none,data:=.seq its.toArray c',slots:=#[] } -> EP X pins σ Q (.ref s.heap.objs.size) { s with heap:=h' }:=fun its r' hz h' c' kp e =>
  ⟨.ref s.heap.objs.size,_,I.laid (t':=s.toks) kp (Nat.le_refl _) (show ObjOk X.prog X.w _ h' _ (.lst ys) from ⟨hz,its,c',r',e⟩),rfl,q _ (I.hok.fresh (Nat.le_refl _))⟩
 rcases hq with hq | hq
 ·obtain ⟨its,r',pl,hz⟩:=I.list hq
  have hlen:=r'.length
  obtain ⟨o,ho,hc,n,hd⟩:=pl.isList
  exact call_list_seq p (.inl rfl) ho hc hd (fun h' c' kp e=>fin its r' hz h' c' kp e) (by simp only [size_toArray] <;> omega)
 ·obtain ⟨its,r',pl,hz⟩:=I.tuple hq
  have hlen:=r'.length
  obtain ⟨o,ho,hc,n,hd⟩:=pl
  exact call_list_seq p (.inr rfl) ho hc hd (fun h' c' kp e=>fin its r' hz h' c' kp e) (by simp only [size_toArray] <;> omega)
def tyV (K : W.Frag) (T : String) (x : V) (H : Hp) : Prop:=match x with
 | .str _=>T = "str"
 | .int _=>T = "int"
 | .ref p=>(T = "list" /\ ∃ xs,SqL K H p xs) \/ (T = "tuple" /\ ∃ o,K.lookup p = some o /\ o.cls = .type "tuple" /\ o.dict = none) \/
   (T = "dict" /\ ((∃ kvs,H p = some (.dK kvs)) \/ ∃ kvs,H p = some (.dT kvs))) \/ (T = "set" /\ ∃ S n,H p = some (.set S n))
 | _=>False
theorem tyV_is {pins : List (Addr × Obj)} {σ : St} {H : Hp} {s : Shared} {T : String} {x : V} {v : Value} (I : Inv X pins σ H s) (r : RelV x v) (ty : tyV X.K T x H) :
  s.TypeIs v T /\ ∀ a,v = .ref a -> ∃ ob,s.heap.get? a = some ob /\ ob.dict = none:=by
 cases x with
 | str z =>
  obtain ⟨t,rfl⟩:=r
  cases (show T = "str" from ty)
  exact ⟨typeIs_str s z t,fun _ e=>nomatch e⟩
 | int i =>
  obtain ⟨t,rfl⟩:=r
  cases (show T = "int" from ty)
  exact ⟨typeIs_int s i t,fun _ e=>nomatch e⟩
 | ref p =>
  cases r
  rcases ty with ⟨rfl,xs,hq⟩ | ⟨rfl,o,hk,hc,hd⟩ | ⟨rfl,hk⟩ | ⟨rfl,S,n,hk⟩
  ·obtain ⟨its,_,pl,_⟩:=I.list hq
   refine ⟨pl.isList.typeIs,fun a e=>?_⟩
   cases e
   obtain ⟨o,n,e,c,hd,_⟩:=pl
   exact ⟨o,e,hd⟩
  ·refine ⟨⟨o,I.kIn p o hk,hc⟩,fun a e=>?_⟩
   cases e
   exact ⟨o,I.kIn _ o hk,hd⟩
  ·have z : ∃ o,s.heap.get? p = some o /\ o.ExactDict:=by
    rcases hk with ⟨kvs,hk⟩ | ⟨kvs,hk⟩
    ·obtain ⟨_,_,_,_,o,_,_,e,ex,_⟩:=I.hok p _ hk
     exact ⟨o,e,ex⟩
    ·obtain ⟨_,_,_,_,o,_,_,e,ex,_⟩:=I.hok p _ hk
     exact ⟨o,e,ex⟩
   obtain ⟨o,e,ex⟩:=z
   refine ⟨⟨o,e,ex.1⟩,fun a e2=>?_⟩
   cases e2
   exact ⟨o,e,ex.2.1⟩
  ·obtain ⟨o,_,_,_,e,ex,_⟩:=I.hok p _ hk
   refine ⟨⟨o,e,ex.1⟩,fun a e2=>?_⟩
   cases e2
   exact ⟨o,e,ex.2.1⟩
 | _=>exact False.elim ty
def tBM0 (K : W.Frag) (T : String) (r : V -> List V -> Hp -> VK -> Prop) (to : TE) : TE:=fun σ H Q=>to σ H fun x H1=>tyV K T x H1 /\ r x [] H1 Q
def tBM (K : W.Frag) (T : String) (r : V -> List V -> Hp -> VK -> Prop) (to : TE) (t : TA) : TE:=fun σ H Q=>to σ H fun x H1=>tyV K T x H1 /\ t σ H1 fun xs H2=>r x xs H2 Q
variable {o e : Expr} {es : List Expr} {to : TE} {t : TA} {name : Str} {apos cpos : Pos} {T id : String} {r : V -> List V -> Hp -> VK -> Prop}
theorem pe_bm0 (pa : PlainAttrs T) (slot : Slot T name id) (hty : typeOf (.builtin id) = pure (.type "method_descriptor")) (hm : MtR X id r) (ho : PE X o to)
  (hbase : attributeBase o name X.env (eval o X.env) = eval o X.env:=by rfl) (hline : (apos.endLine == cpos.line) = true:=by rfl) : PE X (.Call (.Attribute o name apos) [] [] cpos) (tBM0 X.K T r to):=by
 intro pins s σ H Q I h
 refine wpAny_Call_method0_late hbase hline (thn (ho pins s σ H _ I h) fun v s1 ⟨x,H1,I1,r1,ty,q1⟩=>?_)
 obtain ⟨h1,h2⟩:=tyV_is I1 r1 ty
 exact ⟨T,id,pa,slot,hty,h1,h2,Calls.callWith_builtin rfl (PySem.evalArgs_none (hm pins s1 σ H1 x [] v [] Q I1 r1 .nil q1))⟩
theorem pe_bm (pa : PlainAttrs T) (slot : Slot T name id) (hty : typeOf (.builtin id) = pure (.type "method_descriptor")) (hm : MtR X id r) (ho : PE X o to) (ha : PA X (e :: es) t)
  (hbase : attributeBase o name X.env (eval o X.env) = eval o X.env:=by rfl)
  (hfew : ((backTo cpos (starEach (e :: es) X.env)).all (fun x=>!x.1) && (backToKw cpos (keywordEach [] X.env)).all (fun x=>x.1.isSome)
   && decide ((e :: es).length + ([] : List Keyword).length + (if ([] : List Keyword).isEmpty then 0 else 1) < 30)) = true:=by rfl)
  (hline : (apos.endLine == cpos.line) = true:=by rfl) (hs : starEach (e :: es) X.env = (false,eval e X.env) :: starEach es X.env:=by rfl) (hplain : (backTo cpos (starEach es X.env)).any (·.1) = false:=by rfl) :
  PE X (.Call (.Attribute o name apos) (e :: es) [] cpos) (tBM X.K T r to t):=by
 intro pins s σ H Q I h
 refine wpAny_Call_method_late hbase hfew hline rfl (thn (ho pins s σ H _ I h) fun v s1 ⟨x,H1,I1,r1,ty,q1⟩=>?_)
 obtain ⟨h1,h2⟩:=tyV_is I1 r1 ty
 refine ⟨T,id,pa,slot,hty,h1,h2,?_⟩
 have hA:=ha cpos pins s1 σ H1 _ I1 q1
 rw [hs] at hA ⊢
 refine Calls.callWith_builtin (by show (false || (backTo cpos (starEach es X.env)).any (·.1)) = false; rw [hplain] <;> rfl) (Calls.evalArgs_plain ?_)
 exact thn hA fun us s2 ⟨vs,H2,I2,r2,q2⟩=>hm pins s2 σ H2 x vs v us Q I2 r1 r2 q2
/- xs.append(e),list.index on a module's tuple .. are MtR facts of 06m -/
end
def MtM (X : Cx) (id : String) (r : V -> List V -> Hp -> VK -> Prop) : Prop :=
 ∀ (pins : List (Addr × Obj)) (s : Shared) (σ : St) (H : Hp) (x : V) (xs : List V) (v : Value) (us : List Value) (Q : VK),Inv X pins σ H s -> RelV x v -> Vals xs us -> r x xs H Q ->
  wpAny (model X.prog X.w) X.A (call (.builtin id) (v :: us)) (EP X pins σ Q) X.xe s
theorem Vals.one {x : V} {us : List Value} (h : Vals [x] us) : ∃ u,us = [u] /\ RelV x u:=by
 cases h with
 | cons r q=>cases q; exact ⟨_,rfl,r⟩
theorem Vals.zero : ∀ {us : List Value},Vals [] us -> us = []
 | _,.nil=>rfl
theorem Vals.dropLast {xs : List V} {us : List Value} (h : Vals xs us) : Vals xs.dropLast us.dropLast:=by
 induction h with
 | nil=>exact .nil
 | cons r t ih =>
  cases t with
  | nil=>exact .nil
  | cons q t'=>exact .cons r ih
theorem Vals.eraseIdx : ∀ {xs : List V} {us : List Value} (i : Nat),Vals xs us -> Vals (xs.eraseIdx i) (us.eraseIdx i)
 | _,_,_,.nil=>.nil
 | _,_,0,.cons _ t=>t
 | _,_,i + 1,.cons r t=>.cons r (Vals.eraseIdx i t)
theorem Vals.reverse {xs : List V} {us : List Value} (h : Vals xs us) : Vals xs.reverse us.reverse:=by
 induction h with
 | nil=>exact .nil
 | cons r t ih=>rw [List.reverse_cons,List.reverse_cons]; exact Vals.append ih (.cons r .nil)
theorem Vals.rep {xs : List V} {us : List Value} (h : Vals xs us) : ∀ k : Nat,Vals (List.replicate k xs).flatten (List.replicate k us).flatten
 | 0=>.nil
 | k + 1=>by
  rw [replicate_succ,replicate_succ,flatten_cons,flatten_cons]
  exact Vals.append h (Vals.rep h k)
theorem erase_last {α : Type} (l : List α) : l.eraseIdx (l.length - 1) = l.dropLast:=by
 induction l with
 | nil=>rfl
 | cons a r ih =>
  cases r with
  | nil=>rfl
  | cons b r =>
   have e : (a :: b :: r).length - 1 = ((b :: r).length - 1) + 1:=by
    have h1 : (a :: b :: r).length = r.length + 2:=rfl
    have h2 : (b :: r).length = r.length + 1:=rfl
    omega
   rw [e,List.eraseIdx_cons_succ,ih]
   all_goals rfl
theorem len_erase {α : Type} : ∀ (l : List α) (i : Nat),(l.eraseIdx i).length <= l.length
 | [],_=>Nat.le_refl _
 | _ :: _,0=>Nat.le_succ _
 | _ :: r,i + 1=>Nat.succ_le_succ (len_erase r i)
theorem foldl_rep (its : List Value) : ∀ (k : Nat) (acc : List Value),
  List.foldl (fun x1 x2=>x1 ++ x2) acc.toArray (List.replicate k its.toArray) = (acc ++ (List.replicate k its).flatten).toArray
 | 0,acc=>by simp
 | k + 1,acc=>by
  have e : acc.toArray ++ its.toArray = (acc ++ its).toArray:=by simp
  have e2 : (acc ++ its) ++ (List.replicate k its).flatten = acc ++ (List.replicate (k + 1) its).flatten:=by
   rw [replicate_succ,flatten_cons,append_assoc]
  rw [<- e2,<- foldl_rep its k (acc ++ its),<- e,replicate_succ,List.foldl_cons]
section
variable {X : Cx} {pins : List (Addr × Obj)} {σ : St} {H : Hp} {s : Shared} {l : Addr} {xs ys : List V}
theorem Inv.lset {its its' : List Value} {n : Nat} {f : Array Value -> Array Value} {t' : Nat} (I : Inv X pins σ H s) (hH : H l = some (.lst xs))
  (e : s.heap.get? l = some { cls:=.type "list",data:=.seq its.toArray n }) (hf : f its.toArray = its'.toArray) (hv : Vals ys its') (hz : ys.length <= sizeLine) :
  Inv X pins σ (upd H l (.lst ys)) { s with heap:=s.heap.update l (Obj.mapSeq f),toks:=t' }:=by
 have q:=PySem.IsL.update e f
 rw [hf] at q
 refine I.write (x:=l) (e:=l) (by rw [hH]; exact trivial) (.inl rfl) (fun b' u hb hu=>(Heap.get?_update_other s.heap (Obj.mapSeq f) (Ne.symm hb)).trans hu) ⟨_,q⟩ ?_
 exact ⟨hz,its',_,hv,q⟩
theorem Inv.lnew {its : List Value} {t' : Nat} (I : Inv X pins σ H s) (hv : Vals ys its) (hz : ys.length <= sizeLine) :
  Inv X pins σ (upd H s.heap.objs.size (.lst ys)) { s with heap:=s.heap.push { cls:=.type "list",data:=.seq its.toArray },toks:=t' } :=
 I.laid (fun _ _ q=>Heap.get?_push_of_some _ q) (Nat.le_refl _) ⟨hz,its,0,hv,Heap.get?_push_size _ rfl⟩
theorem Inv.fresh (I : Inv X pins σ H s) : H s.heap.objs.size = none:=I.hok.fresh (Nat.le_refl _)
theorem Inv.lstM (I : Inv X pins σ H s) (hH : H l = some (.lst xs)) : xs.length <= sizeLine /\ ∃ (its : List Value) (n : Nat),Vals xs its /\ xs.length = its.length /\ s.heap.get? l = some { cls:=.type "list",data:=.seq its.toArray n }:=by
 obtain ⟨z,its,n,r,e⟩:=I.hok l _ hH
 exact ⟨z,its,n,r,r.length,e⟩
theorem notLongL {n : Nat} (h : n <= sizeLine) : Builtin.List.listTooLong n = false:=by
 unfold Builtin.List.listTooLong
 exact decide_eq_false (by omega)
end
section
variable {X : Cx}
def rAppend : V -> List V -> Hp -> VK -> Prop:=fun x vs H Q=>∃ l xs y,x = .ref l /\ vs = [y] /\ H l = some (.lst xs) /\ xs.length < sizeLine /\ Q .non (upd H l (.lst (xs ++ [y])))
theorem mt_append : MtM X "list.append" rAppend:=by
 intro pins s σ H x vs v us Q I rx rv h
 obtain ⟨l,xs,y,rfl,rfl,hH,hz,q⟩:=h
 cases rx
 obtain ⟨u,rfl,ru⟩:=rv.one
 obtain ⟨z,its,n,r,hl,e⟩:=I.lstM hH
 refine call_meets F.slot_list_append ⟨_,e,rfl⟩ F.entry_list_append (F.args_list_append_2 _ _) (PySem.list_append l its.toArray n u (by rw [size_toArray]; omega)) ⟨e,?_⟩
 refine ⟨.non,_,I.lset (its':=its ++ [u]) hH e (by simp) (r.append (.cons ru .nil)) ?_,rfl,q⟩
 rw [length_append,List.length_singleton]
 omega
def rExtend : V -> List V -> Hp -> VK -> Prop:=fun x vs H Q=>∃ l b xs zs,x = .ref l /\ vs = [.ref b] /\ H l = some (.lst xs) /\ H b = some (.lst zs) /\ xs.length + zs.length <= sizeLine /\ Q .non (upd H l (.lst (xs ++ zs)))
theorem mt_extend : MtM X "list.extend" rExtend:=by
 intro pins s σ H x vs v us Q I rx rv h
 obtain ⟨l,b,xs,zs,rfl,rfl,hH,hB,hz,q⟩:=h
 cases rx
 obtain ⟨u,rfl,ru⟩:=rv.one
 cases ru
 obtain ⟨z,its,n,r,hl,e⟩:=I.lstM hH
 obtain ⟨z2,its2,n2,r2,hl2,e2⟩:=I.lstM hB
 have hsz : its.toArray.size + its2.toArray.size <= sizeLine:=by rw [size_toArray,size_toArray]; omega
 have hlong : ¬ (!its.toArray.isEmpty && Builtin.List.listTooLong (its.toArray.size + its2.toArray.size)) = true:=by
  rw [notLongL hsz,Bool.and_false]
  exact Bool.false_ne_true
 refine call_meets F.slot_list_extend ⟨_,e,rfl⟩ F.entry_list_extend (F.args_list_extend_2 _ _)
  (AutoSeq1.list_extend_list_list_0 l its.toArray n b its2.toArray n2 hlong (by rw [size_toArray]; omega) (by omega)) ⟨e,e2,?_⟩
 refine ⟨.non,_,I.lset (its':=its ++ its2) hH e (by simp) (r.append r2) ?_,rfl,q⟩
 rw [length_append]
 omega
def rPop : V -> List V -> Hp -> VK -> Prop:=fun x vs H Q=>∃ l xs y,x = .ref l /\ vs = [] /\ H l = some (.lst xs) /\ xs[xs.length - 1]? = some y /\ Q y (upd H l (.lst xs.dropLast))
theorem mt_pop : MtM X "list.pop" rPop:=by
 intro pins s σ H x vs v us Q I rx rv h
 obtain ⟨l,xs,y,rfl,rfl,hH,hy,q⟩:=h
 cases rx
 have hus:=rv.zero
 subst hus
 obtain ⟨z,its,n,r,hl,e⟩:=I.lstM hH
 obtain ⟨u,hu,ru⟩:=r.get hy
 have hy' : its.toArray[its.toArray.size - 1]? = some u:=by
  show its.toArray[its.length - 1]? = some u
  rw [<- Array.getElem?_toList,<- hl]
  exact hu
 refine call_meets F.slot_list_pop ⟨_,e,rfl⟩ F.entry_list_pop (F.args_list_pop_1 _) (MeetsSeq.list_pop_last l its.toArray n u hy' (by rw [size_toArray]; omega)) ⟨e,?_⟩
 refine ⟨y,_,I.lset (its':=its.dropLast) hH e ?_ r.dropLast ?_,ru,q⟩
 ·show its.toArray.eraseIdxIfInBounds (its.toArray.size - 1) = its.dropLast.toArray
  rw [size_toArray,List.eraseIdxIfInBounds_toArray,erase_last]
 ·rw [List.length_dropLast]
  omega
def rPopAt : V -> List V -> Hp -> VK -> Prop:=fun x vs H Q=>∃ l xs i k y,x = .ref l /\ vs = [.int i] /\ H l = some (.lst xs) /\ -(2 ^ 63) <= i /\ i < 2 ^ 63 /\ seqIndex? i xs.length = some k /\ xs[k]? = some y /\ Q y (upd H l (.lst (xs.eraseIdx k)))
theorem mt_popAt : MtM X "list.pop" rPopAt:=by
 intro pins s σ H x vs v us Q I rx rv h
 obtain ⟨l,xs,i,k,y,rfl,rfl,hH,h1,h2,hk,hy,q⟩:=h
 cases rx
 obtain ⟨u,rfl,ru⟩:=rv.one
 obtain ⟨t,rfl⟩:=ru
 obtain ⟨z,its,n,r,hl,e⟩:=I.lstM hH
 obtain ⟨w,hw,rw'⟩:=r.get hy
 refine call_meets F.slot_list_pop ⟨_,e,rfl⟩ F.entry_list_pop (F.args_list_pop_2 _ _)
  (MeetsSeq.list_pop_at l its.toArray n i t k w (fitsIndex_both h1 h2) (by rw [size_toArray,<- hl]; exact hk) (by rw [<- Array.getElem?_toList]; exact hw) (by rw [size_toArray]; omega)) ⟨e,?_⟩
 refine ⟨y,_,I.lset (its':=its.eraseIdx k) hH e ?_ (r.eraseIdx k) ?_,rw',q⟩
 ·show its.toArray.eraseIdxIfInBounds k = (its.eraseIdx k).toArray
  rw [List.eraseIdxIfInBounds_toArray]
 ·have:=len_erase xs k
  omega
def rReverse : V -> List V -> Hp -> VK -> Prop:=fun x vs H Q=>∃ l xs,x = .ref l /\ vs = [] /\ H l = some (.lst xs) /\ Q .non (upd H l (.lst xs.reverse))
theorem mt_reverse : MtM X "list.reverse" rReverse:=by
 intro pins s σ H x vs v us Q I rx rv h
 obtain ⟨l,xs,rfl,rfl,hH,q⟩:=h
 cases rx
 have hus:=rv.zero
 subst hus
 obtain ⟨z,its,n,r,hl,e⟩:=I.lstM hH
 refine call_meets F.slot_list_reverse ⟨_,e,rfl⟩ F.entry_list_reverse (F.args_list_reverse_1 _) (AutoSeq1.list_reverse_list_0 l its.toArray n (by rw [size_toArray]; omega)) ⟨e,?_⟩
 refine ⟨.non,_,I.lset (its':=its.reverse) hH e (by simp) r.reverse ?_,rfl,q⟩
 rw [List.length_reverse]
 omega
def rCat : R2:=fun x y H Q=>∃ l b xs zs,x = .ref l /\ y = .ref b /\ H l = some (.lst xs) /\ H b = some (.lst zs) /\ xs.length + zs.length <= sizeLine /\ ∀ p,H p = none -> Q (.ref p) (upd H p (.lst (xs ++ zs)))
theorem op_cat : OpR X (binaryOp .Add) rCat:=by
 intro pins s σ H x y v u Q I rx ry h
 obtain ⟨l,b,xs,zs,rfl,rfl,hH,hB,hz,q⟩:=h
 cases rx
 cases ry
 obtain ⟨z,its,n,r,hl,e⟩:=I.lstM hH
 obtain ⟨z2,its2,n2,r2,hl2,e2⟩:=I.lstM hB
 refine PySem.P.add_list e e2 ?_ (by rw [size_toArray,size_toArray]; omega)
 have ea : its.toArray ++ its2.toArray = (its ++ its2).toArray:=by simp
 rw [ea]
 exact ⟨.ref _,_,I.lnew (t':=s.toks) (r.append r2) (by rw [length_append]; omega),rfl,q _ I.fresh⟩
def rRep : R2:=fun x y H Q=>∃ l k xs,x = .ref l /\ y = .int k /\ H l = some (.lst xs) /\ -(2 ^ 63) <= k /\ k < 2 ^ 63 /\ xs.length * k.toNat <= sizeLine /\
 ∀ p,H p = none -> Q (.ref p) (upd H p (.lst (List.replicate k.toNat xs).flatten))
theorem len_rep {α : Type} (xs : List α) (k : Nat) : (List.replicate k xs).flatten.length = k * xs.length:=by
 induction k with
 | zero=>simp
 | succ k ih=>rw [replicate_succ,flatten_cons,length_append,ih,Nat.succ_mul,Nat.add_comm]
theorem op_rep : OpR X (binaryOp .Mult) rRep:=by
 intro pins s σ H x y v u Q I rx ry h
 obtain ⟨l,k,xs,rfl,rfl,hH,h1,h2,hz,q⟩:=h
 cases rx
 obtain ⟨t,rfl⟩:=ry
 obtain ⟨z,its,n,r,hl,e⟩:=I.lstM hH
 have hlen : its.toArray.size * k.toNat <= sizeLine:=by rw [size_toArray,<- hl]; exact hz
 have hcap : ¬ its.toArray.size * k.toNat > (2 ^ 63 - 1) / 8:=by
  have : (sizeLine : Nat) <= (2 ^ 63 - 1) / 8:=by decide
  omega
 have hfit : ¬ (!Builtin.List.listFitsIndex k) = true:=by
  rw [fitsIndex_both h1 h2]
  exact Bool.false_ne_true
 have hlong : ¬ Builtin.List.listTooLong (its.toArray.size * k.toNat) = true:=by
  rw [notLongL hlen]
  exact Bool.false_ne_true
 have hnew : List.foldl (fun x1 x2=>x1 ++ x2) #[] (List.replicate (if its.toArray.isEmpty = true then 0 else k.toNat) its.toArray) = (List.replicate k.toNat its).flatten.toArray:=by
  have f0 : ∀ m : Nat,List.foldl (fun x1 x2=>x1 ++ x2) #[] (List.replicate m its.toArray) = (List.replicate m its).flatten.toArray:=fun m=>by
   have:=foldl_rep its m []
   rw [nil_append] at this
   exact this
  rw [f0]
  cases its with
  | nil=>simp
  | cons a r'=>rw [if_neg (by simp)]
 refine wpAny_binaryOp_repeat_ref (T:="list") (U:="int") (by decide) ⟨_,e,rfl⟩ (fun s'=>typeIs_int s' k t) noFill_list_mul F.fills_int_mul F.slot_int_rmul repeat_list F.slot_int_index.lookup
  (call_meets F.slot_int_rmul (typeIs_int s k t) F.entry_int_rmul (F.args_int_rmul_2 _ _) (int___rmul___int_list k t l its.toArray n)
   ⟨e,rfl,⟨_,e,rfl⟩,call_meets F.slot_list_mul ⟨_,e,rfl⟩ F.entry_list_mul (F.args_list_mul_2 _ _) (AutoListH.list___mul___list_int_3 l its.toArray n k t hfit hcap hlong) ⟨e,?_⟩⟩)
 rw [hnew]
 exact ⟨.ref _,_,I.lnew (t':=s.toks) (r.rep k.toNat) (by rw [len_rep,Nat.mul_comm]; exact hz),rfl,q _ I.fresh⟩
end
end L2
namespace Att
open PySem PySem.W PySem.Calls PyProof.Rows
theorem ints_of_wellAll {P : Params} {h : Heap} : ∀ (ns : List Int) (vs : List Value),WellAll P h vs (ns.map WData.int) -> IntsAre vs ns:=by
 intro ns
 induction ns with
 | nil =>
  intro vs w
  rw [List.map_nil] at w
  cases w
  exact .nil
 | cons n ns ih =>
  intro vs w
  rw [map_cons] at w
  cases w with
  | cons a b =>
   cases a
   exact .cons _ _ (ih _ b)
theorem script_of {l : OpenLaw} {n : Nat} (hn : l.most = some n) {P : Params} {h : Heap} {args : List WData} {vals : List Value}
  (hpre : l.row.toRowW.claim.pre args = true) (hwl : WellAll P h vals args) :
  ∃ a vs ns,vals = [Value.ref a] /\ args = [WData.list (ns.map WData.int)] /\ h.get? a = some { cls:=.type "list",data:=.seq vs.toArray } /\ IntsAre vs ns /\ ns.length <= n:=by
 have hsh : WShape.hasAll [] args [.list .int] = true:=(pre_splitW hpre).1
 have hc : l.pre.holds [] { args:=args } = true:=(pre_splitW hpre).2
 obtain ⟨d,r,rfl,h1,h2⟩:=hasAllW_cons hsh
 obtain rfl:=hasAllW_nil h2
 obtain ⟨xs,rfl,h3⟩:=hasW_list h1
 obtain ⟨ns,rfl⟩:=items_int h3
 have hlen : ns.length <= n:=by
  unfold OpenLaw.pre at hc
  have h4 : (WTm.not (.lt (.lit (.int (n : Int))) (.len (.arg 0)))).holds [] { args:=[.list (ns.map .int)] } = true:=by
   have h4:=(holds_andW hc).1
   rw [hn] at h4
   exact h4
  have h5:=condW_of h4 (w_not (w_lt w_lit (w_len_list (w_arg rfl))))
  rw [length_map] at h5
  refine Nat.le_of_not_lt fun q=>?_
  have q' : (n : Int) < ((ns.length : Nat) : Int):=by omega
  first
   | (rw [decide_eq_true q'] at h5; exact absurd h5 (by decide))
   | (simp at h5; omega)
 cases hwl with
 | cons w1 w2 =>
  cases w2
  cases w1 with
  | list ho hall=>exact ⟨_,_,ns,rfl,rfl,ho,ints_of_wellAll ns _ hall,hlen⟩
theorem post_true (l : OpenLaw) (args : List WData) : l.row.toRowW.claim.post args (.bool true) args = true :=
 postW_of (r:=l.row.toRowW) (X:=(true == true))
  (show WShape.has [] (.bool true) .bool = true by first | rfl | decide | simp [WShape.has,WShape.arms,WShape.armsAll])
  (show (WTm.eq .res (.lit (.bool true))).value [] { args:=args,res:=some (.bool true),after:=args } = some (.bool (true == true)) from w_eq_bool (w_res rfl) w_lit) rfl
theorem attach_call {l : OpenLaw} {n : Nat} {q : Program} {loose : List Str} {XP : (Str -> Option Value) -> Heap -> Prop} {YP : World -> Heap -> Prop} {d : DefRec}
  (hn : l.most = some n) (hdf : d.params.defaults = [])
  (call : ∀ (w : World) (s₀ s₁ : Shared) (mg mb : Str -> Option Value) (fa : Addr) (o : Obj) (pm cd doc : Value) (a : Addr) (vs : List Value) (ns : List Int),
   Ground q loose [] XP w s₀ mg mb s₁.heap -> YP w s₁.heap ->
   s₁.heap.get? fa = some o -> o.data = .func (docDef d.name d.params d.body d.scope pm cd doc) -> s₁.heap.CodeRec cd d.name -> mg d.name = some (.ref fa) ->
   s₁.heap.get? a = some { cls:=.type "list",data:=.seq vs.toArray } -> IntsAre vs ns -> ns.length <= n -> s₁.gens = #[] ->
   codeAny (model l.prog w) callerA (.call (.ref fa) ⟨[.ref a],[]⟩) (fun r s'=>r = .ok (.ret (.bool true)) /\ OldK s₁.heap s'.heap /\ s'.os = s₁.os /\ AllBare s'.gens) s₁) :
  WalkO q loose XP YP l.row.toRowW d [] (fun f vs=>PySem.call f vs):=by
 intro w s₀ s₁ mg mb G Y fa o pm cd doc dV kV ho hd hcd hD hmg hg args vals as hpre hlay hrd hwl hlo
 obtain rfl : dV = .none:=Dflts.none hD hdf
 obtain rfl : kV = .none:=Dflts.noKw hD
 obtain ⟨a,vs,ns,rfl,rfl,hobj,hints,hlen⟩:=script_of hn hpre hwl
 refine enter_call (codeAny_mono (call w s₀ s₁ mg mb fa o pm cd doc a vs ns G Y ho (fd_plain hd) hcd hmg hobj hints hlen hg) fun r s' hq=>?_)
 obtain ⟨rfl,h2,h3,h4⟩:=hq
 exact ⟨.inl ⟨.bool true,.bool true,[],rfl,fun _=>rfl,.bool true,post_true l _,fun _=>⟨List.Pairwise.nil,fun _ hm=>(nomatch hm)⟩⟩,h2,h3,h4⟩
end Att
namespace L2
open PySem PySem.Spec PyProof.Rows
theorem vals_ints : ∀ {vs : List Value} {ns : List Int},IntsAre vs ns -> Vals (ns.map V.int) vs
 | _,_,.nil=>.nil
 | _,_,.cons n t h=>.cons ⟨t,rfl⟩ (vals_ints h)
def Only (H : Hp) : Prop:=∀ b,H b = none \/ ∃ o xs,H b = some (.frz o (.lst xs))
theorem law_call {P : Program} {w : World} {K : W.Frag} {mg mb : Str -> Option Value} {CX : CXT} {k : Nat} {fa a : Addr} {fd : FuncData} {x : Str} {sp : Sp} {s₁ : Shared} {vs : List Value} {ns : List Int}
  (KX : K.In s₁.heap) (hns : s₁.heap.Ns mainGlobals mg) (hb : s₁.heap.Ns builtinsNs mb) (hbb : ∀ x : Str,x ≠ "__name__" -> mb x = bootBuiltins x) (hlim : s₁.heap.NoLimit) (hse : s₁.heap.NoSeer) (hg : s₁.gens = #[])
  (ha : s₁.heap.get? a = some { cls:=.type "list",data:=.seq vs.toArray }) (hi : IntsAre vs ns) (hl : ns.length <= sizeLine) (hr : Room k callerA)
  (F : ∀ base : Heap,K.In base -> base.Ns mainGlobals mg -> FnOk P w K mg base CX k fa fd [x] sp) (hbind : ∀ (s : Shared) (u : Value),BindsTo s fd ⟨[u],[]⟩ [(x,u)])
  (hsp : ∀ H : Hp,Only H -> SqL K H a (ns.map V.int) -> sp [.ref a] H (fun v _=>v = .bl true) fun _ _ _=>False)
  (hCX : ∀ H e s',CX [] H s₁ (fun _ _ _=>False) e s' -> False) :
  codeAny (model P w) callerA (.call (.ref fa) ⟨[.ref a],[]⟩) (fun r s'=>r = .ok (.ret (.bool true)) /\ OldK s₁.heap s'.heap /\ s'.os = s₁.os /\ AllBare s'.gens) s₁:=by
 have rv:=vals_ints hi
 have lenV:=hi.length
 have core : ∀ H : Hp,Only H -> SqL K H a (ns.map V.int) -> HOk P w H s₁.heap -> (∀ b,H b ≠ none -> b = a) -> (H a ≠ none -> K.lookup a = none) ->
   codeAny (model P w) callerA (.call (.ref fa) ⟨[.ref a],[]⟩) (fun r s'=>r = .ok (.ret (.bool true)) /\ OldK s₁.heap s'.heap /\ s'.os = s₁.os /\ AllBare s'.gens) s₁:=by
  intro H hO hS hok hA hK
  have base_of : ∀ {b : Addr} {o : Obj},s₁.heap.get? b = some o -> H b = none -> (hidT s₁.heap H).get? b = some o:=fun e n=>hidT_get e n
  have noA : ∀ {b : Addr} {o : Obj} {es : Array DictEntry} {ep : Nat},s₁.heap.get? b = some o -> o.data = .dict es ep -> H b = none:=fun {b o es ep} e d=>by
   cases q : H b with
   | none=>rfl
   | some u =>
    have e' : b = a:=hA b (by rw [q]; simp)
    subst e'
    rw [ha] at e; cases e
    have d' : Data.seq vs.toArray _ = Data.dict es ep:=d
    cases d'
  have nsK : ∀ {b : Addr} {m : Str -> Option Value},s₁.heap.Ns b m -> (hidT s₁.heap H).Ns b m:=fun {b m} ⟨o,es,ep,e,d,r⟩=>⟨o,es,ep,base_of e (noA e d),d,r⟩
  have hKb : K.In (hidT s₁.heap H):=fun b o e=>base_of (KX b o e) (by
   cases q : H b with
   | none=>rfl
   | some u =>
    have e' : b = a:=hA b (by rw [q]; simp)
    subst e'
    rw [hK (by rw [q]; simp)] at e; cases e)
  have seK : (hidT s₁.heap H).NoSeer:=⟨let ⟨mc,h1,h2⟩:=hse.statics; ⟨mc,nsK h1,h2⟩,let ⟨mm,h1,h2⟩:=hse.mods; ⟨mm,nsK h1,h2⟩,let ⟨mx,h1,h2⟩:=hse.imp; ⟨mx,nsK h1,h2⟩,by
   obtain ⟨mx,bm,ob,h1,h2,h3,h4,h5⟩:=hse.main
   refine ⟨mx,bm,ob,nsK h1,h2,base_of h3 ?_,h4,h5⟩
   cases q : H bm with
   | none=>rfl
   | some u =>
    have e' : bm = a:=hA bm (by rw [q]; simp)
    subst e'
    rw [ha] at h3; cases h3
    exact absurd (show (Value.type "list") = .type "module" from h4) (by decide)⟩
  have hM : Mod K mg (hidT s₁.heap H):=⟨hKb,nsK hns,⟨mb,nsK hb,hbb⟩,let ⟨mc,h1,h2⟩:=hlim; ⟨mc,nsK h1,h2⟩,seK⟩
  have e0 : Env0 P w K mg (hidT s₁.heap H) callerA [] s₁ H:=⟨rfl,hM,fun b o e=>of_hidT e,Nat.le_of_eq (hidT_size _ _),trivial,fun b hb=>absurd (show b ∈ ([] : List Addr) from hb) (by simp),hok,.of_eq hg⟩
  refine codeAny_mono ((F _ hKb (nsK hns)).run callerA [] s₁ H ⟨[.ref a],[]⟩ [.ref a] [.ref a] _ _ hr e0 (hbind s₁ (.ref a)) (.cons rfl .nil) (hsp H hO hS)) fun r s' h=>?_
  cases r with
  | error e=>exact (hCX H e s' h).elim
  | ok fl =>
   cases fl with
   | next=>exact False.elim h
   | brk=>exact False.elim h
   | cont=>exact False.elim h
   | ret u =>
    obtain ⟨v,H',os,bare,un,hok',r',q⟩:=h
    have q' : v = .bl true:=q
    subst q'
    obtain rfl : u = Value.bool true:=r'
    refine ⟨rfl,OldK.of_keep fun b o e=>?_,os,bare⟩
    cases q : H b with
    | none=>exact un.keep b o e q (by intro z; exact absurd (show b ∈ ([] : List Addr) from z) (by simp)) (by simp)
    | some u =>
     rcases hO b with z | ⟨ob,xs,z⟩
     ·rw [q] at z; cases z
     ·have z2:=un.frzs b ob _ z
      obtain ⟨e1,_⟩:=hok b _ z
      obtain ⟨e2,_⟩:=hok' b _ z2
      rw [e] at e1; cases e1
      exact e2
 cases hk : K.lookup a with
 | some o =>
  have e:=KX a o hk
  rw [ha] at e
  cases e
  refine core (fun _=>none) (fun _=>.inl rfl) (.inr ⟨_,vs.toArray,_,hk,rfl,rfl,rfl,by rw [size_toArray,lenV]; exact hl,by simpa using rv⟩) (fun b u z=>by have z' : (none : Option HO) = some u:=z; cases z') (fun b z=>absurd rfl z) fun z=>absurd rfl z
 | none =>
  refine core (fun b=>if b = a then some (.frz { cls:=.type "list",data:=.seq vs.toArray } (.lst (ns.map V.int))) else none) (fun b=>?_) (.inl (.inr ⟨{ cls:=.type "list",data:=.seq vs.toArray },if_pos rfl⟩)) (fun b u z=>?_) (fun b z=>?_) fun _=>hk
  ·by_cases hb : b = a
   ·exact .inr ⟨_,_,if_pos hb⟩
   ·exact .inl (if_neg hb)
  ·by_cases hb : b = a
   ·have z':=(if_pos hb).symm.trans z
    cases z'
    subst hb
    exact ⟨ha,by rw [length_map]; exact hl,vs,_,rv,ha⟩
   ·have z':=(if_neg hb).symm.trans z
    cases z'
  ·by_cases hb : b = a
   ·exact hb
   ·exact absurd (if_neg hb) z
theorem walk_of {l : PySem.W.OpenLaw} {n k : Nat} {q : Program} {loose : List Str} {XP : (Str -> Option Value) -> Heap -> Prop} {YP : World -> Heap -> Prop} {d : DefRec} {K : Params -> W.Frag} {CX : World -> CXT} {sp : World -> Sp} {x : Str}
  (hn : l.most = some n) (hn2 : n <= sizeLine) (hdf : d.params.defaults = []) (hr : Room k callerA) (hi : importsNone q = true)
  (hY : ∀ (w : World) (h : Heap),YP w h -> (K w.params).In h)
  (F : ∀ (w : World) (mg : Str -> Option Value) (fa : Addr) (h : Heap),(K w.params).In h -> h.Ns mainGlobals mg -> mg d.name = some (.ref fa) ->
   ∃ fd : FuncData,(∀ (s : Shared) (u : Value),BindsTo s fd ⟨[u],[]⟩ [(x,u)]) /\
    ∀ base : Heap,(K w.params).In base -> base.Ns mainGlobals mg -> FnOk l.prog w (K w.params) mg base (CX w) k fa fd [x] (sp w))
  (hsp : ∀ (w : World) (H : Hp) (a : Addr) (ns : List Int),ns.length <= n -> Only H -> SqL (K w.params) H a (ns.map V.int) -> sp w [.ref a] H (fun v _=>v = .bl true) fun _ _ _=>False)
  (hCX : ∀ (w : World) (H : Hp) (s : Shared) (e : Value) (s' : Shared),CX w [] H s (fun _ _ _=>False) e s' -> False) :
  PySem.W.WalkO q loose XP YP l.row.toRowW d [] (fun f vs=>PySem.call f vs):=by
 refine Att.attach_call hn hdf fun w s₀ s₁ mg mb fa o pm cd doc a vs ns G Y ho hd hcd hmg hobj hints hlen hg=>?_
 have KX:=hY w _ Y
 obtain ⟨fd,hb,hF⟩:=F w mg fa _ KX G.T.g hmg
 exact law_call KX G.T.g G.T.b G.T.builtins G.T.nolimit (G.T.seer hi) hg hobj hints (Nat.le_trans hlen hn2) hr hF hb (fun H hO hS=>hsp w H a ns hlen hO hS) fun H e s'=>hCX w H s₁ e s'
def defArgs (s : Stmt) : Arguments:=match s with
 | .FunctionDef _ a _ _ _ _ _ _ _ _=>a
 | _=>{ posonlyargs:=[],args:=[],vararg:=none,kwonlyargs:=[],kw_defaults:=[],kwarg:=none,defaults:=[] }
def defBody (s : Stmt) : List Stmt:=match s with
 | .FunctionDef _ _ b _ _ _ _ _ _ _=>b
 | _=>[]
def defScope (s : Stmt) : Scope:=match s with
 | .FunctionDef _ _ _ _ _ _ sc _ _ _=>sc
 | _=>{ kind:=.function,names:=[],isGenerator:=false,isCoroutine:=false }
abbrev CX0 : CXT:=fun _ _ _ _ _ _=>False
abbrev E0 : XK:=fun _ _ _=>False
theorem pass0 {X : Cx} : Passes CX0 X E0:=fun _ _ _ _ _ _ _ h=>h.elim
structure Fun (K : W.Frag) (x qual : Str) (st : Stmt) (f : Addr) (fd : FuncData) : Prop where
 ex : ∃ (oc : Value) (od : Option Addr) (kV doc pm : Value) (an : Option Addr) (cdv ct : Value) (osl : Array (Option Value)),
  fd = PySem.W.fnOf x qual (defArgs st) (defBody st) (defScope st) .none kV doc pm an cdv ct /\ K.lookup f = some ⟨oc,od,.func fd,osl⟩ /\ PySem.W.codeIn K cdv qual = true
 kp : PySem.W.keepIn K (.ref f) = true
section
variable {P : Program} {w : World} {K : W.Frag} {mg : Str -> Option Value} {base : Heap}
theorem Fun.ok {x qual : Str} {st : Stmt} {f : Addr} {fd : FuncData} {N ps : List Str} {k : Nat} {sp : Sp} (F : Fun K x qual st f fd) (S : FnScope N ps (defScope st)) (len : ∀ vs H Q E,sp vs H Q E -> vs.length = ps.length)
  (hbody : ∀ (cdv : Value) (A : Around) (outer : List Env) (s : Shared) (H : Hp) (vs : List V) (Q : VK) (E : XK),Room k (A.deeper (envOfC qual (defScope st) s.heap.objs.size f cdv)) -> sp vs H Q E ->
   ∃ t,PSs (cxOf CX0 P w K mg base N qual (defScope st) f cdv A outer s H E).nox (defBody st) t /\ t { nx:=fun _ H'=>Q .non H',rt:=Q } (start N vs) H) : FnOk P w K mg base CX0 (k + 1) f fd ps sp:=by
 obtain ⟨oc,od,kV,doc,pm,an,cdv,ct,osl,rfl,lk,hcd⟩:=F.ex
 refine fn_of lk hcd S len fun A outer s H vs Q E hr hsp=>?_
 obtain ⟨t,h,q⟩:=hbody cdv A outer s H vs Q E hr hsp
 exact ⟨t,h.nox,q⟩
theorem Fun.binds {x qual : Str} {st : Stmt} {f : Addr} {fd : FuncData} {ps : List Str} (F : Fun K x qual st f fd)
  (h : ∀ (kV doc pm : Value) (an : Option Addr) (cdv ct : Value) (us : List Value),us.length = ps.length -> bindArgs (PySem.W.fnOf x qual (defArgs st) (defBody st) (defScope st) .none kV doc pm an cdv ct) ⟨us,[]⟩ = pure (ps.zip us)) : Binds K fd ps []:=by
 obtain ⟨oc,od,kV,doc,pm,an,cdv,ct,osl,rfl,lk,hcd⟩:=F.ex
 exact .all (h kV doc pm an cdv ct)
theorem fun_mk {x qual : Str} {st : Stmt} {f : Addr} {oc : Value} {od an : Option Addr} {osl : Array (Option Value)} {kV doc pm cdv ct : Value} (l : K.lookup f = some ⟨oc,od,.func (PySem.W.fnOf x qual (defArgs st) (defBody st) (defScope st) .none kV doc pm an cdv ct),osl⟩)
  (c : PySem.W.codeIn K cdv qual = true) (k : PySem.W.keepIn K (.ref f) = true) : Fun K x qual st f (PySem.W.fnOf x qual (defArgs st) (defBody st) (defScope st) .none kV doc pm an cdv ct):=⟨⟨oc,od,kV,doc,pm,an,cdv,ct,osl,rfl,l,c⟩,k⟩
end
section
variable {X : Cx}
theorem pv (i : Nat) {x : Str} {pos : Pos} (hN : X.N[i]? = some x:=by rfl) (hv : Vis X.env.scope x:=by first | exact Or.inl rfl | exact Or.inr (Or.inl rfl) | exact Or.inr (Or.inr rfl)) (hd : (x == ("__debug__" : Str)) = false:=by decide)
  (hcd : (x == ("__classdict__" : Str)) = false:=by decide) : PE X (.Name x pos) (tVar i):=pe_var hN hv hd hcd
end
theorem iteF {A B : Prop} (h : B) : if false = true then A else B:=by
 rw [if_neg Bool.false_ne_true]
 exact h
theorem iteT {A B : Prop} (h : A) : if true = true then A else B:=by
 rw [if_pos rfl]
 exact h
theorem ite2 {c A B : Prop} [Decidable c] (h1 : c -> A) (h2 : ¬ c -> B) : if c then A else B:=by
 by_cases h : c
 ·rw [if_pos h]
  exact h1 h
 ·rw [if_neg h]
  exact h2 h
def Same (H H' : Hp) : Prop:=∀ b o,H b = some o -> H' b = some o
theorem Same.refl (H : Hp) : Same H H:=fun _ _ h=>h
theorem Same.trans {H H1 H2 : Hp} (a : Same H H1) (b : Same H1 H2) : Same H H2:=fun c o h=>b c o (a c o h)
theorem Same.free {H H' : Hp} (e : Same H H') {l : Addr} (h : H' l = Option.none) : H l = Option.none:=by
 cases q : H l with
 | none=>rfl
 | some o =>
  rw [e l o q] at h
  cases h
theorem Same.seq {K : W.Frag} {H H' : Hp} {a : Addr} {xs : List V} (e : Same H H') (h : SqL K H a xs) : SqL K H' a xs:=by
 rcases h with (h | ⟨o,h⟩) | h
 ·exact .inl (.inl (e _ _ h))
 ·exact .inl (.inr ⟨o,e _ _ h⟩)
 ·exact .inr h
theorem kV_is {P : Program} {w : World} {k : Key} {u : Value} (r : RelV (kV k) u) : (mixKind P w).is k u = true:=by
 cases k with
 | inl i=>obtain ⟨t,e⟩:=(show ∃ t,u = Value.int i t from r); subst e; exact mixKind_int P w i t
 | inr x=>obtain ⟨t,e⟩:=(show ∃ t,u = Value.str x t from r); subst e; exact mixKind_str P w x t
theorem items_are {P : Program} {w : World} : ∀ {ks : List Key} {us : List Value},Vals (ks.map kV) us -> ItemsAre (mixKind P w) ks us
 | [],_,r=>by rw [List.map_nil] at r; cases r; exact .nil
 | k :: ks,_,r=>by
  rw [map_cons] at r
  cases r with
  | cons h t=>exact .cons (kV_is h) (items_are t)
end L2
set_option maxHeartbeats 4000000
namespace L2
open PySem PySem.Spec PyProof.Rows
def PTs (Y : Cx) (ifs : List Expr) (t : TT) : Prop :=
 ∀ (pins : List (Addr × Obj)) (s : Shared) (σ : St) (H : Hp) (Q : Bool -> Hp -> Prop),Inv Y pins σ H s -> t σ H Q ->
  wpAny (model Y.prog Y.w) Y.A (forIn ifs true fun c r=>if r = true then do let ok <- isTrue c Y.env (eval c Y.env); pure (ForInStep.yield ok) else pure (ForInStep.yield r)) (TP Y pins σ Q) Y.xe s
theorem pts_nil {Y : Cx} : PTs Y [] (fun _ H Q=>Q true H):=by
 intro pins s σ H Q I h
 rw [List.forIn_nil]
 exact wpAny_pure ⟨H,I,h⟩
theorem pts_one {Y : Cx} {c : Expr} {t : TT} (hc : PT Y c t) : PTs Y [c] t:=by
 intro pins s σ H Q I h
 rw [List.forIn_cons]
 refine wpAny_bind ?_
 rw [if_pos rfl]
 refine wpAny_bind (thn (hc pins s σ H Q I h) fun b s1 q=>wpAny_pure ?_)
 show wpAny _ _ (forIn [] b _) _ _ _
 rw [List.forIn_nil]
 exact wpAny_pure q
def LcW (prog : Program) (w : World) (A : Around) (elt : Expr) (gens : List Comprehension) (scope : Scope) (pos : Pos) (d : Nat) (acc : Value) (env : Env) (Q : Shared -> Prop) (s : Shared) : Prop :=
 match gens[d + 1]? with
 | some g'=>(g'.is_async = 0 /\ ∀ x,foldedSetIterable g'.iter env x = pure x) /\ wpAny (model prog w) A (eval g'.iter env) (fun x s4=>wpAny (model prog w) A (pyIter x) (fun itv s5 =>
   codeAny (model prog w) A (.compStart (.ListComp elt gens scope pos) (d + 1) itv acc env) (fun r s6=>r = .ok .next /\ Q s6) s5) (fun _ _=>False) s4) (fun _ _=>False) s
 | none=>wpAny (model prog w) A (eval elt env) (fun x s4=>wpAny (model prog w) A (call (.builtin "list.append") [acc,x]) (fun _ s5=>Q s5) (fun _ _=>False) s4) (fun _ _=>False) s
section
variable {prog : Program} {w : World} {A : Around} {R : Result -> Shared -> Prop} {s : Shared}
theorem compLoop_any {elt target iter : Expr} {ifs : List Expr} {gens : List Comprehension} {scope : Scope} {pos : Pos} {d : Nat} {it acc : Value} {env : Env} (hg : gens[d]? = some ⟨target,iter,ifs,0⟩) (I : Nat -> Shared -> Prop)
  (turn : ∀ n s,I n s -> wpAny (model prog w) A (pyNext it) (fun r s₁=>match r with
   | none=>R (.ok .next) s₁
   | some v=>wpAny (model prog w) A (letOwnedTupleGo target it v) (fun _ s₁'=>wpAny (model prog w) A (assign target env v) (fun _ s₂ =>
     wpAny (model prog w) A (forIn ifs true fun c r=>if r = true then do let ok <- isTrue c env (eval c env); pure (ForInStep.yield ok) else pure (ForInStep.yield r)) (fun ok s₃ =>
      if ok = true then LcW prog w A elt gens scope pos d acc env (fun s₅=>∃ m,m < n /\ I m s₅) s₃
      else ∃ m,m < n /\ I m s₃) (fun _ _=>False) s₂) (fun _ _=>False) s₁') (fun _ _=>False) s₁) (fun _ _=>False) s)
  (n : Nat) (h : I n s) :
  codeAny (model prog w) A (.compLoop (.ListComp elt gens scope pos) d it acc env) R s:=by
 refine codeAny_loop rfl I (fun n s hI=>?_) n h
 show wpAny _ A ((compTurn (.ListComp elt gens scope pos) d it acc env).onRaise (fun x=>do noteFrame x env; theTreesLotGoes x)) _ _ s
 refine wpAny_noted (wpAny_noRaise ?_)
 unfold compTurn
 dsimp only
 rw [hg]
 dsimp only
 refine wpAny_bind (wpAny_standAt (wpAny_bind (thn (turn n s hI) (fun r s₁ h₁=>?_))))
 cases r with
 | none=>exact wpAny_pure h₁
 | some v =>
  refine wpAny_bind (thn h₁ fun _ s₁' h₁=>wpAny_bind (thn h₁ fun _ s₂ h₂=>wpAny_bind (thn h₂ fun ok s₃ h₃=>?_)))
  cases ok with
  | false=>exact wpAny_pure ⟨rfl,h₃⟩
  | true =>
   rw [if_pos rfl] at h₃ ⊢
   unfold LcW at h₃
   cases e : gens[d + 1]? with
   | none =>
    rw [e] at h₃
    exact wpAny_bind (wpAny_bind (thn h₃ fun x s₄ h₄=>wpAny_bind (thn h₄ fun _ s₅ h₅=>wpAny_pure (wpAny_pure ⟨rfl,h₅⟩))))
   | some g' =>
    rw [e] at h₃
    dsimp only at h₃ ⊢
    obtain ⟨⟨ha,hf⟩,h₃⟩:=h₃
    refine wpAny_bind (thn h₃ fun x s₄ h₄=>wpAny_bind (wpAny_standAt ?_))
    rw [ha,if_neg (by decide)]
    refine wpAny_bind (wpAny_of_eq (hf x) (wpAny_bind (wpAny_holding ?_)))
    rw [if_neg (by decide)]
    refine thn h₄ fun itv s₅ h₅=>wpAny_bind (wpAny_runOwn (codeAny_mono h₅ fun r s₆ ⟨hr,q⟩=>?_))
    subst hr
    exact wpAny_pure ⟨rfl,q⟩
theorem compStart_any {elt target iter : Expr} {ifs : List Expr} {gens : List Comprehension} {scope : Scope} {pos : Pos} {d : Nat} {it acc : Value} {env : Env} (hg : gens[d]? = some ⟨target,iter,ifs,0⟩)
  (h0 : codeAny (model prog w) A (.compLoop (.ListComp elt gens scope pos) d it acc env) R s)
  (h : wpAny (model prog w) A (pyIter it) (fun it' s'=>codeAny (model prog w) A (.compLoop (.ListComp elt gens scope pos) d it' acc env) R s') (fun _ _=>False) s) :
  codeAny (model prog w) A (.compStart (.ListComp elt gens scope pos) d it acc env) R s:=by
 refine codeAny_of_tree ?_
 show wpAny _ _ ((compStart (.ListComp elt gens scope pos) d it acc env).onRaise (fun x=>do noteFrame x env; standAt theWindowsPlace)) _ _ s
 refine wpAny_notedAt (wpAny_noRaise ?_)
 unfold compStart
 have hc : clausesOf (.ListComp elt gens scope pos) = gens:=rfl
 rw [hc,hg]
 show wpAny _ _ (ask >>= _) _ _ s
 refine wpAny_bind (wpAny_askSetting (wpAny_ite ?_))
 split
 ·first
   | exact wpAny_bind (wpAny_pure (wpAny_pure (And.intro rfl h0)))
   | exact wpAny_pure (And.intro rfl h0)
 ·first
   | exact wpAny_bind (wpAny_rule (wpAny_bind (wpAny_standAt (wpAny_bind (wpAny_mono h (fun it' s' h'=>wpAny_pure (And.intro rfl h')) fun _ _ x=>x)))))
   | (refine wpAny_bind (wpAny_rule ?_); show wpAny _ _ (standAt iter.pos >>= _) _ _ s; exact wpAny_bind (wpAny_standAt (wpAny_bind (wpAny_mono h (fun it' s' h'=>wpAny_pure (And.intro rfl h')) fun _ _ x=>x))))
end
def loopT (J : It) (g : TG) (tb : TS) : TS:=fun D σ H=>∃ W : Nat -> Nat -> St -> Hp -> Prop,(∃ m,W 0 m σ H) /\ ∀ i m σ H,W i m σ H ->
 (J.stop i H /\ D.nx σ H) \/ (J.go i H /\ ∃ N : St -> Hp -> Prop,(∀ σ' H',N σ' H' -> ∃ m',m' < m /\ W (i + 1) m' σ' H') /\ ∀ x H',J.yld i H x H' -> g x σ H' fun σ2 H2=>tb { D with nx:=N,ct:=N,bk:=D.nx } σ2 H2)
def tIfB (ti : TT) (tb : TS) : TS:=fun D σ H=>ti σ H fun b H1=>if b = true then tb D σ H1 else D.nx σ H1
def PB (Y : Cx) (elt : Expr) (gens : List Comprehension) (scope : Scope) (pos : Pos) (d : Nat) (acc : Addr) (tb : TS) : Prop :=
 ∀ (pins : List (Addr × Obj)) (s : Shared) (σ : St) (H : Hp) (D : Ends),Inv Y pins σ H s -> tb D σ H -> LcW Y.prog Y.w Y.A elt gens scope pos d (.ref acc) Y.env (fun s'=>∃ σ' H',Inv Y pins σ' H' s' /\ D.nx σ' H') s
section
variable {Y : Cx} {elt : Expr} {gens : List Comprehension} {scope : Scope} {pos : Pos} {d : Nat} {acc : Addr}
def tEmit (acc : Addr) (te : TE) : TS:=fun D σ H=>te σ H fun v H1=>∃ xs,H1 acc = some (.lst xs) /\ xs.length < sizeLine /\ D.nx σ (upd H1 acc (.lst (xs ++ [v])))
theorem pb_emit {te : TE} (hg : gens[d + 1]? = none) (hx : Y.xe = fun _ _=>False) (he : PE Y elt te) : PB Y elt gens scope pos d acc (tEmit acc te):=by
 intro pins s σ H D I h
 unfold LcW
 rw [hg]
 dsimp only
 have he':=he pins s σ H _ I h
 rw [hx] at he'
 refine thn he' fun u s1 ⟨v,H1,I1,r1,xs,e,hl,q⟩=>?_
 have a2:=mt_append pins s1 σ H1 (.ref acc) [v] (.ref acc) [u] (fun _ H2=>D.nx σ H2) I1 rfl (.cons r1 .nil) ⟨acc,xs,v,rfl,rfl,e,hl,q⟩
 rw [hx] at a2
 exact thn a2 fun _ s2 ⟨_,H2,I2,_,q2⟩=>⟨σ,H2,I2,q2⟩
theorem lc_loop {tg iter : Expr} {ifs : List Expr} {g : TG} {ti : TT} {tb : TS} {pins : List (Addr × Obj)} {s : Shared} {σ : St} {H : Hp} {D : Ends} {J : It} {fp : List Addr} {it : Addr} {tn : Nat -> Heap -> Prop}
  (hgd : gens[d]? = some ⟨tg,iter,ifs,0⟩) (hx : Y.xe = fun _ _=>False) (hc : Y.calm = true) (hg : PG Y tg g) (ht : PTs Y ifs ti) (hb : PB Y elt gens scope pos d acc tb)
  (I : Inv Y pins σ H s) (T : Turn Y.prog Y.w Y.K tg J fp it tn) (st : tn 0 s.heap) (f2 : ∀ b ∈ fp,FpOk Y pins H b) (h : loopT J g (tIfB ti tb) D σ H) :
  codeAny (model Y.prog Y.w) Y.A (.compLoop (.ListComp elt gens scope pos) d (.ref it) (.ref acc) Y.env) (fun r s'=>r = .ok .next /\ ∃ σ' H',Inv Y pins σ' H' s' /\ D.nx σ' H') s:=by
 obtain ⟨W,⟨m0,w0⟩,turn⟩:=h
 have stat : ∀ {H' : Hp},(∀ b ∈ fp,H' b = none) -> ∀ b ∈ fp,FpOk Y pins H' b:=fun hn b hb=>⟨hn b hb,(f2 b hb).2⟩
 refine compLoop_any hgd (fun n s'=>∃ i σ' H',Inv Y pins σ' H' s' /\ tn i s'.heap /\ (∀ b ∈ fp,H' b = none) /\ W i n σ' H') ?_ m0 ⟨0,σ,H,I,st,fun b hb=>(f2 b hb).1,w0⟩
 rintro n s3 ⟨i,σ3,H3,I3,st3,fr3,w3⟩
 rcases turn i n σ3 H3 w3 with ⟨stop,qn⟩ | ⟨go,N,hN,step⟩
 ·refine thn (T.done Y rfl rfl rfl hc i pins s3 σ3 H3 _ I3 (stat fr3) st3 stop) fun r s4 ⟨hr,I4⟩=>?_
  subst hr
  exact ⟨rfl,σ3,H3,I4,qn⟩
 ·refine thn (T.item Y rfl rfl rfl hc i pins s3 σ3 H3 _ I3 (stat fr3) st3 go) fun r s4 ⟨u,hr,h4⟩=>?_
  subst hr
  refine thn h4 fun _ s5 ⟨x,H5,I5,r5,y5,st5,fr5⟩=>?_
  have I5':=I5.pinned (stat fr5) (T.obj _ _ st5)
  have a1:=hg _ s5 σ3 H5 x u _ I5' r5 (step x H5 y5)
  rw [hx] at a1
  refine thn a1 fun _ s6 ⟨σ6,H6,I6,q6⟩=>?_
  have a2:=ht _ s6 σ6 H6 _ I6 q6
  rw [hx] at a2
  refine thn a2 fun ok s7 ⟨H7,I7,q7⟩=>?_
  have again : ∀ {s8 : Shared} {σ7 : St} {H7 : Hp},Inv Y (pins ++ pinsAt fp s5.heap) σ7 H7 s8 -> N σ7 H7 -> ∃ m,m < n /\ ∃ i σ' H',Inv Y pins σ' H' s8 /\ tn i s8.heap /\ (∀ b ∈ fp,H' b = none) /\ W i m σ' H':=fun {s8 σ7 H7} I7 n7=>by
   obtain ⟨m',hm,w7⟩:=hN σ7 H7 n7
   refine ⟨m',hm,i + 1,σ7,H7,I7.unpinned,T.keep _ _ _ st5 fun b hb o e=>(I7.pin (b,o) (mem_append_right _ (mem_append_right _ (mem_pinsAt hb e)))).1,fun b hb=>?_,w7⟩
   obtain ⟨o,e,d⟩:=T.obj _ _ st5 b hb
   exact (I7.pin (b,o) (mem_append_right _ (mem_append_right _ (mem_pinsAt hb e)))).2.1
  cases ok with
  | false =>
   rw [if_neg Bool.false_ne_true] at q7 ⊢
   exact again I7 q7
  | true =>
   rw [if_pos rfl] at q7 ⊢
   have a3:=hb _ s7 σ6 H7 _ I7 q7
   unfold LcW at a3 ⊢
   cases e : gens[d + 1]? with
   | none =>
    rw [e] at a3
    exact thn a3 fun x s8 h8=>thn h8 fun _ s9 ⟨σ9,H9,I9,n9⟩=>again I9 n9
   | some g' =>
    rw [e] at a3
    exact ⟨a3.1,thn a3.2 fun x s8 h8=>thn h8 fun _ s9 h9=>codeAny_mono h9 fun r s10 ⟨hr,σ9,H9,I9,n9⟩=>⟨hr,again I9 n9⟩⟩
theorem pb_for {tg iter : Expr} {ifs : List Expr} {wi : TI} {g : TG} {ti : TT} {tb : TS} (hgd : gens[d + 1]? = some ⟨tg,iter,ifs,0⟩) (hx : Y.xe = fun _ _=>False) (hc : Y.calm = true) (hs : ∀ x,foldedSetIterable iter Y.env x = pure x) (hi : PI Y tg iter wi) (hg : PG Y tg g) (ht : PTs Y ifs ti)
  (hb : PB Y elt gens scope pos (d + 1) acc tb) : PB Y elt gens scope pos d acc (tFor wi g (tIfB ti tb)):=by
 intro pins s σ H D I h
 unfold LcW
 rw [hgd]
 dsimp only
 refine ⟨⟨rfl,hs⟩,?_⟩
 have a1:=hi pins s σ H _ I h
 rw [hx] at a1
 refine thn a1 fun x s1 h1=>thn h1 fun itv s2 ⟨it,fp,tn,J,H2,e,I2,T,st2,f2,q2⟩=>?_
 subst e
 have lp:=lc_loop (acc:=acc) hgd hx hc hg ht hb I2 T st2 f2 q2
 exact compStart_any hgd lp (T.self _ _ _ _ _ st2 lp)
end
def clFrom (env : Env) : List (Str × NameKind) -> List (Str × Addr) -> List (Str × Addr)
 | [],acc=>acc
 | (n,k) :: r,acc=>if k == .free then clFrom env r ((n,(env.cells.lookup n).getD 0) :: acc) else clFrom env r acc
theorem clFrom_go {env : Env} (f : Str × NameKind -> List (Str × Addr) -> Sem (ForInStep (List (Str × Addr))))
  (hf : ∀ n k cs,f (n,k) cs = if k == .free then (do let c <- cellOf env n; pure (.yield ((n,c) :: cs))) else pure (.yield cs)) :
  ∀ (names : List (Str × NameKind)) (acc : List (Str × Addr)),(∀ x ∈ names,x.2 = .free -> ∃ c,env.cells.lookup x.1 = some c) -> forIn names acc f = pure (clFrom env names acc)
 | [],acc,_=>by rw [List.forIn_nil]; rfl
 | (n,k) :: r,acc,h=>by
  rw [List.forIn_cons,hf]
  unfold clFrom
  by_cases hk : (k == NameKind.free) = true
  ·rw [if_pos hk,if_pos hk]
   obtain ⟨c,hc⟩:=h (n,k) mem_cons_self (by simpa using hk)
   have hc' : env.cells.lookup n = some c:=hc
   have e : cellOf env n = pure c:=by unfold cellOf; rw [hc']
   rw [e,hc']
   exact clFrom_go f hf r _ fun x hx=>h x (mem_cons_of_mem _ hx)
  ·rw [if_neg hk,if_neg hk]
   exact clFrom_go f hf r _ fun x hx=>h x (mem_cons_of_mem _ hx)
theorem closureFor_cl {scope : Scope} {env : Env} (h : ∀ x ∈ scope.names,x.2 = .free -> ∃ c,env.cells.lookup x.1 = some c) : closureFor scope env = pure (clFrom env scope.names []):=by
 unfold closureFor
 dsimp only
 rw [clFrom_go (env:=env) _ (fun n k cs=>by cases hk : k == NameKind.free <;> simp [hk]) scope.names [] h]
 rfl
theorem clFrom_look {env : Env} {x : Str} {c : Addr} : ∀ (names : List (Str × NameKind)) (acc : List (Str × Addr)),(∀ y ∈ names,y.2 = .free -> ∃ c,env.cells.lookup y.1 = some c) ->
  (clFrom env names acc).lookup x = some c -> (((x,NameKind.free) ∈ names /\ env.cells.lookup x = some c) \/ acc.lookup x = some c)
 | [],acc,_,e=>.inr e
 | (n,k) :: r,acc,h,e=>by
  unfold clFrom at e
  have hr : ∀ y ∈ r,y.2 = .free -> ∃ c,env.cells.lookup y.1 = some c:=fun y hy=>h y (mem_cons_of_mem _ hy)
  by_cases hk : (k == NameKind.free) = true
  ·rw [if_pos hk] at e
   have hk' : k = .free:=by simpa using hk
   subst hk'
   rcases clFrom_look r _ hr e with ⟨h1,h2⟩ | h1
   ·exact .inl ⟨mem_cons_of_mem _ h1,h2⟩
   ·rw [List.lookup_cons] at h1
    cases q : x == n with
    | true =>
     rw [q] at h1
     have : x = n:=by simpa using q
     subst this
     obtain ⟨c',hc'⟩:=h (x,.free) mem_cons_self rfl
     have hc'' : env.cells.lookup x = some c':=hc'
     rw [hc''] at h1
     exact .inl ⟨mem_cons_self,by rw [hc'']; exact h1⟩
    | false =>
     rw [q] at h1
     exact .inr h1
  ·rw [if_neg hk] at e
   rcases clFrom_look r _ hr e with ⟨h1,h2⟩ | h1
   ·exact .inl ⟨mem_cons_of_mem _ h1,h2⟩
   ·exact .inr h1
theorem clFrom_some {env : Env} {x : Str} : ∀ (names : List (Str × NameKind)) (acc : List (Str × Addr)),(x,NameKind.free) ∈ names \/ (acc.lookup x).isSome = true -> ((clFrom env names acc).lookup x).isSome = true
 | [],acc,h=>by rcases h with h | h; cases h; exact h
 | (n,k) :: r,acc,h=>by
  unfold clFrom
  by_cases hk : (k == NameKind.free) = true
  ·rw [if_pos hk]
   refine clFrom_some r _ ?_
   rw [List.lookup_cons]
   cases q : x == n with
   | true=>exact .inr rfl
   | false =>
    rcases h with h | h
    ·rcases mem_cons.mp h with e | e
     ·cases e; simp at q
     ·exact .inl e
    ·exact .inr h
  ·rw [if_neg hk]
   refine clFrom_some r _ ?_
   rcases h with h | h
   ·rcases mem_cons.mp h with e | e
    ·cases e; exact absurd rfl hk
    ·exact .inl e
   ·exact .inr h
theorem clFrom_mem {env : Env} {x : Str} {c : Addr} : ∀ (names : List (Str × NameKind)) (acc : List (Str × Addr)),(∀ y ∈ names,y.2 = .free -> ∃ c,env.cells.lookup y.1 = some c) -> (x,c) ∈ clFrom env names acc -> env.cells.lookup x = some c \/ (x,c) ∈ acc
 | [],acc,_,e=>.inr e
 | (n,k) :: r,acc,h,e=>by
  unfold clFrom at e
  have hr : ∀ y ∈ r,y.2 = .free -> ∃ c,env.cells.lookup y.1 = some c:=fun y hy=>h y (mem_cons_of_mem _ hy)
  by_cases hk : (k == NameKind.free) = true
  ·rw [if_pos hk] at e
   have hk' : k = .free:=by simpa using hk
   subst hk'
   rcases clFrom_mem r _ hr e with h1 | h1
   ·exact .inl h1
   ·rcases mem_cons.mp h1 with q | q
    ·obtain ⟨c',hc'⟩:=h (n,.free) mem_cons_self rfl
     have hc'' : env.cells.lookup n = some c':=hc'
     rw [hc''] at q
     cases q
     exact .inl hc''
    ·exact .inr q
  ·rw [if_neg hk] at e
   exact clFrom_mem r _ hr e
theorem cellsFrom_look {x : Str} {c : Addr} : ∀ (names : List (Str × NameKind)) (n : Nat) (acc : List (Str × Addr)),(cellsFrom n names acc).lookup x = some c -> ((x,NameKind.cell) ∈ names /\ n <= c) \/ acc.lookup x = some c
 | [],n,acc,e=>.inr e
 | (y,k) :: r,n,acc,e=>by
  unfold cellsFrom at e
  by_cases hk : (k == NameKind.cell) = true
  ·rw [if_pos hk] at e
   have hk' : k = .cell:=by simpa using hk
   subst hk'
   rcases cellsFrom_look r _ _ e with ⟨h1,h2⟩ | h1
   ·exact .inl ⟨mem_cons_of_mem _ h1,by omega⟩
   ·rw [List.lookup_cons] at h1
    cases q : x == y with
    | true =>
     rw [q] at h1
     have : x = y:=by simpa using q
     subst this
     cases h1
     exact .inl ⟨mem_cons_self,Nat.le_refl _⟩
    | false=>rw [q] at h1; exact .inr h1
  ·rw [if_neg hk] at e
   rcases cellsFrom_look r _ _ e with ⟨h1,h2⟩ | h1
   ·exact .inl ⟨mem_cons_of_mem _ h1,h2⟩
   ·exact .inr h1
theorem cellsFrom_old {x : Str} : ∀ (names : List (Str × NameKind)) (n : Nat) (acc : List (Str × Addr)),(x,NameKind.cell) ∉ names -> (cellsFrom n names acc).lookup x = acc.lookup x
 | [],n,acc,_=>rfl
 | (y,k) :: r,n,acc,h=>by
  unfold cellsFrom
  have hr : (x,NameKind.cell) ∉ r:=fun z=>h (mem_cons_of_mem _ z)
  by_cases hk : (k == NameKind.cell) = true
  ·rw [if_pos hk,cellsFrom_old r _ _ hr,List.lookup_cons]
   cases q : x == y with
   | true =>
    have : x = y:=by simpa using q
    subst this
    have hk' : k = .cell:=by simpa using hk
    subst hk'
    exact absurd mem_cons_self h
   | false=>rfl
  ·rw [if_neg hk]
   exact cellsFrom_old r _ _ hr
theorem cellsFrom_new : ∀ (names : List (Str × NameKind)) (h : Heap) (acc : List (Str × Addr)) (lo : Nat),lo <= h.objs.size -> (∀ y c,(y,c) ∈ acc -> lo <= c -> h.IsCell c none) -> (acc.Pairwise fun x y=>lo <= x.2 -> x.2 ≠ y.2) -> (∀ y c,(y,c) ∈ acc -> c < h.objs.size) ->
  (∀ y c,(y,c) ∈ cellsFrom h.objs.size names acc -> lo <= c -> (pushCells h names).IsCell c none) /\ ((cellsFrom h.objs.size names acc).Pairwise fun x y=>lo <= x.2 -> x.2 ≠ y.2)
 | [],h,acc,lo,_,h1,h2,_=>⟨h1,h2⟩
 | (n,k) :: r,h,acc,lo,hlo,h1,h2,h3=>by
  unfold cellsFrom pushCells
  by_cases hk : (k == NameKind.cell) = true
  ·rw [if_pos hk,if_pos hk]
   have:=cellsFrom_new r (h.push { cls:=.type "cell",data:=.cell none }) ((n,h.objs.size) :: acc) lo (by rw [Heap.size_push]; omega) (fun y c hm hc=>by
    rcases mem_cons.mp hm with e | hm
    ·cases e; exact ⟨_,Heap.get?_push_size _ rfl,rfl⟩
    ·exact (h1 y c hm hc).keeps fun b o e=>Heap.get?_push_of_some _ e) (List.pairwise_cons.mpr ⟨fun y hy _ e=>by
     have:=h3 y.1 y.2 hy
     have e' : h.objs.size = y.2:=e
     exact absurd (e' ▸ this) (Nat.lt_irrefl _),h2⟩) (fun y c hm=>by
    rw [Heap.size_push]
    rcases mem_cons.mp hm with e | hm
    ·cases e; exact Nat.lt_succ_self _
    ·exact Nat.lt_succ_of_lt (h3 y c hm))
   rw [Heap.size_push] at this
   exact this
  ·rw [if_neg hk,if_neg hk]
   exact cellsFrom_new r h acc lo hlo h1 h2 h3
def inEnv (scope : Scope) (env : Env) (C : Addr) : Env :=
 { scope:=relabel scope env,locals:=C,globals:=env.globals,cells:=cellsFrom (C + 1) scope.names (clFrom env scope.names []),qual:=env.qual,func:=none,code:=env.code,frame:=env.frame,builtins:=env.builtins }
theorem newEnv_in {M : Model} {A : Around} {E : Value -> Shared -> Prop} {s : Shared} {scope : Scope} {env : Env} {Q : Env -> Shared -> Prop}
  (h : Q (newEnv scope s.heap.objs.size env.globals (cellsFrom (s.heap.objs.size + 1) scope.names (clFrom env scope.names [])) env.qual none .none (some env) builtinsNs)
   { s with heap:=pushCells (s.heap.push { cls:=.type "dict",data:=.dict #[] }) scope.names }) :
  wpAny M A (newFunctionEnv scope env.globals (clFrom env scope.names []) [] env.qual none .none (some env)) Q E s:=by
 simp only [newFunctionEnv,Option.isSome_some,if_true]
 refine wpAny_bind (wpAny_alloc ?_)
 refine wpAny_bind (wpAny_layCells _ (fun name kind cells=>by cases hkc : kind == NameKind.cell <;> simp [hkc]) _ _ _ _ ?_)
 rw [show ({ s with heap:=s.heap.push { cls:=.type "dict",data:=.dict #[] } } : Shared).heap.objs.size = s.heap.objs.size + 1 from Heap.size_push ..]
 rw [List.forIn_nil]
 exact wpAny_bind (wpAny_pure (wpAny_pure h))
def Cx.inn (X : Cx) (scope : Scope) (N : List Str) (s₃ : Shared) (H₃ : Hp) (fp : List Addr) : Cx :=
 { X with N:=N,s₀:=s₃,H₀:=H₃,env:=inEnv scope X.env s₃.heap.objs.size,outer:=X.stack,stack:=X.stack,ex:=fp,fn:=fun x=>scope.names.lookup x == some .cell,pn:=[],xe:=fun _ _=>False }
def capN (own : List Str) (cap : List (Str × Nat)) : List Str:=own ++ cap.map (·.1)
def capS (own : List Str) (cap : List (Str × Nat)) (σ : St) : St:=own.map (fun _=>none) ++ cap.map fun p=>(σ[p.2]?).join
structure LcScope (X : Cx) (scope : Scope) (own : List Str) (cap : List (Str × Nat)) : Prop where
 kind : scope.kind = .function
 nd : (scope.names.map (·.1)).Nodup
 loc : ∀ x ∈ scope.names,x.2 = .local -> scope.names.lookup x.1 = some .local
 fre : ∀ x ∈ scope.names,x.2 = .free -> X.env.kindOf x.1 = some .cell \/ X.env.kindOf x.1 = some .free
 cap : ∀ p ∈ cap,X.N[p.2]? = some p.1 /\ (p.1,NameKind.free) ∈ scope.names
theorem nodup_kind {names : List (Str × NameKind)} (nd : (names.map (·.1)).Nodup) {x : Str} {k k' : NameKind} (h : (x,k) ∈ names) (h' : (x,k') ∈ names) : k = k':=by
 induction names with
 | nil=>cases h
 | cons p r ih =>
  rw [map_cons,nodup_cons] at nd
  rcases mem_cons.mp h with e | h <;> rcases mem_cons.mp h' with e' | h'
  ·rw [<- e] at e'; cases e'; rfl
  ·exact absurd (mem_map.mpr ⟨_,h',by rw [<- e]⟩) nd.1
  ·exact absurd (mem_map.mpr ⟨_,h,by rw [<- e']⟩) nd.1
  ·exact ih nd.2 h h'
theorem nodup_look {names : List (Str × NameKind)} (nd : (names.map (·.1)).Nodup) {x : Str} {k : NameKind} (h : (x,k) ∈ names) : names.lookup x = some k:=by
 cases e : names.lookup x with
 | some k'=>rw [nodup_kind nd h (PySem.mem_of_lookup e)]
 | none =>
  have : ∀ p ∈ names,(x == p.1) = false:=by
   have:=List.lookup_eq_none_iff.mp e
   intro p hp
   have:=this p hp
   simpa using this
  have:=this _ h
  simp at this
theorem name_of_addr' {lo : Nat} : ∀ {cs : List (Str × Addr)},(cs.Pairwise fun x y=>lo <= x.2 -> x.2 ≠ y.2) -> ∀ {n n' : Str} {c : Addr},(n,c) ∈ cs -> (n',c) ∈ cs -> lo <= c -> n = n'
 | x :: r,hp,n,n',c,h,h',hc=>by
  obtain ⟨h1,h2⟩:=List.pairwise_cons.mp hp
  rcases mem_cons.mp h with e | h <;> rcases mem_cons.mp h' with e' | h'
  ·rw [<- e'] at e; exact (Prod.mk.inj e).1
  ·exact absurd (by rw [<- e]) (h1 _ h' (by rw [<- e]; exact hc))
  ·exact absurd (by rw [<- e']) (h1 _ h (by rw [<- e']; exact hc))
  ·exact name_of_addr' h2 h h' hc
theorem map_look {f : Str -> NameKind -> Bool} {x : Str} : ∀ {names : List (Str × NameKind)},(names.map fun p=>if f p.1 p.2 = true then (p.1,NameKind.cell) else p).lookup x = (names.lookup x).map fun k=>if f x k = true then NameKind.cell else k
 | []=>rfl
 | (n,k) :: r=>by
  rw [map_cons]
  have ih:=@map_look f x r
  cases hx : x == n with
  | true =>
   have : x = n:=by simpa using hx
   subst this
   cases hc : f x k <;> simp [List.lookup_cons,hc]
  | false =>
   cases hc : f n k <;> simp only [List.lookup_cons,hx,hc,if_true,if_false,Bool.false_eq_true] <;> exact ih
theorem relabel_look {scope : Scope} {env : Env} {x : Str} : (relabel scope env).names.lookup x =
  (scope.names.lookup x).map fun k=>if (k == NameKind.free && env.scope.kind == .function && env.kindOf x == some .cell) = true then NameKind.cell else k:=by
 have e : (relabel scope env).names = scope.names.map fun p=>if (fun n k=>(k == NameKind.free && env.scope.kind == .function && env.kindOf n == some .cell)) p.1 p.2 = true then (p.1,NameKind.cell) else p:=by
  unfold relabel
  dsimp only
 rw [e]
 exact map_look (f:=fun n k=>(k == NameKind.free && env.scope.kind == .function && env.kindOf n == some .cell))
section
variable {X : Cx} {pins : List (Addr × Obj)} {σ : St} {H : Hp} {s : Shared} {scope : Scope} {own : List Str} {cap : List (Str × Nat)} {fp : List Addr}
theorem inv_in (L : LcScope X scope own cap) (I : Inv X pins σ H s) (hf : ∀ b ∈ fp,FpOk X pins H b) (ho : ∀ b ∈ fp,∃ o,s.heap.get? b = some o) :
  Inv (X.inn scope (capN own cap) s H fp) [] (capS own cap σ) H { s with heap:=pushCells (s.heap.push { cls:=.type "dict",data:=.dict #[] }) scope.names }:=by
 have hcl : ∀ x ∈ scope.names,x.2 = .free -> ∃ c,X.env.cells.lookup x.1 = some c:=fun x hx hk=>I.ok.has x.1 (L.fre x hx hk)
 have old : ∀ x c,(clFrom X.env scope.names []).lookup x = some c -> (x,NameKind.free) ∈ scope.names /\ X.env.cells.lookup x = some c:=fun x c e=>by
  rcases clFrom_look _ _ hcl e with h | h
  ·exact h
  ·cases h
 have keep : ∀ b o,s.heap.get? b = some o -> (pushCells (s.heap.push { cls:=.type "dict",data:=.dict #[] }) scope.names).get? b = some o:=fun b o e=>pushCells_keeps _ _ b o (Heap.get?_push_of_some _ e)
 have look : ∀ x c,(X.inn scope (capN own cap) s H fp).env.cells.lookup x = some c -> ((x,NameKind.cell) ∈ scope.names /\ s.heap.objs.size + 1 <= c) \/ ((x,NameKind.free) ∈ scope.names /\ X.env.cells.lookup x = some c):=fun x c e=>by
  rcases cellsFrom_look _ _ _ e with h | h
  ·exact .inl h
  ·exact .inr (old x c h)
 have oldlt : ∀ x c,X.env.cells.lookup x = some c -> c < s.heap.objs.size:=fun x c e=>by
  obtain ⟨v,hv⟩:=I.cell x c e
  exact hv.lt
 have nf : ∀ x,(x,NameKind.free) ∈ scope.names -> (x,NameKind.cell) ∉ scope.names:=fun x h h'=>by cases nodup_kind L.nd h h'
 have ml : ∀ y c,(y,c) ∈ clFrom X.env scope.names [] -> c < s.heap.objs.size:=fun y c hm=>by
  rcases clFrom_mem _ _ hcl hm with h | h
  ·exact oldlt y c h
  ·cases h
 have clnd : (clFrom X.env scope.names []).Pairwise fun x y=>s.heap.objs.size + 1 <= x.2 -> x.2 ≠ y.2:=List.pairwise_iff_forall_sublist.mpr fun {a b} hs hle=>by
  have : a ∈ clFrom X.env scope.names []:=hs.subset mem_cons_self
  have:=ml a.1 a.2 this
  exact absurd (Nat.lt_of_le_of_lt hle this) (Nat.not_lt.mpr (Nat.le_succ _))
 have nst:=cellsFrom_new scope.names (s.heap.push { cls:=.type "dict",data:=.dict #[] }) (clFrom X.env scope.names []) (s.heap.objs.size + 1) (by rw [Heap.size_push]; exact Nat.le_refl _)
  (fun y c hm hc=>absurd (Nat.lt_of_le_of_lt hc (ml y c hm)) (Nat.not_lt.mpr (Nat.le_succ _))) clnd (fun y c hm=>by rw [Heap.size_push]; exact Nat.lt_succ_of_lt (ml y c hm))
 rw [Heap.size_push] at nst
 have newcell : ∀ x c,(X.inn scope (capN own cap) s H fp).env.cells.lookup x = some c -> s.heap.objs.size + 1 <= c -> (pushCells (s.heap.push { cls:=.type "dict",data:=.dict #[] }) scope.names).IsCell c none:=fun x c e hc=>nst.1 x c (PySem.mem_of_lookup e) hc
 have kindY : ∀ x,(X.inn scope (capN own cap) s H fp).env.kindOf x = (scope.names.lookup x).map fun k=>if (k == NameKind.free && X.env.scope.kind == .function && X.env.kindOf x == some .cell) = true then NameKind.cell else k:=fun x=>relabel_look
 refine ⟨⟨I.ok.mod,L.kind,I.ok.glob,I.ok.blt,Nat.le_refl _,fun x y c h1 h2=>?inj,fun x hx=>?has,fun x c hx h=>?cab,I.ok.hd,I.ok.frames,.inl rfl,fun b hb=>⟨?ex1,fun x c h=>?ex2⟩,fun b o e=>I.bs b o e,Nat.le_trans I.ok.bsz I.sz,fun b o e hb=>?noex,fun b hb hb'=>?exfs,I.stack,I.stkFree⟩,
  rfl,I.bare,Un.kept keep,⟨fun _=>none,?ns,fun i x v h1 h2 h3=>?look⟩,fun x c h=>?cell,I.fresh,fun x c h=>?freeC,fun p hp=>absurd (show p ∈ ([] : List (Addr × Obj)) from hp) (by simp),I.hok.kept keep,?len⟩
 case inj =>
  rcases look x c h1 with ⟨_,g1⟩ | ⟨_,g1⟩ <;> rcases look y c h2 with ⟨_,g2⟩ | ⟨_,g2⟩
  ·exact name_of_addr' nst.2 (PySem.mem_of_lookup h1) (PySem.mem_of_lookup h2) g1
  ·exact absurd (Nat.lt_of_le_of_lt g1 (oldlt y c g2)) (Nat.not_lt.mpr (Nat.le_succ _))
  ·exact absurd (Nat.lt_of_le_of_lt g2 (oldlt x c g1)) (Nat.not_lt.mpr (Nat.le_succ _))
  ·exact I.ok.inj x y c g1 g2
 case has =>
  rw [kindY] at hx
  cases e : scope.names.lookup x with
  | none=>rw [e] at hx; rcases hx with h | h <;> cases h
  | some k =>
   rw [e] at hx
   have hm:=PySem.mem_of_lookup e
   have hk : k = .cell \/ k = .free:=by
    by_cases hc : (k == NameKind.free && X.env.scope.kind == .function && X.env.kindOf x == some .cell) = true
    ·simp only [Bool.and_eq_true,beq_iff_eq] at hc
     exact .inr hc.1.1
    ·rw [Option.map_some,if_neg hc] at hx
     rcases hx with h | h
     ·exact .inl (Option.some.inj h)
     ·exact .inr (Option.some.inj h)
   rcases hk with rfl | rfl
   ·exact Option.isSome_iff_exists.mp (PySem.W.cellsFrom_some scope.names _ _ (.inl e))
   ·exact Option.isSome_iff_exists.mp (PySem.W.cellsFrom_some scope.names _ _ (.inr (clFrom_some _ _ (.inl hm))))
 case cab =>
  have hx' : scope.names.lookup x = some .cell:=by simpa [Cx.inn] using hx
  rcases look x c h with ⟨_,g⟩ | ⟨g,_⟩
  ·exact Nat.le_of_succ_le g
  ·exact absurd (PySem.mem_of_lookup hx') (nf x g)
 case ex1 =>
  obtain ⟨o,e⟩:=ho b hb
  exact Nat.ne_of_lt (Heap.lt_size e)
 case ex2 =>
  obtain ⟨o,e⟩:=ho b hb
  rcases look x c h with ⟨_,g⟩ | ⟨_,g⟩
  ·rintro rfl
   exact absurd (Nat.lt_of_le_of_lt g (Heap.lt_size e)) (Nat.not_lt.mpr (Nat.le_succ _))
  ·exact (hf b hb).2.2.2.2.1 x c g
 case noex =>
  rcases (hf b hb).2.2.2.1 with g | g
  ·exact I.ok.noex b o e g
  ·exact absurd (Nat.lt_of_lt_of_le (Heap.lt_size e) I.ok.bsz) (Nat.not_lt.mpr g)
 case exfs =>
  rcases mem_cons.mp (I.stkSub b hb') with g | g
  ·exact (hf b hb).2.1 g
  ·exact (hf b hb).2.2.1 g
 case ns=>exact (Heap.Ns.new s.heap (.type "dict")).keeps (pushCells_keeps _ _)
 case look =>
  obtain ⟨j,p,hp,rfl,hv⟩ : ∃ (j : Nat) (p : Str × Nat),cap[j]? = some p /\ p.1 = x /\ σ[p.2]? = some (some v):=by
   have h1 : (own ++ cap.map (·.1))[i]? = some x:=h1
   unfold capS at h2
   by_cases hi : i < own.length
   ·rw [List.getElem?_append_left (by simpa using hi),List.getElem?_map] at h2
    cases e : own[i]? with
    | none=>rw [e] at h2; cases h2
    | some y=>rw [e] at h2; cases h2
   ·rw [List.getElem?_append_right (by omega)] at h1
    rw [List.getElem?_append_right (by simpa using hi)] at h2
    rw [length_map] at h2
    rw [List.getElem?_map] at h1 h2
    cases e : cap[i - own.length]? with
    | none=>rw [e] at h1; cases h1
    | some p =>
     rw [e] at h1 h2
     refine ⟨_,p,e,Option.some.inj h1,?_⟩
     have h2 : (σ[p.2]?).join = some v:=Option.some.inj h2
     cases q : σ[p.2]? with
     | none=>rw [q] at h2; cases h2
     | some z=>rw [q] at h2; exact congrArg some h2
  obtain ⟨c1,c2⟩:=L.cap p (List.mem_of_getElem? hp)
  have hk:=L.fre _ c2 rfl
  obtain ⟨m,hn,hl⟩:=I.loc
  obtain ⟨u,ru,lk⟩:=hl p.2 p.1 v c1 hv (.inr hk)
  refine ⟨u,ru,.inr ?_⟩
  rcases lk with ⟨lk,_⟩ | ⟨_,c,e,hc⟩
  ·rcases hk with hk | hk
   ·have : X.env.kindOf p.1 = some .cell:=hk
    rw [lk] at this; cases this
   ·have : X.env.kindOf p.1 = some .free:=hk
    rw [lk] at this; cases this
  ·have hlk:=nodup_look L.nd c2
   refine ⟨?_,c,?_,hc.keeps keep⟩
   ·rw [kindY,hlk,Option.map_some]
    split
    ·exact .inl rfl
    ·exact .inr rfl
   ·show (cellsFrom _ scope.names _).lookup p.1 = some c
    rw [cellsFrom_old _ _ _ (nf _ c2)]
    obtain ⟨c',e'⟩:=Option.isSome_iff_exists.mp (clFrom_some (env:=X.env) scope.names [] (.inl c2))
    rw [e',<- e]
    exact (old _ _ e').2.symm
 case cell =>
  rcases look x c h with ⟨_,g⟩ | ⟨_,g⟩
  ·exact ⟨_,newcell x c h g⟩
  ·obtain ⟨v,hv⟩:=I.cell x c g
   exact ⟨v,hv.keeps keep⟩
 case freeC =>
  rcases look x c h with ⟨_,g⟩ | ⟨_,g⟩
  ·exact I.hok.fresh (Nat.le_of_succ_le g)
  ·exact I.freeC x c g
 case len =>
  show (capS own cap σ).length = (capN own cap).length
  unfold capS capN
  simp
end
def tLC (wi : TI) (g : TG) (ti : TT) (tb : Addr -> TS) (own : List Str) (cap : List (Str × Nat)) : TE:=fun σ H Q=>wi σ H fun J H1=>∀ acc,H1 acc = none ->
 loopT J g (tIfB ti (tb acc)) { nx:=fun _ H'=>Q (.ref acc) H',rt:=fun _ _=>False } (capS own cap σ) (upd H1 acc (.lst []))
theorem pe_lc {X : Cx} {elt tg iter : Expr} {ifs : List Expr} {rest : List Comprehension} {scope : Scope} {pos : Pos} {wi : TI} {g : TG} {ti : TT} {tb : Addr -> TS} (own : List Str) (cap : List (Str × Nat)) (hc : X.calm = true) (L : LcScope X scope own cap) (hi : PI X tg iter wi)
  (hin : ∀ (s₃ : Shared) (H₃ : Hp) (fp : List Addr) (acc : Addr),PG (X.inn scope (capN own cap) s₃ H₃ fp) tg g /\ PTs (X.inn scope (capN own cap) s₃ H₃ fp) ifs ti /\ PB (X.inn scope (capN own cap) s₃ H₃ fp) elt (⟨tg,iter,ifs,0⟩ :: rest) scope pos 0 acc (tb acc))
  (hs : ∀ x,foldedSetIterable iter X.env x = pure x:=by intro _; rfl) : PE X (.ListComp elt (⟨tg,iter,ifs,0⟩ :: rest) scope pos) (tLC wi g ti tb own cap):=by
 intro pins s σ H Q I h
 rw [eval_ListComp]
 have hcl : ∀ x ∈ scope.names,x.2 = .free -> ∃ c,X.env.cells.lookup x.1 = some c:=fun x hx hk=>I.ok.has x.1 (L.fre x hx hk)
 refine wpAny_comprehension_free (use:=none) rfl hs (closureFor_cl hcl) L.kind L.loc (thn (hi pins s σ H _ I h) fun x s1 h1=>thn h1 fun itv s2 ⟨it,fp,tn,J,H2,e,I2,T,st2,f2,q2⟩=>?_)
 subst e
 refine wpAny_newObj_type ?_
 have I3:=I2.lnew (t':=s2.toks) (ys:=[]) (its:=[]) .nil (Nat.zero_le _)
 have fr2 : H2 s2.heap.objs.size = none:=I2.fresh
 have f3 : ∀ b ∈ fp,FpOk X pins (upd H2 s2.heap.objs.size (.lst [])) b:=fun b hb=>by
  obtain ⟨o,eo,_⟩:=T.obj 0 _ st2 b hb
  obtain ⟨g1,g2⟩:=f2 b hb
  exact ⟨by rw [upd_ne (Nat.ne_of_lt (Heap.lt_size eo))]; exact g1,g2⟩
 have k3 : ∀ b o,s2.heap.get? b = some o -> (s2.heap.push { cls:=.type "list",data:=.seq ([] : List Value).toArray }).get? b = some o:=fun b o e=>Heap.get?_push_of_some _ e
 have st3 : tn 0 (s2.heap.push { cls:=.type "list",data:=.seq ([] : List Value).toArray }):=T.keep 0 _ _ st2 fun b _ o e=>k3 b o e
 refine newEnv_in ?_
 have I4:=inv_in L I3 f3 fun b hb=>by obtain ⟨o,eo,_⟩:=T.obj 0 _ st3 b hb; exact ⟨o,eo⟩
 obtain ⟨hg,ht,hb⟩:=hin { s2 with heap:=s2.heap.push { cls:=.type "list",data:=.seq ([] : List Value).toArray },toks:=s2.toks } (upd H2 s2.heap.objs.size (.lst [])) fp s2.heap.objs.size
 have st4:=T.keep 0 _ (pushCells ((s2.heap.push { cls:=.type "list",data:=.seq ([] : List Value).toArray }).push { cls:=.type "dict",data:=.dict #[] }) scope.names) st3 fun b _ o e=>pushCells_keeps _ _ b o (Heap.get?_push_of_some _ e)
 have f4 : ∀ b ∈ fp,FpOk (X.inn scope (capN own cap) { s2 with heap:=s2.heap.push { cls:=.type "list",data:=.seq ([] : List Value).toArray },toks:=s2.toks } (upd H2 s2.heap.objs.size (.lst [])) fp) [] (upd H2 s2.heap.objs.size (.lst [])) b:=fun b hb =>
  ⟨(f3 b hb).1,(I4.ok.exf b hb).1,I4.ok.exfs b hb,.inl hb,(I4.ok.exf b hb).2,fun p hp=>absurd (show p ∈ ([] : List (Addr × Obj)) from hp) (by simp)⟩
 have lp:=lc_loop (Y:=X.inn scope (capN own cap) { s2 with heap:=s2.heap.push { cls:=.type "list",data:=.seq ([] : List Value).toArray },toks:=s2.toks } (upd H2 s2.heap.objs.size (.lst [])) fp) (acc:=s2.heap.objs.size) (gens:=⟨tg,iter,ifs,0⟩ :: rest) (d:=0) rfl rfl hc hg ht hb I4 T st4 f4 (q2 _ fr2)
 have lp':=codeAny_mono lp (R':=compPost (model X.prog X.w) X.A X.xe none (EP X pins σ Q) (.ref s2.heap.objs.size) (s2.heap.push { cls:=.type "list",data:=.seq ([] : List Value).toArray }).objs.size) fun r s' ⟨hr,σ',H',I',q'⟩=>by
  subst hr
  obtain ⟨m',hn',_⟩:=id I'.loc
  refine ⟨m',hn',fun h' hsb=>?_⟩
  refine ⟨.ref s2.heap.objs.size,H',?_,rfl,q'⟩
  have neC : ∀ b o,(s2.heap.push { cls:=.type "list",data:=.seq ([] : List Value).toArray }).get? b = some o -> b ≠ (s2.heap.push { cls:=.type "list",data:=.seq ([] : List Value).toArray }).objs.size:=fun b o e=>Nat.ne_of_lt (Heap.lt_size e)
  have B:=I'.base
  refine I3.call' (ch:=fp) I'.os ⟨fun b o e n hb hx=>(hsb.2 b (neC b o e)).trans (B.keep b o e n hb hx),fun b o e n hb hx=>?_,B.free,fun b o e hx=>?_,B.tups,B.frzs,B.tbls⟩ (fun b u e=>?_) I'.bare fun b hb=>⟨(f3 b hb).2.2.2.1,(f3 b hb).2.1,(f3 b hb).2.2.2.2.1,(f3 b hb).2.2.2.2.2⟩
  ·obtain ⟨sl,e1⟩:=B.slot b o e n hb hx
   exact ⟨sl,(hsb.2 b (neC b o e)).trans e1⟩
  ·obtain ⟨o',e1⟩:=B.there b o e hx
   exact ⟨o',(hsb.2 b (neC b o e)).trans e1⟩
  ·have hC : H' (s2.heap.push { cls:=.type "list",data:=.seq ([] : List Value).toArray }).objs.size = none:=I'.free
   refine (I'.hok b u e).stay (fun c v hc' q=>(hsb.2 c ?_).trans q) (fun _ q=>q) fun _ _ q=>q
   rintro rfl
   rcases hc' with hc' | hc'
   ·rw [<- hc',hC] at e; cases e
   ·rw [hC] at hc'; cases hc'
 exact compStart_any rfl lp' (T.self _ _ _ _ _ st4 lp')
theorem ps_setlc {X : Cx} {i : Nat} {y : Str} {py spos : Pos} {elt tg iter : Expr} {ifs : List Expr} {rest : List Comprehension} {scope : Scope} {pos : Pos} {wi : TI} {g : TG} {ti : TT} {tb : Addr -> TS} (own : List Str) (cap : List (Str × Nat)) (hN : X.N.Nodup) (hyi : X.N[i]? = some y) (hy : X.env.scope.names.lookup y = some .local) (hc : X.calm = true) (L : LcScope X scope own cap) (hi : PI X tg iter wi)
  (hin : ∀ (s₃ : Shared) (H₃ : Hp) (fp : List Addr) (acc : Addr),PG (X.inn scope (capN own cap) s₃ H₃ fp) tg g /\ PTs (X.inn scope (capN own cap) s₃ H₃ fp) ifs ti /\ PB (X.inn scope (capN own cap) s₃ H₃ fp) elt (⟨tg,iter,ifs,0⟩ :: rest) scope pos 0 acc (tb acc))
  (hsw : swapsWith (.ListComp elt (⟨tg,iter,ifs,0⟩ :: rest) scope pos) (some (.Name y py)) spos.line X.env = pure true:=by rfl) (hs : ∀ x,foldedSetIterable iter X.env x = pure x:=by intro _; rfl) :
  PS X (.Assign [.Name y py] (.ListComp elt (⟨tg,iter,ifs,0⟩ :: rest) scope pos) spos) (tAsg (tLC wi g ti tb own cap) (gName i)):=by
 intro pins s σ H D I h
 rw [exec_Assign_Name_used _ _ _ _ hsw]
 refine wpAny_bind (wpAny_standAt (wpAny_bind ?_))
 show wpAny _ X.A (do let _ <- comprehension (.ListComp elt (⟨tg,iter,ifs,0⟩ :: rest) scope pos) scope X.env _ (newList []) false (eval iter X.env) (some (assign (.Name y py) X.env))) _ _ s
 have hcl : ∀ x ∈ scope.names,x.2 = .free -> ∃ c,X.env.cells.lookup x.1 = some c:=fun x hx hk=>I.ok.has x.1 (L.fre x hx hk)
 refine wpAny_bind (wpAny_mono (wpAny_comprehension_free (use:=some (assign (.Name y py) X.env)) (Q:=fun _ s'=>SP X pins D .next s') rfl hs (closureFor_cl hcl) L.kind L.loc (thn (hi pins s σ H _ I h) fun x s1 h1=>thn h1 fun itv s2 ⟨it,fp,tn,J,H2,e,I2,T,st2,f2,q2⟩=>?_)) (fun _ s' hq=>wpAny_pure (wpAny_pure hq)) fun _ _ e=>e)
 subst e
 refine wpAny_newObj_type ?_
 have I3:=I2.lnew (t':=s2.toks) (ys:=[]) (its:=[]) .nil (Nat.zero_le _)
 have fr2 : H2 s2.heap.objs.size = none:=I2.fresh
 have f3 : ∀ b ∈ fp,FpOk X pins (upd H2 s2.heap.objs.size (.lst [])) b:=fun b hb=>by
  obtain ⟨o,eo,_⟩:=T.obj 0 _ st2 b hb
  obtain ⟨g1,g2⟩:=f2 b hb
  exact ⟨by rw [upd_ne (Nat.ne_of_lt (Heap.lt_size eo))]; exact g1,g2⟩
 have k3 : ∀ b o,s2.heap.get? b = some o -> (s2.heap.push { cls:=.type "list",data:=.seq ([] : List Value).toArray }).get? b = some o:=fun b o e=>Heap.get?_push_of_some _ e
 have st3 : tn 0 (s2.heap.push { cls:=.type "list",data:=.seq ([] : List Value).toArray }):=T.keep 0 _ _ st2 fun b _ o e=>k3 b o e
 refine newEnv_in ?_
 have I4:=inv_in L I3 f3 fun b hb=>by obtain ⟨o,eo,_⟩:=T.obj 0 _ st3 b hb; exact ⟨o,eo⟩
 obtain ⟨hg,ht,hb⟩:=hin { s2 with heap:=s2.heap.push { cls:=.type "list",data:=.seq ([] : List Value).toArray },toks:=s2.toks } (upd H2 s2.heap.objs.size (.lst [])) fp s2.heap.objs.size
 have st4:=T.keep 0 _ (pushCells ((s2.heap.push { cls:=.type "list",data:=.seq ([] : List Value).toArray }).push { cls:=.type "dict",data:=.dict #[] }) scope.names) st3 fun b _ o e=>pushCells_keeps _ _ b o (Heap.get?_push_of_some _ e)
 have f4 : ∀ b ∈ fp,FpOk (X.inn scope (capN own cap) { s2 with heap:=s2.heap.push { cls:=.type "list",data:=.seq ([] : List Value).toArray },toks:=s2.toks } (upd H2 s2.heap.objs.size (.lst [])) fp) [] (upd H2 s2.heap.objs.size (.lst [])) b:=fun b hb =>
  ⟨(f3 b hb).1,(I4.ok.exf b hb).1,I4.ok.exfs b hb,.inl hb,(I4.ok.exf b hb).2,fun p hp=>absurd (show p ∈ ([] : List (Addr × Obj)) from hp) (by simp)⟩
 have lp:=lc_loop (Y:=X.inn scope (capN own cap) { s2 with heap:=s2.heap.push { cls:=.type "list",data:=.seq ([] : List Value).toArray },toks:=s2.toks } (upd H2 s2.heap.objs.size (.lst [])) fp) (acc:=s2.heap.objs.size) (gens:=⟨tg,iter,ifs,0⟩ :: rest) (d:=0) rfl rfl hc hg ht hb I4 T st4 f4 (q2 _ fr2)
 have lp':=codeAny_mono lp (R':=compPost (model X.prog X.w) X.A X.xe (some (assign (.Name y py) X.env)) (fun _ s'=>SP X pins D .next s') (.ref s2.heap.objs.size) (s2.heap.push { cls:=.type "list",data:=.seq ([] : List Value).toArray }).objs.size) fun r s' ⟨hr,σ',H',I',q'⟩=>by
  subst hr
  obtain ⟨m',hn',_⟩:=id I'.loc
  have B:=I'.base
  have I5 : Inv X pins σ H' s':=I3.call' (ch:=fp) I'.os B I'.hok I'.bare fun b hb=>⟨(f3 b hb).2.2.2.1,(f3 b hb).2.1,(f3 b hb).2.2.2.2.1,(f3 b hb).2.2.2.2.2⟩
  have hC : H' (s2.heap.push { cls:=.type "list",data:=.seq ([] : List Value).toArray }).objs.size = none:=I'.free
  show wpAny _ X.A (assign (.Name y py) X.env (.ref s2.heap.objs.size)) _ _ _
  refine wpAny_assign_Name (store_ok2 I5 hN hyi (.inl hy) (v:=.ref s2.heap.objs.size) rfl (fun s6 I6 ⟨a6,sb6,ha6⟩=>?_) (.inr hy))
  have neL : X.env.locals ≠ (s2.heap.push { cls:=.type "list",data:=.seq ([] : List Value).toArray }).objs.size:=Nat.ne_of_lt I3.lt
  have ha : a6 ≠ (s2.heap.push { cls:=.type "list",data:=.seq ([] : List Value).toArray }).objs.size:=by
   rcases ha6 with rfl | ha6
   ·exact neL
   ·obtain ⟨v,hv⟩:=I3.cell y a6 ha6
    exact Nat.ne_of_lt hv.lt
  refine ⟨m',hn'.sameBut sb6 ha.symm,fun h' hsb=>?_⟩
  refine ⟨_,H',?_,q'⟩
  have kb : ∀ b o,b ≠ (s2.heap.push { cls:=.type "list",data:=.seq ([] : List Value).toArray }).objs.size -> s6.heap.get? b = some o -> h'.get? b = some o:=fun b o hb e=>(hsb.2 b hb).trans e
  refine I6.turned (t':=s6.toks) (it:=(s2.heap.push { cls:=.type "list",data:=.seq ([] : List Value).toArray }).objs.size) kb hC neL.symm (.inr I3.sz) (fun x c e z=>?_) (fun p hp z=>?_)
  ·obtain ⟨v,hv⟩:=I3.cell x c e
   exact absurd z (Nat.ne_of_lt hv.lt)
  ·have:=(I3.pin p hp).1
   exact absurd z (Nat.ne_of_lt (Heap.lt_size this))
 exact compStart_any rfl lp' (T.self _ _ _ _ _ st4 lp')
mutual
inductive Den (K : W.Frag) (H : Hp) : V -> PyData -> Prop
 | non : Den K H .non .none
 | bl (b) : Den K H (.bl b) (.bool b)
 | int (i) : Den K H (.int i) (.int i)
 | str (x) : Den K H (.str x) (.str x)
 | lst {a us ds} : SqL K H a us -> Dens K H us ds -> Den K H (.ref a) (.list ds)
 | tup {a us ds} : SqT K H a us -> Dens K H us ds -> Den K H (.ref a) (.tuple ds)
inductive Dens (K : W.Frag) (H : Hp) : List V -> List PyData -> Prop
 | nil : Dens K H [] []
 | cons {v vs d ds} : Den K H v d -> Dens K H vs ds -> Dens K H (v :: vs) (d :: ds)
end
theorem Same.tup {K : W.Frag} {H H' : Hp} {a : Addr} {xs : List V} (e : Same H H') (h : SqT K H a xs) : SqT K H' a xs:=by
 rcases h with (h | ⟨o,h⟩) | h
 ·exact .inl (.inl (e _ _ h))
 ·exact .inl (.inr ⟨o,e _ _ h⟩)
 ·exact .inr h
section
variable {X : Cx} {pins : List (Addr × Obj)} {σ : St} {H : Hp} {s : Shared}
mutual
theorem Den.reads (I : Inv X pins σ H s) : ∀ {v d} {u : Value},Den X.K H v d -> RelV v u -> ∃ as,Reads s.heap u d as
 | _,_,_,.non,r=>by cases r; exact ⟨_,.none⟩
 | _,_,_,.bl b,r=>by cases r; exact ⟨_,.bool b⟩
 | _,_,_,.int i,r=>by obtain ⟨t,rfl⟩:=r; exact ⟨_,.int i t⟩
 | _,_,_,.str i,r=>by obtain ⟨t,rfl⟩:=r; exact ⟨_,.str i t⟩
 | _,_,_,.lst h hr,r=>by
  cases r
  obtain ⟨its,rv,⟨o,n,e,c,_,d⟩,_⟩:=I.list h
  obtain ⟨as,q⟩:=Dens.reads I hr rv
  exact ⟨_,.list e c d (by simpa using q)⟩
 | _,_,_,.tup h hr,r=>by
  cases r
  obtain ⟨its,rv,⟨o,e,c,n,d⟩,_⟩:=I.tuple h
  obtain ⟨as,q⟩:=Dens.reads I hr rv
  exact ⟨_,.tuple e c d (by simpa using q)⟩
theorem Dens.reads (I : Inv X pins σ H s) : ∀ {vs ds} {us : List Value},Dens X.K H vs ds -> Vals vs us -> ∃ as,ReadsAll s.heap us ds as
 | _,_,_,.nil,r=>by cases r; exact ⟨_,.nil⟩
 | _,_,_,.cons h hr,r=>by
  cases r with
  | cons r1 r2 =>
   obtain ⟨as,q⟩:=Den.reads I h r1
   obtain ⟨bs,q2⟩:=Dens.reads I hr r2
   exact ⟨_,.cons q q2⟩
end
end
def rEqD (K : W.Frag) (f : Bool -> Bool) : R2:=fun x y H Q=>∃ dx dy,Den K H x dx /\ Den K H y dy /\ dx.canLay0 = true /\ dy.canLay0 = true /\ dx.depth <= 32 /\ Q (.bl (f (PyData.eqv dx dy))) H
section
variable {X : Cx}
theorem op_eqD (hu : X.A.units + 64 < cLine) : OpR X (compareOp .Eq) (rEqD X.K id):=by
 intro pins s σ H x y v u Q I rx ry h
 obtain ⟨dx,dy,h1,h2,h3,h4,h5,q⟩:=h
 obtain ⟨as,r1⟩:=h1.reads I rx
 obtain ⟨bs,r2⟩:=h2.reads I ry
 exact SeqAt.compareEq_reads r1 r2 h3 h4 (by omega) ⟨.bl _,H,I,rfl,q⟩
theorem op_neD (hu : X.A.units + 64 < cLine) : OpR X (compareOp .NotEq) (rEqD X.K not):=by
 intro pins s σ H x y v u Q I rx ry h
 obtain ⟨dx,dy,h1,h2,h3,h4,h5,q⟩:=h
 obtain ⟨as,r1⟩:=h1.reads I rx
 obtain ⟨bs,r2⟩:=h2.reads I ry
 exact SeqAt.compareNe_reads r1 r2 h3 h4 (by omega) ⟨.bl _,H,I,rfl,q⟩
theorem vals_bools {bs : List Bool} : ∀ {us : List Value},Vals (bs.map V.bl) us -> us = bs.map Value.bool:=by
 induction bs with
 | nil=>intro us h; cases h; rfl
 | cons b r ih =>
  intro us h
  cases h with
  | cons h1 h2=>cases h1; rw [ih h2]; rfl
theorem range_all {bs : List Bool} : (List.range bs.length).all (fun i=>bs.getD i false) = bs.all id:=by
 rw [Bool.eq_iff_iff,all_eq_true,all_eq_true]
 constructor
 ·intro h b hb
  obtain ⟨i,hi,rfl⟩:=List.mem_iff_getElem.mp hb
  have:=h i (mem_range.mpr hi)
  simpa [hi] using this
 ·intro h i hi
  have hi:=mem_range.mp hi
  have:=h _ (List.getElem_mem hi)
  simpa [hi] using this
theorem range_any {bs : List Bool} : (List.range bs.length).any (fun i=>bs.getD i false) = bs.any id:=by
 rw [Bool.eq_iff_iff,any_eq_true,any_eq_true]
 constructor
 ·rintro ⟨i,hi,h⟩
  have hi:=mem_range.mp hi
  exact ⟨_,List.getElem_mem hi,by simpa [hi] using h⟩
 ·rintro ⟨b,hb,h⟩
  obtain ⟨i,hi,rfl⟩:=List.mem_iff_getElem.mp hb
  exact ⟨i,mem_range.mpr hi,by simpa [hi] using h⟩
theorem bools_truth {prog : Program} {w : World} {A : Around} {bs : List Bool} : TruthOf prog w A (fun i v=>(bs.map Value.bool).toArray[i]? = some v) (fun i=>bs.getD i false):=by
 intro i v s Q E hv hq
 simp only [List.getElem?_toArray,List.getElem?_map] at hv
 cases e : bs[i]? with
 | none=>rw [e] at hv; cases hv
 | some b =>
  rw [e] at hv; cases hv
  have hq : Q (bs.getD i false) s:=hq
  rw [getD_eq_getElem?_getD,e] at hq
  exact wpAny_truthy_bool hq
theorem call_all_bools (hc : X.calm = true) : CallR X (.builtin "all") (fun xs H Q=>∃ (a : Addr) (bs : List Bool),xs = [.ref a] /\ SqL X.K H a (bs.map V.bl) /\ Q (.bl (bs.all id)) H):=by
 intro pins s σ H xs us Q I r h
 obtain ⟨a,bs,rfl,hq,q⟩:=h
 obtain ⟨u,rfl,r1⟩:=vals1 r
 cases r1
 obtain ⟨its,rv,p,hz⟩:=I.list hq
 cases vals_bools rv
 refine call_all_walk (wpAny_pyIter_list p.isList ?_)
 have hne : a ≠ s.heap.objs.size:=by obtain ⟨o,n,e,_⟩:=p; exact Nat.ne_of_lt (Heap.lt_size e)
 refine ⟨_,_,_,_,_,_,_,rfl,Walks.list (A:=X.A.in1) (I.ok.hd hc) s.heap.objs.size a hne _,⟨⟨_,Heap.get?_push_size _ rfl,rfl,rfl⟩,(p.keeps fun b o e=>Heap.get?_push_of_some _ e).isList⟩,bools_truth,fun h' tk k=>?_⟩
 have e1 : ((bs.map Value.bool).toArray.size) = bs.length:=by simp
 rw [e1,range_all]
 refine ⟨.bl _,H,I.kept fun b o e=>k b o ?_ (Heap.get?_push_of_some _ e),rfl,q⟩
 simp only [mem_singleton]
 exact Nat.ne_of_lt (Heap.lt_size e)
theorem call_any_bools (hc : X.calm = true) : CallR X (.builtin "any") (fun xs H Q=>∃ (a : Addr) (bs : List Bool),xs = [.ref a] /\ SqL X.K H a (bs.map V.bl) /\ Q (.bl (bs.any id)) H):=by
 intro pins s σ H xs us Q I r h
 obtain ⟨a,bs,rfl,hq,q⟩:=h
 obtain ⟨u,rfl,r1⟩:=vals1 r
 cases r1
 obtain ⟨its,rv,p,hz⟩:=I.list hq
 cases vals_bools rv
 refine call_any_walk (wpAny_pyIter_list p.isList ?_)
 have hne : a ≠ s.heap.objs.size:=by obtain ⟨o,n,e,_⟩:=p; exact Nat.ne_of_lt (Heap.lt_size e)
 refine ⟨_,_,_,_,_,_,_,rfl,Walks.list (A:=X.A.in1) (I.ok.hd hc) s.heap.objs.size a hne _,⟨⟨_,Heap.get?_push_size _ rfl,rfl,rfl⟩,(p.keeps fun b o e=>Heap.get?_push_of_some _ e).isList⟩,bools_truth,fun h' tk k=>?_⟩
 have e1 : ((bs.map Value.bool).toArray.size) = bs.length:=by simp
 rw [e1,range_any]
 refine ⟨.bl _,H,I.kept fun b o e=>k b o ?_ (Heap.get?_push_of_some _ e),rfl,q⟩
 simp only [mem_singleton]
 exact Nat.ne_of_lt (Heap.lt_size e)
theorem call_sum_ints (hc : X.calm = true) : CallR X (.builtin "sum") (fun xs H Q=>∃ (a : Addr) (ns : List Int),xs = [.ref a] /\ SqL X.K H a (ns.map V.int) /\ Q (.int ns.sum) H):=by
 intro pins s σ H xs us Q I r h
 obtain ⟨a,ns,rfl,hq,q⟩:=h
 obtain ⟨u,rfl,r1⟩:=vals1 r
 cases r1
 obtain ⟨its,rv,p,hz⟩:=I.list hq
 have hi:=intsAre_of rv
 obtain ⟨zs,ez⟩:=hi.allInts.items
 have hl:=p.isList
 rw [ez] at hl
 refine sum_intListG (I.ok.hd hc) hl fun h' tk t' k=>?_
 have e1 : preSum (numAt zs) zs.size = ns.sum:=by
  have e2:=hi.numsOf
  have e3:=nums_intItems (xs:=zs)
  rw [<- ez] at e3
  rw [preSum_eq,List.take_of_length_le (by simp),<- e3]
  exact congrArg List.sum e2
 rw [e1]
 exact ⟨.int _,H,I.kept k,⟨_,rfl⟩,q⟩
def tLR (ta : TA) : TE:=fun σ H Q=>ta σ H fun vs H1=>∃ n : Nat,vs = [.int n] /\ n <= 1000000 /\ ∀ l,H1 l = none -> Q (.ref l) (upd H1 l (.lst ((List.range n).map fun (i : Nat)=>V.int (i : Int))))
theorem pe_listrange {a : Expr} {ta : TA} {p p2 pos pos2 : Pos} (hc : X.calm = true) (hg : Gl X "list") (hm : X.mg "list" = none) (hg2 : Gl X "range") (hm2 : X.mg "range" = none) (ha : PA X [a] ta)
  (hs : starEach [a] X.env = [(false,eval a X.env)]:=by rfl) (hs2 : starEach [(.Call (.Name "range" p2) [a] [] pos2)] X.env = [(false,eval (.Call (.Name "range" p2) [a] [] pos2) X.env)]:=by rfl) : PE X (.Call (.Name "list" p) [.Call (.Name "range" p2) [a] [] pos2] [] pos) (tLR ta):=by
 intro pins s σ H Q I h
 refine Call_ (ld_blt I hg hm PyProof.Rows.boot_list (PyProof.Rows.callWith_type1 ?_ hs2 rfl))
 rw [hs2]
 show wpAny _ _ (spliced ((false,eval (.Call (.Name "range" p2) [a] [] pos2) X.env) :: backTo pos [])) _ _ s
 refine Calls.spliced_cons (Call_ (ld_blt I hg2 hm2 boot_range (PyProof.Rows.callWith_type1 (thn (ha pos2 pins s σ H _ I h) fun us s1 ⟨vs,H1,I1,r1,q1⟩=>?_) hs rfl)))
 obtain ⟨n,rfl,hn,q⟩:=q1
 obtain ⟨u,rfl,t,rfl⟩:=vals1 r1
 refine call_range_1 (Calls.spliced_nil ?_)
 have hsz : Builtin.Range.rangeSize 0 (n : Int) 1 = (n : Int):=by rw [rangeSize_one]; split <;> omega
 refine call_list_range (I.ok.hd hc) (IsRange.new ..) (small_one (by omega) (by omega) (by omega) (by omega)) hsz (by omega) fun h' tk acc' c' hk hS hacc=>?_
 have I2 : Inv X pins σ H1 { s1 with heap:=s1.heap.push { cls:=.type "range",data:=.fields #[.int 0 s1.toks,.int n t,.int 1 (s1.toks + 1)] },toks:=s1.toks + 1 + 1 }:=I1.kept fun b o e=>Heap.get?_push_of_some _ e
 obtain ⟨ha1,ha2⟩:=hacc
 have hv : Vals ((List.range n).map fun (i : Nat)=>V.int (i : Int)) acc'.toList:=by
  have : ∀ (k : Nat) (l : List Value) (m : Nat),l.length = k -> (∀ (j : Nat) (v : Value),l[j]? = some v -> ∃ t,v = Value.int (((m + j : Nat) : Int)) t) -> Vals ((List.range' m k).map fun (i : Nat)=>V.int (i : Int)) l:=by
   intro k
   induction k with
   | zero=>intro l m hl _; cases l with
    | nil=>exact .nil
    | cons _ _=>cases hl
   | succ k ih =>
    intro l m hl hj
    cases l with
    | nil=>cases hl
    | cons v l =>
     rw [List.range'_succ,map_cons]
     refine .cons ?_ (ih l (m + 1) (by simpa using hl) fun j v' e=>?_)
     ·obtain ⟨t,rfl⟩:=hj 0 v rfl
      exact ⟨t,by simp⟩
     ·obtain ⟨t,rfl⟩:=hj (j + 1) v' (by simpa using e)
      exact ⟨t,by congr 1; omega⟩
  rw [List.range_eq_range']
  refine this n acc'.toList 0 (by simpa using ha1) fun j v e=>?_
  obtain ⟨t,rfl⟩:=ha2 j v (by simpa using e)
  exact ⟨t,by congr 1; omega⟩
 have I3:=I2.laid (h':=h') (t':=tk) (o:=.lst ((List.range n).map fun (i : Nat)=>V.int (i : Int))) hk (Nat.le_refl _) ⟨by rw [length_map,length_range]; exact Nat.le_trans hn (by decide),acc'.toList,c',hv,by simpa using hS⟩
 refine ⟨.ref _,_,I3,rfl,q _ ?_⟩
 exact I1.hok.fresh (by rw [Heap.size_push]; exact Nat.le_succ _)
end
def Ite (K : W.Frag) (a : Addr) : It :=
 ⟨fun i H=>∃ xs x,SqL K H a xs /\ xs[i]? = some x,fun i H x H'=>∃ p y,H p = none /\ (∀ xs,SqL K H a xs -> xs[i]? = some y) /\ x = .ref p /\ H' = upd H p (.tup [.int i,y]),fun i H=>∃ xs,SqL K H a xs /\ xs.length <= i⟩
section
def iEnum (K : W.Frag) (ta : TA) : TI:=fun σ H R=>ta σ H fun vs H1=>∃ a,vs = [.ref a] /\ (∃ xs,SqL K H1 a xs) /\ R (Ite K a) H1
end
def lcCheck (osc : Scope) (oN : List Str) (scope : Scope) (own : List Str) (cap : List (Str × Nat)) : Bool :=
 scope.kind == .function && decide ((scope.names.map (·.1)).Nodup) && (scope.names.all fun x=>x.2 != .local || scope.names.lookup x.1 == some .local)
  && (scope.names.all fun x=>x.2 != .free || (osc.names.lookup x.1 == some .cell || osc.names.lookup x.1 == some .free))
  && (cap.all fun p=>oN[p.2]? == some p.1 && scope.names.contains (p.1,NameKind.free))
theorem LcScope.of {X : Cx} {scope : Scope} {own : List Str} {cap : List (Str × Nat)} (h : lcCheck X.env.scope X.N scope own cap = true) : LcScope X scope own cap:=by
 unfold lcCheck at h
 simp only [Bool.and_eq_true,all_eq_true,beq_iff_eq,decide_eq_true_eq,Bool.or_eq_true,bne_iff_ne,ne_eq] at h
 obtain ⟨⟨⟨⟨h1,h2⟩,h3⟩,h4⟩,h5⟩:=h
 refine ⟨h1,h2,fun x hx hk=>?_,fun x hx hk=>?_,fun p hp=>?_⟩
 ·rcases h3 x hx with z | z
  ·exact absurd hk z
  ·exact z
 ·rcases h4 x hx with z | z
  ·exact absurd hk z
  ·exact z
 ·obtain ⟨a,b⟩:=h5 p hp
  exact ⟨a,by simpa using b⟩
section
variable {X : Cx} {e : Expr} {te : TE} {pos : Pos}
theorem pset (i : Nat) {x : Str} {pos' : Pos} (hN : X.N.Nodup) (he : PE X e te) (hi : X.N[i]? = some x:=by rfl) (hx : Loc X.env.scope x:=by first | exact Or.inl rfl | exact Or.inr rfl) (hs : swapsWith e (some (.Name x pos')) pos.line X.env = pure false:=by rfl)
  (hf : X.fn x = true \/ X.env.scope.names.lookup x = some .local:=by first | exact .inl rfl | exact .inr rfl | assumption) : PS X (.Assign [.Name x pos'] e pos) (tAsg te (gName i)):=ps_set hN hi hx he hs hf
theorem pgn (i : Nat) {x : Str} (hN : X.N.Nodup) (hi : X.N[i]? = some x:=by rfl) (hx : Loc X.env.scope x:=by first | exact Or.inl rfl | exact Or.inr rfl) (hf : X.fn x = true \/ X.env.scope.names.lookup x = some .local:=by first | exact .inl rfl | exact .inr rfl | assumption) : PG X (.Name x pos) (gName i):=pg_name hN hi hx hf
end
structure Df (P : Program) (w : World) (K : W.Frag) (mg : Str -> Option Value) (base : Heap) (x : Str) (ps : List Str) (k : Nat) (sp : Sp) : Prop where
 ex : ∃ f fd,FnOk P w K mg base CX0 k f fd ps sp /\ mg x = some (.ref f) /\ PySem.W.keepIn K (.ref f) = true /\ Binds K fd ps []
theorem pe_df {X : Cx} {x : Str} {ps : List Str} {k : Nat} {sp : Sp} {p pos : Pos} {e : Expr} {es : List Expr} {t : TA} (D : Df X.prog X.w X.K X.mg X.base x ps k sp) (hr : Room k X.A) (ha : PA X (e :: es) t) (hg : Gl X x:=by rfl) (hdb : (x == ("__debug__" : Str)) = false:=by decide)
  (he : starEach (e :: es) X.env = (false,eval e X.env) :: starEach es X.env:=by rfl) (hpl : (backTo pos (starEach es X.env)).any (·.1) = false:=by rfl) : PE X (.Call (.Name x p) (e :: es) [] pos) (tCall sp [] E0 t):=by
 obtain ⟨f,fd,F,hm,hk,hb⟩:=D.ex
 exact pe_call F hr hg hm hk hb .nil pass0 ha hdb he hpl
section
variable {X : Cx} {o e : Expr} {to : TE} {te : TE} {apos cpos : Pos}
theorem pm_append (ho : PE X o to) (he : PE X e te) (hs : starEach [e] X.env = [(false,eval e X.env)]) (hbase : attributeBase o "append" X.env (eval o X.env) = eval o X.env:=by rfl)
  (hline : (apos.endLine == cpos.line) = true:=by rfl) : PE X (.Call (.Attribute o "append" apos) [e] [] cpos) (tBM X.K "list" rAppend to (tCons te tNil)) :=
 pe_bm PySem.F.plainAttrs_list PySem.F.slot_list_append PySem.F.type_list_append mt_append ho (pa_cons he pa_nil hs) hbase (by rw [hs]; rfl) hline hs rfl
theorem pm_popAt (ho : PE X o to) (he : PE X e te) (hs : starEach [e] X.env = [(false,eval e X.env)]) (hbase : attributeBase o "pop" X.env (eval o X.env) = eval o X.env:=by rfl)
  (hline : (apos.endLine == cpos.line) = true:=by rfl) : PE X (.Call (.Attribute o "pop" apos) [e] [] cpos) (tBM X.K "list" rPopAt to (tCons te tNil)) :=
 pe_bm PySem.F.plainAttrs_list PySem.F.slot_list_pop PySem.F.type_list_pop mt_popAt ho (pa_cons he pa_nil hs) hbase (by rw [hs]; rfl) hline hs rfl
theorem pm_reverse (ho : PE X o to) (hbase : attributeBase o "reverse" X.env (eval o X.env) = eval o X.env:=by rfl) (hline : (apos.endLine == cpos.line) = true:=by rfl) : PE X (.Call (.Attribute o "reverse" apos) [] [] cpos) (tBM0 X.K "list" rReverse to) :=
 pe_bm0 PySem.F.plainAttrs_list PySem.F.slot_list_reverse PySem.F.type_list_reverse mt_reverse ho hbase hline
end
def rGetL (K : W.Frag) : R2:=fun x y H Q=>∃ p xs j v,x = .ref p /\ y = .int ((j : Nat) : Int) /\ SqL K H p xs /\ xs[j]? = some v /\ Q v H
theorem get_list {X : Cx} : PGet X (rGetL X.K):=by
 intro pins s σ H x y v u Q I rx ry h
 obtain ⟨p,xs,j,z,rfl,rfl,hq,he,q⟩:=h
 cases rx
 obtain ⟨t,rfl⟩:=ry
 obtain ⟨its,r,pl,hz⟩:=I.list hq
 obtain ⟨w,ew,rw'⟩:=r.get he
 have hl:=r.length
 have hn:=line63
 have hj : j < xs.length:=(List.getElem?_eq_some_iff.mp he).1
 exact wpAny_getItem_list pl.isList (by omega) (by omega) (by simpa using ew) ⟨z,H,I,rw',q⟩
theorem nd_of {N : List Str} (h : decide N.Nodup = true) : N.Nodup:=of_decide_eq_true h
section
variable {X : Cx} {K : W.Frag}
theorem pg_tupK (K : W.Frag) (n : Nat) (hK : X.K = K) {es : List Expr} {k : Nat} {t : TGs} {pos : Pos} (hc : X.calm = true) (h : PGs X es t) (hn : (assignEach es X.env).length = n) (hst : (assignEach es X.env).findIdx? (·.1) = none) : PG X (.Tuple es k pos) (gTup K n t):=by
 subst hK; exact pg_tup hc h hn hst
theorem pi_listK (K : W.Frag) (hK : X.K = K) {tg l : Expr} {tl : TE} (hl : PE X l tl) : PI X tg l (iList K tl):=by subst hK; exact pi_list hl
theorem pi_tupK (K : W.Frag) (hK : X.K = K) {tg l : Expr} {tl : TE} (hl : PE X l tl) : PI X tg l (iTup K tl):=by subst hK; exact pi_tup hl
theorem ix_listK (K : W.Frag) (hK : X.K = K) : IxR X (rIxL K):=by subst hK; exact ix_list
theorem ix_tupK (K : W.Frag) (hK : X.K = K) : IxR X (rIxT K):=by subst hK; exact ix_tup
def rLen (K : W.Frag) : List V -> Hp -> VK -> Prop:=fun xs H Q=>∃ p ys,xs = [.ref p] /\ (SqL K H p ys \/ SqT K H p ys) /\ Q (.int ys.length) H
theorem call_lenK (K : W.Frag) (hK : X.K = K) : CallR X (.builtin "len") (rLen K):=by subst hK; exact call_len_seq
def rAll (K : W.Frag) : List V -> Hp -> VK -> Prop:=fun xs H Q=>∃ (a : Addr) (bs : List Bool),xs = [.ref a] /\ SqL K H a (bs.map V.bl) /\ Q (.bl (bs.all id)) H
def rAny (K : W.Frag) : List V -> Hp -> VK -> Prop:=fun xs H Q=>∃ (a : Addr) (bs : List Bool),xs = [.ref a] /\ SqL K H a (bs.map V.bl) /\ Q (.bl (bs.any id)) H
def rSum (K : W.Frag) : List V -> Hp -> VK -> Prop:=fun xs H Q=>∃ (a : Addr) (ns : List Int),xs = [.ref a] /\ SqL K H a (ns.map V.int) /\ Q (.int ns.sum) H
def rIsi (K : W.Frag) : List V -> Hp -> VK -> Prop:=fun xs H Q=>∃ x T t b,xs = [x,.ty T] /\ TyOf K H x t /\ PySem.W.kitOne K t (.type T) = some b /\ Q (.bl b) H
def rListOf (K : W.Frag) : List V -> Hp -> VK -> Prop:=fun xs H Q=>∃ p ys,xs = [.ref p] /\ (SqL K H p ys \/ SqT K H p ys) /\ ∀ l,H l = none -> Q (.ref l) (upd H l (.lst ys))
theorem call_allK (K : W.Frag) (hK : X.K = K) (hc : X.calm = true) : CallR X (.builtin "all") (rAll K):=by subst hK; exact call_all_bools hc
theorem call_anyK (K : W.Frag) (hK : X.K = K) (hc : X.calm = true) : CallR X (.builtin "any") (rAny K):=by subst hK; exact call_any_bools hc
theorem call_sumK (K : W.Frag) (hK : X.K = K) (hc : X.calm = true) : CallR X (.builtin "sum") (rSum K):=by subst hK; exact call_sum_ints hc
theorem call_listK (K : W.Frag) (hK : X.K = K) : CallR X (.type "list") (rListOf K):=by subst hK; exact call_list_of
theorem op_eqK (K : W.Frag) (hK : X.K = K) (hu : X.A.units + 64 < cLine) : OpR X (compareOp .Eq) (rEqD K id):=by subst hK; exact op_eqD hu
theorem op_neK (K : W.Frag) (hK : X.K = K) (hu : X.A.units + 64 < cLine) : OpR X (compareOp .NotEq) (rEqD K not):=by subst hK; exact op_neD hu
theorem op_inK (K : W.Frag) (hK : X.K = K) : OpR X (compareOp .In) (rIn K false):=by subst hK; exact op_in_seq
theorem op_notInK (K : W.Frag) (hK : X.K = K) : OpR X (compareOp .NotIn) (rIn K true):=by subst hK; exact op_notIn_seq
theorem sl_listK (K : W.Frag) (hK : X.K = K) : SlR X (rSlL K):=by subst hK; exact sl_list
theorem get_listK (K : W.Frag) (hK : X.K = K) : PGet X (rGetL K):=by subst hK; exact get_list
theorem pm_appendK (K : W.Frag) (hK : X.K = K) {o e : Expr} {to te : TE} {apos cpos : Pos} (ho : PE X o to) (he : PE X e te) (hs : starEach [e] X.env = [(false,eval e X.env)]) (hbase : attributeBase o "append" X.env (eval o X.env) = eval o X.env)
  (hline : (apos.endLine == cpos.line) = true) : PE X (.Call (.Attribute o "append" apos) [e] [] cpos) (tBM K "list" rAppend to (tCons te tNil)):=by subst hK; exact pm_append ho he hs hbase hline
theorem pm_popAtK (K : W.Frag) (hK : X.K = K) {o e : Expr} {to te : TE} {apos cpos : Pos} (ho : PE X o to) (he : PE X e te) (hs : starEach [e] X.env = [(false,eval e X.env)]) (hbase : attributeBase o "pop" X.env (eval o X.env) = eval o X.env)
  (hline : (apos.endLine == cpos.line) = true) : PE X (.Call (.Attribute o "pop" apos) [e] [] cpos) (tBM K "list" rPopAt to (tCons te tNil)):=by subst hK; exact pm_popAt ho he hs hbase hline
theorem pm_reverseK (K : W.Frag) (hK : X.K = K) {o : Expr} {to : TE} {apos cpos : Pos} (ho : PE X o to) (hbase : attributeBase o "reverse" X.env (eval o X.env) = eval o X.env) (hline : (apos.endLine == cpos.line) = true) :
  PE X (.Call (.Attribute o "reverse" apos) [] [] cpos) (tBM0 K "list" rReverse to):=by subst hK; exact pm_reverse ho hbase hline
end
def intE (e : Expr) : Option Int:=match e with
 | .Constant (.int i) _ _=>some i
 | _=>none
theorem intE_of {e : Expr} {i : Int} (h : intE e = some i) : ∃ k p,e = .Constant (.int i) k p:=by
 unfold intE at h
 split at h
 ·cases h; exact ⟨_,_,rfl⟩
 ·cases h
def intsOf : List Expr -> Option (List Int)
 | []=>some []
 | e :: r=>match intE e,intsOf r with
  | some i,some l=>some (i :: l)
  | _,_=>none
theorem pa_ints {X : Cx} : ∀ {es : List Expr} {ns : List Int},intsOf es = some ns -> PA X es (fun _ H Q=>Q (ns.map V.int) H)
 | [],ns,h=>by
  cases h
  exact pa_nil
 | e :: r,ns,h=>by
  unfold intsOf at h
  split at h
  ·rename_i i ms e1 e2
   cases h
   obtain ⟨k,p,rfl⟩:=intE_of e1
   exact pa_cons pe_int (pa_ints e2) rfl
  ·cases h
theorem tFor_eq {wi : TI} {g : TG} {tb : TS} {D : Ends} {σ : St} {H : Hp} : tFor wi g tb D σ H = wi σ H fun J H1=>loopT J g tb D σ H1:=rfl
theorem loop_list {K : W.Frag} {a : Addr} (xs : List V) {g : TG} {tb : TS} {D : Ends} {σ : St} {H : Hp} (Pv : Nat -> St -> Hp -> Prop) (h0 : Pv 0 σ H) (hl : ∀ i σ H,i <= xs.length -> Pv i σ H -> SqL K H a xs)
  (hs : ∀ i x σ H,xs[i]? = some x -> Pv i σ H -> g x σ H fun σ2 H2=>tb { D with nx:=Pv (i + 1),ct:=Pv (i + 1),bk:=D.nx } σ2 H2) (hd : ∀ σ H,Pv xs.length σ H -> D.nx σ H) : loopT (Itl K a) g tb D σ H:=for_list Pv h0 hl hs hd
theorem iteb {b : Bool} {A B : Prop} (h1 : b = true -> A) (h2 : b = false -> B) : if b = true then A else B:=by
 cases b
 ·rw [if_neg Bool.false_ne_true]; exact h2 rfl
 ·rw [if_pos rfl]; exact h1 rfl
theorem Same.put {H H' : Hp} {p : Addr} {o : HO} (e : Same H H') (h : H p = none) : Same H (upd H' p o):=fun b o' hb=>by rw [upd_ne (ne_of_none hb h)]; exact e b o' hb
theorem Same.new {H : Hp} {p : Addr} {o : HO} (h : H p = none) : Same H (upd H p o):=(Same.refl H).put h
theorem Same.gone {H H' : Hp} {p : Addr} (e : Same H H') (h : H' p = none) : H p = none:=e.free h
theorem tyl {K : W.Frag} {H : Hp} {p : Addr} {xs : List V} (h : SqL K H p xs) : tyV K "list" (.ref p) H:=.inl ⟨rfl,_,h⟩
structure QE (X : Cx) (e : Expr) (t : TE) : Prop where
 h : PE X e t
structure QT (X : Cx) (e : Expr) (t : TT) : Prop where
 h : PT X e t
structure QW (X : Cx) (e : Expr) (t : TT) : Prop where
 h : PW X e t
structure QA (X : Cx) (e : List Expr) (t : TA) : Prop where
 h : PA X e t
structure QS (X : Cx) (e : Stmt) (t : TS) : Prop where
 h : PS X e t
structure QSs (X : Cx) (e : List Stmt) (t : TS) : Prop where
 h : PSs X e t
structure QG (X : Cx) (e : Expr) (t : TG) : Prop where
 h : PG X e t
structure QGs (X : Cx) (e : List Expr) (t : TGs) : Prop where
 h : PGs X e t
structure QTs (X : Cx) (e : List Expr) (t : TT) : Prop where
 h : PTs X e t
structure QO (X : Cx) (e : Option Expr) (t : TO) : Prop where
 h : PO X e t
structure QI (X : Cx) (tg e : Expr) (t : TI) : Prop where
 h : PI X tg e t
structure QB (Y : Cx) (elt : Expr) (gens : List Comprehension) (scope : Scope) (pos : Pos) (d : Nat) (acc : Addr) (tb : TS) : Prop where
 h : PB Y elt gens scope pos d acc tb
theorem qpv (i : Nat) {x : Str} {pos : Pos} (hN : X.N[i]? = some x:=by rfl) (hv : Vis X.env.scope x:=by first | exact Or.inl rfl | exact Or.inr (Or.inl rfl) | exact Or.inr (Or.inr rfl)) (hd : (x == ("__debug__" : Str)) = false:=by decide) (hcd : (x == ("__classdict__" : Str)) = false:=by decide) : QE X (.Name x pos) (tVar i):=⟨pv i hN hv hd hcd⟩
theorem qpe_bltn {x : Str} {v : V} {u : Value} {pos : Pos} (hg : Gl X x) (hm : X.mg x = none) (hv : bootBuiltins x = some u) (r : RelV v u) (hn : x ≠ "__name__":=by decide) (hd : (x == ("__debug__" : Str)) = false:=by decide) : QE X (.Name x pos) (tC v):=⟨pe_bltn hg hm hv r hn hd⟩
theorem qpe_bl {b j pos} : QE X (.Constant (.bool b) j pos) (tC (.bl b)):=⟨pe_bl ⟩
theorem qpe_non {j pos} : QE X (.Constant .none j pos) (tC .non):=⟨pe_non ⟩
theorem qpe_int {i j pos} : QE X (.Constant (.int i) j pos) (tC (.int i)):=⟨pe_int ⟩
theorem qpe_str {x j pos} : QE X (.Constant (.str x) j pos) (tC (.str x)):=⟨pe_str ⟩
theorem qpe_not (ha : QE X a ta) : QE X (.UnaryOp .Not a pos) (tNotV ta):=⟨pe_not ha.h⟩
theorem qpe_op {op : Operator} {r : R2} (ho : OpR X (binaryOp op) r) (ha : QE X a ta) (hb : QE X b tb) : QE X (.BinOp a op b pos) (tOp r ta tb):=⟨pe_op ho ha.h hb.h⟩
theorem qpe_and {rest : List Expr} (ha : QE X a ta) (hb : QE X (.BoolOp .And (b :: rest) pos) tb) : QE X (.BoolOp .And (a :: b :: rest) pos) (tAndV ta tb):=⟨pe_and ha.h hb.h⟩
theorem qpe_one {op} {t : TE} (h : QE X a t) : QE X (.BoolOp op [a] pos) t:=⟨pe_one h.h⟩
theorem qpe_cmpR {op : CmpOp} {r : R2} (ho : OpR X (compareOp op) r) (ha : QE X a ta) (hb : QE X b tb) (hm : behindInMarks op b = false) : QE X (.Compare a [op] [b] pos) (tOp r ta tb):=⟨pe_cmpR ho ha.h hb.h hm⟩
theorem qpe_ifExp {c : Expr} (hc : QT X c tA) (ha : QE X a ta) (hb : QE X b tb) : QE X (.IfExp c a b pos) (tIf tA ta tb):=⟨pe_ifExp hc.h ha.h hb.h⟩
theorem qpe_tup {x1} (h : QA X es t) : QE X (.Tuple es x1 pos) (tTup t):=⟨pe_tup h.h⟩
theorem qpe_lst (h : QA X es t) : QE X (.List es pos) (tLst t):=⟨pe_lst h.h⟩
theorem qpe_slice {lo hi : Option Expr} {r : V -> Option Int -> Option Int -> Hp -> VK -> Prop} (hr : SlR X r) (he : QE X e te) (hl : QO X lo tl) (hu : QO X hi th) : QE X (.Subscript e (.Slice lo hi none p2) pos) (tSl r te tl th):=⟨pe_slice hr he.h hl.h hu.h⟩
theorem qpe_ix {r : R2} (hr : IxR X r) (ha : QE X a ta) (hb : QE X b tb) (hs : PlainIx b) : QE X (.Subscript a b pos) (tOp r ta tb):=⟨pe_ix hr ha.h hb.h hs⟩
theorem qpe_df {X : Cx} {x : Str} {ps : List Str} {k : Nat} {sp : Sp} {p pos : Pos} {e : Expr} {es : List Expr} {t : TA} (D : Df X.prog X.w X.K X.mg X.base x ps k sp) (hr : Room k X.A) (ha : QA X (e :: es) t) (hg : Gl X x:=by rfl) (hdb : (x == ("__debug__" : Str)) = false:=by decide) (he : starEach (e :: es) X.env = (false,eval e X.env) :: starEach es X.env:=by rfl) (hpl : (backTo pos (starEach es X.env)).any (·.1) = false:=by rfl) : QE X (.Call (.Name x p) (e :: es) [] pos) (tCall sp [] E0 t):=⟨pe_df D hr ha.h hg hdb he hpl⟩
theorem qpe_listrange {a : Expr} {ta : TA} {p p2 pos pos2 : Pos} (hc : X.calm = true) (hg : Gl X "list") (hm : X.mg "list" = none) (hg2 : Gl X "range") (hm2 : X.mg "range" = none) (ha : QA X [a] ta) (hs : starEach [a] X.env = [(false,eval a X.env)]:=by rfl) (hs2 : starEach [(.Call (.Name "range" p2) [a] [] pos2)] X.env = [(false,eval (.Call (.Name "range" p2) [a] [] pos2) X.env)]:=by rfl) : QE X (.Call (.Name "list" p) [.Call (.Name "range" p2) [a] [] pos2] [] pos) (tLR ta):=⟨pe_listrange hc hg hm hg2 hm2 ha.h hs hs2⟩
theorem qpe_callB {id : String} (hc : CallR X (.builtin id) r) (hg : Gl X x) (hm : X.mg x = none) (hv : bootBuiltins x = some (.builtin id)) (ha : QA X (e :: es) t) (hn : x ≠ "__name__":=by decide) (hdb : (x == ("__debug__" : Str)) = false:=by decide) (he : starEach (e :: es) X.env = (false,eval e X.env) :: starEach es X.env:=by rfl) (hpl : (backTo pos (starEach es X.env)).any (·.1) = false:=by rfl) : QE X (.Call (.Name x p) (e :: es) [] pos) (tCB r t):=⟨pe_callB hc hg hm hv ha.h hn hdb he hpl⟩
theorem qpe_callTy (hc : CallR X (.type T) r) (hg : Gl X x) (hm : X.mg x = none) (hv : bootBuiltins x = some (.type T)) (ha : QA X (e :: es) t) (hn : x ≠ "__name__":=by decide) (hdb : (x == ("__debug__" : Str)) = false:=by decide) (he : starEach (e :: es) X.env = (false,eval e X.env) :: starEach es X.env:=by rfl) (hpl : (backTo pos (starEach es X.env)).any (·.1) = false:=by rfl) : QE X (.Call (.Name x p) (e :: es) [] pos) (tCB r t):=⟨pe_callTy hc hg hm hv ha.h hn hdb he hpl⟩
theorem qpm_appendK (K : W.Frag) (hK : X.K = K) {o e : Expr} {to te : TE} {apos cpos : Pos} (ho : QE X o to) (he : QE X e te) (hs : starEach [e] X.env = [(false,eval e X.env)]) (hbase : attributeBase o "append" X.env (eval o X.env) = eval o X.env) (hline : (apos.endLine == cpos.line) = true) : QE X (.Call (.Attribute o "append" apos) [e] [] cpos) (tBM K "list" rAppend to (tCons te tNil)):=⟨pm_appendK K hK ho.h he.h hs hbase hline⟩
theorem qpm_popAtK (K : W.Frag) (hK : X.K = K) {o e : Expr} {to te : TE} {apos cpos : Pos} (ho : QE X o to) (he : QE X e te) (hs : starEach [e] X.env = [(false,eval e X.env)]) (hbase : attributeBase o "pop" X.env (eval o X.env) = eval o X.env) (hline : (apos.endLine == cpos.line) = true) : QE X (.Call (.Attribute o "pop" apos) [e] [] cpos) (tBM K "list" rPopAt to (tCons te tNil)):=⟨pm_popAtK K hK ho.h he.h hs hbase hline⟩
theorem qpm_reverseK (K : W.Frag) (hK : X.K = K) {o : Expr} {to : TE} {apos cpos : Pos} (ho : QE X o to) (hbase : attributeBase o "reverse" X.env (eval o X.env) = eval o X.env) (hline : (apos.endLine == cpos.line) = true) : QE X (.Call (.Attribute o "reverse" apos) [] [] cpos) (tBM0 K "list" rReverse to):=⟨pm_reverseK K hK ho.h hbase hline⟩
theorem qpi_listK (K : W.Frag) (hK : X.K = K) {tg l : Expr} {tl : TE} (hl : QE X l tl) : QI X tg l (iList K tl):=⟨pi_listK K hK hl.h⟩
theorem qpi_tupK (K : W.Frag) (hK : X.K = K) {tg l : Expr} {tl : TE} (hl : QE X l tl) : QI X tg l (iTup K tl):=⟨pi_tupK K hK hl.h⟩
theorem qpi_range1 {a : Expr} {ta : TA} {p pos : Pos} (hg : Gl X "range") (hm : X.mg "range" = none) (ha : QA X [a] ta) (hs : starEach [a] X.env = [(false,eval a X.env)]:=by rfl) : QI X tg (.Call (.Name "range" p) [a] [] pos) (iRng1 ta):=⟨pi_range1 hg hm ha.h hs⟩
theorem qpgn (i : Nat) {x : Str} (hN : X.N.Nodup) (hi : X.N[i]? = some x:=by rfl) (hx : Loc X.env.scope x:=by first | exact Or.inl rfl | exact Or.inr rfl) (hf : X.fn x = true \/ X.env.scope.names.lookup x = some .local:=by first | exact .inl rfl | exact .inr rfl | assumption) : QG X (.Name x pos) (gName i):=⟨pgn i hN hi hx hf⟩
theorem qpg_tupK (K : W.Frag) (n : Nat) (hK : X.K = K) {es : List Expr} {k : Nat} {t : TGs} {pos : Pos} (hc : X.calm = true) (h : QGs X es t) (hn : (assignEach es X.env).length = n) (hst : (assignEach es X.env).findIdx? (·.1) = none) : QG X (.Tuple es k pos) (gTup K n t):=⟨pg_tupK K n hK hc h.h hn hst⟩
theorem qpg_sub {o i : Expr} {to ti : TE} {t : TSet} (ho : QE X o to) (hi : QE X i ti) (hs : PSet X t) (ha : ∀ v, assign (.Subscript o i pos) X.env v = (do
   let ov <- holding [v] (eval o X.env)
   let iv <- holding [v,ov] (eval i X.env)
   standAt pos
   holding [v,ov,iv] (setItem ov iv v)
   release [v,ov,iv] []):=by intro _; rfl) : QG X (.Subscript o i pos) (gSub to ti t):=⟨pg_sub ho.h hi.h hs ha⟩
theorem qpgs_cons {e : Expr} {es : List Expr} {t : TG} {u : TGs} (h1 : QG X e t) (h2 : QGs X es u) (hs : (assignEach (e :: es) X.env).map (·.2) = assign e X.env :: (assignEach es X.env).map (·.2):=by rfl) : QGs X (e :: es) (gCons t u):=⟨pgs_cons h1.h h2.h hs⟩
theorem qpgs_nil  : QGs X [] gNil:=⟨pgs_nil ⟩
theorem qpt_cmpR {op : CmpOp} {r : R2} (ho : OpR X (compareOp op) r) (ha : QE X a ta) (hb : QE X b tb) (hm : behindInMarks op b = false) : QT X (.Compare a [op] [b] pos) (tTest (tOp r ta tb)):=⟨pt_cmpR ho ha.h hb.h hm⟩
theorem qpt_chain {op op' : CmpOp} {r r' : R2} (ho : OpR X (compareOp op) r) (ho' : OpR X (compareOp op') r') (ha : QE X a ta) (hb : QE X b tb) (hc : QE X c tc) (hm : lastMarks [op,op'] [b,c] = false:=by with_unfolding_all rfl) : QT X (.Compare a [op,op'] [b,c] pos) (tTest (tChain r r' ta tb tc)):=⟨pt_chain ho ho' ha.h hb.h hc.h hm⟩
theorem qPWpt {X : Cx} {e : Expr} {t : TT} (h : QW X e t) : QT X e t:=⟨PW.pt h.h⟩
theorem qpw_and {rest : List Expr} (ha : QT X a tA) (hb : QW X (.BoolOp .And (b :: rest) pos) tB') : QW X (.BoolOp .And (a :: b :: rest) pos) (tAnd tA tB'):=⟨pw_and ha.h hb.h⟩
theorem qpw_and1 (ha : QT X a tA) : QW X (.BoolOp .And [a] pos) tA:=⟨pw_and1 ha.h⟩
theorem qpw_or {rest : List Expr} (ha : QT X a tA) (hb : QW X (.BoolOp .Or (b :: rest) pos) tB') : QW X (.BoolOp .Or (a :: b :: rest) pos) (tOr tA tB'):=⟨pw_or ha.h hb.h⟩
theorem qpw_or1 (ha : QT X a tA) : QW X (.BoolOp .Or [a] pos) tA:=⟨pw_or1 ha.h⟩
theorem qpt_not (ha : QT X a tA) : QT X (.UnaryOp .Not a pos) (tNot tA):=⟨pt_not ha.h⟩
theorem qpt_val {e : Expr} {t : TE} (h : QE X e t) (he : ∀ whole,isTrue e X.env whole = (do let v <- whole; standAt e.pos; holding [v] (truthy v)):=by intro _; rfl) : QT X e (tB t):=⟨pt_val h.h he⟩
theorem qpss_cons {st : Stmt} {rest : List Stmt} (h1 : QS X st t) (h2 : QSs X rest u) : QSs X (st :: rest) (tSeq t u):=⟨pss_cons h1.h h2.h⟩
theorem qpss_one {st : Stmt} (h1 : QS X st t) : QSs X [st] t:=⟨pss_one h1.h⟩
theorem qpss_nil  : QSs X [] tNext:=⟨pss_nil ⟩
theorem qps_ret (he : QE X e te) : QS X (.Return (some e) pos) (tRet te):=⟨ps_ret he.h⟩
theorem qps_expr (he : QE X e te) (hs : swapsWith e none pos.line X.env = pure false:=by rfl) : QS X (.Expr e pos) (tDrop te):=⟨ps_expr he.h hs⟩
theorem qpset (i : Nat) {x : Str} {pos' : Pos} (hN : X.N.Nodup) (he : QE X e te) (hi : X.N[i]? = some x:=by rfl) (hx : Loc X.env.scope x:=by first | exact Or.inl rfl | exact Or.inr rfl) (hs : swapsWith e (some (.Name x pos')) pos.line X.env = pure false:=by rfl) (hf : X.fn x = true \/ X.env.scope.names.lookup x = some .local:=by first | exact .inl rfl | exact .inr rfl | assumption) : QS X (.Assign [.Name x pos'] e pos) (tAsg te (gName i)):=⟨pset i hN he.h hi hx hs hf⟩
theorem qps_asg {tg e : Expr} {te : TE} {g : TG} (he : QE X e te) (hg : QG X tg g) (hs : swapsWithSole [tg] e pos.line X.env = pure false:=by rfl) (hw : swappedStores [tg] e X.env = pure none:=by rfl) (h1 : (assignEach [tg] X.env).map (·.2) = [assign tg X.env]:=by rfl) : QS X (.Assign [tg] e pos) (tAsg te g):=⟨ps_asg he.h hg.h hs hw h1⟩
theorem qps_augS {o i e : Expr} {to ti te : TE} {tget : V -> V -> Hp -> VK -> Prop} {tip : TIp} {tset : TSet} {op : Operator} {tpos : Pos} (ho : QE X o to) (hi : QE X i ti) (hg : PGet X tget) (he : QE X e te) (hp : PIp X op tip) (hs : PSet X tset) (ha : ∀ ov iv new,augStore i ov iv new = (do holding [new,ov,iv] (setItem ov iv new); release [new,ov,iv] []; pure .next):=by intros; rfl) : QS X (.AugAssign (.Subscript o i tpos) op e pos) (tAugS to ti te tget tip tset):=⟨ps_augS ho.h hi.h hg he.h hp hs ha⟩
theorem qps_if {c : Expr} {a b : List Stmt} {tc : TT} (hc : QT X c tc) (ha : QSs X a t) (hb : QSs X b u) : QS X (.If c a b pos) (tIfS tc t u):=⟨ps_if hc.h ha.h hb.h⟩
theorem qps_for {iter : Expr} {body : List Stmt} {wi : TI} {g : TG} {tb : TS} {pos : Pos} (hp : PassesOwn (model X.prog X.w) X.A X.env X.xe) (hc : X.calm = true) (hi : QI X tg iter wi) (hg : QG X tg g) (hb : QSs X body tb) (hs : ∀ x,foldedSetIterable iter X.env x = pure x:=by intro _; rfl) : QS X (.For tg iter body [] pos) (tFor wi g tb):=⟨ps_for hp hc hi.h hg.h hb.h hs⟩
theorem qps_while {c : Expr} {body : List Stmt} {tc : TT} {tb : TS} (hp : PassesOwn (model X.prog X.w) X.A X.env X.xe) (hc : QT X c tc) (hb : QSs X body tb) : QS X (.While c body [] pos) (tWhile tc tb):=⟨ps_while hp hc.h hb.h⟩
theorem qpts_nil {Y : Cx} : QTs Y [] (fun _ H Q=>Q true H):=⟨pts_nil ⟩
theorem qpts_one {Y : Cx} {c : Expr} {t : TT} (hc : QT Y c t) : QTs Y [c] t:=⟨pts_one hc.h⟩
theorem qpb_emit {te : TE} (hg : gens[d + 1]? = none) (hx : Y.xe = fun _ _=>False) (he : QE Y elt te) : QB Y elt gens scope pos d acc (tEmit acc te):=⟨pb_emit hg hx he.h⟩
theorem qpb_for {tg iter : Expr} {ifs : List Expr} {wi : TI} {g : TG} {ti : TT} {tb : TS} (hgd : gens[d + 1]? = some ⟨tg,iter,ifs,0⟩) (hx : Y.xe = fun _ _=>False) (hc : Y.calm = true) (hs : ∀ x,foldedSetIterable iter Y.env x = pure x) (hi : QI Y tg iter wi) (hg : QG Y tg g) (ht : QTs Y ifs ti) (hb : QB Y elt gens scope pos (d + 1) acc tb) : QB Y elt gens scope pos d acc (tFor wi g (tIfB ti tb)):=⟨pb_for hgd hx hc hs hi.h hg.h ht.h hb.h⟩
theorem qpa_cons (ha : QE X e te) (hr : QA X es t) (hs : starEach (e :: es) X.env = (false,eval e X.env) :: starEach es X.env:=by rfl) : QA X (e :: es) (tCons te t):=⟨pa_cons ha.h hr.h hs⟩
theorem qpa_nil  : QA X [] tNil:=⟨pa_nil ⟩
theorem qpo_none  : QO X none tNoPart:=⟨po_none ⟩
theorem qpo_some (h : QE X e te) : QO X (some e) (tPart te):=⟨po_some h.h⟩
theorem qpa_ints {X : Cx} {es : List Expr} {ns : List Int} (h : intsOf es = some ns) : QA X es (fun _ H Q=>Q (ns.map V.int) H):=⟨pa_ints h⟩
theorem qpe_lc {X : Cx} {elt tg iter : Expr} {ifs : List Expr} {rest : List Comprehension} {scope : Scope} {pos : Pos} {wi : TI} {g : TG} {ti : TT} {tb : Addr -> TS} (own : List Str) (cap : List (Str × Nat)) (hc : X.calm = true) (L : LcScope X scope own cap) (hi : QI X tg iter wi)
  (hin : ∀ (s₃ : Shared) (H₃ : Hp) (fp : List Addr) (acc : Addr),QG (X.inn scope (capN own cap) s₃ H₃ fp) tg g /\ QTs (X.inn scope (capN own cap) s₃ H₃ fp) ifs ti /\ QB (X.inn scope (capN own cap) s₃ H₃ fp) elt (⟨tg,iter,ifs,0⟩ :: rest) scope pos 0 acc (tb acc))
  (hs : ∀ x,foldedSetIterable iter X.env x = pure x:=by intro _; rfl) : QE X (.ListComp elt (⟨tg,iter,ifs,0⟩ :: rest) scope pos) (tLC wi g ti tb own cap):=⟨pe_lc own cap hc L hi.h (fun a b c d=>⟨(hin a b c d).1.h,(hin a b c d).2.1.h,(hin a b c d).2.2.h⟩) hs⟩
theorem qps_setlc {X : Cx} {i : Nat} {y : Str} {py spos : Pos} {elt tg iter : Expr} {ifs : List Expr} {rest : List Comprehension} {scope : Scope} {pos : Pos} {wi : TI} {g : TG} {ti : TT} {tb : Addr -> TS} (own : List Str) (cap : List (Str × Nat)) (hN : X.N.Nodup) (hyi : X.N[i]? = some y) (hy : X.env.scope.names.lookup y = some .local) (hc : X.calm = true) (L : LcScope X scope own cap) (hi : QI X tg iter wi)
  (hin : ∀ (s₃ : Shared) (H₃ : Hp) (fp : List Addr) (acc : Addr),QG (X.inn scope (capN own cap) s₃ H₃ fp) tg g /\ QTs (X.inn scope (capN own cap) s₃ H₃ fp) ifs ti /\ QB (X.inn scope (capN own cap) s₃ H₃ fp) elt (⟨tg,iter,ifs,0⟩ :: rest) scope pos 0 acc (tb acc))
  (hsw : swapsWith (.ListComp elt (⟨tg,iter,ifs,0⟩ :: rest) scope pos) (some (.Name y py)) spos.line X.env = pure true:=by rfl) (hs : ∀ x,foldedSetIterable iter X.env x = pure x:=by intro _; rfl) :
  QS X (.Assign [.Name y py] (.ListComp elt (⟨tg,iter,ifs,0⟩ :: rest) scope pos) spos) (tAsg (tLC wi g ti tb own cap) (gName i)):=⟨ps_setlc own cap hN hyi hy hc L hi.h (fun a b c d=>⟨(hin a b c d).1.h,(hin a b c d).2.1.h,(hin a b c d).2.2.h⟩) hsw hs⟩
theorem qmk {X : Cx} {b : List Stmt} {t : TS} {D : Ends} {σ : St} {H : Hp} (h : QSs X b t) (r : t D σ H) : ∃ t,PSs X b t /\ t D σ H:=⟨t,h.h,r⟩
section
variable {X : Cx}
theorem op_mulB : OpR X (binaryOp .Mult) (rI IntMulOk fun i j=>.int (i * j)):=opI fun _ _ _ _ _ _ _ hc q=>mul_int q hc
end
def Itz (K : W.Frag) (a b : Addr) : It :=
 ⟨fun i H=>∃ xs ys x y,SqL K H a xs /\ SqL K H b ys /\ xs[i]? = some x /\ ys[i]? = some y,fun i H z H'=>∃ p x y,H p = none /\ (∀ xs,SqL K H a xs -> xs[i]? = some x) /\ (∀ ys,SqL K H b ys -> ys[i]? = some y) /\ z = .ref p /\ H' = upd H p (.tup [x,y]),fun i H=>∃ xs ys,SqL K H a xs /\ SqL K H b ys /\ (xs.length <= i \/ ys.length <= i)⟩
section
def iZip (K : W.Frag) (ta : TA) : TI:=fun σ H R=>ta σ H fun vs H1=>∃ a b,vs = [.ref a,.ref b] /\ (∃ xs,SqL K H1 a xs) /\ (∃ ys,SqL K H1 b ys) /\ R (Itz K a b) H1
end
end L2
namespace M36
def Bd (n B : Nat) (M : Nat -> Nat -> Int) : Prop:=∀ i j,i < n -> j < n -> -(2 ^ B) < M i j /\ M i j < 2 ^ B
end M36
namespace L2
open PySem PySem.Spec PyProof.Rows M36
def TrX (h base : Heap) (e : Addr) (cls a0 fl : Value) : Prop :=
 ∃ oe vs T oT ts,h.get? e = some oe /\ (oe.cls = cls /\ vs[0]? = some a0 /\ vs[2]? = some .none) /\ oe.data = .fields vs /\ vs[1]? = some (.ref T) /\ base.get? T = none /\ T ≠ e /\ h.get? T = some oT /\ oT.data = .fields ts /\ ts[3]? = some fl
def FlyX (base : Heap) (l : List Env) (e : Addr) (cls a0 : Value) (h : Heap) : Prop:=base.StaysIn h /\ base.get? e = none /\ h.FunFrames base l /\ TrX h base e cls a0 .none
def HeldX (base : Heap) (l : List Env) (e : Addr) (cls a0 : Value) (L : Addr) (h : Heap) : Prop:=base.StaysIn h /\ base.get? e = none /\ h.FunFrames base l /\ TrX h base e cls a0 (rawInt L)
theorem FlyX.own {base h : Heap} {l : List Env} {e : Addr} {cls a0 : Value} (x : FlyX base l e cls a0 h) : ∃ oe vs,h.get? e = some oe /\ oe.cls = cls /\ oe.data = .fields vs /\ vs[2]? = some .none :=
 let ⟨_,_,_,oe,vs,_,_,_,he,hc,hd,_⟩:=x; ⟨oe,vs,he,hc.1,hd,hc.2.2⟩
section
variable {M : Model} {A : Around} {E : Value -> Shared -> Prop} {s : Shared} {base : Heap} {env : Env} {outer l : List Env} {L e : Addr} {oe : Obj} {vs : Array Value} {cls a0 : Value} {Q : Unit -> Shared -> Prop}
theorem entryX {head : Value} {nx : Bool} (hfr : A.frames = some (env :: outer)) (hl : s.heap.FunFrames base (env :: outer)) (hf : env.frame = some L)
  (he : s.heap.get? e = some oe) (hkb : base.StaysIn s.heap) (hen : base.get? e = none) (hd : oe.data = .fields vs) (hsz : 1 < vs.size) (h0 : vs[0]? = some a0) (h2 : vs[2]? = some .none)
  (h : ∀ h',base.StaysIn h' -> h'.FunFrames base (env :: outer) -> TrX h' base e oe.cls a0 (rawInt L) -> s.heap.UpToSlots h' -> Q () { s with heap:=h' }) :
  wpAny M A (do setField (.ref e) 1 (<- EntryCells.newEntry head (<- frameOf env) .none (rawInt L) .none (<- entryPlaceOf L nx))) Q E s:=by
 have nf : e ∉ (env :: outer).filterMap (·.frame):=fun z=>by
  obtain ⟨_,o,q,n⟩:=hl.mem z
  rw [he] at q; cases q
  exact n vs hd
 refine wpAny_bind (wpAny_frameOf_fun hfr hl hf fun h1 k1=>?_)
 refine wpAny_bind (wpAny_entryPlaceOf fun pl hp=>?_)
 unfold EntryCells.newEntry newFields
 refine wpAny_bind (wpAny_newObj_type ?_ (hp.sizeOk5 _ _ _ _ _))
 generalize ho : ({ cls:=.type "traceback",dict:=none,data:=.fields ([head,.ref L,.none,rawInt L,.none] ++ (if pl.isEmpty then List.replicate 6 Value.none else pl)).toArray } : Obj) = oT
 have e1 : h1.get? e = some oe:=(k1.2.1 e nf).trans he
 have b1 : base.StaysIn h1:=fun b o q=>(k1.2.1 b fun z=>by rw [(hl.mem z).1] at q; cases q).trans (hkb b o q)
 have ne : h1.objs.size ≠ e:=Nat.ne_of_gt (Heap.lt_size e1)
 have e2 : (h1.push oT).get? e = some oe:=Heap.get?_push_of_some oT e1
 have d3:=Obj.data_mapFields hd (·.setIfInBounds 1 (Value.ref h1.objs.size))
 refine wpAny_setField e2 hd hsz ?_
 have t2 : (h1.push oT).get? h1.objs.size = some oT:=by rw [<- ho]; exact Heap.get?_push_size _ rfl
 have keep : ∀ b o,b ≠ e -> h1.get? b = some o -> ((h1.push oT).update e (Obj.mapFields (·.setIfInBounds 1 (Value.ref h1.objs.size)))).get? b = some o:=fun b o hb q=>by
  rw [Heap.get?_update_other _ _ (Ne.symm hb)]; exact Heap.get?_push_of_some _ q
 have noe : ∀ b o,s.heap.get? b = some o -> (∀ ws,o.data ≠ .fields ws) -> b ≠ e:=fun b o q n z=>by
  rw [z,he] at q; cases q; exact n vs hd
 have up : ∀ b o,s.heap.get? b = some o -> (∀ ws,o.data ≠ .fields ws) -> ∃ sl,((h1.push oT).update e (Obj.mapFields (·.setIfInBounds 1 (Value.ref h1.objs.size)))).get? b = some { o with slots:=sl }:=fun b o q n=>by
  obtain ⟨sl,z⟩:=k1.2.2 b o q
  exact ⟨sl,keep b _ (noe b o q n) z⟩
 refine h _ (fun b o q=>keep b o (fun z=>by rw [z,hen] at q; cases q) (b1 b o q)) (hl.of_keeps fun b o q n=>?_) ?_ up
 ·obtain ⟨sl,z⟩:=up b o q n
  exact ⟨_,z,rfl⟩
 ·refine ⟨_,_,h1.objs.size,oT,_,Heap.get?_update_self _ e2 (Obj.isFreed_of_fields d3),⟨Obj.cls_mapFields _ _,?_,?_⟩,d3,by simp [hsz],b1.fresh,ne,?_,by rw [<- ho],?_⟩
  ·rw [Array.getElem?_setIfInBounds_ne (by decide)]; exact h0
  ·rw [Array.getElem?_setIfInBounds_ne (by decide)]; exact h2
  ·rw [Heap.get?_update_other _ _ (Ne.symm ne)]; exact t2
  ·first | (simp; done) | (rcases hp with rfl | ⟨_,_,_,_,_,_,_,rfl⟩ <;> simp)
theorem noteX (hfr : A.frames = some (env :: outer)) (hl : s.heap.FunFrames base (env :: outer)) (hf : env.frame = some L)
  (he : s.heap.get? e = some oe) (hkb : base.StaysIn s.heap) (hen : base.get? e = none) (hd : oe.data = .fields vs) (h0 : vs[0]? = some a0) (h2 : vs[2]? = some .none)
  (h1 : vs[1]? = some .none \/ ∃ T oT ts,vs[1]? = some (.ref T) /\ base.get? T = none /\ T ≠ e /\ s.heap.get? T = some oT /\ oT.data = .fields ts /\ ts[3]? = some .none)
  (h : ∀ h',base.StaysIn h' -> h'.FunFrames base (env :: outer) -> TrX h' base e oe.cls a0 (rawInt L) -> s.heap.UpToSlots h' -> Q () { s with heap:=h' }) : wpAny M A (noteFrame (.ref e) env) Q E s:=by
 unfold noteFrame
 simp only [hf]
 rcases h1 with h1 | ⟨T,oT,ts,h1,bT,nT,hT,dT,t3⟩
 ·refine wpAny_bind (wpAny_field he hd h1 ?_)
  rw [if_neg (by decide)]
  exact entryX hfr hl hf he hkb hen hd (Array.getElem?_eq_some_iff.mp h1).1 h0 h2 h
 ·refine wpAny_bind (wpAny_field he hd h1 ?_)
  rw [if_pos (show (Value.ref T != Value.none) = true from by simp)]
  refine wpAny_bind (wpAny_field hT dT t3 ?_)
  rw [if_neg (show ¬ ((Value.none == rawInt L) = true) from by simp [rawInt])]
  refine wpAny_bind (wpAny_setField hT dT (Array.getElem?_eq_some_iff.mp t3).1 ?_)
  have oth : ∀ b,b ≠ T -> (s.heap.update T (Obj.mapFields (·.setIfInBounds 3 Value.none))).get? b = s.heap.get? b:=fun b hb=>Heap.get?_update_other _ _ (Ne.symm hb)
  have noT : ∀ b o,s.heap.get? b = some o -> (∀ ws,o.data ≠ .fields ws) -> b ≠ T:=fun b o q n z=>by
   rw [z,hT] at q; cases q; exact n ts dT
  refine entryX hfr (hl.of_keeps fun b o q n=>⟨o,(oth b (noT b o q n)).trans q,rfl⟩) hf ((oth e (Ne.symm nT)).trans he) (fun b o q=>(oth b fun z=>by rw [z,bT] at q; cases q).trans (hkb b o q)) hen hd (Array.getElem?_eq_some_iff.mp h1).1 h0 h2 fun h' x1 x2 x3 x4=>?_
  exact h h' x1 x2 x3 fun b o q n=>x4 b o ((oth b (noT b o q n)).trans q) n
theorem flightX {fl : Value} (hkb : base.StaysIn s.heap) (hl : s.heap.FunFrames base l) (ht : TrX s.heap base e cls a0 fl)
  (h : ∀ h',base.StaysIn h' -> h'.FunFrames base l -> TrX h' base e cls a0 .none -> s.heap.UpToSlots h' -> Q () { s with heap:=h' }) : wpAny M A (setFlight (.ref e) none) Q E s:=by
 obtain ⟨oe,vs,T,oT,ts,he,hc,hd,h1,bT,nT,hT,dT,t3⟩:=ht
 have oth : ∀ b,b ≠ T -> (s.heap.update T (Obj.mapFields (·.setIfInBounds 3 ((none : Option Addr).elim Value.none fun f=>rawInt f)))).get? b = s.heap.get? b:=fun b hb=>Heap.get?_update_other _ _ (Ne.symm hb)
 have noT : ∀ b o,s.heap.get? b = some o -> (∀ ws,o.data ≠ .fields ws) -> b ≠ T:=fun b o q n z=>by
  rw [z,hT] at q; cases q; exact n ts dT
 have z3 : 3 < ts.size:=(Array.getElem?_eq_some_iff.mp t3).1
 unfold setFlight
 refine wpAny_bind (wpAny_field he hd h1 ?_)
 rw [if_pos (show (Value.ref T != Value.none) = true from by simp)]
 refine wpAny_setField hT dT z3 (h _ (fun b o q=>(oth b fun z=>by rw [z,bT] at q; cases q).trans (hkb b o q)) (hl.of_keeps fun b o q n=>⟨o,(oth b (noT b o q n)).trans q,rfl⟩) ?_ fun b o q n=>⟨o.slots,(oth b (noT b o q n)).trans q⟩)
 exact ⟨oe,vs,T,_,_,(oth e (Ne.symm nT)).trans he,hc,hd,h1,bT,nT,Heap.get?_update_self _ hT (Obj.isFreed_of_fields (Obj.data_mapFields dT _)),Obj.data_mapFields dT _,by simp [z3]⟩
theorem leaves_onX (hfr : A.frames = some (env :: outer)) (hf : env.frame = some L) (fl : FlyX base (env :: outer) e cls a0 s.heap)
  (hQ : ∀ h',FlyX base outer e cls a0 h' -> s.heap.UpToSlots h' -> Q () { s with heap:=h' }) : wpAny M A (leaving env (.ref e)) Q E s:=by
 obtain ⟨f1,f2,f3,oe,vs,T,oT,ts,he,⟨rfl,h0,h2⟩,hd,h1,r⟩:=fl
 unfold leaving
 refine wpAny_bind (noteX hfr f3 hf he f1 f2 hd h0 h2 (.inr ⟨T,oT,ts,h1,r⟩) fun h' x1 x2 x3 x4=>?_)
 refine flightX (s:={ s with heap:=h' }) x1 x2 x3 fun h'' y1 y2 y3 y4=>?_
 obtain ⟨_,_,y2⟩:=y2
 exact hQ h'' ⟨y1,f2,y2,y3⟩ (x4.trans y4)
theorem leaves_madeX {h : Heap} {args : List Value} (hfr : A.frames = some (env :: outer)) (hf : env.frame = some L) (hkb : base.StaysIn h) (hl : h.FunFrames base (env :: outer)) (hx : Heap.MadeExcOf h s.heap e cls args)
  (hQ : ∀ h' t,FlyX base outer e cls (.ref t) h' -> h'.TupAt t args -> base.get? t = none -> s.heap.UpToSlots h' -> Q () { s with heap:=h' }) : wpAny M A (leaving env (.ref e)) Q E s:=by
 obtain ⟨t,he,htn,ht⟩:=hx.there
 have fresh : ∀ b,h.get? b = none -> base.get? b = none:=fun b hb=>by
  cases q : base.get? b with
  | none=>rfl
  | some o=>have:=hkb b o q; rw [hb] at this; cases this
 unfold leaving
 refine wpAny_bind (noteX (a0:=.ref t) hfr (hl.of_keeps fun b o q _=>⟨o,hx.keeps b o q,rfl⟩) hf he (fun b o q=>hx.keeps b o (hkb b o q)) (fresh e hx.new) rfl rfl rfl (.inl rfl) fun h' x1 x2 x3 x4=>?_)
 refine flightX (s:={ s with heap:=h' }) x1 x2 x3 fun h'' y1 y2 y3 y4=>?_
 obtain ⟨_,_,y2⟩:=y2
 exact hQ h'' t ⟨y1,fresh e hx.new,y2,y3⟩ (Heap.TupAt.of_slots ⟨_,_,ht,rfl,rfl⟩ (x4.trans y4)) (fresh t htn) (x4.trans y4)
theorem looks_onX (hfr : A.frames = some (env :: outer)) (hf : env.frame = some L) (fl : FlyX base (env :: outer) e cls a0 s.heap)
  (hQ : ∀ h',HeldX base (env :: outer) e cls a0 L h' -> s.heap.UpToSlots h' -> Q () { s with heap:=h' }) : wpAny M A (noteFrame (.ref e) env) Q E s:=by
 obtain ⟨f1,f2,f3,oe,vs,T,oT,ts,he,⟨rfl,h0,h2⟩,hd,h1,r⟩:=fl
 exact noteX hfr f3 hf he f1 f2 hd h0 h2 (.inr ⟨T,oT,ts,h1,r⟩) fun h' x1 x2 x3 x4=>hQ h' ⟨x1,f2,x2,x3⟩ x4
theorem landsX (hh : HeldX base l e cls a0 L s.heap) (hQ : ∀ h',FlyX base l e cls a0 h' -> s.heap.UpToSlots h' -> Q () { s with heap:=h' }) : wpAny M A (setFlight (.ref e) none) Q E s :=
 flightX hh.1 hh.2.2.1 hh.2.2.2 fun h' x1 x2 x3 x4=>hQ h' ⟨x1,hh.2.1,x2,x3⟩ x4
theorem lands_againX (hh : FlyX base l e cls a0 s.heap) (hQ : ∀ h',FlyX base l e cls a0 h' -> s.heap.UpToSlots h' -> Q () { s with heap:=h' }) : wpAny M A (setFlight (.ref e) none) Q E s :=
 flightX hh.1 hh.2.2.1 hh.2.2.2 fun h' x1 x2 x3 x4=>hQ h' ⟨x1,hh.2.1,x2,x3⟩ x4
end
open PySem.Calls
def NoCtx (oe : Obj) : Prop:=∃ ws,oe.data = .fields ws /\ ws[2]? = some .none
def XOf (oe : Obj) (C : Addr) : Prop:=oe.cls = .ref C /\ NoCtx oe
theorem ObjOk.there {P : Program} {w : World} {H : Hp} {h : Heap} {a : Addr} {o : HO} (x : ObjOk P w H h a o) : ∃ ob,h.get? a = some ob:=by
 cases o with
 | lst xs=>obtain ⟨_,_,_,_,e⟩:=x; exact ⟨_,e⟩
 | tup xs=>obtain ⟨_,_,_,o,e,_⟩:=x; exact ⟨_,e⟩
 | dK kvs=>obtain ⟨_,_,_,_,o,_,_,e,_⟩:=x; exact ⟨_,e⟩
 | dT kvs=>obtain ⟨_,_,_,_,o,_,_,e,_⟩:=x; exact ⟨_,e⟩
 | set S n=>obtain ⟨o,_,_,_,e,_⟩:=x; exact ⟨_,e⟩
 | ins C dx fs=>obtain ⟨_,_,_,e,_⟩:=x; exact ⟨_,e⟩
 | own y=>obtain ⟨_,e⟩:=x; exact ⟨_,e⟩
 | xd fs=>obtain ⟨_,⟨_,_,_,e,_⟩,_⟩:=x; exact ⟨_,e⟩
 | rng lo hi=>obtain ⟨_,_,_,e⟩:=x; exact ⟨_,e⟩
 | frz ob u=>obtain ⟨e,_⟩:=x; exact ⟨_,e⟩
 | tbl ps=>exact ⟨_,(show h.get? a = some _ from x)⟩
 | met f y=>exact ⟨_,(show h.get? a = some _ from x)⟩
 | ext φ=>obtain ⟨_,⟨_,e⟩,_⟩:=x; exact ⟨_,e⟩
def Fly (base : Heap) (l : List Env) (ea : Addr) (cls : Value) (H : Hp) (h0 h : Heap) : Prop :=
 ∃ (B : Heap) (a0 : Value),base.StaysIn B /\ FlyX B l ea cls a0 h /\ ∀ b,B.get? b = none -> b ∉ frs l -> (∃ o,h.get? b = some o) -> h0.get? b = none /\ H b = none
def CXE (P : Program) (w : World) (base : Heap) : CXT:=fun outer H s E e s' =>
 ∃ (ea : Addr) (cls : Value) (H' : Hp),e = .ref ea /\ s'.os = s.os /\ AllBare s'.gens /\ Un (frs outer) [] H H' s.heap s'.heap /\ HOk P w H' s'.heap /\ Fly base outer ea cls H' s.heap s'.heap /\ E cls none H'
theorem passF {P : Program} {w : World} {base : Heap} {X : Cx} : Passes (CXE P w base) X E0:=fun _ _ _ _ _ _ _ h=>by
 obtain ⟨_,_,_,_,_,_,_,_,_,z⟩:=h; exact z.elim
section
variable {X : Cx} {pins : List (Addr × Obj)} {σ : St} {H : Hp} {s : Shared}
theorem Inv.in0 (I : Inv X pins σ H s) (hex : X.ex = []) {b : Addr} (h : s.heap.get? b = none) : X.s₀.heap.get? b = none:=by
 cases q : X.s₀.heap.get? b with
 | none=>rfl
 | some o =>
  obtain ⟨o',e⟩:=I.base.there b o q (by rw [hex]; simp)
  rw [h] at e; cases e
theorem leave_core {B : Heap} {ea : Addr} {cls a0 : Value} {h' : Heap} {E : XK} (I : Inv X pins σ H s) (hex : X.ex = []) (hst : X.stack = X.env :: X.outer) (hf : X.env.frame = some X.env.locals)
  (hb : X.base.StaysIn B) (hB : B.StaysIn s.heap) (fl : FlyX B X.outer ea cls a0 h') (up : s.heap.UpToSlots h')
  (pr : ∀ b,B.get? b = none -> b ∉ frs X.stack -> (∃ o,s.heap.get? b = some o) -> X.s₀.heap.get? b = none /\ H b = none) (hE : E cls none H) :
  CXE X.prog X.w X.base X.outer X.H₀ X.s₀ E (.ref ea) { s with heap:=h' }:=by
 have hB' : B.StaysIn h':=fl.1
 have inB : ∀ b o,s.heap.get? b = some o -> b ∉ frs X.stack -> (X.s₀.heap.get? b ≠ none \/ H b ≠ none) -> B.get? b = some o:=by
  intro b o e hb hp
  cases q : B.get? b with
  | some o'=>have:=hB b o' q; rw [e] at this; rw [this]
  | none =>
   obtain ⟨h1,h2⟩:=pr b q hb ⟨o,e⟩
   rcases hp with z | z
   ·exact absurd h1 z
   ·exact absurd h2 z
 have L0 : ∀ b o,X.s₀.heap.get? b = some o -> b ≠ X.env.locals:=fun b o e=>Nat.ne_of_lt (Nat.lt_of_lt_of_le (Heap.lt_size e) I.ok.above)
 have fsS : frs X.stack = X.env.locals :: X.fs:=by rw [hst]; unfold frs; rw [List.filterMap_cons,hf]; rfl
 have nS : ∀ b o,X.s₀.heap.get? b = some o -> b ∉ X.fs -> b ∉ frs X.stack:=fun b o e hb z=>by
  rw [fsS] at z
  rcases mem_cons.mp z with z | z
  ·exact L0 b o e z
  ·exact hb z
 have hx0 : ∀ b : Addr,b ∉ X.ex:=fun b=>by rw [hex]; simp
 refine ⟨ea,cls,H,rfl,I.os,I.bare,⟨fun b o e n hbf _=>?_,fun b o e n hbf _=>?_,fun b o e n _=>I.base.free b o e n (hx0 b),fun b o e _=>?_,I.base.tups,I.base.frzs,I.base.tbls⟩,fun b u e=>?_,⟨B,a0,hb,fl,fun b hbn hbf he=>?_⟩,hE⟩
 ·exact hB' b o (inB b o (I.base.keep b o e n hbf (hx0 b)) (nS b o e hbf) (.inl (by rw [e]; simp)))
 ·obtain ⟨sl,q⟩:=I.base.slot b o e n hbf (hx0 b)
  obtain ⟨_,o',q',nf⟩:=I.funs.mem hbf
  rw [q] at q'; cases q'
  obtain ⟨sl',q''⟩:=up b _ q nf
  exact ⟨sl',q''⟩
 ·obtain ⟨o',q⟩:=I.base.there b o e (hx0 b)
  by_cases hbf : b ∈ X.fs
  ·obtain ⟨_,o'',q',nf⟩:=I.funs.mem hbf
   rw [q] at q'; cases q'
   obtain ⟨sl',q''⟩:=up b _ q nf
   exact ⟨_,q''⟩
  ·exact ⟨o',hB' b o' (inB b o' q (nS b o e hbf) (.inl (by rw [e]; simp)))⟩
 ·refine (I.hok b u e).stay (fun c v hc q=>?_) (fun _ q=>q) (fun _ _ q=>q)
  have hcn : H c ≠ none:=by
   rcases hc with z | z
   ·rw [z,e]; simp
   ·rw [z]; simp
  exact hB' c v (inB c v q (fun z=>hcn (I.stkFree c z)) (.inr hcn))
 ·obtain ⟨o,e⟩:=he
  cases q : s.heap.get? b with
  | some ob =>
   by_cases hL : b = X.env.locals
   ·rw [hL]; exact ⟨Heap.get?_none_of_le I.ok.above,I.free⟩
   ·refine pr b hbn (fun z=>?_) ⟨ob,q⟩
    rw [fsS] at z
    rcases mem_cons.mp z with z | z
    ·exact hL z
    ·exact hbf z
  | none =>
   refine ⟨I.in0 hex q,?_⟩
   cases z : H b with
   | none=>rfl
   | some u =>
    obtain ⟨ob,q'⟩:=ObjOk.there (I.hok b u z)
    rw [q] at q'; cases q'
end
def RaiseOk (X : Cx) (E : XK) : Prop:=∀ (pins : List (Addr × Obj)) (σ : St) (H : Hp) (s : Shared) (ea : Addr) (cls : Value) (vs : List Value) (h' : Heap),Inv X pins σ H s -> Heap.MadeExcOf s.heap h' ea cls vs -> E cls none H -> X.xe (.ref ea) { s with heap:=h' }
section
variable {P : Program} {w : World} {K : W.Frag} {mg : Str -> Option Value} {base : Heap} {N : List Str} {qual : Str} {scope : Scope} {f : Addr} {cd : Value} {A : Around} {outer : List Env} {s0 : Shared} {H0 : Hp} {E : XK}
theorem raiseOk_cx : RaiseOk (cxOf (CXE P w base) P w K mg base N qual scope f cd A outer s0 H0 E) E:=by
 intro pins σ H s ea cls vs h' I hx hE
 have hin : ∀ env ∈ (cxOf (CXE P w base) P w K mg base N qual scope f cd A outer s0 H0 E).stack,∀ b,env.frame = some b -> b ∈ frs (cxOf (CXE P w base) P w K mg base N qual scope f cd A outer s0 H0 E).stack:=fun env he b hb=>List.mem_filterMap.mpr ⟨env,he,hb⟩
 show wpAny _ _ (leaving _ _) _ _ _
 refine leaves_madeX (base:=PySem.W.hideAll s.heap (frs (cxOf (CXE P w base) P w K mg base N qual scope f cd A outer s0 H0 E).stack)) (h:=s.heap) I.ok.frames rfl (fun b o q=>PySem.W.of_hideAll _ q) (PySem.W.funFrames_hide I.stack hin) hx fun h'' t fl tup bt up=>?_
 refine leave_core I rfl rfl rfl (fun b o e=>PySem.W.hideAll_get _ (I.bk b o e) fun hm=>?_) (fun b o q=>PySem.W.of_hideAll _ q) fl ((Heap.UpToSlots.of_keeps hx.keeps).trans up) (fun b hbn hbf he=>?_) hE
 ·have:=(I.stack.mem hm).1
  rw [show (cxOf (CXE P w base) P w K mg base N qual scope f cd A outer s0 H0 E).base.get? b = some o from e] at this
  cases this
 ·obtain ⟨o,e⟩:=he
  rw [PySem.W.hideAll_get _ e hbf] at hbn
  cases hbn
theorem passE : Passes (CXE P w base) (cxOf (CXE P w base) P w K mg base N qual scope f cd A outer s0 H0 E) E:=by
 rintro pins σ H s e s' I ⟨ea,cls,H',rfl,os,bare,un,hok,⟨B,a0,hb,fl,pr⟩,hE⟩
 have I':=I.call' (ch:=[]) os un hok bare (fun _ z=>nomatch z)
 show wpAny _ _ (leaving _ _) _ _ _
 refine leaves_onX I.ok.frames rfl fl fun h' fl' up=>?_
 refine leave_core I' rfl rfl rfl hb fl.1 fl' up (fun b h1 h2 h3=>?_) hE
 obtain ⟨q1,q2⟩:=pr b h1 h2 h3
 exact ⟨I.in0 rfl q1,q2⟩
end
abbrev bmV : List Value:=[.type "ValueError",.type "Exception",.type "BaseException",.type "object"]
structure ExC (K : W.Frag) (mg : Str -> Option Value) (x : Str) (C : Addr) : Prop where
 mgx : mg x = some (.ref C)
 exc : PySem.W.excIn K C bmV "ValueError.__new__" = true
theorem ExC.own {K : W.Frag} {mg : Str -> Option Value} {x : Str} {C : Addr} {h : Heap} (c : ExC K mg x C) (X : K.In h) : OwnCls x C bmV "ValueError.__new__" mg h:=by
 obtain ⟨hm,hq⟩:=c
 refine ⟨hm,?_⟩
 unfold PySem.W.excIn at hq
 split at hq
 case h_2=>cases hq
 case h_1 dk cdk slk hok =>
  split at hq
  case h_2=>cases hq
  case h_1 Ck bk a0 a1 a2 a3 nk a5 hmro hsl =>
   rw [Bool.and_eq_true,Bool.and_eq_true,Bool.and_eq_true,Bool.and_eq_true,Bool.and_eq_true,beq_iff_eq,beq_iff_eq,beq_iff_eq] at hq
   obtain ⟨⟨⟨⟨⟨e1,e2⟩,e3⟩,e4⟩,e5⟩,e6⟩:=hq
   have e3 : cdk.hasDel = false:=by simpa using e3
   have hok':=X _ _ hok
   cases e1
   cases e2
   cases cdk with
   | mk x1 x2 x3 x4 x5 x6 x7 x8 x9 x10 x11 =>
    cases slk with
    | mk lk =>
     cases hmro
     cases e3
     cases hsl
     exact ⟨_,_,_,_,_,_,_,_,_,_,_,_,_,_,_,_,_,hok',Heap.Ns.of_isNs (PySem.W.isNs_of_in X e5),PySem.W.nsMap_none_of_in X e5 e6,PySem.W.tail_of_in X e4⟩
section
variable {X : Cx} {pos np cpos : Pos} {x : Str} {C : Addr} {E : XK} {e0 : Expr} {es : List Expr} {ta : TA}
def tRaise (C : Addr) (E : XK) (ta : TA) : TS:=fun _ σ H=>ta σ H fun vs H1=>vs.length <= sizeLine /\ E (.ref C) none H1
theorem ps_raise (hx : RaiseOk X E) (hc : X.calm = true) (c : ExC X.K X.mg x C) (hg : Gl X x) (ha : PA X (e0 :: es) ta) (hdb : (x == ("__debug__" : Str)) = false:=by decide)
  (he : starEach (e0 :: es) X.env = (false,eval e0 X.env) :: starEach es X.env:=by rfl) (hpl : (backTo cpos (starEach es X.env)).any (·.1) = false:=by rfl) :
  PS X (.Raise (some (.Call (.Name x np) (e0 :: es) [] cpos)) none pos) (tRaise C E ta):=by
 intro pins s σ H D I h
 obtain ⟨tl,N,nm,q,bs,hdct,sn,sub,ab,col,dd,k0,k1,k2,k3,k5,mN,hC,hN,hni,T⟩:=(c.own I.mod.kin).obj
 refine wpAny_Raise_call_subU (C:=C) (nm:=nm) (q:=q) (N:=N) (bs:=bs) (bm:=tl) (hdct:=hdct) (sn:=sn) (sub:=sub) (ab:=ab) (col:=col) (dd:=dd) (k0:=k0) (k1:=k1) (k2:=k2) (k3:=k3) (k5:=k5) PySem.F.excBase_ValueError (by decide +kernel) PySem.F.excBase_ValueError (mN:=mN) (T.hasType (by decide +kernel)) (I.ok.hd hc) ?_ hni (ld_glob I hg c.mgx ⟨rfl,?_⟩ hdb)
 ·rw [he]
  show (false || (backTo cpos (starEach es X.env)).any (·.1)) = false
  rw [hpl]; rfl
 have ha':=ha cpos pins s σ H _ I h
 rw [he] at ha' ⊢
 refine Calls.evalArgs_plain (thn ha' fun us s1 ⟨vs,H1,I1,r1,hl,q1⟩=>?_)
 exact ⟨rfl,by rw [<- r1.length]; exact hl,I1.bk _ _ hC,hN.keeps I1.bk,T.keeps I1.bk,fun h' e hm=>hx pins σ H1 s1 e (.ref C) us h' I1 hm q1⟩
end
structure DfE (P : Program) (w : World) (K : W.Frag) (mg : Str -> Option Value) (base : Heap) (x : Str) (ps : List Str) (k : Nat) (sp : Sp) : Prop where
 ex : ∃ f fd,FnOk P w K mg base (CXE P w base) k f fd ps sp /\ mg x = some (.ref f) /\ PySem.W.keepIn K (.ref f) = true /\ Binds K fd ps []
theorem pe_dfE {X : Cx} {x : Str} {ps : List Str} {k : Nat} {sp : Sp} {p pos : Pos} {e : Expr} {es : List Expr} {t : TA} {E : XK} (D : DfE X.prog X.w X.K X.mg X.base x ps k sp) (hx : Passes (CXE X.prog X.w X.base) X E) (hr : Room k X.A) (ha : PA X (e :: es) t) (hg : Gl X x:=by rfl) (hdb : (x == ("__debug__" : Str)) = false:=by decide)
  (he : starEach (e :: es) X.env = (false,eval e X.env) :: starEach es X.env:=by rfl) (hpl : (backTo pos (starEach es X.env)).any (·.1) = false:=by rfl) : PE X (.Call (.Name x p) (e :: es) [] pos) (tCall sp [] E t):=by
 obtain ⟨f,fd,F,hm,hk,hb⟩:=D.ex
 exact pe_call F hr hg hm hk hb .nil hx ha hdb he hpl
theorem PS.nox {X : Cx} {st : Stmt} {t : TS} (h : PS X.nox st t) : PS X st t:=fun pins s σ H D I hw =>
 wpAny_mono (h pins s σ H D (I.wish _) hw) (fun _ _ q=>q.unwish) fun _ _ z=>False.elim z
theorem Fun.okE {P : Program} {w : World} {K : W.Frag} {mg : Str -> Option Value} {base : Heap} {x qual : Str} {st : Stmt} {f : Addr} {fd : FuncData} {N ps : List Str} {k : Nat} {sp : Sp} (F : Fun K x qual st f fd) (S : FnScope N ps (defScope st)) (len : ∀ vs H Q E,sp vs H Q E -> vs.length = ps.length)
  (hbody : ∀ (cdv : Value) (A : Around) (outer : List Env) (s : Shared) (H : Hp) (vs : List V) (Q : VK) (E : XK),Room k (A.deeper (envOfC qual (defScope st) s.heap.objs.size f cdv)) -> sp vs H Q E ->
   ∃ t,PSs (cxOf (CXE P w base) P w K mg base N qual (defScope st) f cdv A outer s H E) (defBody st) t /\ t { nx:=fun _ H'=>Q .non H',rt:=Q } (start N vs) H) : FnOk P w K mg base (CXE P w base) (k + 1) f fd ps sp:=by
 obtain ⟨oc,od,kV,doc,pm,an,cdv,ct,osl,rfl,lk,hcd⟩:=F.ex
 exact fn_of lk hcd S len fun A outer s H vs Q E hr hsp=>hbody cdv A outer s H vs Q E hr hsp
section
variable {X : Cx}
theorem qnT {e : Expr} {t : TT} (h : QT X.nox e t) : QT X e t:=⟨h.h.nox⟩
theorem qnS {e : Stmt} {t : TS} (h : QS X.nox e t) : QS X e t:=⟨h.h.nox⟩
theorem qps_raise {x : Str} {C : Addr} {E : XK} {e0 : Expr} {es : List Expr} {ta : TA} {pos np cpos : Pos} (hx : RaiseOk X E) (hc : X.calm = true) (c : ExC X.K X.mg x C) (hg : Gl X x) (ha : QA X (e0 :: es) ta) (hdb : (x == ("__debug__" : Str)) = false:=by decide)
  (he : starEach (e0 :: es) X.env = (false,eval e0 X.env) :: starEach es X.env:=by rfl) (hpl : (backTo cpos (starEach es X.env)).any (·.1) = false:=by rfl) :
  QS X (.Raise (some (.Call (.Name x np) (e0 :: es) [] cpos)) none pos) (tRaise C E ta):=⟨ps_raise hx hc c hg ha.h hdb he hpl⟩
theorem qpe_dfE {x : Str} {ps : List Str} {k : Nat} {sp : Sp} {p pos : Pos} {e : Expr} {es : List Expr} {t : TA} {E : XK} (D : DfE X.prog X.w X.K X.mg X.base x ps k sp) (hx : Passes (CXE X.prog X.w X.base) X E) (hr : Room k X.A) (ha : QA X (e :: es) t) (hg : Gl X x:=by rfl) (hdb : (x == ("__debug__" : Str)) = false:=by decide)
  (he : starEach (e :: es) X.env = (false,eval e X.env) :: starEach es X.env:=by rfl) (hpl : (backTo pos (starEach es X.env)).any (·.1) = false:=by rfl) : QE X (.Call (.Name x p) (e :: es) [] pos) (tCall sp [] E t):=⟨pe_dfE D hx hr ha.h hg hdb he hpl⟩
end
structure Fits (K : W.Frag) (C R : Addr) : Prop where
 sub : PySem.W.kitCls K (.ref C) (.ref R) = some true
 exc : PySem.W.subIn K (.ref R) (.type "BaseException") = some true
theorem exc_matches {K : W.Frag} {M : Model} {A : Around} {E : Value -> Shared -> Prop} {h : Heap} {g : Array GenState} {d : Drawn} {tk : Nat} {os : OsState} {e C R : Addr} {oe : Obj} {Q : Bool -> Shared -> Prop} (X : K.In h) (he : h.get? e = some oe) (hcls : oe.cls = .ref C)
  (k : Fits K C R) (hq : Q true ⟨h,g,d,tk,os⟩) : wpAny M A (excMatches (.ref e) (.ref R)) Q E ⟨h,g,d,tk,os⟩:=by
 obtain ⟨l1,l2,l3⟩:=PySem.W.kit_cls (M:=M) X k.sub
 have l4:=PySem.W.looks_subIn (M:=M) X k.exc
 have f:=tc_notTuple
 unfold excMatches isInstance isExcClass
 repeat (first | with_reducible refine PySem.W.Looks.at l1 ?_ | with_reducible refine PySem.W.Looks.at l2 ?_ | with_reducible refine PySem.W.Looks.at l3 ?_ | with_reducible refine PySem.W.Looks.at l4 ?_ | (with_reducible refine wpAny_loadPart_at he ?_; rw [hcls]) | wp_step)
 exact hq
abbrev Cx.within (X : Cx) (ea : Addr) (oe : Obj) : Cx:={ X with A:=X.A.mark (some (.ref ea)),calm:=false,pn:=X.pn ++ [(ea,oe)],xe:=fun _ _=>False }
theorem Cx.Ok.within {X : Cx} (ok : X.Ok) (ea : Addr) (oe : Obj) : (X.within ea oe).Ok :=
 ⟨ok.mod,ok.kind,ok.glob,ok.blt,ok.above,ok.inj,ok.has,ok.cab,(fun z=>nomatch z),ok.frames,ok.stk,ok.exf,ok.bs,ok.bsz,ok.noex,ok.exfs,ok.funs,ok.frf⟩
def Priv (X : Cx) (pins : List (Addr × Obj)) (B : Heap) (H : Hp) (h : Heap) : Prop :=
 ∀ b,B.get? b = none -> b ∉ frs X.stack -> (∃ o,h.get? b = some o) -> X.s₀.heap.get? b = none /\ H b = none /\ ∀ p ∈ X.pn ++ pins,p.1 ≠ b
structure Flat (X : Cx) : Prop where
 ex : X.ex = []
 st : X.stack = X.env :: X.outer
 fr : X.env.frame = some X.env.locals
section
variable {X : Cx} {pins : List (Addr × Obj)} {σ : St} {H : Hp} {s : Shared}
theorem Inv.within {ea : Addr} {oe : Obj} {ws : Array Value} (I : Inv X pins σ H s) (he : s.heap.get? ea = some oe) (hd : oe.data = .fields ws) (hH : H ea = none) (hL : ea ≠ X.env.locals) (hF : ea ∉ X.fs) : Inv (X.within ea oe) pins σ H s :=
 ⟨I.ok.within ea oe,I.os,I.bare,I.base,I.loc,I.cell,I.free,I.freeC,fun p hp=>by
  rcases mem_append.mp hp with hp | hp
  ·rcases mem_append.mp hp with hp | hp
   ·exact I.pin p (mem_append_left _ hp)
   ·obtain rfl : p = (ea,oe):=by simpa using hp
    exact ⟨he,hH,hL,hF,fun v z=>by rw [hd] at z; cases z⟩
  ·exact I.pin p (mem_append_right _ hp),I.hok,I.len⟩
theorem Inv.without {ea : Addr} {oe : Obj} (ok : X.Ok) (I : Inv (X.within ea oe) pins σ H s) : Inv X pins σ H s :=
 ⟨ok,I.os,I.bare,I.base,I.loc,I.cell,I.free,I.freeC,fun p hp=>I.pin p (by
  rcases mem_append.mp hp with hp | hp
  ·exact mem_append_left _ (mem_append_left _ hp)
  ·exact mem_append_right _ hp),I.hok,I.len⟩
theorem Flat.fs (F : Flat X) : frs X.stack = X.env.locals :: X.fs:=by rw [F.st]; unfold frs; rw [List.filterMap_cons,F.fr]; rfl
theorem Inv.fly {B : Heap} {ea : Addr} {cls a0 : Value} {h' : Heap} (I : Inv X pins σ H s) (F : Flat X) (hb : X.base.StaysIn B) (hB : B.StaysIn s.heap) (fl : FlyX B X.stack ea cls a0 h') (up : s.heap.UpToSlots h') (pr : Priv X pins B H s.heap) :
  Inv X pins σ H { s with heap:=h' }:=by
 have fl' : FlyX B X.outer ea cls a0 h':=by
  obtain ⟨k1,k2,k3,k4⟩:=fl
  rw [F.st] at k3
  obtain ⟨_,_,k3⟩:=k3
  exact ⟨k1,k2,k3,k4⟩
 obtain ⟨_,_,H',_,_,_,un,hok,_,eH⟩:=leave_core (E:=fun _ _ H'=>H' = H) I F.ex F.st F.fr hb hB fl' up (fun b h1 h2 h3=>let ⟨q1,q2,_⟩:=pr b h1 h2 h3; ⟨q1,q2⟩) rfl
 subst eH
 have cellK : ∀ c v,s.heap.IsCell c v -> h'.IsCell c v:=fun c v ⟨o,ho,hd⟩=>by
  obtain ⟨sl,e⟩:=up c o ho (fun vs z=>by rw [hd] at z; cases z)
  exact ⟨_,e,hd⟩
 refine ⟨I.ok,I.os,I.bare,by rw [F.ex]; exact un,?_,fun x c e=>?_,I.free,I.freeC,fun p hp=>?_,hok,I.len⟩
 ·obtain ⟨m,hn,hl⟩:=I.loc
  refine ⟨m,up.ns hn,fun i x v e1 e2 e3=>?_⟩
  obtain ⟨u,r,q⟩:=hl i x v e1 e2 e3
  refine ⟨u,r,?_⟩
  rcases q with q | ⟨k,c,e,z⟩
  ·exact .inl q
  ·exact .inr ⟨k,c,e,cellK c _ z⟩
 ·obtain ⟨v,z⟩:=I.cell x c e
  exact ⟨v,cellK c v z⟩
 ·obtain ⟨e,n,ne,nf,d⟩:=I.pin p hp
  refine ⟨?_,n,ne,nf,d⟩
  cases q : B.get? p.1 with
  | some o' =>
   have:=hB _ _ q
   rw [e] at this; cases this
   exact fl.1 _ _ q
  | none =>
   have:=(pr p.1 q (fun z=>by rw [F.fs] at z; rcases mem_cons.mp z with z | z; exact ne z; exact nf z) ⟨_,e⟩).2.2 p hp
   exact absurd rfl this
theorem Priv.fly {B h' : Heap} (I : Inv X pins σ H s) (F : Flat X) (pr : Priv X pins B H s.heap) : Priv X pins B H h':=fun b h1 h2 _=>by
 cases q : s.heap.get? b with
 | some o=>exact pr b h1 h2 ⟨o,q⟩
 | none =>
  refine ⟨I.in0 F.ex q,?_,fun p hp z=>?_⟩
  ·cases z : H b with
   | none=>rfl
   | some u=>obtain ⟨ob,q'⟩:=ObjOk.there (I.hok b u z); rw [q] at q'; cases q'
  ·have:=(I.pin p hp).1
   rw [z,q] at this; cases this
theorem fly_own {B h : Heap} {ea : Addr} {cls a0 : Value} (F : Flat X) (fl : FlyX B X.stack ea cls a0 h) (pr : Priv X pins B H h) : ∃ oe ws,h.get? ea = some oe /\ oe.cls = cls /\ oe.data = .fields ws /\ H ea = none /\ ea ≠ X.env.locals /\ ea ∉ X.fs /\ NoCtx oe:=by
 obtain ⟨oe,ws,e,c,d,d2⟩:=fl.own
 have nf : ea ∉ frs X.stack:=fun z=>by
  obtain ⟨_,o,q,n⟩:=fl.2.2.1.mem z
  rw [e] at q; cases q
  exact n ws d
 refine ⟨oe,ws,e,c,d,(pr ea fl.2.1 nf ⟨oe,e⟩).2.1,fun z=>nf (by rw [F.fs,z]; exact mem_cons_self),fun z=>nf (by rw [F.fs]; exact mem_cons_of_mem _ z),ws,d,d2⟩
end
def XPr (X : Cx) (pins : List (Addr × Obj)) (σ : St) (E : XK) (e : Value) (s' : Shared) : Prop :=
 ∃ (ea : Addr) (cls : Value) (H' : Hp) (B : Heap) (a0 : Value),e = .ref ea /\ Inv X pins σ H' s' /\ X.base.StaysIn B /\ FlyX B X.stack ea cls a0 s'.heap /\ Priv X pins B H' s'.heap /\ E cls none H'
abbrev TEX:=St -> Hp -> VK -> XK -> Prop
abbrev TSX:=Ends -> (St -> XK) -> St -> Hp -> Prop
structure PEX (X : Cx) (e : Expr) (t : TEX) : Prop where
 h : ∀ (pins : List (Addr × Obj)) (s : Shared) (σ : St) (H : Hp) (Q : VK) (E : XK),Inv X pins σ H s -> t σ H Q E -> wpAny (model X.prog X.w) X.A (eval e X.env) (EP X pins σ Q) (XPr X pins σ E) s
structure PSX (X : Cx) (st : Stmt) (t : TSX) : Prop where
 h : ∀ (pins : List (Addr × Obj)) (s : Shared) (σ : St) (H : Hp) (D : Ends) (E : St -> XK),Inv X pins σ H s -> t D E σ H -> wpAny (model X.prog X.w) X.A (exec st X.env) (SP X pins D) (fun e s'=>∃ σ',XPr X pins σ' (E σ') e s') s
structure PSXs (X : Cx) (st : List Stmt) (t : TSX) : Prop where
 h : ∀ (pins : List (Addr × Obj)) (s : Shared) (σ : St) (H : Hp) (D : Ends) (E : St -> XK),Inv X pins σ H s -> t D E σ H -> wpAny (model X.prog X.w) X.A (execs st X.env) (SP X pins D) (fun e s'=>∃ σ',XPr X pins σ' (E σ') e s') s
section
variable {X : Cx}
def xE (te : TE) : TEX:=fun σ H Q _=>te σ H Q
def xCall (sp : Sp) (t : TA) : TEX:=fun σ H Q E=>t σ H fun vs H1=>sp vs H1 Q E
def xTup2 (ta : TE) (tb : TEX) : TEX:=fun σ H Q E=>ta σ H fun x H1=>tb σ H1 (fun y H2=>∀ p,H2 p = none -> Q (.ref p) (upd H2 p (.tup [x,y]))) E
def xIsT (ta : TEX) : TEX:=fun σ H Q E=>ta σ H (fun x H1=>∃ b,x = .bl b /\ Q (.bl b) H1) E
def xS (t : TS) : TSX:=fun D _ σ H=>t D σ H
def xRet (te : TEX) : TSX:=fun D E σ H=>te σ H D.rt (E σ)
def xSet (i : Nat) (te : TEX) : TSX:=fun D E σ H=>te σ H (fun v H1=>D.nx (σ.set i (some v)) H1) (E σ)
def xDrop (te : TEX) : TSX:=fun D E σ H=>te σ H (fun _ H1=>D.nx σ H1) (E σ)
def xIf (tc : TT) (a b : TSX) : TSX:=fun D E σ H=>tc σ H fun d H1=>if d = true then a D E σ H1 else b D E σ H1
def xNext : TSX:=fun D _ σ H=>D.nx σ H
def xSeq (a b : TSX) : TSX:=fun D E σ H=>a { D with nx:=b D E } E σ H
theorem pex_call {x : Str} {ps : List Str} {k : Nat} {sp : Sp} {p pos : Pos} {e : Expr} {es : List Expr} {t : TA} (D : DfE X.prog X.w X.K X.mg X.base x ps k sp) (F : Flat X) (hr : Room k X.A) (ha : QA X.nox (e :: es) t) (hg : Gl X x:=by rfl) (hdb : (x == ("__debug__" : Str)) = false:=by decide)
  (he : starEach (e :: es) X.env = (false,eval e X.env) :: starEach es X.env:=by rfl) (hpl : (backTo pos (starEach es X.env)).any (·.1) = false:=by rfl) : PEX X (.Call (.Name x p) (e :: es) [] pos) (xCall sp t):=⟨by
 intro pins s σ H Q E I h
 obtain ⟨f,fd,G,hm,hk,hb⟩:=D.ex
 refine wpAny_Call_Name_kw (ld_glob I hg hm ?_ hdb)
 refine PySem.W.callWith_K (h₀:=X.base) I.ok.mod.kin hk (wpAny_mono (ha.h pos pins s σ H _ (I.wish _) h) (fun us s1 q=>?_) fun _ _ z=>False.elim z) he hpl
 obtain ⟨vs,H1,I1,r,q⟩:=q
 have I1:=I1.unwish
 refine ⟨I1.kIn,?_⟩
 have hl : us.length = ps.length:=by rw [<- r.length]; exact G.len _ _ _ _ q
 have hbs:=hb s1 us I1.kIn (by rw [append_nil]; exact hl)
 rw [append_nil] at hbs
 refine wpAny_call (codeAny_mono (G.run X.A X.stack s1 H1 ⟨us,[]⟩ us vs Q E hr I1.env0 hbs r q) fun r s' hq=>?_)
 cases r with
 | ok fl =>
  cases fl with
  | ret u=>exact I1.after hq
  | next=>exact False.elim hq
  | brk=>exact False.elim hq
  | cont=>exact False.elim hq
 | error e =>
  obtain ⟨ea,cls,H',rfl,os,bare,un,hok,⟨B,a0,hb,fl,pr⟩,hE⟩:=hq
  have I':=I1.call' (ch:=[]) os un hok bare (fun _ z=>nomatch z)
  refine ⟨ea,cls,H',B,a0,rfl,I',hb,fl,fun b h1 h2 h3=>?_,hE⟩
  obtain ⟨q1,q2⟩:=pr b h1 h2 h3
  refine ⟨I1.in0 F.ex q1,q2,fun p hp z=>?_⟩
  have:=(I1.pin p hp).1
  rw [z,q1] at this; cases this⟩
theorem pex_tup2 {a b : Expr} {ta : TE} {tb : TEX} {x1} {pos : Pos} (ha : QE X.nox a ta) (hb : PEX X b tb) (hs : starEach [a,b] X.env = [(false,eval a X.env),(false,eval b X.env)]:=by rfl) : PEX X (.Tuple [a,b] x1 pos) (xTup2 ta tb):=⟨by
 intro pins s σ H Q E I h
 refine wpAny_Tuple_spliced ?_
 rw [hs]
 show wpAny _ _ (spliced ((false,eval a X.env) :: backTo pos [(false,eval b X.env)])) _ _ s
 refine Calls.spliced_cons (wpAny_mono (ha.h pins s σ H _ (I.wish _) h) (fun u s1 q=>?_) fun _ _ z=>False.elim z)
 obtain ⟨x,H1,I1,r1,q1⟩:=q
 show wpAny _ _ (spliced ((false,eval b X.env) :: backTo pos [])) _ _ s1
 refine Calls.spliced_cons (wpAny_mono (hb.h pins s1 σ H1 _ E I1.unwish q1) (fun v s2 q=>?_) fun _ _ z=>z)
 obtain ⟨y,H2,I2,r2,q2⟩:=q
 refine Calls.spliced_nil ⟨by show 2 <= sizeLine; decide,?_⟩
 have hf : H2 s2.heap.objs.size = none:=I2.hok.fresh (Nat.le_refl _)
 refine ⟨.ref s2.heap.objs.size,upd H2 s2.heap.objs.size (.tup [x,y]),I2.laid (t':=s2.toks) (fun b u e=>Heap.get?_push_of_some _ e) (Nat.le_refl _) ?_,rfl,q2 _ hf⟩
 exact ⟨by show 2 <= sizeLine; decide,[u,v],.cons r1 (.cons r2 .nil),⟨_,Heap.get?_push_size _ rfl,rfl,_,rfl⟩⟩⟩
theorem psx_ret {e : Expr} {te : TEX} {pos : Pos} (h : PEX X e te) : PSX X (.Return (some e) pos) (xRet te):=⟨fun pins s σ H D E I hw =>
 wpAny_Return_some (wpAny_mono (h.h pins s σ H _ _ I hw) (fun v s1 ⟨x,H1,I1,r1,q1⟩=>⟨x,σ,H1,I1,r1,q1⟩) fun _ _ z=>⟨σ,z⟩)⟩
theorem psxs_one {st : Stmt} {t : TSX} (h1 : PSX X st t) : PSXs X [st] t:=⟨fun pins s σ H D E I h=>by
 refine wpAny_execs_cons (thn (h1.h pins s σ H D E I h) fun f s1 q=>?_)
 cases f with
 | next =>
  obtain ⟨σ',H',I',q⟩:=q
  exact wpAny_execs_nil ⟨σ',H',I',q⟩
 | ret v=>exact q
 | brk=>exact q
 | cont=>exact q⟩
def tTry0 (R : Addr) (tb : TSX) (ts : TS) (K : W.Frag) : TS:=fun D σ H=>tb D (fun σ' cls _ H'=>∃ C,cls = .ref C /\ Fits K C R /\ ts D σ' H') σ H
end
structure ExK (K : W.Frag) (C : Addr) : Prop where
 ga : PySem.W.findIn K (.ref C) "__getattribute__" = some (some (.builtin "BaseException.__getattribute__"))
 cl : PySem.W.findIn K (.ref C) "__class__" = some (some (.builtin "object.__class__"))
 gg : PySem.W.findIn K (.ref C) "__getattr__" = some none
 ob : PySem.W.subIn K (.ref C) (.type "object") = some true
 be : PySem.W.subIn K (.ref C) (.type "BaseException") = some true
 se : PySem.W.kitCls K (.ref C) (.ref C) = some true
section
variable {K : W.Frag} {prog : Program} {w : World} {A : Around} {E : Value -> Shared -> Prop} {h : Heap} {g : Array GenState} {d : Drawn} {t : Nat} {os : OsState} {a C : Addr} {o : Obj}
theorem xc_get {R : Result -> Shared -> Prop} (X : K.In h) (k : ExK K C) (hx : h.get? a = some o) (hc : o.cls = .ref C) (hq : R (.ok (.ret (.ref C))) ⟨h,g,d,t,os⟩) :
  codeAny (model prog w) A (.call (.builtin "getset_descriptor.__get__") ⟨[.builtin "object.__class__",.ref a,.ref C],[]⟩) R ⟨h,g,d,t,os⟩:=by
 have l1:=PySem.W.looks_subIn (M:=model prog w) X k.ob
 have e1:=F.owner_object_class
 have hT5 : (⟨h,g,d,t,os⟩ : Shared).TypeIs (.builtin "object.__class__") "getset_descriptor":=F.typeOf_object_class
 refine codeAny_call_builtin F.slot_gs_get.plain F.entry_gs_get (F.slot_gs_get.check _ _ _ _ _ _ _ _ hT5 (F.args_gs_get _ _ _) ?_)
 repeat (any_goals (first | assumption | (with_reducible refine wpAny_loadPart_at hx ?_; rw [hc]) | with_reducible refine PySem.W.Looks.at l1 ?_ | rw [e1] | wp_step))
 refine ⟨Code.quiet_builtin _ (by decide +kernel),codeAny_builtin F.entry_object_class ?_⟩
 repeat (any_goals (first | assumption | (with_reducible refine wpAny_loadPart_at hx ?_; rw [hc]) | wp_step))
theorem xc_entry {tk : Tok} {Q : Fin -> Shared -> Prop} (X : K.In h) (k : ExK K C) (hx : h.get? a = some o) (hc : o.cls = .ref C) (hq : Q (.done (.ret (.ref C))) ⟨h,g,d,t,os⟩) :
  wpAny (model prog w) A (Builtin.«object.__getattribute__» ⟨[.ref a,.str "__class__" tk],[]⟩) Q E ⟨h,g,d,t,os⟩:=by
 have l1:=PySem.W.looks_findIn (M:=model prog w) X k.cl
 have hT5 : (⟨h,g,d,t,os⟩ : Shared).TypeIs (.builtin "object.__class__") "getset_descriptor":=F.typeOf_object_class
 have f5:=F.typeOf_object_class
 have f6:=F.slot_gs_get.lookup
 have f7:=F.slot_gs_set.lookup
 repeat (any_goals (first | assumption | (with_reducible refine wpAny_loadPart_at hx ?_; rw [hc]) | with_reducible refine PySem.W.Looks.at l1 ?_ | wp_step))
 refine xc_get X k hx hc ?_
 repeat (any_goals (first | assumption | wp_step))
theorem xc_check {nameV : Value} {Q : Unit -> Shared -> Prop} (X : K.In h) (k : ExK K C) (hx : h.get? a = some o) (hc : o.cls = .ref C) (hq : Q () ⟨h,g,d,t,os⟩) :
  wpAny (model prog w) A (checkBuiltinCall "BaseException.__getattribute__" ⟨[.ref a,nameV],[]⟩) Q E ⟨h,g,d,t,os⟩:=by
 have l1:=PySem.W.looks_subIn (M:=model prog w) X k.be
 have kd : builtinKind "BaseException.__getattribute__" = some .slot:=by decide +kernel
 have sp : splitId "BaseException.__getattribute__" = some ("BaseException","__getattribute__"):=by decide +kernel
 have ar:=F.args_bexc_ga (.ref a) nameV
 simp only [checkBuiltinCall,kd,sp]
 refine wpAny_bind ?_
 unfold isInstance
 repeat (first | (with_reducible refine wpAny_loadPart_at hx ?_; rw [hc]) | with_reducible refine PySem.W.Looks.at l1 ?_ | wp_step)
 exact hq
theorem xc_call {tk : Tok} {R : Result -> Shared -> Prop} (X : K.In h) (k : ExK K C) (hx : h.get? a = some o) (hc : o.cls = .ref C) (hq : R (.ok (.ret (.ref C))) ⟨h,g,d,t,os⟩) :
  codeAny (model prog w) A (.call (.builtin "BaseException.__getattribute__") ⟨[.ref a,.str "__class__" tk],[]⟩) R ⟨h,g,d,t,os⟩ :=
 codeAny_call_builtin PySem.F.attr_ValueError.ga.plain F.entry_bexc_ga (xc_check X k hx hc (xc_entry X k hx hc hq))
theorem xc_by {tk : Tok} {Q : Value -> Shared -> Prop} (X : K.In h) (k : ExK K C) (hx : h.get? a = some o) (hc : o.cls = .ref C) (hq : Q (.ref C) ⟨h,g,d,t,os⟩) :
  wpAny (model prog w) A (getAttrBy (.ref a) (.str "__class__" tk) false) Q E ⟨h,g,d,t,os⟩:=by
 have l1:=PySem.W.looks_findIn (M:=model prog w) X k.ga
 have l2:=PySem.W.looks_findIn (M:=model prog w) X k.gg
 have f3:=PySem.F.attr_ValueError.ga.bind (.ref a)
 have hx2 : (Value.builtin "BaseException.__getattribute__" == Value.builtin "object.__getattribute__") = false:=by decide +kernel
 have hx1 : (onTheHeap (Value.ref C) && Value.builtin "BaseException.__getattribute__" == Value.builtin "object.__getattribute__") = false:=by rw [hx2]; rfl
 repeat (any_goals (first | assumption | (with_reducible refine wpAny_loadPart_at hx ?_; rw [hc]) | with_reducible refine PySem.W.Looks.at l1 ?_ | with_reducible refine PySem.W.Looks.at l2 ?_ | wp_step))
 refine xc_call X k hx hc ?_
 repeat (any_goals (first | assumption | wp_step))
theorem xc_attr {Q : Option Value -> Shared -> Prop} (X : K.In h) (k : ExK K C) (hx : h.get? a = some o) (hc : o.cls = .ref C) (hq : Q (some (.ref C)) ⟨h,g,d,t + 1,os⟩) :
  wpAny (model prog w) A (getAttr? (.ref a) "__class__") Q E ⟨h,g,d,t,os⟩:=by
 unfold getAttr? getAttrBy?
 repeat (any_goals (first | assumption | with_reducible apply xc_by X k hx hc | wp_step))
theorem kitx_exc {mg : Str -> Option Value} {x : Str} (c : ExC K mg x C) (k : ExK K C) : PySem.W.KitX K (.ref a) (.ref C) (fun h=>∃ o,h.get? a = some o /\ o.cls = .ref C) where
 ty:=fun M h _ p=>by
  obtain ⟨o,h1,h2⟩:=p
  exact h2 ▸ (PySem.W.Looks.ld h1).andThen .now
 it:=fun M h X _=>(PySem.W.kit_cls X k.se).2.1
 ne:=fun h tp dd its n sl X htp=>Bool.eq_false_iff.mpr fun q=>by
  have e : C = tp:=Value.ref.inj (beq_iff_eq.mp q)
  subst e
  obtain ⟨_,_,_,_,_,_,_,_,_,_,_,_,_,_,_,_,_,hC,_⟩:=(c.own X).obj
  rw [htp] at hC
  injection hC with z
  injection z with z1
  exact absurd z1 (by decide)
 ca:=fun {_ _ _ _ _ s} X p q=>by
  obtain ⟨o,h1,h2⟩:=p
  obtain ⟨hh,gg,dd,tt,oo⟩:=s
  exact xc_attr X k h1 h2 q
end
section
variable {X : Cx} {K : W.Frag}
def rIsX (K : W.Frag) (ea C : Addr) : List V -> Hp -> VK -> Prop:=fun xs H Q=>∃ T b,xs = [.ref ea,T] /\ ((∃ D,T = .ref D /\ PySem.W.kitOne K (.ref C) (.ref D) = some b) \/ (∃ n,T = .ty n /\ PySem.W.kitOne K (.ref C) (.type n) = some b)) /\ Q (.bl b) H
theorem call_isX {ea C : Addr} {oe : Obj} {x : Str} (hK : X.K = K) (hp : (ea,oe) ∈ X.pn) (hc : oe.cls = .ref C) (c : ExC K X.mg x C) (k : ExK K C) : CallR X (.builtin "isinstance") (rIsX K ea C):=by
 subst hK
 intro pins s σ H xs us Q I r h
 obtain ⟨T,b,rfl,hT,q⟩:=h
 obtain ⟨u,v,rfl,r1,r2⟩:=vals2 r
 cases r1
 have he:=(I.pin (ea,oe) (mem_append_left _ hp)).1
 rcases hT with ⟨D,rfl,e⟩ | ⟨n,rfl,e⟩
 ·cases r2
  exact PySem.W.kia_one (kitx_exc c k) I.kIn ⟨oe,he,hc⟩ e (fun z=>nomatch z) fun tk=>⟨.bl b,H,I.tok _,rfl,q⟩
 ·cases r2
  exact PySem.W.kia_one (kitx_exc c k) I.kIn ⟨oe,he,hc⟩ e (fun z=>nomatch z) fun tk=>⟨.bl b,H,I.tok _,rfl,q⟩
def rIsXT (K : W.Frag) (ea C : Addr) : List V -> Hp -> VK -> Prop:=fun xs H Q=>∃ (tp : Addr) (Ds : List Addr) (b : Bool),xs = [.ref ea,.ref tp] /\ H tp = some (.tup (Ds.map V.ref)) /\ PySem.W.kitAny K (.ref C) (Ds.map Value.ref) = some b /\ Q (.bl b) H
theorem vals_refs {Ds : List Addr} : ∀ {us : List Value},Vals (Ds.map V.ref) us -> us = Ds.map Value.ref:=by
 induction Ds with
 | nil=>intro us h; cases h; rfl
 | cons b r ih =>
  intro us h
  cases h with
  | cons h1 h2=>cases h1; rw [ih h2]; rfl
theorem call_isXT {ea C : Addr} {oe : Obj} {x : Str} (hK : X.K = K) (hp : (ea,oe) ∈ X.pn) (hc : oe.cls = .ref C) (c : ExC K X.mg x C) (k : ExK K C) : CallR X (.builtin "isinstance") (rIsXT K ea C):=by
 subst hK
 intro pins s σ H xs us Q I r h
 obtain ⟨tp,Ds,b,rfl,ht,e,q⟩:=h
 obtain ⟨u,v,rfl,r1,r2⟩:=vals2 r
 cases r1
 cases r2
 have he:=(I.pin (ea,oe) (mem_append_left _ hp)).1
 obtain ⟨_,its,rv,ot,h1,h2,n,h3⟩:=(show ObjOk X.prog X.w H s.heap tp (.tup (Ds.map V.ref)) from I.hok tp _ ht)
 cases vals_refs rv
 obtain ⟨c1,d1,dt,sl⟩:=ot
 cases h2
 cases h3
 exact PySem.W.kia_tup (kitx_exc c k) I.kIn ⟨oe,he,hc⟩ h1 e (fun z=>nomatch z) fun tk=>⟨.bl b,H,I.tok _,rfl,q⟩
end
section
variable {X : Cx} {pins : List (Addr × Obj)} {σ : St} {H : Hp} {s : Shared}
theorem Inv.lost {h' : Heap} {m' : Str -> Option Value} {t' : Nat} (I : Inv X pins σ H s) (hn : h'.Ns X.env.locals m') (sb : Heap.SameBut X.env.locals s.heap h') : Inv X pins (List.replicate X.N.length none) H { s with heap:=h',toks:=t' }:=by
 have neL : ∀ b o,X.s₀.heap.get? b = some o -> b ≠ X.env.locals:=fun b o e=>Nat.ne_of_lt (Nat.lt_of_lt_of_le (Heap.lt_size e) I.ok.above)
 refine ⟨I.ok,I.os,I.bare,⟨fun b o e n hb hx=>(sb.2 b (neL b o e)).trans (I.base.keep b o e n hb hx),fun b o e n hb hx=>?_,I.base.free,fun b o e hx=>?_,I.base.tups,I.base.frzs,I.base.tbls⟩,⟨m',hn,fun j y v e1 e2 e3=>?_⟩,fun y c e=>?_,I.free,I.freeC,fun p hp=>?_,fun b u e=>?_,List.length_replicate⟩
 ·obtain ⟨sl,e1⟩:=I.base.slot b o e n hb hx
  exact ⟨sl,(sb.2 b (neL b o e)).trans e1⟩
 ·obtain ⟨o',e1⟩:=I.base.there b o e hx
  exact ⟨o',(sb.2 b (neL b o e)).trans e1⟩
 ·rw [List.getElem?_replicate] at e2
  split at e2 <;> cases e2
 ·obtain ⟨w',z⟩:=I.cell y c e
  exact ⟨w',z.sameBut sb (I.cne y c e)⟩
 ·obtain ⟨e,n,ne,nf,d⟩:=I.pin p hp
  exact ⟨(sb.2 p.1 ne).trans e,n,ne,nf,d⟩
 ·refine (I.hok b u e).stay (fun c v hc q=>(sb.2 c ?_).trans q) (fun _ q=>q) fun _ _ q=>q
  intro z
  rcases hc with hc | hc
  ·rw [<- hc,z,I.free] at e; cases e
  ·rw [z,I.free] at hc; cases hc
end
abbrev onlyRet (D : Ends) : Ends:={ nx:=fun _ _=>False,rt:=D.rt,bk:=fun _ _=>False,ct:=fun _ _=>False }
section
variable {X : Cx} {pins : List (Addr × Obj)} {σ : St} {H : Hp} {s : Shared} {ea C R : Addr} {B : Heap} {a0 : Value} {x n : Str} {i : Nat} {np pos : Pos} {b0 : Stmt} {suite : List Stmt} {rest : List ExceptHandler} {ts : TS} {D : Ends}
theorem caughtN (I : Inv X pins σ H s) (F : Flat X) (hN : X.N.Nodup) (hi : X.N[i]? = some n) (hln : X.env.kindOf n = some .local) (hln2 : X.env.scope.names.lookup n = some .local) (hb : X.base.StaysIn B) (fl : FlyX B X.stack ea (.ref C) a0 s.heap) (pr : Priv X pins B H s.heap) (hg : Gl X x) (hm : X.mg x = some (.ref R)) (k : Fits X.K C R)
  (hs : ∀ oe,XOf oe C -> PSs (X.within ea oe) (b0 :: suite) ts) (h : H ea = none -> ts (onlyRet D) (σ.set i (some (.ref ea))) H) (hdb : (x == ("__debug__" : Str)) = false) :
  wpAny (model X.prog X.w) X.A (noteFrame (.ref ea) X.env) (fun _ s2=>wpAny (model X.prog X.w) X.A (setFlight (.ref ea) none) (fun _ s3=>wpAny (model X.prog X.w) X.A (handleBy (.ref ea) X.env (.ExceptHandler (some (.Name x np)) (some n) (b0 :: suite) pos :: rest)) (SP X pins D) X.xe s3) X.xe s2) X.xe s:=by
 have hfr : X.A.frames = some (X.env :: X.outer):=by rw [I.ok.frames,F.st]
 have fl0:=fl
 rw [F.st] at fl
 refine looks_onX hfr F.fr fl fun h4 held up4=>landsX held fun h5 fl5 up5=>?_
 rw [<- F.st] at fl5
 have I5:=I.fly F hb fl0.1 fl5 (up4.trans up5) pr
 have pr5 : Priv X pins B H h5:=Priv.fly I F pr
 obtain ⟨oe,ws,e1,e2,e3,e4,e5,e6,_⟩:=fly_own F fl5 pr5
 have IY:=I5.within e1 e3 e4 e5 e6
 refine wpAny_handleBy_cons (codeAny_handlers_test ?_) (by intro q; cases q)
 refine ld_glob (X:=X.within ea oe) IY hg hm (exc_matches (K:=X.K) IY.kIn e1 e2 k ?_) hdb
 refine codeAny_handlers_suite_as (lands_againX fl5 fun h6 fl6 up6=>?_)
 have I6:=I5.fly F hb fl5.1 fl6 up6 pr5
 have pr6 : Priv X pins B H h6:=Priv.fly I5 F pr5
 obtain ⟨of,wf,f1,f2,f3,f4,f5,f6,f7⟩:=fly_own F fl6 pr6
 have IZ:=I6.within f1 f3 f4 f5 f6
 refine store_ok (X:=X.within ea of) (v:=.ref ea) IZ hN hi (.inl hln2) rfl (fun s2 I2=>?_) (.inr hln2)
 refine wpAny_mono (hs of ⟨f2,f7⟩ pins s2 _ H (onlyRet D) I2 (h f4)) (fun f s' q=>?_) (fun _ _ z=>z.elim)
 cases f with
 | next=>obtain ⟨_,_,_,z⟩:=q; exact z.elim
 | brk=>obtain ⟨_,_,_,z⟩:=q; exact z.elim
 | cont=>obtain ⟨_,_,_,z⟩:=q; exact z.elim
 | ret u =>
  obtain ⟨v,σ',H',I',r,q⟩:=q
  have I'':=I'.without I.ok
  obtain ⟨m,hn,_⟩:=I''.loc
  have hcls : (X.env.scope.kind == .class || (X.env.scope.kind == .module && X.env.locals != X.env.globals)) = false:=by rw [I.ok.kind]; rfl
  exact wpAny_nameGoes hln hn hcls fun h' m' hn' sb=>⟨v,_,H',I''.lost hn' sb,r,q⟩
end
section
variable {X : Cx}
def tTryN (R : Addr) (i : Nat) (tb : TSX) (ts : Addr -> Addr -> TS) (K : W.Frag) (mg : Str -> Option Value) : TS:=fun D σ H =>
 tb D (fun σ' cls _ H'=>∃ C x,cls = .ref C /\ Fits K C R /\ ExC K mg x C /\ ExK K C /\ ∀ ea,H' ea = none -> ts ea C (onlyRet D) (σ'.set i (some (.ref ea))) H') σ H
theorem ps_tryN {x n : Str} {R : Addr} {i : Nat} {b0 : Stmt} {body suite : List Stmt} {tb : TSX} {ts : Addr -> Addr -> TS} {np hpos pos : Pos} (F : Flat X) (hN : X.N.Nodup) (hg : Gl X x) (hm : X.mg x = some (.ref R)) (hb : PSXs X body tb)
  (hs : ∀ ea oe C y,XOf oe C -> ExC X.K X.mg y C -> ExK X.K C -> PSs (X.within ea oe) (b0 :: suite) (ts ea C)) (hi : X.N[i]? = some n) (hln : X.env.kindOf n = some .local) (hln2 : X.env.scope.names.lookup n = some .local) (hdb : (x == ("__debug__" : Str)) = false) :
  PS X (.Try body [.ExceptHandler (some (.Name x np)) (some n) (b0 :: suite) hpos] [] [] pos) (tTryN R i tb ts X.K X.mg):=by
 intro pins s σ H D I h
 refine wpAny_Try_except (wpAny_mono (hb.h pins s σ H D _ I h) (fun f s1 q=>?_) (fun e s1 q=>?_))
 ·cases f with
  | next =>
   obtain ⟨σ',H',I',q⟩:=q
   exact wpAny_execs_nil ⟨σ',H',I',q⟩
  | ret v=>exact q
  | brk=>exact q
  | cont=>exact q
 ·obtain ⟨σ',ea,cls,H',B,a0,rfl,I',hb',fl,pr,C,y,rfl,k,c,kk,q⟩:=q
  exact caughtN I' F hN hi hln hln2 hb' fl pr hg hm k (fun oe ho=>hs ea oe C y ho c kk) (q ea) hdb
theorem qps_tryN (i : Nat) {x n : Str} {R : Addr} {b0 : Stmt} {body suite : List Stmt} {tb : TSX} {ts : Addr -> Addr -> TS} {np hpos pos : Pos} (K : W.Frag) (hK : X.K = K) (mg : Str -> Option Value) (hmg : X.mg = mg) (F : Flat X) (hN : X.N.Nodup) (hg : Gl X x) (hm : mg x = some (.ref R)) (hb : PSXs X body tb)
  (hs : ∀ ea oe C y,XOf oe C -> ExC K mg y C -> ExK K C -> QSs (X.within ea oe) (b0 :: suite) (ts ea C)) (hi : X.N[i]? = some n:=by rfl) (hln : X.env.kindOf n = some .local:=by rfl) (hln2 : X.env.scope.names.lookup n = some .local:=by rfl) (hdb : (x == ("__debug__" : Str)) = false:=by decide) :
  QS X (.Try body [.ExceptHandler (some (.Name x np)) (some n) (b0 :: suite) hpos] [] [] pos) (tTryN R i tb ts K mg):=⟨by
 subst hK hmg
 exact ps_tryN F hN hg hm hb (fun ea oe C y h1 h2 h3=>(hs ea oe C y h1 h2 h3).h) hi hln hln2 hdb⟩
theorem qpe_cls {x : Str} {C : Addr} {pos : Pos} (hg : Gl X x) (hm : X.mg x = some (.ref C)) (hd : (x == ("__debug__" : Str)) = false:=by decide) : QE X (.Name x pos) (tC (.ref C)):=⟨pe_glob hg hm rfl hd⟩
end
def dI (ns : List Int) : List PyData:=ns.map PyData.int
def dG (g : List (List Int)) : PyData:=.list (g.map fun ns=>.list (dI ns))
theorem dens_ints {K : W.Frag} {H : Hp} : ∀ (ns : List Int),Dens K H (ns.map V.int) (dI ns)
 | []=>.nil
 | o :: r=>.cons (.int _) (dens_ints r)
theorem lay_ints : ∀ (ns : List Int),PyData.canLayAll0 (dI ns) = true
 | []=>rfl
 | o :: r=>by
  show (PyData.canLay0 (.int _) && PyData.canLayAll0 (dI r)) = true
  rw [lay_ints r]; rfl
theorem depth_ints : ∀ (ns : List Int),PyData.depthAll (dI ns) = 0
 | []=>rfl
 | o :: r=>by
  show max (PyData.depth (.int _)) (PyData.depthAll (dI r)) = 0
  rw [depth_ints r]; rfl
theorem lay_rows : ∀ (g : List (List Int)),PyData.canLayAll0 (g.map fun ns=>.list (dI ns)) = true
 | []=>rfl
 | o :: r=>by
  show (PyData.canLayAll0 (dI o) && PyData.canLayAll0 _) = true
  rw [lay_rows r,lay_ints]; rfl
theorem depth_rows : ∀ (g : List (List Int)),PyData.depthAll (g.map fun ns=>.list (dI ns)) <= 1
 | []=>by show 0 <= 1; decide
 | o :: r=>by
  show max (PyData.depthAll (dI o) + 1) (PyData.depthAll _) <= 1
  have:=depth_rows r
  rw [depth_ints]; omega
theorem lay_dG (g : List (List Int)) : (dG g).canLay0 = true:=lay_rows g
theorem depth_dG (g : List (List Int)) : (dG g).depth <= 32:=by
 show PyData.depthAll _ + 1 <= 32
 have:=depth_rows g
 omega
def CDivB (i j : Int) : Prop:=0 < j /\ ∃ m : Nat,m < 9000 /\ j < 2 ^ m
theorem op_fdivB {X : Cx} : OpR X (binaryOp .FloorDiv) (rI CDivB fun i j=>.int (i / j)):=opI fun i j _ _ _ _ _ hc q=>by
 obtain ⟨h1,m,hm,h2⟩:=hc
 have e : ((2 ^ m : Nat) : Int) = 2 ^ m:=by simp
 refine floordiv_int (by omega) (by rw [Int.fdiv_eq_ediv_of_nonneg i (by omega)]; exact q) (.inl (PyProof.noPylong_of_log2 ?_))
 have : j.natAbs.log2 < m:=(Nat.log2_lt (by omega)).mpr (by omega)
 omega
section
def rInsert : V -> List V -> Hp -> VK -> Prop:=fun x vs H Q=>∃ l xs k y,x = .ref l /\ vs = [.int k,y] /\ H l = some (.lst xs) /\ 0 <= k /\ k <= xs.length /\ xs.length < sizeLine /\ Q .non (upd H l (.lst (xs.take k.toNat ++ [y] ++ xs.drop k.toNat)))
end
def up (p i : Nat) : Nat:=if i < p then i else i + 1
def rMinL (K : W.Frag) : List V -> Hp -> VK -> Prop:=fun xs H Q=>∃ (a : Addr) (ns : List Int),xs = [.ref a] /\ SqL K H a (ns.map V.int) /\ ns ≠ [] /\ ∀ M,M ∈ ns -> (∀ x ∈ ns,M <= x) -> Q (.int M) H
def rMaxL (K : W.Frag) : List V -> Hp -> VK -> Prop:=fun xs H Q=>∃ (a : Addr) (ns : List Int),xs = [.ref a] /\ SqL K H a (ns.map V.int) /\ ns ≠ [] /\ ∀ M,M ∈ ns -> (∀ x ∈ ns,x <= M) -> Q (.int M) H
section
variable {X : Cx}
theorem call_minLK (K : W.Frag) (hK : X.K = K) (hc : X.calm = true) : CallR X (.builtin "min") (rMinL K):=by
 subst hK
 intro pins s σ H xs us Q I r h
 obtain ⟨a,ns,rfl,hq,hne,q⟩:=h
 obtain ⟨u,rfl,r1⟩:=vals1 r
 cases r1
 obtain ⟨its,rv,p,hz⟩:=I.list hq
 have hi:=intsAre_of rv
 obtain ⟨zs,ez⟩:=hi.allInts.items
 have hl:=p.isList
 rw [ez] at hl
 have e3 : ns = zs.toList.map (fun x=>x.1):=by
  have e2:=hi.numsOf
  have e3:=nums_intItems (xs:=zs)
  rw [<- ez] at e3
  exact e2.symm.trans e3
 have hsz : 0 < zs.size:=by
  have : 0 < ns.length:=List.length_pos_iff.mpr hne
  rw [e3,length_map,Array.length_toList] at this; exact this
 refine min_intList (I.ok.hd hc) hl hsz fun v h' tk hv hk=>?_
 obtain ⟨t,rfl⟩:=intItems_at hv
 obtain ⟨h1,h2⟩:=argBest_lt (numAt zs) (zs.size - 1)
 refine ⟨.int _,H,I.kept hk,⟨_,rfl⟩,q _ ?_ fun x hx=>?_⟩
 ·rw [e3,numAt_eq]; exact getD_mem (by rw [length_map,Array.length_toList]; omega)
 ·rw [e3] at hx
  obtain ⟨j,hj,rfl⟩:=mem_getD hx
  rw [length_map,Array.length_toList] at hj
  rw [<- numAt_eq]; exact h2 j (by omega)
theorem call_maxLK (K : W.Frag) (hK : X.K = K) (hc : X.calm = true) : CallR X (.builtin "max") (rMaxL K):=by
 subst hK
 intro pins s σ H xs us Q I r h
 obtain ⟨a,ns,rfl,hq,hne,q⟩:=h
 obtain ⟨u,rfl,r1⟩:=vals1 r
 cases r1
 obtain ⟨its,rv,p,hz⟩:=I.list hq
 have hi:=intsAre_of rv
 obtain ⟨zs,ez⟩:=hi.allInts.items
 have hl:=p.isList
 rw [ez] at hl
 have e3 : ns = zs.toList.map (fun x=>x.1):=by
  have e2:=hi.numsOf
  have e3:=nums_intItems (xs:=zs)
  rw [<- ez] at e3
  exact e2.symm.trans e3
 have hsz : 0 < zs.size:=by
  have : 0 < ns.length:=List.length_pos_iff.mpr hne
  rw [e3,length_map,Array.length_toList] at this; exact this
 refine max_intList (I.ok.hd hc) hl hsz fun v h' tk hv hk=>?_
 obtain ⟨t,rfl⟩:=intItems_at hv
 obtain ⟨h1,h2⟩:=argBest_gt (numAt zs) (zs.size - 1)
 refine ⟨.int _,H,I.kept hk,⟨_,rfl⟩,q _ ?_ fun x hx=>?_⟩
 ·rw [e3,numAt_eq]; exact getD_mem (by rw [length_map,Array.length_toList]; omega)
 ·rw [e3] at hx
  obtain ⟨j,hj,rfl⟩:=mem_getD hx
  rw [length_map,Array.length_toList] at hj
  rw [<- numAt_eq]; exact h2 j (by omega)
end
end L2
namespace DL
open PySem PySem.Spec PyProof.Rows L2
abbrev D:=PyData
def muO : HO -> Bool
 | .lst _=>true
 | .dK _=>true
 | .dT _=>true
 | _=>false
abbrev MuS:={o : HO // muO o = true}
def Mu (H : Hp) (a : Addr) : Prop:=∃ o : MuS,H a = some o.1
theorem Mu.lst {H : Hp} {a : Addr} {us : List V} (h : H a = some (.lst us)) : Mu H a:=⟨⟨.lst us,rfl⟩,h⟩
theorem Mu.of {H : Hp} {a : Addr} {o : HO} (h : H a = some o) (m : muO o = true) : Mu H a:=⟨⟨o,m⟩,h⟩
theorem Mu.no {H : Hp} {a : Addr} {o : HO} (h : Mu H a) (e : H a = some o) (n : muO o = false) : False:=by
 obtain ⟨u,q⟩:=h
 rw [e] at q
 have q:=Option.some.inj q
 have m:=u.2
 rw [<- q,n] at m
 cases m
def keyV : Key -> D
 | .inl i=>.int i
 | .inr x=>.str x
def valD : D -> Option V
 | .none=>some .non
 | .bool b=>some (.bl b)
 | .int i=>some (.int i)
 | .str x=>some (.str x)
 | _=>Option.none
def DKps : List (Key × V) -> List (D × D) -> Prop
 | [],[]=>True
 | (k,v) :: r,(d,e) :: t=>d = keyV k /\ valD e = some v /\ DKps r t
 | _,_=>False
def DTps : List (List Key × V) -> List (D × D) -> Prop
 | [],[]=>True
 | (k,v) :: r,(d,e) :: t=>d = .tuple (k.map keyV) /\ valD e = some v /\ DTps r t
 | _,_=>False
def DctO : HO -> Bool -> List (D × D) -> Prop
 | .dK kvs,false,kds=>DKps kvs kds
 | .dT kvs,true,kds=>DTps kvs kds
 | _,_,_=>False
def dctD (b : Bool) (kds : List (D × D)) : D:=.dict ((.bool false,.bool b) :: kds)
theorem DctO.mu {o : HO} {b : Bool} {kds : List (D × D)} (h : DctO o b kds) : muO o = true:=by cases o <;> first | rfl | (cases b <;> exact h.elim)
mutual
inductive Dn (K : W.Frag) (H : Hp) : V -> D -> Prop
 | non : Dn K H .non .none
 | bl (b) : Dn K H (.bl b) (.bool b)
 | int (i) : Dn K H (.int i) (.int i)
 | str (x) : Dn K H (.str x) (.str x)
 | lst {a us ds} : H a = some (.lst us) -> Dns K H us ds -> Dn K H (.ref a) (.list ds)
 | tup {a us ds} : SqT K H a us -> Dns K H us ds -> Dn K H (.ref a) (.tuple ds)
 | scr {a} (ns : List Int) : SqL K H a (ns.map V.int) -> Dn K H (.ref a) (.dict [(.none,.list (ns.map .int))])
 | opq (a : Addr) : Dn K H (.ref a) (.dict [(.bool true,.int (a : Nat))])
 | dct {a o b kds} : H a = some o -> DctO o b kds -> Dn K H (.ref a) (.dict ((.bool false,.bool b) :: kds))
inductive Dns (K : W.Frag) (H : Hp) : List V -> List D -> Prop
 | nil : Dns K H [] []
 | cons {v vs d ds} : Dn K H v d -> Dns K H vs ds -> Dns K H (v :: vs) (d :: ds)
end
theorem Dn.both {K : W.Frag} {H : Hp} {P : V -> D -> Prop} {Q : List V -> List D -> Prop} (c1 : P .non .none) (c2 : ∀ b,P (.bl b) (.bool b)) (c3 : ∀ i,P (.int i) (.int i)) (c4 : ∀ x,P (.str x) (.str x))
  (c5 : ∀ {a us ds},H a = some (.lst us) -> Q us ds -> P (.ref a) (.list ds)) (c6 : ∀ {a us ds},SqT K H a us -> Q us ds -> P (.ref a) (.tuple ds)) (c7 : ∀ {a} (ns : List Int),SqL K H a (ns.map V.int) -> P (.ref a) (.dict [(.none,.list (ns.map .int))]))
  (c8 : ∀ a : Addr,P (.ref a) (.dict [(.bool true,.int (a : Nat))])) (c9 : ∀ {a o b kds},H a = some o -> DctO o b kds -> P (.ref a) (.dict ((.bool false,.bool b) :: kds))) (n0 : Q [] []) (n1 : ∀ {v vs d ds},P v d -> Q vs ds -> Q (v :: vs) (d :: ds)) :
  (∀ {v d},Dn K H v d -> P v d) /\ ∀ {vs ds},Dns K H vs ds -> Q vs ds :=
 ⟨fun h=>Dn.rec (motive_1:=fun v d _=>P v d) (motive_2:=fun vs ds _=>Q vs ds) c1 c2 c3 c4 (fun h _ r=>c5 h r) (fun h _ r=>c6 h r) (fun ns h=>c7 ns h) c8 (fun h r=>c9 h r) n0 (fun _ _ p q=>n1 p q) h,
  fun h=>Dns.rec (motive_1:=fun v d _=>P v d) (motive_2:=fun vs ds _=>Q vs ds) c1 c2 c3 c4 (fun h _ r=>c5 h r) (fun h _ r=>c6 h r) (fun ns h=>c7 ns h) c8 (fun h r=>c9 h r) n0 (fun _ _ p q=>n1 p q) h⟩
theorem Dn.same2 {K : W.Frag} {H H' : Hp} (e : Same H H') : (∀ {v d},Dn K H v d -> Dn K H' v d) /\ ∀ {vs ds},Dns K H vs ds -> Dns K H' vs ds :=
 Dn.both .non .bl .int .str (fun h r=>.lst (e _ _ h) r) (fun h r=>.tup (e.tup h) r) (fun ns h=>.scr ns (e.seq h)) .opq (fun h r=>.dct (e _ _ h) r) .nil fun p q=>.cons p q
theorem Dn.same {K : W.Frag} {H H' : Hp} (e : Same H H') {v : V} {d : D} (h : Dn K H v d) : Dn K H' v d:=(Dn.same2 e).1 h
theorem Dns.same {K : W.Frag} {H H' : Hp} (e : Same H H') {vs : List V} {ds : List D} (h : Dns K H vs ds) : Dns K H' vs ds:=(Dn.same2 e).2 h
theorem Dn.deep2 {K : W.Frag} {H : Hp} : (∀ {v d},Dn K H v d -> d.canLay0 = true -> Den K H v d) /\ ∀ {vs ds},Dns K H vs ds -> PyData.canLayAll0 ds = true -> Dens K H vs ds :=
 Dn.both (fun _=>.non) (fun b _=>.bl b) (fun b _=>.int b) (fun b _=>.str b) (fun h r q=>.lst (SqL.of h) (r (by simpa [PyData.canLay0] using q))) (fun h r q=>.tup h (r (by simpa [PyData.canLay0] using q)))
  (fun ns h q=>by simp [PyData.canLay0] at q) (fun a q=>by simp [PyData.canLay0] at q) (fun h r q=>by simp [PyData.canLay0] at q) (fun _=>.nil) fun p r q=>by
  simp only [PyData.canLayAll0,Bool.and_eq_true] at q
  exact .cons (p q.1) (r q.2)
theorem Dn.deep {K : W.Frag} {H : Hp} {v : V} {d : D} (h : Dn K H v d) (q : d.canLay0 = true) : Den K H v d:=Dn.deep2.1 h q
theorem Dns.length {K : W.Frag} {H : Hp} : ∀ {vs ds},Dns K H vs ds -> vs.length = ds.length
 | _,_,.nil=>rfl
 | _,_,.cons _ r=>by rw [length_cons,length_cons,Dns.length r]
theorem Dns.get {K : W.Frag} {H : Hp} : ∀ {vs ds} {i : Nat} {d : D},Dns K H vs ds -> ds[i]? = some d -> ∃ v,vs[i]? = some v /\ Dn K H v d
 | _,_,0,_,.cons h r,e=>by simp at e; subst e; exact ⟨_,rfl,h⟩
 | _,_,i + 1,d,.cons h r,e=>by simp at e ⊢; exact Dns.get r e
theorem Dns.append {K : W.Frag} {H : Hp} : ∀ {vs ds us es},Dns K H vs ds -> Dns K H us es -> Dns K H (vs ++ us) (ds ++ es)
 | _,_,_,_,.nil,q=>q
 | _,_,_,_,.cons h r,q=>.cons h (Dns.append r q)
mutual
inductive Ow (K : W.Frag) (H : Hp) : V -> D -> List Addr -> Prop
 | non : Ow K H .non .none []
 | bl (b) : Ow K H (.bl b) (.bool b) []
 | int (i) : Ow K H (.int i) (.int i) []
 | str (x) : Ow K H (.str x) (.str x) []
 | lst {a us ds ns} : H a = some (.lst us) -> Ows K H us ds ns -> Ow K H (.ref a) (.list ds) (a :: ns)
 | tup {a us ds ns} : SqT K H a us -> Ows K H us ds ns -> Ow K H (.ref a) (.tuple ds) ns
 | dct {a o b kds} : H a = some o -> DctO o b kds -> Ow K H (.ref a) (.dict ((.bool false,.bool b) :: kds)) [a]
inductive Ows (K : W.Frag) (H : Hp) : List V -> List D -> List Addr -> Prop
 | nil : Ows K H [] [] []
 | cons {v vs d ds ns ms} : Ow K H v d ns -> Ows K H vs ds ms -> Ows K H (v :: vs) (d :: ds) (ns ++ ms)
end
theorem Ow.both {K : W.Frag} {H : Hp} {P : V -> D -> List Addr -> Prop} {Q : List V -> List D -> List Addr -> Prop} (c1 : P .non .none []) (c2 : ∀ b,P (.bl b) (.bool b) []) (c3 : ∀ i,P (.int i) (.int i) []) (c4 : ∀ x,P (.str x) (.str x) [])
  (c5 : ∀ {a us ds ns},H a = some (.lst us) -> Q us ds ns -> P (.ref a) (.list ds) (a :: ns)) (c6 : ∀ {a us ds ns},SqT K H a us -> Q us ds ns -> P (.ref a) (.tuple ds) ns)
  (c9 : ∀ {a o b kds},H a = some o -> DctO o b kds -> P (.ref a) (.dict ((.bool false,.bool b) :: kds)) [a]) (n0 : Q [] [] []) (n1 : ∀ {v vs d ds ns ms},P v d ns -> Q vs ds ms -> Q (v :: vs) (d :: ds) (ns ++ ms)) :
  (∀ {v d ns},Ow K H v d ns -> P v d ns) /\ ∀ {vs ds ns},Ows K H vs ds ns -> Q vs ds ns :=
 ⟨fun h=>Ow.rec (motive_1:=fun v d ns _=>P v d ns) (motive_2:=fun vs ds ns _=>Q vs ds ns) c1 c2 c3 c4 (fun h _ r=>c5 h r) (fun h _ r=>c6 h r) (fun h r=>c9 h r) n0 (fun _ _ p q=>n1 p q) h,
  fun h=>Ows.rec (motive_1:=fun v d ns _=>P v d ns) (motive_2:=fun vs ds ns _=>Q vs ds ns) c1 c2 c3 c4 (fun h _ r=>c5 h r) (fun h _ r=>c6 h r) (fun h r=>c9 h r) n0 (fun _ _ p q=>n1 p q) h⟩
theorem Ow.den2 {K : W.Frag} {H : Hp} : (∀ {v d ns},Ow K H v d ns -> Dn K H v d) /\ ∀ {v d ns},Ows K H v d ns -> Dns K H v d :=
 Ow.both .non .bl .int .str (fun h r=>.lst h r) (fun h r=>.tup h r) (fun h r=>.dct h r) .nil fun p q=>.cons p q
theorem Ow.den {K : W.Frag} {H : Hp} {v : V} {d : D} {ns : List Addr} (h : Ow K H v d ns) : Dn K H v d:=Ow.den2.1 h
theorem Ows.den {K : W.Frag} {H : Hp} {v : List V} {d : List D} {ns : List Addr} (h : Ows K H v d ns) : Dns K H v d:=Ow.den2.2 h
theorem Ow.there2 {K : W.Frag} {H : Hp} : (∀ {v d ns},Ow K H v d ns -> ∀ a ∈ ns,Mu H a) /\ ∀ {v d ns},Ows K H v d ns -> ∀ a ∈ ns,Mu H a :=
 Ow.both (P:=fun _ _ ns=>∀ a ∈ ns,Mu H a) (Q:=fun _ _ ns=>∀ a ∈ ns,Mu H a) (fun _ z=>nomatch z) (fun _ _ z=>nomatch z) (fun _ _ z=>nomatch z) (fun _ _ z=>nomatch z) (fun h r a ha=>(mem_cons.mp ha).elim (fun e=>e ▸ .lst h) (r a)) (fun _ r=>r)
  (fun h r a ha=>mem_singleton.mp ha ▸ .of h r.mu) (fun _ z=>nomatch z) fun p q a ha=>(mem_append.mp ha).elim (p a) (q a)
theorem Ow.there {K : W.Frag} {H : Hp} {v : V} {d : D} {ns : List Addr} (h : Ow K H v d ns) : ∀ a ∈ ns,Mu H a:=Ow.there2.1 h
theorem Ows.there {K : W.Frag} {H : Hp} {v : List V} {d : List D} {ns : List Addr} (h : Ows K H v d ns) : ∀ a ∈ ns,Mu H a:=Ow.there2.2 h
def Kept (ns : List Addr) (H H' : Hp) : Prop:=(∀ a ∈ ns,H' a = H a) /\ ∀ a o,H a = some o -> muO o = false -> H' a = some o
theorem Kept.sqt {K : W.Frag} {ns : List Addr} {H H' : Hp} (k : Kept ns H H') {a : Addr} {us : List V} (h : SqT K H a us) : SqT K H' a us:=by
 rcases h with (h | ⟨o,h⟩) | h
 ·exact .inl (.inl (k.2 _ _ h rfl))
 ·exact .inl (.inr ⟨o,k.2 _ _ h rfl⟩)
 ·exact .inr h
theorem Ow.kept2 {K : W.Frag} {H H' : Hp} : (∀ {v d ns},Ow K H v d ns -> Kept ns H H' -> Ow K H' v d ns) /\ ∀ {v d ns},Ows K H v d ns -> Kept ns H H' -> Ows K H' v d ns :=
 Ow.both (P:=fun v d ns=>Kept ns H H' -> Ow K H' v d ns) (Q:=fun v d ns=>Kept ns H H' -> Ows K H' v d ns) (fun _=>.non) (fun b _=>.bl b) (fun b _=>.int b) (fun b _=>.str b) (fun h r k=>.lst ((k.1 _ mem_cons_self).trans h) (r ⟨fun a ha=>k.1 a (mem_cons_of_mem _ ha),k.2⟩))
  (fun h r k=>.tup (k.sqt h) (r k)) (fun h r k=>.dct ((k.1 _ mem_cons_self).trans h) r) (fun _=>.nil) fun p q k=>.cons (p ⟨fun a ha=>k.1 a (mem_append_left _ ha),k.2⟩) (q ⟨fun a ha=>k.1 a (mem_append_right _ ha),k.2⟩)
theorem Ow.kept {K : W.Frag} {H H' : Hp} {v : V} {d : D} {ns : List Addr} (h : Ow K H v d ns) (k : Kept ns H H') : Ow K H' v d ns:=Ow.kept2.1 h k
theorem Ows.kept {K : W.Frag} {H H' : Hp} {v : List V} {d : List D} {ns : List Addr} (h : Ows K H v d ns) (k : Kept ns H H') : Ows K H' v d ns:=Ow.kept2.2 h k
theorem Ow.same2 {K : W.Frag} {H H' : Hp} (e : Same H H') : (∀ {v d ns},Ow K H v d ns -> Ow K H' v d ns) /\ ∀ {v d ns},Ows K H v d ns -> Ows K H' v d ns :=
 Ow.both .non .bl .int .str (fun h r=>.lst (e _ _ h) r) (fun h r=>.tup (e.tup h) r) (fun h r=>.dct (e _ _ h) r) .nil fun p q=>.cons p q
theorem Ow.same {K : W.Frag} {H H' : Hp} (e : Same H H') {v : V} {d : D} {ns : List Addr} (h : Ow K H v d ns) : Ow K H' v d ns:=(Ow.same2 e).1 h
theorem Ows.same {K : W.Frag} {H H' : Hp} (e : Same H H') {v : List V} {d : List D} {ns : List Addr} (h : Ows K H v d ns) : Ows K H' v d ns:=(Ow.same2 e).2 h
mutual
def flat : D -> Bool
 | .none=>true
 | .bool _=>true
 | .int _=>true
 | .str _=>true
 | .list _=>false
 | .tuple ds=>flats ds
 | .dict _=>false
def flats : List D -> Bool
 | []=>true
 | d :: ds=>flat d && flats ds
end
theorem ow_flat2 {K : W.Frag} {H : Hp} : (∀ {v d},Dn K H v d -> flat d = true -> Ow K H v d []) /\ ∀ {v d},Dns K H v d -> flats d = true -> Ows K H v d [] :=
 Dn.both (fun _=>.non) (fun b _=>.bl b) (fun b _=>.int b) (fun b _=>.str b) (fun _ _ h=>nomatch h) (fun h r q=>.tup h (r q)) (fun _ _ h=>nomatch h) (fun _ h=>nomatch h) (fun _ _ h=>nomatch h) (fun _=>.nil) fun p r q=>by
  rw [flats,Bool.and_eq_true] at q
  exact .cons (ns:=[]) (ms:=[]) (p q.1) (r q.2)
theorem ow_flat {K : W.Frag} {H : Hp} {v : V} {d : D} (h : Dn K H v d) (q : flat d = true) : Ow K H v d []:=ow_flat2.1 h q
theorem ows_flat {K : W.Frag} {H : Hp} {v : List V} {d : List D} (h : Dns K H v d) (q : flats d = true) : Ows K H v d []:=ow_flat2.2 h q
theorem den_kept2 {K : W.Frag} {H H' : Hp} (k : ∀ a o,H a = some o -> muO o = false -> H' a = some o) : (∀ {v d},Dn K H v d -> flat d = true -> Dn K H' v d) /\ ∀ {v d},Dns K H v d -> flats d = true -> Dns K H' v d :=
 Dn.both (fun _=>.non) (fun b _=>.bl b) (fun b _=>.int b) (fun b _=>.str b) (fun _ _ h=>nomatch h) (fun h r q=>.tup (Kept.sqt (ns:=[]) ⟨fun _ z=>(by cases z),k⟩ h) (r q)) (fun _ _ h=>nomatch h) (fun _ h=>nomatch h) (fun _ _ h=>nomatch h) (fun _=>.nil) fun p r q=>by
  rw [flats,Bool.and_eq_true] at q
  exact .cons (p q.1) (r q.2)
theorem den_kept {K : W.Frag} {H H' : Hp} (k : ∀ a o,H a = some o -> muO o = false -> H' a = some o) {v : V} {d : D} (h : Dn K H v d) (q : flat d = true) : Dn K H' v d:=(den_kept2 k).1 h q
theorem dens_kept {K : W.Frag} {H H' : Hp} (k : ∀ a o,H a = some o -> muO o = false -> H' a = some o) {v : List V} {d : List D} (h : Dns K H v d) (q : flats d = true) : Dns K H' v d:=(den_kept2 k).2 h q
open Classical in
noncomputable def hid (Z : Addr -> Prop) (H : Hp) : Hp:=fun a=>if Z a then none else H a
theorem hid_of {Z : Addr -> Prop} {H : Hp} {a : Addr} {o : HO} (h : H a = some o) (z : ¬ Z a) : hid Z H a = some o:=by unfold hid; rw [if_neg z]; exact h
theorem of_hid {Z : Addr -> Prop} {H : Hp} {a : Addr} {o : HO} (h : hid Z H a = some o) : H a = some o /\ ¬ Z a:=by
 unfold hid at h
 split at h
 ·cases h
 ·exact ⟨h,‹_›⟩
theorem hid_same {Z : Addr -> Prop} {H : Hp} : Same (hid Z H) H:=fun _ _ h=>(of_hid h).1
theorem hid_mono {Z : Addr -> Prop} {H H' : Hp} (e : Same H H') : Same (hid Z H) (hid Z H'):=fun b o h=>hid_of (e b o (of_hid h).1) (of_hid h).2
theorem hid_less {Z Z' : Addr -> Prop} {H : Hp} (h : ∀ a,Z' a -> Z a) : Same (hid Z H) (hid Z' H):=fun b o e=>hid_of (of_hid e).1 fun z=>(of_hid e).2 (h b z)
theorem den_hid {K : W.Frag} {Z : Addr -> Prop} {H : Hp} {v : V} {d : D} (hl : ∀ a,Z a -> Mu H a) (h : Dn K H v d) (hf : flat d = true) : Dn K (hid Z H) v d :=
 den_kept (fun a o e n=>hid_of e fun z=>(hl a z).no e n) h hf
theorem ow_hid2 {K : W.Frag} {Z : Addr -> Prop} {H : Hp} (hl : ∀ a,Z a -> Mu H a) : (∀ {v d ns},Ow K H v d ns -> (∀ a ∈ ns,¬ Z a) -> Dn K (hid Z H) v d) /\ ∀ {v d ns},Ows K H v d ns -> (∀ a ∈ ns,¬ Z a) -> Dns K (hid Z H) v d :=
 Ow.both (P:=fun v d ns=>(∀ a ∈ ns,¬ Z a) -> Dn K (hid Z H) v d) (Q:=fun v d ns=>(∀ a ∈ ns,¬ Z a) -> Dns K (hid Z H) v d) (fun _=>.non) (fun b _=>.bl b) (fun b _=>.int b) (fun b _=>.str b) (fun h r k=>.lst (hid_of h (k _ mem_cons_self)) (r fun a ha=>k a (mem_cons_of_mem _ ha)))
  (fun h r k=>.tup (Kept.sqt (ns:=[]) ⟨fun _ z=>(by cases z),fun a o e n=>hid_of e fun z=>(hl a z).no e n⟩ h) (r k)) (fun h r k=>.dct (hid_of h (k _ mem_cons_self)) r) (fun _=>.nil) fun p q k=>.cons (p fun a ha=>k a (mem_append_left _ ha)) (q fun a ha=>k a (mem_append_right _ ha))
theorem ow_hid {K : W.Frag} {Z : Addr -> Prop} {H : Hp} (hl : ∀ a,Z a -> Mu H a) {v : V} {d : D} {ns : List Addr} (h : Ow K H v d ns) (k : ∀ a ∈ ns,¬ Z a) : Dn K (hid Z H) v d:=(ow_hid2 hl).1 h k
theorem ows_hid {K : W.Frag} {Z : Addr -> Prop} {H : Hp} (hl : ∀ a,Z a -> Mu H a) {v : List V} {d : List D} {ns : List Addr} (h : Ows K H v d ns) (k : ∀ a ∈ ns,¬ Z a) : Dns K (hid Z H) v d:=(ow_hid2 hl).2 h k
abbrev Ren:=List (Option (Bool × D))
def Z0 : Addr -> Prop:=fun _=>False
def Hd (Z : Addr -> Prop) (ν : Nat -> List Addr) : Addr -> Prop:=fun a=>Z a \/ ∃ i,a ∈ ν i
structure StOk (K : W.Frag) (Z : Addr -> Prop) (H0 : Hp) (ν : Nat -> List Addr) (ρ : Ren) (σ : L2.St) (H : Hp) : Prop where
 sm : Same H0 H
 len : σ.length = ρ.length
 sl : ∀ i b d,ρ[i]? = some (some (b,d)) -> ∃ v,σ[i]? = some (some v) /\ if b = true then Ow K H v d (ν i) else Dn K (hid (Hd Z ν) H) v d
 nd : ∀ i,(ν i).Nodup
 dj : ∀ i j a,a ∈ ν i -> a ∈ ν j -> i = j
 fr : ∀ i a,a ∈ ν i -> H0 a = none /\ ¬ Z a /\ Mu H a
 zf : ∀ a,Z a -> H0 a = none /\ Mu H a
section
variable {K : W.Frag} {Z : Addr -> Prop} {H0 H H' : Hp} {ν : Nat -> List Addr} {ρ : Ren} {σ : L2.St} {v : V} {d : D}
theorem StOk.hl (S : StOk K Z H0 ν ρ σ H) : ∀ a,Hd Z ν a -> Mu H a:=fun a h=>by
 rcases h with h | ⟨i,h⟩
 ·exact (S.zf a h).2
 ·exact (S.fr i a h).2.2
theorem StOk.same (S : StOk K Z H0 ν ρ σ H) (e : Same H H') : StOk K Z H0 ν ρ σ H' where
 sm:=S.sm.trans e
 len:=S.len
 sl:=fun i b d h=>by
  obtain ⟨v,h1,h2⟩:=S.sl i b d h
  refine ⟨v,h1,?_⟩
  cases b with
  | true=>exact Ow.same e h2
  | false=>exact Dn.same (hid_mono e) h2
 nd:=S.nd
 dj:=S.dj
 fr:=fun i a h=>by obtain ⟨h1,h2,us,h3⟩:=S.fr i a h; exact ⟨h1,h2,us,e _ _ h3⟩
 zf:=fun a h=>by obtain ⟨h1,us,h3⟩:=S.zf a h; exact ⟨h1,us,e _ _ h3⟩
theorem StOk.get (S : StOk K Z H0 ν ρ σ H) {i : Nat} {b : Bool} (h : ρ[i]? = some (some (b,d))) : ∃ v,σ[i]? = some (some v) /\ Dn K H v d:=by
 obtain ⟨v,h1,h2⟩:=S.sl i b d h
 refine ⟨v,h1,?_⟩
 cases b with
 | true=>exact h2.den
 | false=>exact Dn.same hid_same h2
theorem set_get {α : Type} {l : List α} {i j : Nat} {x y : α} (h : (l.set i x)[j]? = some y) : (j = i /\ y = x /\ i < l.length) \/ (j ≠ i /\ l[j]? = some y):=by
 rw [List.getElem?_set] at h
 split at h
 ·split at h
  ·cases h; exact .inl ⟨by omega,rfl,by omega⟩
  ·cases h
 ·exact .inr ⟨by omega,h⟩
theorem StOk.setOld (S : StOk K Z H0 ν ρ σ H) (i : Nat) (h : Dn K (hid (Hd Z ν) H) v d) : StOk K Z H0 ν (ρ.set i (some (false,d))) (σ.set i (some v)) H where
 sm:=S.sm
 len:=by rw [length_set,length_set]; exact S.len
 sl:=fun j b e hj=>by
  rcases set_get hj with ⟨rfl,h1,h2⟩ | ⟨h1,h2⟩
  ·cases h1
   exact ⟨v,by rw [List.getElem?_set_self (by rw [S.len]; exact h2)],h⟩
  ·obtain ⟨u,q1,q2⟩:=S.sl j b e h2
   exact ⟨u,by rw [List.getElem?_set_ne (Ne.symm h1)]; exact q1,q2⟩
 nd:=S.nd
 dj:=S.dj
 fr:=S.fr
 zf:=S.zf
theorem StOk.drop (S : StOk K Z H0 ν ρ σ H) (i : Nat) : StOk K Z H0 ν (ρ.set i none) σ H where
 sm:=S.sm
 len:=by rw [length_set]; exact S.len
 sl:=fun j b e hj=>by
  rcases set_get hj with ⟨rfl,h1,h2⟩ | ⟨h1,h2⟩
  ·cases h1
  ·exact S.sl j b e h2
 nd:=S.nd
 dj:=S.dj
 fr:=S.fr
 zf:=S.zf
def dropS (ρ : Ren) : List Nat -> Ren
 | []=>ρ
 | i :: r=>dropS (ρ.set i none) r
theorem dropS_len : ∀ (s : List Nat) (ρ : Ren),(dropS ρ s).length = ρ.length
 | [],_=>rfl
 | i :: r,ρ=>by unfold dropS; rw [dropS_len r,length_set]
theorem dropS_get : ∀ (s : List Nat) {ρ : Ren} {i : Nat} {x : Bool × D},(dropS ρ s)[i]? = some (some x) -> i ∉ s /\ ρ[i]? = some (some x)
 | [],_,_,_,h=>⟨by simp,h⟩
 | j :: r,ρ,i,x,h=>by
  obtain ⟨h1,h2⟩:=dropS_get r h
  rcases set_get h2 with ⟨rfl,q,_⟩ | ⟨q1,q2⟩
  ·cases q
  ·exact ⟨by simp [h1,q1],q2⟩
theorem StOk.setOwn (S : StOk K Z H0 ν ρ σ H) (s : List Nat) (i : Nat) {ms : List Addr} (e : Same H H') (h : Ow K H' v d ms) (nd : ms.Nodup) (fr : ∀ a ∈ ms,H a = none \/ ∃ j ∈ s,a ∈ ν j) :
  StOk K Z H0 (fun j=>if j = i then ms else if j ∈ s then [] else ν j) ((dropS ρ s).set i (some (true,d))) (σ.set i (some v)) H' where
 sm:=S.sm.trans e
 len:=by rw [length_set,length_set,dropS_len]; exact S.len
 sl:=fun j b c hj=>by
  rcases set_get hj with ⟨rfl,h1,h2⟩ | ⟨h1,h2⟩
  ·cases h1
   exact ⟨v,by rw [List.getElem?_set_self (by rw [S.len]; rw [dropS_len] at h2; exact h2)],by rw [if_pos rfl]; rw [if_pos rfl]; exact h⟩
  ·obtain ⟨h3,h4⟩:=dropS_get s h2
   obtain ⟨u,q1,q2⟩:=S.sl j b c h4
   refine ⟨u,by rw [List.getElem?_set_ne (Ne.symm h1)]; exact q1,?_⟩
   cases b with
   | true =>
    rw [if_pos rfl,if_neg h1,if_neg h3]
    exact Ow.same e q2
   | false =>
    refine Dn.same (fun a o ha=>?_) q2
    obtain ⟨g1,g2⟩:=of_hid ha
    refine hid_of (e _ _ g1) fun z=>?_
    rcases z with z | ⟨k,z⟩
    ·exact g2 (.inl z)
    ·dsimp only at z
     split at z
     ·rcases fr a z with z | ⟨l,_,z⟩
      ·rw [g1] at z; cases z
      ·exact g2 (.inr ⟨l,z⟩)
     ·split at z
      ·cases z
      ·exact g2 (.inr ⟨k,z⟩)
 nd:=fun j=>by
  split
  ·exact nd
  ·split
   ·exact nodup_nil
   ·exact S.nd j
 dj:=fun j k a hj hk=>by
  have key : ∀ l,l ∉ s -> a ∈ ν l -> a ∉ ms:=fun l hl ha hm=>by
   rcases fr a hm with z | ⟨m,hm,z⟩
   ·obtain ⟨_,_,us,q⟩:=S.fr l a ha
    rw [z] at q; cases q
   ·rw [S.dj l m a ha z] at hl; exact hl hm
  split at hj
  ·split at hk
   ·omega
   ·split at hk
    ·cases hk
    ·exact absurd hj (key k ‹_› hk)
  ·split at hj
   ·cases hj
   ·split at hk
    ·exact absurd hk (key j ‹_› hj)
    ·split at hk
     ·cases hk
     ·exact S.dj j k a hj hk
 fr:=fun j a ha=>by
  split at ha
  ·have ht:=h.there a ha
   rcases fr a ha with z | ⟨m,_,z⟩
   ·exact ⟨S.sm.gone z,(fun q=>by obtain ⟨_,us,q⟩:=S.zf a q; rw [z] at q; cases q),ht⟩
   ·obtain ⟨q1,q2,us,q3⟩:=S.fr m a z
    exact ⟨q1,q2,us,e _ _ q3⟩
  ·split at ha
   ·cases ha
   ·obtain ⟨q1,q2,us,q3⟩:=S.fr j a ha
    exact ⟨q1,q2,us,e _ _ q3⟩
 zf:=fun a h=>by obtain ⟨h1,us,h3⟩:=S.zf a h; exact ⟨h1,us,e _ _ h3⟩
def frz (ρ : Ren) : Ren:=ρ.map fun x=>x.map fun y=>(false,y.2)
theorem frz_get {ρ : Ren} {i : Nat} {b : Bool} {d : D} (h : (frz ρ)[i]? = some (some (b,d))) : b = false /\ ∃ c,ρ[i]? = some (some (c,d)):=by
 unfold frz at h
 rw [List.getElem?_map] at h
 cases q : ρ[i]? with
 | none=>rw [q] at h; cases h
 | some x =>
  rw [q] at h
  cases x with
  | none=>cases h
  | some y=>cases h; exact ⟨rfl,y.1,rfl⟩
theorem StOk.frz (S : StOk K Z H0 ν ρ σ H) : StOk K Z H0 (fun _=>[]) (frz ρ) σ H where
 sm:=S.sm
 len:=by unfold DL.frz; rw [length_map]; exact S.len
 sl:=fun i b d h=>by
  obtain ⟨rfl,c,h⟩:=frz_get h
  obtain ⟨v,h1,h2⟩:=S.sl i c d h
  refine ⟨v,h1,?_⟩
  have hl : ∀ a,Hd Z (fun _=>[]) a -> Mu H a:=fun a z=>by
   rcases z with z | ⟨_,z⟩
   ·exact (S.zf a z).2
   ·cases z
  cases c with
  | true =>
   refine ow_hid hl h2 fun a ha z=>?_
   rcases z with z | ⟨_,z⟩
   ·exact (S.fr i a ha).2.1 z
   ·cases z
  | false=>exact Dn.same (hid_less fun a z=>by rcases z with z | ⟨_,z⟩; exact .inl z; cases z) h2
 nd:=fun _=>nodup_nil
 dj:=fun _ _ _ z=>by cases z
 fr:=fun _ _ z=>by cases z
 zf:=S.zf
def frz1 (i : Nat) (ρ : Ren) : Ren:=match ρ[i]? with
 | some (some (_,d))=>ρ.set i (some (false,d))
 | _=>ρ
theorem StOk.frz1 (S : StOk K Z H0 ν ρ σ H) (i : Nat) : StOk K Z H0 (fun j=>if j = i then [] else ν j) (frz1 i ρ) σ H:=by
 have hl : ∀ a,Hd Z (fun j=>if j = i then [] else ν j) a -> Hd Z ν a:=fun a z=>by
  rcases z with z | ⟨j,z⟩
  ·exact .inl z
  ·dsimp only at z
   split at z
   ·cases z
   ·exact .inr ⟨j,z⟩
 have sl : ∀ j b d,ρ[j]? = some (some (b,d)) -> j ≠ i -> ∃ v,σ[j]? = some (some v) /\ if b = true then Ow K H v d (if j = i then [] else ν j) else Dn K (hid (Hd Z fun j=>if j = i then [] else ν j) H) v d:=fun j b d h hj=>by
  obtain ⟨v,h1,h2⟩:=S.sl j b d h
  refine ⟨v,h1,?_⟩
  rw [if_neg hj]
  cases b with
  | true=>exact h2
  | false=>exact Dn.same (hid_less hl) h2
 refine ⟨S.sm,?_,?_,fun j=>?_,fun j k a hj hk=>?_,fun j a ha=>?_,S.zf⟩
 ·unfold DL.frz1
  split
  ·rw [length_set]; exact S.len
  ·exact S.len
 ·intro j b d h
  unfold DL.frz1 at h
  split at h
  case h_1 x b' d' e =>
   rcases set_get h with ⟨rfl,h1,h2⟩ | ⟨h1,h2⟩
   ·cases h1
    obtain ⟨v,h1,h2⟩:=S.sl j b' d e
    refine ⟨v,h1,?_⟩
    cases b' with
    | true =>
     refine ow_hid (fun a z=>S.hl a (hl a z)) h2 fun a ha z=>?_
     rcases z with z | ⟨k,z⟩
     ·exact (S.fr j a ha).2.1 z
     ·dsimp only at z
      split at z
      ·cases z
      ·exact absurd (S.dj _ _ _ z ha) ‹_›
    | false=>exact Dn.same (hid_less hl) h2
   ·exact sl j b d h2 h1
  case h_2 e =>
   by_cases hj : j = i
   ·subst hj; exact absurd h (fun q=>e _ _ q)
   ·exact sl j b d h hj
 ·skip
  split
  ·exact nodup_nil
  ·exact S.nd j
 ·skip
  split at hj
  ·cases hj
  ·split at hk
   ·cases hk
   ·exact S.dj _ _ _ hj hk
 ·skip
  split at ha
  ·cases ha
  ·exact S.fr _ _ ha
end
inductive Kd where
 | own (s : List Nat)
 | old
 | mix
def Res (K : W.Frag) (Z : Addr -> Prop) (ν : Nat -> List Addr) (H H' : Hp) : Kd -> V -> D -> Prop
 | .own s,v,d=>∃ ms,Ow K H' v d ms /\ ms.Nodup /\ ∀ a ∈ ms,H a = none \/ ∃ j ∈ s,a ∈ ν j
 | .old,v,d=>Dn K (hid (Hd Z ν) H') v d
 | .mix,v,d=>Dn K H' v d
section
variable {K : W.Frag} {Z : Addr -> Prop} {H H1 H' : Hp} {ν : Nat -> List Addr} {v : V} {d : D} {k : Kd}
theorem Res.den (h : Res K Z ν H H' k v d) : Dn K H' v d:=by
 cases k with
 | own s=>obtain ⟨ms,h,_⟩:=h; exact h.den
 | old=>exact Dn.same hid_same h
 | mix=>exact h
theorem Res.same (h : Res K Z ν H H1 k v d) (e : Same H1 H') : Res K Z ν H H' k v d:=by
 cases k with
 | own s=>obtain ⟨ms,h,r⟩:=h; exact ⟨ms,h.same e,r⟩
 | old=>exact Dn.same (hid_mono e) h
 | mix=>exact Dn.same e h
theorem Res.later (h : Res K Z ν H1 H' k v d) (e : Same H H1) : Res K Z ν H H' k v d:=by
 cases k with
 | own s =>
  obtain ⟨ms,h,r,f⟩:=h
  exact ⟨ms,h,r,fun a ha=>by rcases f a ha with z | z; exact .inl (e.gone z); exact .inr z⟩
 | old=>exact h
 | mix=>exact h
theorem Res.flat (h : Dn K H' v d) (hf : DL.flat d = true) (hl : ∀ a,Hd Z ν a -> Mu H' a) (k : Kd) : Res K Z ν H H' k v d:=by
 cases k with
 | own s=>exact ⟨[],ow_flat h hf,nodup_nil,fun _ z=>by cases z⟩
 | old=>exact den_hid hl h hf
 | mix=>exact h
end
abbrev QD:=D -> Kd -> Prop
abbrev XD:=Addr -> Prop
abbrev TD:=Ren -> QD -> XD -> Prop
abbrev TDT:=Ren -> (Bool -> Prop) -> XD -> Prop
abbrev TDA:=Ren -> (List D -> Kd -> Prop) -> XD -> Prop
def RsL (K : W.Frag) (Z : Addr -> Prop) (ν : Nat -> List Addr) (H H' : Hp) : Kd -> List V -> List D -> Prop
 | .own s,v,d=>∃ ms,Ows K H' v d ms /\ ms.Nodup /\ ∀ a ∈ ms,H a = none \/ ∃ j ∈ s,a ∈ ν j
 | .old,v,d=>Dns K (hid (Hd Z ν) H') v d
 | .mix,v,d=>Dns K H' v d
def LE (K : W.Frag) (E : XK) (t : TD) : TE:=fun σ H Q=>∃ H0 ν ρ Qd Xd,StOk K Z0 H0 ν ρ σ H /\ t ρ Qd Xd /\ (∀ d k v H',Qd d k -> Same H H' -> Res K Z0 ν H H' k v d -> Q v H') /\ ∀ C H',Xd C -> Same H0 H' -> E (.ref C) none H'
def LT (K : W.Frag) (E : XK) (t : TDT) : TT:=fun σ H Q=>∃ H0 ν ρ Qd Xd,StOk K Z0 H0 ν ρ σ H /\ t ρ Qd Xd /\ (∀ b H',Qd b -> Same H H' -> Q b H') /\ ∀ C H',Xd C -> Same H0 H' -> E (.ref C) none H'
def LA (K : W.Frag) (E : XK) (t : TDA) : TA:=fun σ H Q=>∃ H0 ν ρ Qd Xd,StOk K Z0 H0 ν ρ σ H /\ t ρ Qd Xd /\ (∀ ds k vs H',Qd ds k -> Same H H' -> RsL K Z0 ν H H' k vs ds -> Q vs H') /\ ∀ C H',Xd C -> Same H0 H' -> E (.ref C) none H'
structure DE (X : Cx) (K : W.Frag) (E : XK) (e : Expr) (t : TD) : Prop where
 q : QE X e (LE K E t)
structure DT (X : Cx) (K : W.Frag) (E : XK) (e : Expr) (t : TDT) : Prop where
 q : QT X e (LT K E t)
structure DW (X : Cx) (K : W.Frag) (E : XK) (e : Expr) (t : TDT) : Prop where
 q : QW X e (LT K E t)
structure DA (X : Cx) (K : W.Frag) (E : XK) (e : List Expr) (t : TDA) : Prop where
 q : QA X e (LA K E t)
theorem qe_imp {X : Cx} {e : Expr} {t t' : TE} (h : QE X e t) (i : ∀ σ H Q,t' σ H Q -> t σ H Q) : QE X e t':=⟨fun pins s σ H Q I w=>h.h pins s σ H Q I (i σ H Q w)⟩
theorem qt_imp {X : Cx} {e : Expr} {t t' : TT} (h : QT X e t) (i : ∀ σ H Q,t' σ H Q -> t σ H Q) : QT X e t':=⟨fun pins s σ H Q I w=>h.h pins s σ H Q I (i σ H Q w)⟩
theorem qw_imp {X : Cx} {e : Expr} {t t' : TT} (h : QW X e t) (i : ∀ σ H Q,t' σ H Q -> t σ H Q) : QW X e t':=⟨fun wh pins s σ H Q I w=>h.h wh pins s σ H Q I (i σ H Q w)⟩
theorem qa_imp {X : Cx} {e : List Expr} {t t' : TA} (h : QA X e t) (i : ∀ σ H Q,t' σ H Q -> t σ H Q) : QA X e t':=⟨fun pos pins s σ H Q I w=>h.h pos pins s σ H Q I (i σ H Q w)⟩
theorem qs_imp {X : Cx} {e : Stmt} {t t' : TS} (h : QS X e t) (i : ∀ D σ H,t' D σ H -> t D σ H) : QS X e t':=⟨fun pins s σ H D I w=>h.h pins s σ H D I (i D σ H w)⟩
theorem qss_imp {X : Cx} {e : List Stmt} {t t' : TS} (h : QSs X e t) (i : ∀ D σ H,t' D σ H -> t D σ H) : QSs X e t':=⟨fun pins s σ H D I w=>h.h pins s σ H D I (i D σ H w)⟩
section
variable {X : Cx} {K : W.Frag} {E : XK} {pos : Pos}
def dVar (i : Nat) : TD:=fun ρ Q _=>∃ b d,ρ[i]? = some (some (b,d)) /\ Q d (if b = true then .own [i] else .old)
theorem dpv (i : Nat) {x : Str} (hN : X.N[i]? = some x:=by rfl) (hv : Vis X.env.scope x:=by first | exact Or.inl rfl | exact Or.inr (Or.inl rfl) | exact Or.inr (Or.inr rfl)) (hd : (x == ("__debug__" : Str)) = false:=by decide)
  (hcd : (x == ("__classdict__" : Str)) = false:=by decide) : DE X K E (.Name x pos) (dVar i):=⟨qe_imp (qpv i hN hv hd hcd) fun σ H Q h=>by
 obtain ⟨H0,ν,ρ,Qd,Xd,S,⟨b,d,h1,h2⟩,q,_⟩:=h
 obtain ⟨v,g1,g2⟩:=S.sl i b d h1
 refine ⟨v,g1,q d _ v H h2 (Same.refl H) ?_⟩
 cases b with
 | true=>exact ⟨ν i,g2,S.nd i,fun a ha=>.inr ⟨i,by simp,ha⟩⟩
 | false=>exact g2⟩
def dC (d : D) : TD:=fun _ Q _=>Q d .old
theorem dc_of {e : Expr} {v : V} {d : D} (h : QE X e (tC v)) (hd : ∀ H,Dn K H v d) : DE X K E e (dC d):=⟨qe_imp h fun σ H Q h=>by
 obtain ⟨H0,ν,ρ,Qd,Xd,S,h1,q,_⟩:=h
 exact q d _ v H h1 (Same.refl H) (hd _)⟩
theorem dpe_int {i : Int} {j} : DE X K E (.Constant (.int i) j pos) (dC (.int i)):=dc_of qpe_int fun _=>.int _
theorem dpe_bl {i : Bool} {j} : DE X K E (.Constant (.bool i) j pos) (dC (.bool i)):=dc_of qpe_bl fun _=>.bl _
theorem dpe_non {j} : DE X K E (.Constant .none j pos) (dC .none):=dc_of qpe_non fun _=>.non
theorem dpe_str {x : Str} {j} : DE X K E (.Constant (.str x) j pos) (dC (.str x)):=dc_of qpe_str fun _=>.str _
abbrev F2:=D -> Kd -> D -> Kd -> QD -> Prop
def Prim2 (K : W.Frag) (r : R2) (f : F2) : Prop:=∀ (Z : Addr -> Prop) (ν : Nat -> List Addr) (Hs H : Hp) (x y : V) (d : D) (k : Kd) (e : D) (l : Kd) (Qf : QD) (Q : VK),(∀ a,Hd Z ν a -> Mu H a) -> (∀ a,Hd Z ν a -> Mu Hs a) -> Same Hs H -> Res K Z ν Hs H k x d -> Res K Z ν Hs H l y e ->
 f d k e l Qf -> (∀ d k v H',Qf d k -> Same H H' -> Res K Z ν Hs H' k v d -> Q v H') -> r x y H Q
structure DOp (X : Cx) (K : W.Frag) (f : Value -> Value -> Sem Value) (g : F2) : Prop where
 ex : ∃ r,OpR X f r /\ Prim2 K r g
structure DIx (X : Cx) (K : W.Frag) (g : F2) : Prop where
 ex : ∃ r,IxR X r /\ Prim2 K r g
def dOp (f : F2) (ta tb : TD) : TD:=fun ρ Q Xd=>ta ρ (fun d k=>tb ρ (fun e l=>f d k e l Q) Xd) Xd
theorem le_two {r : R2} {f : F2} {ta tb : TD} (p : Prim2 K r f) : ∀ σ H Q,LE K E (dOp f ta tb) σ H Q -> tOp r (LE K E ta) (LE K E tb) σ H Q:=fun σ H Q h=>by
 obtain ⟨H0,ν,ρ,Qd,Xd,S,h1,q,x⟩:=h
 refine ⟨H0,ν,ρ,_,Xd,S,h1,fun d k v H1 hd e1 r1=>?_,x⟩
 refine ⟨H0,ν,ρ,_,Xd,S.same e1,hd,fun d2 k2 v2 H2 hd2 e2 r2=>?_,x⟩
 refine p Z0 ν H H2 v v2 d k d2 k2 Qd Q (S.same (e1.trans e2)).hl S.hl (e1.trans e2) (r1.same e2) (r2.later e1) hd2 fun d3 k3 v3 H3 g1 g2 g3=>q d3 k3 v3 H3 g1 ((e1.trans e2).trans g2) g3
theorem dpe_op {op : Operator} {f : F2} {a b : Expr} {ta tb : TD} (ho : DOp X K (binaryOp op) f) (ha : DE X K E a ta) (hb : DE X K E b tb) : DE X K E (.BinOp a op b pos) (dOp f ta tb):=by
 obtain ⟨r,o,p⟩:=ho.ex
 exact ⟨qe_imp (qpe_op o ha.q hb.q) (le_two p)⟩
theorem dpe_cmp {op : CmpOp} {f : F2} {a b : Expr} {ta tb : TD} (ho : DOp X K (compareOp op) f) (ha : DE X K E a ta) (hb : DE X K E b tb) (hm : behindInMarks op b = false) : DE X K E (.Compare a [op] [b] pos) (dOp f ta tb):=by
 obtain ⟨r,o,p⟩:=ho.ex
 exact ⟨qe_imp (qpe_cmpR o ha.q hb.q hm) (le_two p)⟩
theorem dpe_ix {f : F2} {a b : Expr} {ta tb : TD} (ho : DIx X K f) (ha : DE X K E a ta) (hb : DE X K E b tb) (hs : PlainIx b) : DE X K E (.Subscript a b pos) (dOp f ta tb):=by
 obtain ⟨r,o,p⟩:=ho.ex
 exact ⟨qe_imp (qpe_ix o ha.q hb.q hs) (le_two p)⟩
theorem DOp.or {h : Value -> Value -> Sem Value} {f g : F2} (a : DOp X K h f) (b : DOp X K h g) : DOp X K h (fun d k e l Q=>f d k e l Q \/ g d k e l Q):=by
 obtain ⟨r,o,p⟩:=a.ex
 obtain ⟨r',o',p'⟩:=b.ex
 refine ⟨_,o.or o',fun Z ν Hs H x y d k e l Qf Q h1 h0 h2 h3 h4 h5 h6=>?_⟩
 rcases h5 with h5 | h5
 ·exact .inl (p Z ν Hs H x y d k e l Qf Q h1 h0 h2 h3 h4 h5 h6)
 ·exact .inr (p' Z ν Hs H x y d k e l Qf Q h1 h0 h2 h3 h4 h5 h6)
theorem DOp.mono {h : Value -> Value -> Sem Value} {f g : F2} (a : DOp X K h f) (i : ∀ d k e l Q,g d k e l Q -> f d k e l Q) : DOp X K h g:=by
 obtain ⟨r,o,p⟩:=a.ex
 exact ⟨r,o,fun Z ν Hs H x y d k e l Qf Q h1 h0 h2 h3 h4 h5 h6=>p Z ν Hs H x y d k e l Qf Q h1 h0 h2 h3 h4 (i _ _ _ _ _ h5) h6⟩
def fI (C : Int -> Int -> Prop) (g : Int -> Int -> D) : F2:=fun d _ e _ Q=>match d,e with
 | .int i,.int j=>C i j /\ Q (g i j) .old
 | _,_=>False
theorem prim_int {C : Int -> Int -> Prop} {g : Int -> Int -> Int} : Prim2 K (rI C fun i j=>.int (g i j)) (fI C fun i j=>.int (g i j)):=fun Z ν Hs H x y d k e l Qf Q _ _ _ h3 h4 h5 h6=>by
 unfold fI at h5
 split at h5
 ·have a:=h3.den
  have b:=h4.den
  cases a
  cases b
  exact ⟨_,_,rfl,rfl,h5.1,h6 _ _ _ _ h5.2 (Same.refl H) (.int _)⟩
 ·exact h5.elim
def T2 (_ _ : Int) : Prop:=True
theorem prim_int0 {g : Int -> Int -> Int} : Prim2 K (rI0 fun i j=>.int (g i j)) (fI T2 fun i j=>.int (g i j)):=fun Z ν Hs H x y d k e l Qf Q _ _ _ h3 h4 h5 h6=>by
 unfold fI at h5
 split at h5
 ·have a:=h3.den
  have b:=h4.den
  cases a
  cases b
  exact ⟨_,_,rfl,rfl,h6 _ _ _ _ h5.2 (Same.refl H) (.int _)⟩
 ·exact h5.elim
theorem prim_bool0 {g : Int -> Int -> Bool} : Prim2 K (rI0 fun i j=>.bl (g i j)) (fI T2 fun i j=>.bool (g i j)):=fun Z ν Hs H x y d k e l Qf Q _ _ _ h3 h4 h5 h6=>by
 unfold fI at h5
 split at h5
 ·have a:=h3.den
  have b:=h4.den
  cases a
  cases b
  exact ⟨_,_,rfl,rfl,h6 _ _ _ _ h5.2 (Same.refl H) (.bl _)⟩
 ·exact h5.elim
theorem dop_sub : DOp X K (binaryOp .Sub) (fI T2 fun i j=>.int (i - j)):=⟨_,op_sub,prim_int0⟩
theorem dop_mul : DOp X K (binaryOp .Mult) (fI IntMulOk fun i j=>.int (i * j)):=⟨_,op_mulB,prim_int⟩
theorem dop_fdiv : DOp X K (binaryOp .FloorDiv) (fI CDiv fun i j=>.int (i / j)):=⟨_,op_fdiv,prim_int⟩
theorem dop_mod : DOp X K (binaryOp .Mod) (fI (fun _ j=>0 < j) fun i j=>.int (i % j)):=⟨_,op_mod,prim_int⟩
theorem dop_pow : DOp X K (binaryOp .Pow) (fI CPow fun i j=>.int (i ^ j.toNat)):=⟨_,op_pow,prim_int⟩
theorem dop_lt : DOp X K (compareOp .Lt) (fI T2 fun i j=>.bool (decide (i < j))):=⟨_,op_lt,prim_bool0⟩
theorem dop_gt : DOp X K (compareOp .Gt) (fI T2 fun i j=>.bool (decide (j < i))):=⟨_,op_gt,prim_bool0⟩
theorem dop_ge : DOp X K (compareOp .GtE) (fI T2 fun i j=>.bool (decide (j <= i))):=⟨_,op_ge,prim_bool0⟩
def fEq (f : Bool -> Bool) : F2:=fun d _ e _ Q=>d.canLay0 = true /\ e.canLay0 = true /\ d.depth <= 32 /\ Q (.bool (f (PyData.eqv d e))) .old
theorem prim_eq {f : Bool -> Bool} : Prim2 K (rEqD K f) (fEq f):=fun Z ν Hs H x y d k e l Qf Q _ _ _ h3 h4 h5 h6 =>
 ⟨d,e,h3.den.deep h5.1,h4.den.deep h5.2.1,h5.1,h5.2.1,h5.2.2.1,h6 _ _ _ _ h5.2.2.2 (Same.refl H) (.bl _)⟩
theorem dop_eq (hK : X.K = K) (hu : X.A.units + 64 < cLine) : DOp X K (compareOp .Eq) (fEq id):=⟨_,op_eqK K hK hu,prim_eq⟩
theorem dop_ne (hK : X.K = K) (hu : X.A.units + 64 < cLine) : DOp X K (compareOp .NotEq) (fEq not):=⟨_,op_neK K hK hu,prim_eq⟩
def isNon : D -> Bool
 | .none=>true
 | _=>false
def fIs (f : Bool -> Bool) : F2:=fun d _ e _ Q=>e = .none /\ Q (.bool (f (isNon d))) .old
theorem isNon_den {H : Hp} {v : V} {d : D} (h : Dn K H v d) : decide (v = .non) = isNon d:=by
 cases h <;> simp [isNon,dctD]
theorem dop_is : DOp X K (compareOp .Is) (fIs id):=⟨_,op_isN,fun Z ν Hs H x y d k e l Qf Q _ _ _ h3 h4 h5 h6=>by
 obtain ⟨rfl,q⟩:=h5
 cases h4.den
 exact ⟨rfl,h6 _ _ _ _ q (Same.refl H) (by rw [isNon_den h3.den]; exact .bl _)⟩⟩
end
def Kd.isOld : Kd -> Bool
 | .old=>true
 | .own []=>true
 | _=>false
def kels (ds : List D) (k : Kd) : Kd:=if flats ds = true then .own [] else if k.isOld = true then .old else .mix
def kels2 (ds : List D) (k : Kd) (es : List D) (l : Kd) : Kd:=if (flats ds && flats es) = true then .own [] else if (k.isOld && l.isOld) = true then .old else .mix
def Kd.sub : Kd -> Kd
 | .own []=>.own []
 | .old=>.old
 | _=>.mix
section
variable {K : W.Frag} {Z : Addr -> Prop} {Hs H : Hp} {ν : Nat -> List Addr} {v : V} {d : D} {k l : Kd} {us vs : List V} {ds es : List D} {a p : Addr}
theorem Res.old (hl : ∀ a,Hd Z ν a -> Mu H a) (hn : ∀ a,Hd Z ν a -> Mu Hs a) (h : Res K Z ν Hs H k v d) (hk : k.isOld = true) : Dn K (hid (Hd Z ν) H) v d:=by
 cases k with
 | own s =>
  cases s with
  | nil =>
   obtain ⟨ms,h1,_,h3⟩:=h
   refine ow_hid hl h1 fun a ha z=>?_
   rcases h3 a ha with q | ⟨j,q,_⟩
   ·obtain ⟨us,z⟩:=hn a z; rw [q] at z; cases z
   ·cases q
  | cons=>cases hk
 | old=>exact h
 | mix=>cases hk
theorem RsL.dens (h : RsL K Z ν Hs H k vs ds) : Dns K H vs ds:=by
 cases k with
 | own s=>obtain ⟨ms,h,_⟩:=h; exact h.den
 | old=>exact Dns.same hid_same h
 | mix=>exact h
theorem res_newL (hl : ∀ a,Hd Z ν a -> Mu H a) (hs : Same Hs H) (hp : H p = none) (h : RsL K Z ν Hs H k vs ds) : Res K Z ν Hs (upd H p (.lst vs)) k (.ref p) (.list ds):=by
 have sm : Same H (upd H p (.lst vs)):=Same.new hp
 cases k with
 | own s =>
  obtain ⟨ms,h1,h2,h3⟩:=h
  refine ⟨p :: ms,.lst upd_same (h1.same sm),nodup_cons.mpr ⟨fun hm=>?_,h2⟩,fun a ha=>?_⟩
  ·obtain ⟨us,q⟩:=h1.there p hm; rw [hp] at q; cases q
  ·rcases mem_cons.mp ha with rfl | ha
   ·exact .inl (hs.gone hp)
   ·exact h3 a ha
 | old =>
  have hz : ¬ Hd Z ν p:=fun z=>by obtain ⟨us,q⟩:=hl p z; rw [hp] at q; cases q
  exact .lst (hid_of upd_same hz) (Dns.same (hid_mono sm) h)
 | mix=>exact .lst upd_same (Dns.same sm h)
theorem res_newT (hl : ∀ a,Hd Z ν a -> Mu H a) (hs : Same Hs H) (hp : H p = none) (h : RsL K Z ν Hs H k vs ds) : Res K Z ν Hs (upd H p (.tup vs)) k (.ref p) (.tuple ds):=by
 have sm : Same H (upd H p (.tup vs)):=Same.new hp
 cases k with
 | own s =>
  obtain ⟨ms,h1,h2,h3⟩:=h
  exact ⟨ms,.tup (SqT.of upd_same) (h1.same sm),h2,h3⟩
 | old =>
  have hz : ¬ Hd Z ν p:=fun z=>by obtain ⟨us,q⟩:=hl p z; rw [hp] at q; cases q
  exact .tup (SqT.of (hid_of upd_same hz)) (Dns.same (hid_mono sm) h)
 | mix=>exact .tup (SqT.of upd_same) (Dns.same sm h)
theorem dns_of_lst {v : V} (h : Dn K H v (.list ds)) : ∃ a us,v = .ref a /\ H a = some (.lst us) /\ Dns K H us ds:=by
 cases h with
 | lst h r=>exact ⟨_,_,rfl,h,r⟩
theorem dns_of_tup {v : V} (h : Dn K H v (.tuple ds)) : ∃ a us,v = .ref a /\ SqT K H a us /\ Dns K H us ds:=by
 cases h with
 | tup h r=>exact ⟨_,_,rfl,h,r⟩
theorem res_list (hl : ∀ a,Hd Z ν a -> Mu H a) (hn : ∀ a,Hd Z ν a -> Mu Hs a) (h : Res K Z ν Hs H k v (.list ds)) : ∃ a us,v = .ref a /\ H a = some (.lst us) /\ Dns K H us ds /\ RsL K Z ν Hs H (kels ds k) us ds:=by
 obtain ⟨a,us,rfl,h1,h2⟩:=dns_of_lst h.den
 refine ⟨a,us,rfl,h1,h2,?_⟩
 unfold kels
 split
 ·exact ⟨[],ows_flat h2 ‹_›,nodup_nil,fun _ z=>by cases z⟩
 ·split
  ·have q:=h.old hl hn ‹_›
   obtain ⟨a',us',e,q1,q2⟩:=dns_of_lst q
   cases e
   have:=(of_hid q1).1
   rw [h1] at this; cases this
   exact q2
  ·exact h2
theorem dns_hid {Z : Addr -> Prop} (hl : ∀ a,Z a -> Mu H a) (h : Dns K H us ds) (hf : flats ds = true) : Dns K (hid Z H) us ds :=
 dens_kept (fun a o e n=>hid_of e fun z=>(hl a z).no e n) h hf
theorem flats_app : flats ds = true -> flats es = true -> flats (ds ++ es) = true:=by
 intro h1 h2
 induction ds with
 | nil=>exact h2
 | cons x r ih =>
  simp only [flats,Bool.and_eq_true] at h1
  show (flat x && flats (r ++ es)) = true
  rw [h1.1,ih h1.2]; rfl
theorem rsl_old (hl : ∀ a,Hd Z ν a -> Mu H a) (hk : k.isOld = true) (h : RsL K Z ν Hs H (kels ds k) us ds) : Dns K (hid (Hd Z ν) H) us ds:=by
 have A:=h.dens
 unfold kels at h
 split at h
 ·exact dns_hid hl A ‹_›
 ·exact h
theorem rsl_app (hl : ∀ a,Hd Z ν a -> Mu H a) (h : RsL K Z ν Hs H (kels ds k) us ds) (g : RsL K Z ν Hs H (kels es l) vs es) : RsL K Z ν Hs H (kels2 ds k es l) (us ++ vs) (ds ++ es):=by
 have A:=h.dens
 have B:=g.dens
 unfold kels2
 split
 case isTrue e =>
  rw [Bool.and_eq_true] at e
  exact ⟨[],ows_flat (A.append B) (flats_app e.1 e.2),nodup_nil,fun _ z=>by cases z⟩
 case isFalse e =>
  split
  case isFalse=>exact A.append B
  case isTrue q =>
   rw [Bool.and_eq_true] at q
   exact (rsl_old hl q.1 h).append (rsl_old hl q.2 g)
theorem rsl_part (hl : ∀ a,Hd Z ν a -> Mu H a) (h : RsL K Z ν Hs H (kels ds k) us ds) {us' : List V} {ds' : List D} (p : ∀ {G : Hp},Dns K G us ds -> Dns K G us' ds') (hf : flats ds = true -> flats ds' = true) : RsL K Z ν Hs H (kels ds' k) us' ds':=by
 have A:=p h.dens
 unfold kels
 split
 ·exact ⟨[],ows_flat A ‹_›,nodup_nil,fun _ z=>by cases z⟩
 ·split
  ·exact p (rsl_old hl ‹_› h)
  ·exact A
end
section
variable {X : Cx} {K : W.Frag} {E : XK} {pos : Pos}
def fCat : F2:=fun d k e l Q=>match d,e with
 | .list ds,.list es=>ds.length + es.length <= 1000000 /\ Q (.list (ds ++ es)) (kels2 ds k es l)
 | _,_=>False
theorem million : (1000000 : Nat) <= sizeLine:=by decide
theorem prim_cat : Prim2 K rCat fCat:=fun Z ν Hs H x y d k e l Qf Q hl hn hs h3 h4 h5 h6=>by
 unfold fCat at h5
 split at h5
 ·obtain ⟨a,us,rfl,a1,a2,a3⟩:=res_list hl hn h3
  obtain ⟨b,vs,rfl,b1,b2,b3⟩:=res_list hl hn h4
  refine ⟨a,b,us,vs,rfl,rfl,a1,b1,?_,fun p hp=>?_⟩
  ·rw [a2.length,b2.length]; exact Nat.le_trans h5.1 million
  ·exact h6 _ _ _ _ h5.2 (Same.new hp) (res_newL hl hs hp (rsl_app hl a3 b3))
 ·exact h5.elim
def fStr : F2:=fun d _ e _ Q=>match d,e with
 | .str x,.str y=>x.length + y.length <= 1000000 /\ Q (.str (x ++ y)) .old
 | _,_=>False
theorem dop_addS : DOp X K (binaryOp .Add) fStr:=⟨_,op_add_str,fun Z ν Hs H x y d k e l Qf Q _ _ _ h3 h4 h5 h6=>by
 unfold fStr at h5
 split at h5
 ·have a:=h3.den
  have b:=h4.den
  cases a
  cases b
  exact ⟨_,_,rfl,rfl,Nat.le_trans h5.1 million,h6 _ _ _ _ h5.2 (Same.refl H) (.str _)⟩
 ·exact h5.elim⟩
def fAdd : F2:=fun d k e l Q=>match d,e with
 | .int i,.int j=>Q (.int (i + j)) .old
 | .list ds,.list es=>ds.length + es.length <= 1000000 /\ Q (.list (ds ++ es)) (kels2 ds k es l)
 | .str x,.str y=>x.length + y.length <= 1000000 /\ Q (.str (x ++ y)) .old
 | _,_=>False
theorem dop_add : DOp X K (binaryOp .Add) fAdd:=DOp.mono (DOp.or ⟨_,op_add,prim_int0⟩ (DOp.or ⟨_,op_cat,prim_cat⟩ dop_addS)) fun d k e l Q h=>by
 unfold fAdd at h
 split at h
 ·exact .inl ⟨trivial,h⟩
 ·exact .inr (.inl h)
 ·exact .inr (.inr h)
 ·exact h.elim
def fIx : F2:=fun d k e _ Q=>match d,e with
 | .list ds,.int i=>∃ x,atI ds i = some x /\ Q x k.sub
 | .tuple ds,.int i=>∃ x,atI ds i = some x /\ Q x k.sub
 | .str z,.int i=>z.length <= 1000000 /\ ∃ c,atI z.cps.toList i = some c /\ Q (.str ⟨#[c]⟩) .old
 | .dict [(.none,.list ds)],.int i=>∃ x,atI ds i = some x /\ Q x .old
 | _,_=>False
theorem ows_get {H : Hp} : ∀ {us : List V} {ds : List D} {ns : List Addr} {j : Nat} {x : D},Ows K H us ds ns -> ds[j]? = some x -> ∃ u ms,us[j]? = some u /\ Ow K H u x ms /\ (∀ a ∈ ms,a ∈ ns) /\ (ns.Nodup -> ms.Nodup)
 | _,_,_,0,x,.cons h r,e=>by simp at e; subst e; exact ⟨_,_,rfl,h,fun a ha=>mem_append_left _ ha,fun n=>(nodup_append.mp n).1⟩
 | _,_,_,j + 1,x,.cons h r,e=>by
  simp at e
  obtain ⟨u,ms,h1,h2,h3,h4⟩:=ows_get r e
  exact ⟨u,ms,by simpa using h1,h2,fun a ha=>mem_append_right _ (h3 a ha),fun n=>h4 (nodup_append.mp n).2.1⟩
theorem atI_nth {α : Type} {xs : List α} {i : Int} {x : α} (h : atI xs i = some x) : ∃ j,ixN xs.length i = some j /\ xs[j]? = some x:=by
 unfold atI at h
 cases e : ixN xs.length i with
 | none=>rw [e] at h; cases h
 | some j=>rw [e] at h; exact ⟨j,rfl,h⟩
theorem atI_of {α : Type} {xs : List α} {i : Int} {j : Nat} {x : α} (h : ixN xs.length i = some j) (g : xs[j]? = some x) : atI xs i = some x:=by
 unfold atI; rw [h]; exact g
theorem items_own {Z : Addr -> Prop} {ν : Nat -> List Addr} {Hs H : Hp} {us : List V} {ds : List D} {ms : List Addr} (h : Ows K H us ds ms) (nd : ms.Nodup) (fr : ∀ a ∈ ms,Hs a = none \/ ∃ j ∈ ([] : List Nat),a ∈ ν j) : ∀ (j : Nat) x,ds[j]? = some x -> ∃ u,us[j]? = some u /\ Res K Z ν Hs H (.own []) u x:=fun j x e=>by
 obtain ⟨u,ns,r1,r2,r3,r4⟩:=ows_get h e
 exact ⟨u,r1,ns,r2,r4 nd,fun a ha=>fr a (r3 a ha)⟩
theorem items_den {H : Hp} {us : List V} {ds : List D} (h : Dns K H us ds) : ∀ (j : Nat) x,ds[j]? = some x -> ∃ u,us[j]? = some u /\ Dn K H u x:=fun j x e=>h.get e
theorem res_itemsT {Z : Addr -> Prop} {ν : Nat -> List Addr} {Hs H : Hp} {k : Kd} {v : V} {ds : List D} (h : Res K Z ν Hs H k v (.tuple ds)) : ∃ a us,v = .ref a /\ SqT K H a us /\ us.length = ds.length /\ Dns K H us ds /\ ∀ (j : Nat) x,ds[j]? = some x -> ∃ u,us[j]? = some u /\ Res K Z ν Hs H k.sub u x:=by
 unfold Kd.sub
 split
 ·obtain ⟨ms,h1,h2,h3⟩:=h
  cases h1 with
  | tup q1 q2=>exact ⟨_,_,rfl,q1,q2.den.length,q2.den,items_own q2 h2 h3⟩
 ·obtain ⟨a,us,rfl,q1,q2⟩:=dns_of_tup (show Dn K _ _ _ from h)
  exact ⟨a,us,rfl,Same.tup hid_same q1,q2.length,Dns.same hid_same q2,items_den q2⟩
 ·obtain ⟨a,us,rfl,q1,q2⟩:=dns_of_tup h.den
  exact ⟨a,us,rfl,q1,q2.length,q2,items_den q2⟩
theorem res_itemsL {Z : Addr -> Prop} {ν : Nat -> List Addr} {Hs H : Hp} {k : Kd} {v : V} {ds : List D} (h : Res K Z ν Hs H k v (.list ds)) : ∃ a us,v = .ref a /\ H a = some (.lst us) /\ us.length = ds.length /\ Dns K H us ds /\ ∀ (j : Nat) x,ds[j]? = some x -> ∃ u,us[j]? = some u /\ Res K Z ν Hs H k.sub u x:=by
 unfold Kd.sub
 split
 ·obtain ⟨ms,h1,h2,h3⟩:=h
  cases h1 with
  | lst q1 q2=>exact ⟨_,_,rfl,q1,q2.den.length,q2.den,items_own q2 (nodup_cons.mp h2).2 fun a ha=>h3 a (mem_cons_of_mem _ ha)⟩
 ·obtain ⟨a,us,rfl,q1,q2⟩:=dns_of_lst (show Dn K _ _ _ from h)
  exact ⟨a,us,rfl,(of_hid q1).1,q2.length,Dns.same hid_same q2,items_den q2⟩
 ·obtain ⟨a,us,rfl,q1,q2⟩:=dns_of_lst h.den
  exact ⟨a,us,rfl,q1,q2.length,q2,items_den q2⟩
theorem dix (hK : X.K = K) : DIx X K fIx:=by
 subst hK
 refine ⟨_,ix_seq,fun Z ν Hs H x y d k e l Qf Q hl hn hs h3 h4 h5 h6=>?_⟩
 unfold fIx at h5
 split at h5
 ·obtain ⟨z,e1,q⟩:=h5
  obtain ⟨j,e2,e3⟩:=atI_nth e1
  obtain ⟨a,us,rfl,g1,g2,_,g3⟩:=res_itemsL h3
  obtain ⟨u,g4,g5⟩:=g3 j z e3
  have:=h4.den
  cases this
  exact .inl ⟨a,us,_,u,rfl,rfl,SqL.of g1,atI_of (by rw [g2]; exact e2) g4,h6 _ _ _ _ q (Same.refl H) g5⟩
 ·obtain ⟨z,e1,q⟩:=h5
  obtain ⟨j,e2,e3⟩:=atI_nth e1
  obtain ⟨a,us,rfl,g1,g2,_,g3⟩:=res_itemsT h3
  obtain ⟨u,g4,g5⟩:=g3 j z e3
  have:=h4.den
  cases this
  exact .inr (.inl ⟨a,us,_,u,rfl,rfl,g1,atI_of (by rw [g2]; exact e2) g4,h6 _ _ _ _ q (Same.refl H) g5⟩)
 ·have a:=h3.den
  have b:=h4.den
  cases a
  cases b
  obtain ⟨h0,c,e1,q⟩:=h5
  exact .inr (.inr ⟨_,_,c,rfl,rfl,Nat.le_trans h0 million,e1,h6 _ _ _ _ q (Same.refl H) (.str _)⟩)
 ·obtain ⟨z,e1,q⟩:=h5
  obtain ⟨j,e2,e3⟩:=atI_nth e1
  have b:=h4.den
  cases b
  have a:=h3.den
  cases a with
  | scr ns h =>
   rw [List.getElem?_map] at e3
   cases en : ns[j]? with
   | none=>rw [en] at e3; cases e3
   | some n =>
    rw [en] at e3; cases e3
    exact .inl ⟨_,_,_,V.int n,rfl,rfl,h,atI_of (by rw [length_map]; rw [length_map] at e2; exact e2) (by rw [List.getElem?_map,en]; rfl),h6 _ _ _ _ q (Same.refl H) (.int _)⟩
 ·exact h5.elim
def cutD (xs : List D) (lo hi : Option Int) : List D:=(xs.drop (HT.sIx xs.length 0 lo)).take (HT.sIx xs.length xs.length hi - HT.sIx xs.length 0 lo)
theorem Dns.take {H : Hp} : ∀ {us : List V} {ds : List D} (n : Nat),Dns K H us ds -> Dns K H (us.take n) (ds.take n)
 | _,_,0,_=>by rw [List.take_zero,List.take_zero]; exact .nil
 | _,_,n + 1,.nil=>.nil
 | _,_,n + 1,.cons h r=>.cons h (Dns.take n r)
theorem Dns.drop {H : Hp} : ∀ {us : List V} {ds : List D} (n : Nat),Dns K H us ds -> Dns K H (us.drop n) (ds.drop n)
 | _,_,0,h=>h
 | _,_,n + 1,.nil=>.nil
 | _,_,n + 1,.cons h r=>Dns.drop n r
theorem flats_iff : ∀ {ds : List D},flats ds = true ↔ ∀ d ∈ ds,flat d = true
 | []=>by simp [flats]
 | d :: r=>by simp [flats,flats_iff (ds:=r)]
def TDO:=Ren -> (Option Int -> Prop) -> XD -> Prop
def LO (K : W.Frag) (E : XK) (t : TDO) : TO:=fun σ H Q=>∃ H0 ν ρ Qd Xd,StOk K Z0 H0 ν ρ σ H /\ t ρ Qd Xd /\ (∀ b H',Qd b -> Same H H' -> Q b H') /\ ∀ C H',Xd C -> Same H0 H' -> E (.ref C) none H'
structure DO (X : Cx) (K : W.Frag) (E : XK) (e : Option Expr) (t : TDO) : Prop where
 q : QO X e (LO K E t)
def dNoPart : TDO:=fun _ Q _=>Q none
def dPart (t : TD) : TDO:=fun ρ Q Xd=>t ρ (fun d _=>match d with | .int i=>Q (some i) | _=>False) Xd
theorem dpo_none : DO X K E none dNoPart:=⟨⟨fun pins s σ H Q I h=>qpo_none.h pins s σ H Q I (by
 obtain ⟨H0,ν,ρ,Qd,Xd,S,h1,q,_⟩:=h
 exact q _ _ h1 (Same.refl H))⟩⟩
theorem dpo_some {e : Expr} {t : TD} (he : DE X K E e t) : DO X K E (some e) (dPart t):=⟨⟨fun pins s σ H Q I h=>(qpo_some he.q).h pins s σ H Q I (by
 obtain ⟨H0,ν,ρ,Qd,Xd,S,h1,q,x⟩:=h
 refine ⟨H0,ν,ρ,_,Xd,S,h1,fun d k v H' g1 g2 g3=>?_,x⟩
 have:=g3.den
 cases d with
 | int i=>cases this; exact ⟨i,rfl,q _ _ g1 g2⟩
 | _=>exact g1.elim)⟩⟩
abbrev F3:=D -> Kd -> Option Int -> Option Int -> QD -> Prop
def fSl : F3:=fun d k lo hi Q=>match d with
 | .list ds=>Q (.list (cutD ds lo hi)) (kels (cutD ds lo hi) k)
 | _=>False
def dSl (f : F3) (te : TD) (tl th : TDO) : TD:=fun ρ Q Xd=>te ρ (fun d k=>tl ρ (fun l=>th ρ (fun h=>f d k l h Q) Xd) Xd) Xd
theorem dpe_slice {e : Expr} {lo hi : Option Expr} {te : TD} {tl th : TDO} {p2 : Pos} (hK : X.K = K) (he : DE X K E e te) (hl : DO X K E lo tl) (hu : DO X K E hi th) : DE X K E (.Subscript e (.Slice lo hi none p2) pos) (dSl fSl te tl th):=⟨by
 subst hK
 refine qe_imp (qpe_slice sl_list he.q hl.q hu.q) fun σ H Q h=>?_
 obtain ⟨H0,ν,ρ,Qd,Xd,S,h1,q,x⟩:=h
 refine ⟨H0,ν,ρ,_,Xd,S,h1,fun d k v H1 g1 e1 r1=>?_,x⟩
 refine ⟨H0,ν,ρ,_,Xd,S.same e1,g1,fun l H2 g2 e2=>?_,x⟩
 refine ⟨H0,ν,ρ,_,Xd,S.same (e1.trans e2),g2,fun u H3 g3 e3=>?_,x⟩
 have e03:=(e1.trans e2).trans e3
 have r3:=(r1.same e2).same e3
 have hl3:=(S.same e03).hl
 cases d with
 | list ds =>
  obtain ⟨a,us,rfl,a1,a2,a3⟩:=res_list hl3 S.hl r3
  refine ⟨a,us,rfl,SqL.of a1,fun p hp=>q _ _ _ _ g3 (e03.trans (Same.new hp)) (res_newL hl3 e03 hp ?_)⟩
  refine rsl_part hl3 a3 (fun {G} hd=>?_) fun hf=>flats_iff.mpr fun d hd=>flats_iff.mp hf d (List.mem_of_mem_drop (mem_of_mem_take hd))
  unfold cutV cutD
  rw [hd.length]
  exact (hd.drop _).take _
 | _=>exact g3.elim⟩
def disj (s t : List Nat) : Bool:=s.all fun i=>!t.contains i
def kcons (d : D) (k : Kd) (l : Kd) : Kd:=match (if flat d = true then Kd.own [] else k),l with
 | .own s,.own t=>if disj s t = true then .own (s ++ t) else .mix
 | .own [],.old=>.old
 | .old,.own []=>.old
 | .old,.old=>.old
 | _,_=>.mix
def dNil : TDA:=fun _ Q _=>Q [] (.own [])
def dCons (ta : TD) (tr : TDA) : TDA:=fun ρ Q Xd=>ta ρ (fun d k=>tr ρ (fun ds l=>Q (d :: ds) (kcons d k l)) Xd) Xd
theorem RsL.old0 {Z : Addr -> Prop} {ν : Nat -> List Addr} {Hs H : Hp} {k : Kd} {us : List V} {ds : List D} (hl : ∀ a,Hd Z ν a -> Mu H a) (hn : ∀ a,Hd Z ν a -> Mu Hs a) (h : RsL K Z ν Hs H k us ds) (hk : k.isOld = true) : Dns K (hid (Hd Z ν) H) us ds:=by
 cases k with
 | own s =>
  cases s with
  | nil =>
   obtain ⟨ms,h1,_,h3⟩:=h
   refine ows_hid hl h1 fun a ha z=>?_
   rcases h3 a ha with q | ⟨j,q,_⟩
   ·obtain ⟨us,z⟩:=hn a z; rw [q] at z; cases z
   ·cases q
  | cons=>cases hk
 | old=>exact h
 | mix=>cases hk
theorem rsl_cons {Z : Addr -> Prop} {ν : Nat -> List Addr} {Hs H1 H2 : Hp} {k l : Kd} {v : V} {d : D} {us : List V} {ds : List D} (hn : ∀ a,Hd Z ν a -> Mu Hs a) (dj : ∀ i j a,a ∈ ν i -> a ∈ ν j -> i = j) (e1 : Same Hs H1) (e2 : Same H1 H2) (h : Res K Z ν Hs H1 k v d) (g : RsL K Z ν H1 H2 l us ds) :
  RsL K Z ν Hs H2 (kcons d k l) (v :: us) (d :: ds):=by
 have hl1 : ∀ a,Hd Z ν a -> Mu H1 a:=fun a z=>by obtain ⟨us,q⟩:=hn a z; exact ⟨us,e1 _ _ q⟩
 have hl2 : ∀ a,Hd Z ν a -> Mu H2 a:=fun a z=>by obtain ⟨us,q⟩:=hl1 a z; exact ⟨us,e2 _ _ q⟩
 have h' : Res K Z ν Hs H1 (if flat d = true then Kd.own [] else k) v d:=by
  split
  ·exact Res.flat h.den ‹_› hl1 _
  ·exact h
 have all : Dns K H2 (v :: us) (d :: ds):=.cons (Dn.same e2 h.den) g.dens
 have old : ∀ {k' : Kd},Res K Z ν Hs H1 k' v d -> k'.isOld = true -> l.isOld = true -> Dns K (hid (Hd Z ν) H2) (v :: us) (d :: ds):=fun {k'} r1 q1 q2=>.cons ((r1.same e2).old hl2 hn q1) (g.old0 hl2 hl1 q2)
 unfold kcons
 generalize (if flat d = true then Kd.own [] else k) = k' at h'
 split
 ·split
  case isTrue q =>
   obtain ⟨ms,a1,a2,a3⟩:=h'
   obtain ⟨ns,b1,b2,b3⟩:=g
   rename_i s t
   refine ⟨ms ++ ns,.cons (a1.same e2) b1,nodup_append.mpr ⟨a2,b2,fun x hx y hy e=>?_⟩,fun a ha=>?_⟩
   ·subst e
    obtain ⟨us',z1⟩:=a1.there x hx
    rcases b3 x hy with z | ⟨j,hj,z⟩
    ·rw [z1] at z; cases z
    ·rcases a3 x hx with z' | ⟨i,hi,z'⟩
     ·obtain ⟨us'',z''⟩:=hn x (.inr ⟨j,z⟩)
      rw [z'] at z''; cases z''
     ·have:=dj i j x z' z
      subst this
      unfold disj at q
      have:=all_eq_true.mp q i hi
      simp at this
      exact this hj
   ·rcases mem_append.mp ha with ha | ha
    ·rcases a3 a ha with z | ⟨j,hj,z⟩
     ·exact .inl z
     ·exact .inr ⟨j,mem_append_left _ hj,z⟩
    ·rcases b3 a ha with z | ⟨j,hj,z⟩
     ·exact .inl (e1.gone z)
     ·exact .inr ⟨j,mem_append_right _ hj,z⟩
  case isFalse=>exact all
 ·exact old h' rfl rfl
 ·exact old h' rfl rfl
 ·exact old h' rfl rfl
 ·exact all
theorem dpa_nil : DA X K E [] dNil:=⟨qa_imp qpa_nil fun σ H Q h=>by
 obtain ⟨H0,ν,ρ,Qd,Xd,S,h1,q,x⟩:=h
 exact q _ _ _ _ h1 (Same.refl H) ⟨[],.nil,nodup_nil,fun _ z=>by cases z⟩⟩
theorem dpa_cons {e : Expr} {es : List Expr} {te : TD} {t : TDA} (ha : DE X K E e te) (hr : DA X K E es t) (hs : starEach (e :: es) X.env = (false,eval e X.env) :: starEach es X.env:=by rfl) : DA X K E (e :: es) (dCons te t):=⟨qa_imp (qpa_cons ha.q hr.q hs) fun σ H Q h=>by
 obtain ⟨H0,ν,ρ,Qd,Xd,S,h1,q,x⟩:=h
 refine ⟨H0,ν,ρ,_,Xd,S,h1,fun d k v H1 g1 e1 r1=>?_,x⟩
 refine ⟨H0,ν,ρ,_,Xd,S.same e1,g1,fun ds l us H2 g2 e2 r2=>?_,x⟩
 exact q _ _ _ _ g2 (e1.trans e2) (rsl_cons S.hl S.dj e1 e2 r1 r2)⟩
def dTup (t : TDA) : TD:=fun ρ Q Xd=>t ρ (fun ds k=>ds.length <= 1000 /\ Q (.tuple ds) k) Xd
def dLst (t : TDA) : TD:=fun ρ Q Xd=>t ρ (fun ds k=>ds.length <= 1000 /\ Q (.list ds) k) Xd
theorem dpe_tup {es : List Expr} {t : TDA} {x1} (h : DA X K E es t) : DE X K E (.Tuple es x1 pos) (dTup t):=⟨qe_imp (qpe_tup h.q) fun σ H Q h=>by
 obtain ⟨H0,ν,ρ,Qd,Xd,S,h1,q,x⟩:=h
 refine ⟨H0,ν,ρ,_,Xd,S,h1,fun ds k us H1 g1 e1 r1=>?_,x⟩
 refine ⟨by rw [r1.dens.length]; exact Nat.le_trans g1.1 (by decide),fun p hp=>q _ _ _ _ g1.2 (e1.trans (Same.new hp)) (res_newT (S.same e1).hl e1 hp r1)⟩⟩
theorem dpe_lst {es : List Expr} {t : TDA} (h : DA X K E es t) : DE X K E (.List es pos) (dLst t):=⟨qe_imp (qpe_lst h.q) fun σ H Q h=>by
 obtain ⟨H0,ν,ρ,Qd,Xd,S,h1,q,x⟩:=h
 refine ⟨H0,ν,ρ,_,Xd,S,h1,fun ds k us H1 g1 e1 r1=>?_,x⟩
 refine ⟨by rw [r1.dens.length]; exact Nat.le_trans g1.1 (by decide),fun p hp=>q _ _ _ _ g1.2 (e1.trans (Same.new hp)) (res_newL (S.same e1).hl e1 hp r1)⟩⟩
end
section
variable {X : Cx} {K : W.Frag} {E : XK} {pos : Pos} {a b c e : Expr} {rest : List Expr} {ta tb tc : TD} {tA tB : TDT}
theorem dn_bool {H : Hp} {v : V} {x : Bool} (h : Dn K H v (.bool x)) : v = .bl x:=by cases h; rfl
theorem dn_int {H : Hp} {v : V} {x : Int} (h : Dn K H v (.int x)) : v = .int x:=by cases h; rfl
def dNeg (ta : TD) : TD:=fun ρ Q Xd=>ta ρ (fun d _=>match d with | .int i=>Q (.int (-i)) .old | _=>False) Xd
def dNotV (ta : TD) : TD:=fun ρ Q Xd=>ta ρ (fun d _=>match d with | .bool i=>Q (.bool (!i)) .old | _=>False) Xd
theorem dpe_not (ha : DE X K E a ta) : DE X K E (.UnaryOp .Not a pos) (dNotV ta):=⟨qe_imp (qpe_not ha.q) fun σ H Q h=>by
 obtain ⟨H0,ν,ρ,Qd,Xd,S,h1,q,x⟩:=h
 refine ⟨H0,ν,ρ,_,Xd,S,h1,fun d k v H' g1 g2 g3=>?_,x⟩
 cases d with
 | bool i=>exact ⟨i,dn_bool g3.den,q _ _ _ _ g1 g2 (.bl _)⟩
 | _=>exact g1.elim⟩
def dAndV (ta tb : TD) : TD:=fun ρ Q Xd=>ta ρ (fun d _=>match d with | .bool i=>if i = true then tb ρ Q Xd else Q (.bool false) .old | _=>False) Xd
theorem dpe_one {op} (h : DE X K E a ta) : DE X K E (.BoolOp op [a] pos) ta:=⟨qpe_one h.q⟩
theorem dpe_and (ha : DE X K E a ta) (hb : DE X K E (.BoolOp .And (b :: rest) pos) tb) : DE X K E (.BoolOp .And (a :: b :: rest) pos) (dAndV ta tb):=⟨qe_imp (qpe_and ha.q hb.q) fun σ H Q h=>by
 obtain ⟨H0,ν,ρ,Qd,Xd,S,h1,q,x⟩:=h
 refine ⟨H0,ν,ρ,_,Xd,S,h1,fun d k v H' g1 g2 g3=>?_,x⟩
 cases d with
 | bool i =>
  refine ⟨i,dn_bool g3.den,?_⟩
  cases i with
  | true=>exact ⟨H0,ν,ρ,Qd,Xd,S.same g2,g1,fun d k v H'' a1 a2 a3=>q d k v H'' a1 (g2.trans a2) (a3.later g2),x⟩
  | false=>exact q _ _ _ _ g1 g2 (.bl _)
 | _=>exact g1.elim⟩
def dB (ta : TD) : TDT:=fun ρ Q Xd=>ta ρ (fun d _=>match d with | .bool i=>Q i | _=>False) Xd
theorem le_b : ∀ {σ : L2.St} {H : Hp} {Q : Bool -> Hp -> Prop},LT K E (dB ta) σ H Q -> L2.tB (LE K E ta) σ H Q:=fun {σ H Q} h=>by
 obtain ⟨H0,ν,ρ,Qd,Xd,S,h1,q,x⟩:=h
 refine ⟨H0,ν,ρ,_,Xd,S,h1,fun d k v H' g1 g2 g3=>?_,x⟩
 cases d with
 | bool i=>exact ⟨i,dn_bool g3.den,q _ _ g1 g2⟩
 | _=>exact g1.elim
theorem dpt_val (h : DE X K E e ta) (he : ∀ whole,isTrue e X.env whole = (do let v <- whole; standAt e.pos; holding [v] (truthy v)):=by intro _; rfl) : DT X K E e (dB ta):=⟨qt_imp (qpt_val h.q he) fun σ H Q h=>le_b h⟩
theorem dpt_cmp {op : CmpOp} {f : F2} (ho : DOp X K (compareOp op) f) (ha : DE X K E a ta) (hb : DE X K E b tb) (hm : behindInMarks op b = false) : DT X K E (.Compare a [op] [b] pos) (dB (dOp f ta tb)):=by
 obtain ⟨r,o,p⟩:=ho.ex
 refine ⟨qt_imp (qpt_cmpR o ha.q hb.q hm) fun σ H Q h=>?_⟩
 obtain ⟨H0,ν,ρ,Qd,Xd,S,h1,q,x⟩:=h
 refine le_two p σ H _ ⟨H0,ν,ρ,_,Xd,S,h1,fun d k v H' g1 g2 g3=>?_,x⟩
 cases d with
 | bool i=>exact ⟨i,dn_bool g3.den,q _ _ g1 g2⟩
 | _=>exact g1.elim
def dOr (tA tB : TDT) : TDT:=fun ρ Q Xd=>tA ρ (fun b=>if b = true then Q true else tB ρ Q Xd) Xd
def dNot (tA : TDT) : TDT:=fun ρ Q Xd=>tA ρ (fun b=>Q (!b)) Xd
theorem dPWpt (h : DW X K E e tA) : DT X K E e tA:=⟨qPWpt h.q⟩
theorem dpw_or1 (ha : DT X K E a tA) : DW X K E (.BoolOp .Or [a] pos) tA:=⟨qpw_or1 ha.q⟩
theorem lt_or : ∀ σ H Q,LT K E (dOr tA tB) σ H Q -> tOr (LT K E tA) (LT K E tB) σ H Q:=fun σ H Q h=>by
 obtain ⟨H0,ν,ρ,Qd,Xd,S,h1,q,x⟩:=h
 refine ⟨H0,ν,ρ,_,Xd,S,h1,fun b H' g1 g2=>?_,x⟩
 cases b with
 | false=>exact ⟨H0,ν,ρ,Qd,Xd,S.same g2,g1,fun b H'' a1 a2=>q b H'' a1 (g2.trans a2),x⟩
 | true=>exact q _ _ g1 g2
theorem dpw_or (ha : DT X K E a tA) (hb : DW X K E (.BoolOp .Or (b :: rest) pos) tB) : DW X K E (.BoolOp .Or (a :: b :: rest) pos) (dOr tA tB):=⟨qw_imp (qpw_or ha.q hb.q) lt_or⟩
theorem dpt_not (ha : DT X K E a tA) : DT X K E (.UnaryOp .Not a pos) (dNot tA):=⟨qt_imp (qpt_not ha.q) fun σ H Q h=>by
 obtain ⟨H0,ν,ρ,Qd,Xd,S,h1,q,x⟩:=h
 exact ⟨H0,ν,ρ,_,Xd,S,h1,fun b H' g1 g2=>q _ _ g1 g2,x⟩⟩
def dIf (tA : TDT) (ta tb : TD) : TD:=fun ρ Q Xd=>tA ρ (fun b=>if b = true then ta ρ Q Xd else tb ρ Q Xd) Xd
theorem dpe_ifExp (hc : DT X K E c tA) (ha : DE X K E a ta) (hb : DE X K E b tb) : DE X K E (.IfExp c a b pos) (dIf tA ta tb):=⟨qe_imp (qpe_ifExp hc.q ha.q hb.q) fun σ H Q h=>by
 obtain ⟨H0,ν,ρ,Qd,Xd,S,h1,q,x⟩:=h
 refine ⟨H0,ν,ρ,_,Xd,S,h1,fun b H' g1 g2=>?_,x⟩
 cases b with
 | true=>exact ⟨H0,ν,ρ,Qd,Xd,S.same g2,g1,fun d k v H'' a1 a2 a3=>q d k v H'' a1 (g2.trans a2) (a3.later g2),x⟩
 | false=>exact ⟨H0,ν,ρ,Qd,Xd,S.same g2,g1,fun d k v H'' a1 a2 a3=>q d k v H'' a1 (g2.trans a2) (a3.later g2),x⟩⟩
def dChain (f g : Int -> Int -> Bool) (ta tb tc : TD) : TD:=fun ρ Q Xd=>ta ρ (fun x _=>tb ρ (fun y _=>match x,y with
 | .int i,.int j=>if f i j = true then tc ρ (fun z _=>match z with | .int l=>Q (.bool (g j l)) .old | _=>False) Xd else Q (.bool false) .old
 | _,_=>False) Xd) Xd
theorem le_chain {f g : Int -> Int -> Bool} : ∀ σ H Q,LE K E (dChain f g ta tb tc) σ H Q -> tChain (rI0 fun i j=>.bl (f i j)) (rI0 fun i j=>.bl (g i j)) (LE K E ta) (LE K E tb) (LE K E tc) σ H Q:=fun σ H Q h=>by
 obtain ⟨H0,ν,ρ,Qd,Xd,S,h1,q,x⟩:=h
 refine ⟨H0,ν,ρ,_,Xd,S,h1,fun d k v H1 g1 e1 r1=>?_,x⟩
 refine ⟨H0,ν,ρ,_,Xd,S.same e1,g1,fun d2 k2 v2 H2 g2 e2 r2=>?_,x⟩
 cases d with
 | int i =>
  cases d2 with
  | int j =>
   refine ⟨i,j,dn_int r1.den,dn_int r2.den,_,rfl,?_⟩
   cases hf : f i j with
   | true =>
    rw [if_pos rfl]
    refine ⟨H0,ν,ρ,_,Xd,S.same (e1.trans e2),(by simp only [hf,if_true] at g2; exact g2),fun d3 k3 v3 H3 g3 e3 r3=>?_,x⟩
    cases d3 with
    | int l=>exact ⟨j,l,dn_int r2.den,dn_int r3.den,q _ _ _ _ g3 ((e1.trans e2).trans e3) (.bl _)⟩
    | _=>exact g3.elim
   | false =>
    rw [if_neg Bool.false_ne_true]
    exact q (.bool false) .old _ _ (by simpa only [hf,if_neg Bool.false_ne_true] using g2) (e1.trans e2) (.bl _)
  | _=>exact g2.elim
 | _=>exact g2.elim
theorem dpt_chain {op op' : CmpOp} {f g : Int -> Int -> Bool} (ho : OpR X (compareOp op) (rI0 fun i j=>.bl (f i j))) (ho' : OpR X (compareOp op') (rI0 fun i j=>.bl (g i j))) (ha : DE X K E a ta) (hb : DE X K E b tb) (hc : DE X K E c tc)
  (hm : lastMarks [op,op'] [b,c] = false:=by with_unfolding_all rfl) : DT X K E (.Compare a [op,op'] [b,c] pos) (dB (dChain f g ta tb tc)):=⟨qt_imp (qpt_chain ho ho' ha.q hb.q hc.q hm) fun σ H Q h=>by
 obtain ⟨H0,ν,ρ,Qd,Xd,S,h1,q,x⟩:=h
 refine le_chain σ H _ ⟨H0,ν,ρ,_,Xd,S,h1,fun d k v H' g1 g2 g3=>?_,x⟩
 cases d with
 | bool i=>exact ⟨i,dn_bool g3.den,q _ _ g1 g2⟩
 | _=>exact g1.elim⟩
abbrev SpD:=List D -> (D -> Bool -> Prop) -> XD -> Prop
def RR (K : W.Frag) (H H' : Hp) : Bool -> V -> D -> Prop
 | true,v,d=>∃ ms,Ow K H' v d ms /\ ms.Nodup /\ ∀ a ∈ ms,H a = none
 | false,v,d=>Dn K H' v d
def SpL (K : W.Frag) (sp : SpD) : Sp:=fun vs H Q E=>∃ ds Qd Xd,Dns K H vs ds /\ sp ds Qd Xd /\ (∀ d o v H',Qd d o -> Same H H' -> RR K H H' o v d -> Q v H') /\ ∀ C H',Xd C -> Same H H' -> E (.ref C) none H'
def kRet (o : Bool) : Kd:=if o = true then .own [] else .mix
def dCall (sp : SpD) (t : TDA) : TD:=fun ρ Q Xd=>t ρ (fun ds _=>sp ds (fun d o=>Q d (kRet o)) Xd) Xd
theorem rr_res {Z : Addr -> Prop} {ν : Nat -> List Addr} {Hs H H' : Hp} {o : Bool} {v : V} {d : D} (e : Same Hs H) (h : RR K H H' o v d) : Res K Z ν Hs H' (kRet o) v d:=by
 cases o with
 | true=>obtain ⟨ms,h1,h2,h3⟩:=h; exact ⟨ms,h1,h2,fun a ha=>.inl (e.gone (h3 a ha))⟩
 | false=>exact h
theorem le_call {sp : SpD} {t : TDA} : ∀ σ H Q,LE K E (dCall sp t) σ H Q -> LA K E t σ H fun vs H1=>SpL K sp vs H1 Q E:=fun σ H Q h=>by
 obtain ⟨H0,ν,ρ,Qd,Xd,S,h1,q,x⟩:=h
 refine ⟨H0,ν,ρ,_,Xd,S,h1,fun ds k vs H1 g1 e1 r1=>?_,x⟩
 exact ⟨ds,_,Xd,r1.dens,g1,fun d o v H' a1 a2 a3=>q _ _ _ _ a1 (e1.trans a2) (rr_res e1 a3),fun C H' a1 a2=>x C H' a1 ((S.sm.trans e1).trans a2)⟩
def dCall0 (sp : SpD) (t : TDA) : TD:=fun ρ Q Xd=>t ρ (fun ds _=>sp ds (fun d o=>Q d (kRet o)) (fun _=>False)) Xd
theorem le_call0 {sp : SpD} {t : TDA} : ∀ σ H Q,LE K E (dCall0 sp t) σ H Q -> LA K E t σ H fun vs H1=>SpL K sp vs H1 Q E0:=fun σ H Q h=>by
 obtain ⟨H0,ν,ρ,Qd,Xd,S,h1,q,x⟩:=h
 refine ⟨H0,ν,ρ,_,Xd,S,h1,fun ds k vs H1 g1 e1 r1=>?_,x⟩
 exact ⟨ds,_,_,r1.dens,g1,fun d o v H' a1 a2 a3=>q _ _ _ _ a1 (e1.trans a2) (rr_res e1 a3),fun C H' z _=>z.elim⟩
theorem dpe_df {x : Str} {ps : List Str} {k : Nat} {sp : SpD} {p : Pos} {es : List Expr} {t : TDA} (D : Df X.prog X.w X.K X.mg X.base x ps k (SpL K sp)) (hr : Room k X.A) (ha : DA X K E (e :: es) t) (hg : Gl X x:=by rfl) (hdb : (x == ("__debug__" : Str)) = false:=by decide)
  (he : starEach (e :: es) X.env = (false,eval e X.env) :: starEach es X.env:=by rfl) (hpl : (backTo pos (starEach es X.env)).any (·.1) = false:=by rfl) : DE X K E (.Call (.Name x p) (e :: es) [] pos) (dCall0 sp t) :=
 ⟨qe_imp (qpe_df D hr ha.q hg hdb he hpl) fun σ H Q h=>by
  show LA K E t σ H fun vs H1=>SpL K sp (vs ++ []) H1 Q E0
  simp only [append_nil]
  exact le_call0 σ H Q h⟩
theorem dpe_dfE {x : Str} {ps : List Str} {k : Nat} {sp : SpD} {p : Pos} {es : List Expr} {t : TDA} (D : DfE X.prog X.w X.K X.mg X.base x ps k (SpL K sp)) (hx : Passes (CXE X.prog X.w X.base) X E) (hr : Room k X.A) (ha : DA X K E (e :: es) t) (hg : Gl X x:=by rfl) (hdb : (x == ("__debug__" : Str)) = false:=by decide)
  (he : starEach (e :: es) X.env = (false,eval e X.env) :: starEach es X.env:=by rfl) (hpl : (backTo pos (starEach es X.env)).any (·.1) = false:=by rfl) : DE X K E (.Call (.Name x p) (e :: es) [] pos) (dCall sp t) :=
 ⟨qe_imp (qpe_dfE D hx hr ha.q hg hdb he hpl) fun σ H Q h=>by
  show LA K E t σ H fun vs H1=>SpL K sp (vs ++ []) H1 Q E
  simp only [append_nil]
  exact le_call σ H Q h⟩
abbrev FA:=List D -> Kd -> QD -> Prop
def PrimA (K : W.Frag) (r : List V -> Hp -> VK -> Prop) (f : FA) : Prop:=∀ (Z : Addr -> Prop) (ν : Nat -> List Addr) (Hs H : Hp) (xs : List V) (ds : List D) (k : Kd) (Qf : QD) (Q : VK),(∀ a,Hd Z ν a -> Mu H a) -> (∀ a,Hd Z ν a -> Mu Hs a) -> Same Hs H -> RsL K Z ν Hs H k xs ds ->
 f ds k Qf -> (∀ d k v H',Qf d k -> Same H H' -> Res K Z ν Hs H' k v d -> Q v H') -> r xs H Q
structure DCl (X : Cx) (K : W.Frag) (f : Value) (g : FA) : Prop where
 ex : ∃ r,CallR X f r /\ PrimA K r g
def dCB (g : FA) (t : TDA) : TD:=fun ρ Q Xd=>t ρ (fun ds k=>g ds k Q) Xd
theorem le_cb {r : List V -> Hp -> VK -> Prop} {g : FA} {t : TDA} (p : PrimA K r g) : ∀ σ H Q,LE K E (dCB g t) σ H Q -> tCB r (LA K E t) σ H Q:=fun σ H Q h=>by
 obtain ⟨H0,ν,ρ,Qd,Xd,S,h1,q,x⟩:=h
 refine ⟨H0,ν,ρ,_,Xd,S,h1,fun ds k vs H1 g1 e1 r1=>?_,x⟩
 exact p Z0 ν H H1 vs ds k _ _ (S.same e1).hl S.hl e1 r1 g1 fun d k v H' a1 a2 a3=>q d k v H' a1 (e1.trans a2) a3
theorem dpe_callB {id : String} {g : FA} {x : Str} {p : Pos} {es : List Expr} {t : TDA} (hc : DCl X K (.builtin id) g) (hg : Gl X x) (hm : X.mg x = none) (hv : bootBuiltins x = some (.builtin id)) (ha : DA X K E (e :: es) t) (hn : x ≠ "__name__":=by decide) (hdb : (x == ("__debug__" : Str)) = false:=by decide)
  (he : starEach (e :: es) X.env = (false,eval e X.env) :: starEach es X.env:=by rfl) (hpl : (backTo pos (starEach es X.env)).any (·.1) = false:=by rfl) : DE X K E (.Call (.Name x p) (e :: es) [] pos) (dCB g t):=by
 obtain ⟨r,c,pr⟩:=hc.ex
 exact ⟨qe_imp (qpe_callB c hg hm hv ha.q hn hdb he hpl) (le_cb pr)⟩
theorem dpe_callTy {T : String} {g : FA} {x : Str} {p : Pos} {es : List Expr} {t : TDA} (hc : DCl X K (.type T) g) (hg : Gl X x) (hm : X.mg x = none) (hv : bootBuiltins x = some (.type T)) (ha : DA X K E (e :: es) t) (hn : x ≠ "__name__":=by decide) (hdb : (x == ("__debug__" : Str)) = false:=by decide)
  (he : starEach (e :: es) X.env = (false,eval e X.env) :: starEach es X.env:=by rfl) (hpl : (backTo pos (starEach es X.env)).any (·.1) = false:=by rfl) : DE X K E (.Call (.Name x p) (e :: es) [] pos) (dCB g t):=by
 obtain ⟨r,c,pr⟩:=hc.ex
 exact ⟨qe_imp (qpe_callTy c hg hm hv ha.q hn hdb he hpl) (le_cb pr)⟩
theorem dns1 {H : Hp} {xs : List V} {d : D} (h : Dns K H xs [d]) : ∃ v,xs = [v] /\ Dn K H v d:=by
 cases h with
 | cons h r=>cases r; exact ⟨_,rfl,h⟩
theorem dns2 {H : Hp} {xs : List V} {d e : D} (h : Dns K H xs [d,e]) : ∃ v w',xs = [v,w'] /\ Dn K H v d /\ Dn K H w' e:=by
 cases h with
 | cons h r=>obtain ⟨v,rfl,g⟩:=dns1 r; exact ⟨_,_,rfl,h,g⟩
def fLen : FA:=fun ds _ Q=>match ds with
 | [.list xs]=>Q (.int xs.length) .old
 | [.tuple xs]=>Q (.int xs.length) .old
 | [.dict [(.none,.list xs)]]=>Q (.int xs.length) .old
 | _=>False
theorem dns_of_scr {H : Hp} {v : V} {ds : List D} (h : Dn K H v (.dict [(.none,.list ds)])) : ∃ (a : Addr) (ns : List Int),v = .ref a /\ SqL K H a (ns.map V.int) /\ ds = ns.map PyData.int:=by
 cases h with
 | scr ns h=>exact ⟨_,_,rfl,h,rfl⟩
theorem dcl_len (hK : X.K = K) : DCl X K (.builtin "len") fLen:=⟨_,call_lenK K hK,fun Z ν Hs H xs ds k Qf Q _ _ _ h g q=>by
 unfold fLen at g
 split at g
 ·obtain ⟨v,rfl,h1⟩:=dns1 h.dens
  obtain ⟨a,us,rfl,g1,g2⟩:=dns_of_lst h1
  exact ⟨a,us,rfl,.inl (SqL.of g1),q _ _ _ _ g (Same.refl H) (by rw [g2.length]; exact .int _)⟩
 ·obtain ⟨v,rfl,h1⟩:=dns1 h.dens
  obtain ⟨a,us,rfl,g1,g2⟩:=dns_of_tup h1
  exact ⟨a,us,rfl,.inr g1,q _ _ _ _ g (Same.refl H) (by rw [g2.length]; exact .int _)⟩
 ·obtain ⟨v,rfl,h1⟩:=dns1 h.dens
  obtain ⟨a,ns,rfl,g1,rfl⟩:=dns_of_scr h1
  exact ⟨a,_,rfl,.inl g1,q _ _ _ _ g (Same.refl H) (by rw [length_map,length_map]; exact .int _)⟩
 ·exact g.elim⟩
def intsD : List D -> Option (List Int)
 | []=>some []
 | .int i :: r=>(intsD r).map (i :: ·)
 | _=>Option.none
def boolsD : List D -> Option (List Bool)
 | []=>some []
 | .bool i :: r=>(boolsD r).map (i :: ·)
 | _=>Option.none
theorem dns_ints {H : Hp} : ∀ {us : List V} {ds : List D} {ns : List Int},Dns K H us ds -> intsD ds = some ns -> us = ns.map V.int
 | _,_,_,.nil,e=>by cases e; rfl
 | _,_,ns,.cons h r,e=>by
  cases h <;> first | (simp only [dctD,intsD] at e; first | cases e | (rw [Option.map_eq_some_iff] at e; obtain ⟨ms,e1,rfl⟩:=e; rw [dns_ints r e1]; rfl))
theorem dns_bools {H : Hp} : ∀ {us : List V} {ds : List D} {ns : List Bool},Dns K H us ds -> boolsD ds = some ns -> us = ns.map V.bl
 | _,_,_,.nil,e=>by cases e; rfl
 | _,_,ns,.cons h r,e=>by
  cases h <;> first | (simp only [dctD,boolsD] at e; first | cases e | (rw [Option.map_eq_some_iff] at e; obtain ⟨ms,e1,rfl⟩:=e; rw [dns_bools r e1]; rfl))
def fSum : FA:=fun ds _ Q=>match ds with
 | [.list xs]=>∃ ns,intsD xs = some ns /\ Q (.int ns.sum) .old
 | _=>False
theorem dcl_sum (hK : X.K = K) (hc : X.calm = true) : DCl X K (.builtin "sum") fSum:=⟨_,call_sumK K hK hc,fun Z ν Hs H xs ds k Qf Q _ _ _ h g q=>by
 unfold fSum at g
 split at g
 ·obtain ⟨v,rfl,h1⟩:=dns1 h.dens
  obtain ⟨a,us,rfl,g1,g2⟩:=dns_of_lst h1
  obtain ⟨ns,e,g⟩:=g
  exact ⟨a,ns,rfl,SqL.of (by rw [g1,dns_ints g2 e]),q _ _ _ _ g (Same.refl H) (.int _)⟩
 ·exact g.elim⟩
def fBls (f : List Bool -> Bool) : FA:=fun ds _ Q=>match ds with
 | [.list xs]=>∃ ns,boolsD xs = some ns /\ Q (.bool (f ns)) .old
 | _=>False
theorem dcl_all (hK : X.K = K) (hc : X.calm = true) : DCl X K (.builtin "all") (fBls fun l=>l.all id):=⟨_,call_allK K hK hc,fun Z ν Hs H xs ds k Qf Q _ _ _ h g q=>by
 unfold fBls at g
 split at g
 ·obtain ⟨v,rfl,h1⟩:=dns1 h.dens
  obtain ⟨a,us,rfl,g1,g2⟩:=dns_of_lst h1
  obtain ⟨ns,e,g⟩:=g
  exact ⟨a,ns,rfl,SqL.of (by rw [g1,dns_bools g2 e]),q _ _ _ _ g (Same.refl H) (.bl _)⟩
 ·exact g.elim⟩
theorem dcl_any (hK : X.K = K) (hc : X.calm = true) : DCl X K (.builtin "any") (fBls fun l=>l.any id):=⟨_,call_anyK K hK hc,fun Z ν Hs H xs ds k Qf Q _ _ _ h g q=>by
 unfold fBls at g
 split at g
 ·obtain ⟨v,rfl,h1⟩:=dns1 h.dens
  obtain ⟨a,us,rfl,g1,g2⟩:=dns_of_lst h1
  obtain ⟨ns,e,g⟩:=g
  exact ⟨a,ns,rfl,SqL.of (by rw [g1,dns_bools g2 e]),q _ _ _ _ g (Same.refl H) (.bl _)⟩
 ·exact g.elim⟩
def fInt : FA:=fun ds _ Q=>match ds with
 | [.int i]=>Q (.int i) .old
 | [.bool i]=>Q (.int (if i then 1 else 0)) .old
 | _=>False
theorem dcl_int : DCl X K (.type "int") fInt:=⟨_,call_int1,fun Z ν Hs H xs ds k Qf Q _ _ _ h g q=>by
 unfold fInt at g
 split at g
 ·obtain ⟨v,rfl,h1⟩:=dns1 h.dens
  exact .inl ⟨_,by rw [dn_int h1],q _ _ _ _ g (Same.refl H) (.int _)⟩
 ·obtain ⟨v,rfl,h1⟩:=dns1 h.dens
  exact .inr ⟨_,by rw [dn_bool h1],q _ _ _ _ g (Same.refl H) (.int _)⟩
 ·exact g.elim⟩
theorem rsl_one {Z : Addr -> Prop} {ν : Nat -> List Addr} {Hs H : Hp} {k : Kd} {v : V} {d : D} (h : RsL K Z ν Hs H k [v] [d]) : Res K Z ν Hs H k v d:=by
 cases k with
 | own s =>
  obtain ⟨ms,h1,h2,h3⟩:=h
  cases h1 with
  | cons h r=>cases r; rw [append_nil] at h2 h3; exact ⟨_,h,h2,h3⟩
 | old=>cases (show Dns K _ [v] [d] from h) with | cons h r=>exact h
 | mix=>cases (show Dns K _ [v] [d] from h) with | cons h r=>exact h
def fList : FA:=fun ds k Q=>match ds with
 | [.list xs]=>Q (.list xs) (kels xs k)
 | _=>False
theorem dcl_list (hK : X.K = K) : DCl X K (.type "list") fList:=⟨_,call_listK K hK,fun Z ν Hs H xs ds k Qf Q hl hn hs h g q=>by
 unfold fList at g
 split at g
 ·obtain ⟨v,rfl,_⟩:=dns1 h.dens
  obtain ⟨a,us,rfl,g1,g2,g3⟩:=res_list hl hn (rsl_one h)
  exact ⟨a,us,rfl,.inl (SqL.of g1),fun p hp=>q _ _ _ _ g (Same.new hp) (res_newL hl hs hp g3)⟩
 ·exact g.elim⟩
def fMin : FA:=fun ds _ Q=>match ds with
 | [.int i,.int j]=>Q (.int (if j < i then j else i)) .old
 | [.list xs]=>∃ ns,intsD xs = some ns /\ ns ≠ [] /\ ∀ m,m ∈ ns -> (∀ x ∈ ns,m <= x) -> Q (.int m) .old
 | _=>False
def fMax : FA:=fun ds _ Q=>match ds with
 | [.int i,.int j]=>Q (.int (if j > i then j else i)) .old
 | [.list xs]=>∃ ns,intsD xs = some ns /\ ns ≠ [] /\ ∀ m,m ∈ ns -> (∀ x ∈ ns,x <= m) -> Q (.int m) .old
 | _=>False
theorem callR_or {f : Value} {r r' : List V -> Hp -> VK -> Prop} (h : CallR X f r) (h' : CallR X f r') : CallR X f (fun x H Q=>r x H Q \/ r' x H Q):=by
 intro pins s σ H xs us Q I rv h
 rcases h with h1 | h1
 ·exact h pins s σ H xs us Q I rv h1
 ·exact h' pins s σ H xs us Q I rv h1
theorem dcl_min (hK : X.K = K) (hc : X.calm = true) : DCl X K (.builtin "min") fMin:=⟨_,callR_or (call_min2 hc) (call_minLK K hK hc),fun Z ν Hs H xs ds k Qf Q hl hn hs h g q=>by
 unfold fMin at g
 split at g
 ·obtain ⟨v,w',rfl,h1,h2⟩:=dns2 h.dens
  exact .inl ⟨_,_,by rw [dn_int h1,dn_int h2],q _ _ _ _ g (Same.refl H) (.int _)⟩
 ·obtain ⟨v,rfl,h1⟩:=dns1 h.dens
  obtain ⟨a,us,rfl,g1,g2⟩:=dns_of_lst h1
  obtain ⟨ns,e,ne,g⟩:=g
  exact .inr ⟨a,ns,rfl,SqL.of (by rw [g1,dns_ints g2 e]),ne,fun m m1 m2=>q _ _ _ _ (g m m1 m2) (Same.refl H) (.int _)⟩
 ·exact g.elim⟩
theorem dcl_max (hK : X.K = K) (hc : X.calm = true) : DCl X K (.builtin "max") fMax:=⟨_,callR_or (call_max2 hc) (call_maxLK K hK hc),fun Z ν Hs H xs ds k Qf Q hl hn hs h g q=>by
 unfold fMax at g
 split at g
 ·obtain ⟨v,w',rfl,h1,h2⟩:=dns2 h.dens
  exact .inl ⟨_,_,by rw [dn_int h1,dn_int h2],q _ _ _ _ g (Same.refl H) (.int _)⟩
 ·obtain ⟨v,rfl,h1⟩:=dns1 h.dens
  obtain ⟨a,us,rfl,g1,g2⟩:=dns_of_lst h1
  obtain ⟨ns,e,ne,g⟩:=g
  exact .inr ⟨a,ns,rfl,SqL.of (by rw [g1,dns_ints g2 e]),ne,fun m m1 m2=>q _ _ _ _ (g m m1 m2) (Same.refl H) (.int _)⟩
 ·exact g.elim⟩
def tyN : D -> String
 | .none=>"NoneType"
 | .bool _=>"bool"
 | .int _=>"int"
 | .str _=>"str"
 | .list _=>"list"
 | .tuple _=>"tuple"
 | .dict _=>"dict"
def isInt : D -> Bool
 | .int _=>true
 | .bool _=>true
 | _=>false
def isBool : D -> Bool
 | .bool _=>true
 | _=>false
def isList : D -> Bool
 | .list _=>true
 | _=>false
def noDict : D -> Bool
 | .dict _=>false
 | _=>true
def KitT (K : W.Frag) (T : String) (f : D -> Bool) : Prop:=∀ d,noDict d = true -> PySem.W.kitOne K (.type (tyN d)) (.type T) = some (f d)
theorem kit_int : KitT K "int" isInt:=by intro d h; cases d <;> first | rfl | simp [noDict] at h
theorem kit_bool : KitT K "bool" isBool:=by intro d h; cases d <;> first | rfl | simp [noDict] at h
theorem kit_list : KitT K "list" isList:=by intro d h; cases d <;> first | rfl | simp [noDict] at h
def rIsD (K : W.Frag) (T : String) (f : D -> Bool) : List V -> Hp -> VK -> Prop:=fun xs H Q=>∃ x d,xs = [x,.ty T] /\ Dn K H x d /\ noDict d = true /\ Q (.bl (f d)) H
theorem call_isD {T : String} {f : D -> Bool} (hK : X.K = K) (kt : KitT K T f) : CallR X (.builtin "isinstance") (rIsD K T f):=by
 subst hK
 intro pins s σ H xs us Q I r h
 obtain ⟨x,d,rfl,hd,nd,q⟩:=h
 obtain ⟨u,w',rfl,r1,r2⟩:=vals2 r
 cases r2
 have k:=kt d nd
 cases hd with
 | non=>exact isinst_ok I r1 .non k fun tk=>⟨.bl _,H,I.tok _,rfl,q⟩
 | bl i=>exact isinst_ok I r1 (.bl _) k fun tk=>⟨.bl _,H,I.tok _,rfl,q⟩
 | int i=>exact isinst_ok I r1 (.int _) k fun tk=>⟨.bl _,H,I.tok _,rfl,q⟩
 | str i=>exact isinst_ok I r1 (.str _) k fun tk=>⟨.bl _,H,I.tok _,rfl,q⟩
 | lst h _=>exact isinst_ok I r1 (.lst h) k fun tk=>⟨.bl _,H,I.tok _,rfl,q⟩
 | tup h _ =>
  cases r1
  obtain ⟨its,rv,⟨o,e,c,n,d⟩,_⟩:=I.tuple h
  exact PySem.W.kia_one PySem.W.kitx_tuple I.kIn ⟨o,e,c⟩ k (fun z=>nomatch z) fun tk=>⟨.bl _,H,I.tok _,rfl,q⟩
 | scr _ _=>cases nd
 | opq _=>cases nd
 | dct _ _=>cases nd
def dIs (f : D -> Bool) (ta : TD) : TD:=fun ρ Q Xd=>ta ρ (fun d _=>noDict d = true /\ Q (.bool (f d)) .old) Xd
theorem dpe_isi {T : String} {f : D -> Bool} {y : Str} {p p2 : Pos} (hK : X.K = K) (kt : KitT K T f) (hg : Gl X "isinstance") (hm : X.mg "isinstance" = none) (ha : DE X K E a ta) (hg2 : Gl X y) (hm2 : X.mg y = none) (hv2 : bootBuiltins y = some (.type T)) (hn : y ≠ "__name__":=by decide) (hd : (y == ("__debug__" : Str)) = false:=by decide)
  (he : starEach [a,.Name y p2] X.env = (false,eval a X.env) :: starEach [.Name y p2] X.env:=by rfl) (hpl : (backTo pos (starEach [.Name y p2] X.env)).any (·.1) = false:=by rfl) : DE X K E (.Call (.Name "isinstance" p) [a,.Name y p2] [] pos) (dIs f ta) :=
 ⟨qe_imp (qpe_callB (call_isD hK kt) hg hm (by decide +kernel) (qpa_cons ha.q (hs:=he) (qpa_cons (qpe_bltn (v:=.ty T) hg2 hm2 hv2 rfl hn hd) qpa_nil)) (by decide) (by decide) he hpl) fun σ H Q h=>by
  obtain ⟨H0,ν,ρ,Qd,Xd,S,h1,q,x⟩:=h
  refine ⟨H0,ν,ρ,_,Xd,S,h1,fun d k v H' g1 g2 g3=>?_,x⟩
  exact ⟨v,d,rfl,g3.den,g1.1,q _ _ _ _ g1.2 g2 (.bl _)⟩⟩
def scalD : D -> Bool
 | .none=>true
 | .bool _=>true
 | .int _=>true
 | .str _=>true
 | _=>false
theorem flatV_of {H : Hp} {v : V} {d : D} (h : Dn K H v d) (s : scalD d = true) : flatV v = true:=by
 cases h <;> first | rfl | simp [scalD,dctD] at s
theorem eqV_of {H : Hp} {v u : V} {d e : D} (h : Dn K H v d) (g : Dn K H u e) (s : scalD d = true) (t : scalD e = true) : eqV v u = PyData.eqv d e:=by
 cases h <;> first | (simp [scalD,dctD] at s; done) | (cases g <;> first | (simp [scalD,dctD] at t; done) | rfl | (simp [eqV,PyData.eqv]; done))
def inD (x : D) (xs : List D) : Bool:=xs.any fun y=>PyData.eqv y x
def fIn (f : Bool -> Bool) : F2:=fun d _ e _ Q=>scalD d = true /\ match e with
 | .list es=>es.all scalD = true /\ Q (.bool (f (inD d es))) .old
 | .tuple es=>es.all scalD = true /\ Q (.bool (f (inD d es))) .old
 | _=>False
theorem in_items {H : Hp} {v : V} {d : D} (h : Dn K H v d) (s : scalD d = true) : ∀ {us : List V} {es : List D},Dns K H us es -> es.all scalD = true -> us.all flatV = true /\ inV v us = inD d es
 | _,_,.nil,_=>⟨rfl,rfl⟩
 | _,_,.cons g r,t=>by
  rw [List.all_cons,Bool.and_eq_true] at t
  obtain ⟨h1,h2⟩:=in_items h s r t.2
  refine ⟨by rw [List.all_cons,flatV_of g t.1,h1]; rfl,?_⟩
  unfold inV inD at h2 ⊢
  rw [List.any_cons,List.any_cons,h2,eqV_of g h t.1 s]
theorem prim_in {neg : Bool} {f : Bool -> Bool} (hf : ∀ b,f b = if neg then !b else b) : Prim2 K (rIn K neg) (fIn f):=fun Z ν Hs H x y d k e l Qf Q _ _ _ h3 h4 h5 h6=>by
 obtain ⟨h0,h5⟩:=h5
 split at h5
 ·obtain ⟨a,us,rfl,g1,g2⟩:=dns_of_lst h4.den
  obtain ⟨q1,q2⟩:=in_items h3.den h0 g2 h5.1
  refine ⟨a,us,rfl,.inl (SqL.of g1),flatV_of h3.den h0,q1,h6 _ _ _ _ h5.2 (Same.refl H) ?_⟩
  rw [q2,hf]; cases neg <;> exact .bl _
 ·obtain ⟨a,us,rfl,g1,g2⟩:=dns_of_tup h4.den
  obtain ⟨q1,q2⟩:=in_items h3.den h0 g2 h5.1
  refine ⟨a,us,rfl,.inr g1,flatV_of h3.den h0,q1,h6 _ _ _ _ h5.2 (Same.refl H) ?_⟩
  rw [q2,hf]; cases neg <;> exact .bl _
 ·exact h5.elim
theorem dop_in (hK : X.K = K) : DOp X K (compareOp .In) (fIn id):=⟨_,op_inK K hK,prim_in fun b=>rfl⟩
theorem dop_notin (hK : X.K = K) : DOp X K (compareOp .NotIn) (fIn not):=⟨_,op_notInK K hK,prim_in fun b=>rfl⟩
end
structure EndsD where
 nx : Ren -> Prop
 rt : D -> Bool -> Prop
 bk : Ren -> Prop:=fun _=>False
 ct : Ren -> Prop:=fun _=>False
abbrev TSD:=EndsD -> Ren -> XD -> Prop
structure EndsOk (K : W.Frag) (H0 : Hp) (En : Ends) (Dd : EndsD) : Prop where
 nx : ∀ ν ρ σ H,Dd.nx ρ -> StOk K Z0 H0 ν ρ σ H -> En.nx σ H
 bk : ∀ ν ρ σ H,Dd.bk ρ -> StOk K Z0 H0 ν ρ σ H -> En.bk σ H
 ct : ∀ ν ρ σ H,Dd.ct ρ -> StOk K Z0 H0 ν ρ σ H -> En.ct σ H
 rt : ∀ d o v H,Dd.rt d o -> Same H0 H -> RR K H0 H o v d -> En.rt v H
def LS (K : W.Frag) (E : XK) (t : TSD) : TS:=fun En σ H=>∃ H0 ν ρ Dd Xd,StOk K Z0 H0 ν ρ σ H /\ t Dd ρ Xd /\ EndsOk K H0 En Dd /\ ∀ C H',Xd C -> Same H0 H' -> E (.ref C) none H'
structure DS (X : Cx) (K : W.Frag) (E : XK) (s : Stmt) (t : TSD) : Prop where
 q : QS X s (LS K E t)
structure DSs (X : Cx) (K : W.Frag) (E : XK) (s : List Stmt) (t : TSD) : Prop where
 q : QSs X s (LS K E t)
def setK (ρ : Ren) (i : Nat) (d : D) (k : Kd) : Ren:=if flat d = true then ρ.set i (some (false,d)) else match k with
 | .own s=>(dropS ρ s).set i (some (true,d))
 | .old=>ρ.set i (some (false,d))
 | .mix=>(frz ρ).set i (some (false,d))
section
variable {K : W.Frag} {H0 H H' : Hp} {ν : Nat -> List Addr} {ρ : Ren} {σ : L2.St} {v : V} {d : D} {k : Kd}
theorem hid_z0 {H : Hp} : Same H (hid (Hd Z0 fun _=>[]) H):=fun a o h=>hid_of h fun z=>by
 rcases z with z | ⟨_,z⟩
 ·exact z
 ·cases z
theorem StOk.setK (S : StOk K Z0 H0 ν ρ σ H) (e : Same H H') (h : Res K Z0 ν H H' k v d) (i : Nat) : ∃ ν',StOk K Z0 H0 ν' (setK ρ i d k) (σ.set i (some v)) H':=by
 unfold DL.setK
 split
 ·exact ⟨_,(S.same e).setOld i (den_hid (S.same e).hl h.den ‹_›)⟩
 ·cases k with
  | own s =>
   obtain ⟨ms,h1,h2,h3⟩:=h
   exact ⟨_,S.setOwn s i e h1 h2 h3⟩
  | old=>exact ⟨_,(S.same e).setOld i h⟩
  | mix=>exact ⟨_,(S.same e).frz.setOld i (Dn.same hid_z0 h)⟩
def rtK (d : D) (k : Kd) : Bool:=flat d || match k with
 | .own _=>true
 | _=>false
theorem rr_of (S : StOk K Z0 H0 ν ρ σ H) (e : Same H H') (h : Res K Z0 ν H H' k v d) : RR K H0 H' (rtK d k) v d:=by
 unfold rtK
 cases hf : flat d with
 | true=>exact ⟨[],ow_flat h.den hf,nodup_nil,fun _ z=>by cases z⟩
 | false =>
  cases k with
  | own s =>
   obtain ⟨ms,h1,h2,h3⟩:=h
   refine ⟨ms,h1,h2,fun a ha=>?_⟩
   rcases h3 a ha with z | ⟨j,_,z⟩
   ·exact S.sm.gone z
   ·exact (S.fr j a z).1
  | old=>exact Dn.same hid_same h
  | mix=>exact h
theorem StOk.low {Z : Addr -> Prop} {H1 : Hp} (S : StOk K Z H1 ν ρ σ H) (e : Same H0 H1) : StOk K Z H0 ν ρ σ H :=
 ⟨e.trans S.sm,S.len,S.sl,S.nd,S.dj,fun i a h=>⟨e.gone (S.fr i a h).1,(S.fr i a h).2⟩,fun a h=>⟨e.gone (S.zf a h).1,(S.zf a h).2⟩⟩
theorem StOk.base {Z : Addr -> Prop} (S : StOk K Z H0 ν ρ σ H) : Same H0 (hid (Hd Z ν) H):=fun a o h=>hid_of (S.sm a o h) fun z=>by
 rcases z with z | ⟨i,z⟩
 ·rw [(S.zf a z).1] at h; cases h
 ·rw [(S.fr i a z).1] at h; cases h
theorem StOk.high {Z : Addr -> Prop} (S : StOk K Z H0 ν ρ σ H) : StOk K Z (hid (Hd Z ν) H) ν ρ σ H :=
 ⟨hid_same,S.len,S.sl,S.nd,S.dj,fun i a h=>⟨by unfold hid; rw [if_pos (.inr ⟨i,h⟩)],(S.fr i a h).2⟩,fun a h=>⟨by unfold hid; rw [if_pos (.inl h)],(S.zf a h).2⟩⟩
theorem RR.low {H1 : Hp} {o : Bool} (h : RR K H1 H o v d) (e : Same H0 H1) : RR K H0 H o v d:=by
 cases o with
 | true=>obtain ⟨ms,h1,h2,h3⟩:=h; exact ⟨ms,h1,h2,fun a ha=>e.gone (h3 a ha)⟩
 | false=>exact h
theorem EndsOk.high {En : Ends} {Dd : EndsD} {H1 : Hp} (h : EndsOk K H0 En Dd) (e : Same H0 H1) : EndsOk K H1 En Dd :=
 ⟨fun ν ρ σ H a S=>h.nx ν ρ σ H a (S.low e),fun ν ρ σ H a S=>h.bk ν ρ σ H a (S.low e),fun ν ρ σ H a S=>h.ct ν ρ σ H a (S.low e),fun d o v H a b c=>h.rt d o v H a (e.trans b) (c.low e)⟩
end
section
variable {X : Cx} {K : W.Frag} {E : XK} {pos : Pos} {a b c e : Expr} {te : TD} {tA : TDT} {t u : TSD}
def dSet (i : Nat) (te : TD) : TSD:=fun Dd ρ Xd=>te ρ (fun d k=>Dd.nx (setK ρ i d k)) Xd
theorem dpset (i : Nat) {x : Str} {pos' : Pos} (hN : X.N.Nodup) (he : DE X K E e te) (hi : X.N[i]? = some x:=by rfl) (hx : Loc X.env.scope x:=by first | exact Or.inl rfl | exact Or.inr rfl) (hs : swapsWith e (some (.Name x pos')) pos.line X.env = pure false:=by rfl) (hf : X.fn x = true \/ X.env.scope.names.lookup x = some .local:=by first | exact .inl rfl | exact .inr rfl | assumption) :
  DS X K E (.Assign [.Name x pos'] e pos) (dSet i te):=⟨qs_imp (qpset i hN he.q hi hx hs hf) fun En σ H h=>by
 obtain ⟨H0,ν,ρ,Dd,Xd,S,h1,ok,x⟩:=h
 refine ⟨H0,ν,ρ,_,Xd,S,h1,fun d k v H' g1 g2 g3=>?_,x⟩
 obtain ⟨ν',S'⟩:=S.setK g2 g3 i
 exact ok.nx _ _ _ _ g1 S'⟩
def dRet (te : TD) : TSD:=fun Dd ρ Xd=>te ρ (fun d k=>Dd.rt d (rtK d k)) Xd
theorem dps_ret (he : DE X K E e te) : DS X K E (.Return (some e) pos) (dRet te):=⟨qs_imp (qps_ret he.q) fun En σ H h=>by
 obtain ⟨H0,ν,ρ,Dd,Xd,S,h1,ok,x⟩:=h
 exact ⟨H0,ν,ρ,_,Xd,S,h1,fun d k v H' g1 g2 g3=>ok.rt _ _ _ _ g1 (S.sm.trans g2) (rr_of S g2 g3),x⟩⟩
def dDrop (te : TD) : TSD:=fun Dd ρ Xd=>te ρ (fun _ _=>Dd.nx ρ) Xd
theorem dps_expr (he : DE X K E e te) (hs : swapsWith e none pos.line X.env = pure false:=by rfl) : DS X K E (.Expr e pos) (dDrop te):=⟨qs_imp (qps_expr he.q hs) fun En σ H h=>by
 obtain ⟨H0,ν,ρ,Dd,Xd,S,h1,ok,x⟩:=h
 exact ⟨H0,ν,ρ,_,Xd,S,h1,fun d k v H' g1 g2 g3=>ok.nx _ _ _ _ g1 (S.same g2),x⟩⟩
def dNext : TSD:=fun Dd ρ _=>Dd.nx ρ
def dIfS (tA : TDT) (t u : TSD) : TSD:=fun Dd ρ Xd=>tA ρ (fun b=>if b = true then t Dd ρ Xd else u Dd ρ Xd) Xd
theorem dps_if {as bs : List Stmt} (hc : DT X K E c tA) (ha : DSs X K E as t) (hb : DSs X K E bs u) : DS X K E (.If c as bs pos) (dIfS tA t u):=⟨qs_imp (qps_if hc.q ha.q hb.q) fun En σ H h=>by
 obtain ⟨H0,ν,ρ,Dd,Xd,S,h1,ok,x⟩:=h
 refine ⟨H0,ν,ρ,_,Xd,S,h1,fun b H' g1 g2=>?_,x⟩
 cases b with
 | true=>exact ⟨H0,ν,ρ,Dd,Xd,S.same g2,g1,ok,x⟩
 | false=>exact ⟨H0,ν,ρ,Dd,Xd,S.same g2,g1,ok,x⟩⟩
def dSeq (t u : TSD) : TSD:=fun Dd ρ Xd=>t { Dd with nx:=fun ρ'=>u Dd ρ' Xd } ρ Xd
theorem dpss_nil : DSs X K E [] dNext:=⟨qss_imp qpss_nil fun En σ H h=>by
 obtain ⟨H0,ν,ρ,Dd,Xd,S,h1,ok,x⟩:=h
 exact ok.nx _ _ _ _ h1 S⟩
theorem dpss_one {st : Stmt} (h1 : DS X K E st t) : DSs X K E [st] t:=⟨qpss_one h1.q⟩
theorem dpss_cons {st : Stmt} {rest : List Stmt} (h1 : DS X K E st t) (h2 : DSs X K E rest u) : DSs X K E (st :: rest) (dSeq t u):=⟨qss_imp (qpss_cons h1.q h2.q) fun En σ H h=>by
 obtain ⟨H0,ν,ρ,Dd,Xd,S,h1,ok,x⟩:=h
 exact ⟨H0,ν,ρ,_,Xd,S,h1,⟨fun ν' ρ' σ' H' a S'=>⟨H0,ν',ρ',Dd,Xd,S',a,ok,x⟩,ok.bk,ok.ct,ok.rt⟩,x⟩⟩
def dFrz (i : Nat) (t : TSD) : TSD:=fun Dd ρ Xd=>t Dd (frz1 i ρ) Xd
theorem dps_frz (i : Nat) {s : Stmt} (h : DS X K E s t) : DS X K E s (dFrz i t):=⟨qs_imp h.q fun En σ H h=>by
 obtain ⟨H0,ν,ρ,Dd,Xd,S,h1,ok,x⟩:=h
 exact ⟨H0,_,_,Dd,Xd,S.frz1 i,h1,ok,x⟩⟩
def dRaise (C : Addr) (t : TDA) : TSD:=fun _ ρ Xd=>t ρ (fun ds _=>ds.length <= 1000 /\ Xd C) Xd
theorem dps_raise {x : Str} {C : Addr} {e0 : Expr} {es : List Expr} {t : TDA} {np cpos : Pos} (hx : RaiseOk X E) (hc : X.calm = true) (c : ExC X.K X.mg x C) (hg : Gl X x) (ha : DA X K E (e0 :: es) t) (hdb : (x == ("__debug__" : Str)) = false:=by decide)
  (he : starEach (e0 :: es) X.env = (false,eval e0 X.env) :: starEach es X.env:=by rfl) (hpl : (backTo cpos (starEach es X.env)).any (·.1) = false:=by rfl) :
  DS X K E (.Raise (some (.Call (.Name x np) (e0 :: es) [] cpos)) none pos) (dRaise C t):=⟨qs_imp (qps_raise hx hc c hg ha.q hdb he hpl) fun En σ H h=>by
 obtain ⟨H0,ν,ρ,Dd,Xd,S,h1,ok,x⟩:=h
 refine ⟨H0,ν,ρ,_,Xd,S,h1,fun ds k vs H' g1 g2 g3=>?_,x⟩
 exact ⟨by rw [g3.dens.length]; exact Nat.le_trans g1.1 (by decide),x C H' g1.2 (S.sm.trans g2)⟩⟩
def dNever : TSD:=fun _ _ _=>False
def dWhile (tc : TDT) (tb : TSD) : TSD:=fun Dd ρ Xd=>∃ W : Nat -> Ren -> Prop,(∃ m,W m ρ) /\ ∀ m ρ,W m ρ -> tc ρ (fun b=>if b = true then tb { Dd with nx:=fun ρ'=>∃ m',m' < m /\ W m' ρ',ct:=fun ρ'=>∃ m',m' < m /\ W m' ρ',bk:=Dd.nx } ρ Xd else Dd.nx ρ) Xd
theorem dps_while {body : List Stmt} {tb : TSD} (hp : PassesOwn (model X.prog X.w) X.A X.env X.xe) (hc : DT X K E c tA) (hb : DSs X K E body tb) : DS X K E (.While c body [] pos) (dWhile tA tb):=⟨qs_imp (qps_while hp hc.q hb.q) fun En σ H h=>by
 obtain ⟨H0,ν,ρ,Dd,Xd,S,⟨W,⟨m0,w0⟩,turn⟩,ok,x⟩:=h
 refine ⟨fun m σ H=>∃ ν ρ,StOk K Z0 H0 ν ρ σ H /\ W m ρ,⟨m0,ν,ρ,S,w0⟩,?_⟩
 rintro m σ1 H1 ⟨ν1,ρ1,S1,w1⟩
 refine ⟨H0,ν1,ρ1,_,Xd,S1,turn m ρ1 w1,fun b H' g1 g2=>?_,x⟩
 cases b with
 | true =>
  rw [if_pos rfl] at g1 ⊢
  refine ⟨fun σ' H'=>∃ m',m' < m /\ ∃ ν ρ,StOk K Z0 H0 ν ρ σ' H' /\ W m' ρ,fun σ' H' z=>z,H0,ν1,ρ1,_,Xd,S1.same g2,g1,⟨fun ν ρ σ H a S=>?_,fun ν ρ σ H a S=>ok.nx ν ρ σ H a S,fun ν ρ σ H a S=>?_,ok.rt⟩,x⟩
  ·obtain ⟨m',hm,w'⟩:=a; exact ⟨m',hm,ν,ρ,S,w'⟩
  ·obtain ⟨m',hm,w'⟩:=a; exact ⟨m',hm,ν,ρ,S,w'⟩
 | false =>
  rw [if_neg Bool.false_ne_true] at g1 ⊢
  exact ok.nx _ _ _ _ g1 (S1.same g2)⟩
end
abbrev TGD:=D -> Ren -> (Ren -> Prop) -> Prop
abbrev TGsD:=List D -> Ren -> (Ren -> Prop) -> Prop
def noOwn (ρ : Ren) : Prop:=∀ (i : Nat) d,ρ[i]? ≠ some (some (true,d))
theorem noOwn_set {ρ : Ren} (h : noOwn ρ) (i : Nat) (d : D) : noOwn (ρ.set i (some (false,d))):=fun j e z=>by
 rcases set_get z with ⟨_,z,_⟩ | ⟨_,z⟩
 ·cases z
 ·exact h j e z
def Agr (T : List Nat) (ρ ρ' : Ren) : Prop:=ρ'.length = ρ.length /\ ∀ i,i ∉ T -> ρ'[i]? = ρ[i]?
def BndOk (K : W.Frag) (g : TG) (T : List Nat) (bnd : TGD) : Prop:=∀ (H0 : Hp) (ν : Nat -> List Addr) (ρ : Ren) (σ : L2.St) (H : Hp) (v : V) (d : D) (Qd : Ren -> Prop) (Q : L2.St -> Hp -> Prop),StOk K Z0 H0 ν ρ σ H -> Dn K (hid (Hd Z0 ν) H) v d -> bnd d ρ Qd ->
 (∀ ρ' σ',Qd ρ' -> StOk K Z0 H0 ν ρ' σ' H -> Agr T ρ ρ' -> (noOwn ρ -> noOwn ρ') -> Q σ' H) -> g v σ H Q
def BndsOk (K : W.Frag) (g : TGs) (T : List Nat) (bnd : TGsD) : Prop:=∀ (H0 : Hp) (ν : Nat -> List Addr) (ρ : Ren) (σ : L2.St) (H : Hp) (vs : List V) (ds : List D) (Qd : Ren -> Prop) (Q : L2.St -> Hp -> Prop),StOk K Z0 H0 ν ρ σ H -> Dns K (hid (Hd Z0 ν) H) vs ds -> bnd ds ρ Qd ->
 (∀ ρ' σ',Qd ρ' -> StOk K Z0 H0 ν ρ' σ' H -> Agr T ρ ρ' -> (noOwn ρ -> noOwn ρ') -> Q σ' H) -> g vs σ H Q
structure DG (X : Cx) (K : W.Frag) (tg : Expr) (T : List Nat) (bnd : TGD) : Prop where
 ex : ∃ g,QG X tg g /\ BndOk K g T bnd
structure DGs (X : Cx) (K : W.Frag) (tg : List Expr) (T : List Nat) (bnd : TGsD) : Prop where
 ex : ∃ g,QGs X tg g /\ BndsOk K g T bnd
def bName (i : Nat) : TGD:=fun d ρ Q=>Q (ρ.set i (some (false,d)))
def bNil : TGsD:=fun ds ρ Q=>ds = [] /\ Q ρ
def bCons (b : TGD) (bs : TGsD) : TGsD:=fun ds ρ Q=>match ds with
 | d :: r=>b d ρ fun ρ'=>bs r ρ' Q
 | []=>False
def bTup (n : Nat) (bs : TGsD) : TGD:=fun d ρ Q=>match d with
 | .tuple ds=>ds.length = n /\ bs ds ρ Q
 | _=>False
section
variable {X : Cx} {K : W.Frag} {pos : Pos}
theorem Agr.trans {T U : List Nat} {a b c : Ren} (h : Agr T a b) (g : Agr U b c) : Agr (T ++ U) a c:=⟨g.1.trans h.1,fun i hi=>by
 rw [mem_append,not_or] at hi
 rw [g.2 i hi.2,h.2 i hi.1]⟩
theorem dpgn (i : Nat) {x : Str} (hN : X.N.Nodup) (hi : X.N[i]? = some x:=by rfl) (hx : Loc X.env.scope x:=by first | exact Or.inl rfl | exact Or.inr rfl) (hf : X.fn x = true \/ X.env.scope.names.lookup x = some .local:=by first | exact .inl rfl | exact .inr rfl | assumption) : DG X K (.Name x pos) [i] (bName i) :=
 ⟨_,qpgn i hN hi hx hf,fun H0 ν ρ σ H v d Qd Q S h b q=>q _ _ b (S.setOld i h) ⟨length_set,fun j hj=>List.getElem?_set_ne (by simpa using Ne.symm (by simpa using hj))⟩ fun n=>noOwn_set n i d⟩
theorem dpgs_nil : DGs X K [] [] bNil:=⟨_,qpgs_nil,fun H0 ν ρ σ H vs ds Qd Q S h b q=>by
 obtain ⟨rfl,b⟩:=b
 cases h
 exact ⟨rfl,q _ _ b S ⟨rfl,fun _ _=>rfl⟩ id⟩⟩
theorem dpgs_cons {e : Expr} {es : List Expr} {T U : List Nat} {b : TGD} {bs : TGsD} (h1 : DG X K e T b) (h2 : DGs X K es U bs) (hs : (assignEach (e :: es) X.env).map (·.2) = assign e X.env :: (assignEach es X.env).map (·.2):=by rfl) : DGs X K (e :: es) (T ++ U) (bCons b bs):=by
 obtain ⟨g,q1,o1⟩:=h1.ex
 obtain ⟨gs,q2,o2⟩:=h2.ex
 refine ⟨_,qpgs_cons q1 q2 hs,fun H0 ν ρ σ H vs ds Qd Q S h b q=>?_⟩
 cases h with
 | nil=>exact b.elim
 | cons h r =>
  refine ⟨_,_,rfl,o1 H0 ν ρ σ H _ _ _ _ S h b fun ρ' σ' b' S' A n1=>?_⟩
  exact o2 H0 ν ρ' σ' H _ _ _ _ S' r b' fun ρ'' σ'' b'' S'' A' n2=>q _ _ b'' S'' (A.trans A') fun n=>n2 (n1 n)
theorem dpg_tup (n : Nat) {es : List Expr} {k : Nat} {T : List Nat} {bs : TGsD} (hK : X.K = K) (hc : X.calm = true) (h : DGs X K es T bs) (hn : (assignEach es X.env).length = n) (hst : (assignEach es X.env).findIdx? (·.1) = none) : DG X K (.Tuple es k pos) T (bTup n bs):=by
 obtain ⟨gs,q1,o1⟩:=h.ex
 refine ⟨_,qpg_tupK K n hK hc q1 hn hst,fun H0 ν ρ σ H v d Qd Q S h b q=>?_⟩
 unfold bTup at b
 split at b
 ·obtain ⟨a,us,rfl,g1,g2⟩:=dns_of_tup h
  exact ⟨a,us,rfl,Same.tup hid_same g1,by rw [g2.length]; exact b.1,o1 H0 ν ρ σ H _ _ _ _ S g2 b.2 q⟩
 ·exact b.elim
end
def ItOk (K : W.Frag) (F0 : Hp) (J : It) (ds : List D) : Prop:=∀ (W : Addr -> Prop) (H2 : Hp),(∀ a,W a -> Mu H2 a) -> Same F0 (hid W H2) ->
 J.stop ds.length H2 /\ ∀ i d,ds[i]? = some d -> J.go i H2 /\ ∀ x H',J.yld i H2 x H' -> Same H2 H' /\ Dn K (hid W H') x d
abbrev TDI:=Ren -> (List D -> Bool -> Prop) -> XD -> Prop
noncomputable def fz (b : Bool) (ν : Nat -> List Addr) (H : Hp) : Hp:=if b = true then hid (Hd Z0 ν) H else H
def LI (K : W.Frag) (E : XK) (t : TDI) : TI:=fun σ H R=>∃ H0 ν ρ Qd Xd,StOk K Z0 H0 ν ρ σ H /\ t ρ Qd Xd /\ (∀ ds b J H1,Qd ds b -> Same H H1 -> ItOk K (fz b ν H1) J ds -> R J H1) /\ ∀ C H',Xd C -> Same H0 H' -> E (.ref C) none H'
structure DI (X : Cx) (K : W.Frag) (E : XK) (tg e : Expr) (t : TDI) : Prop where
 q : QI X tg e (LI K E t)
theorem qi_imp {X : Cx} {tg e : Expr} {t t' : TI} (h : QI X tg e t) (i : ∀ σ H Q,t' σ H Q -> t σ H Q) : QI X tg e t':=⟨fun pins s σ H Q I w=>h.h pins s σ H Q I (i σ H Q w)⟩
section
variable {X : Cx} {K : W.Frag} {E : XK} {pos : Pos} {tg l : Expr} {te : TD} {ta : TDA}
theorem itok_list {F0 : Hp} {a : Addr} {us : List V} {ds : List D} (h : F0 a = some (.lst us)) (r : Dns K F0 us ds) : ItOk K F0 (Itl K a) ds:=fun W H2 hl sm=>by
 have h2 : H2 a = some (.lst us):=(of_hid (sm _ _ h)).1
 refine ⟨⟨us,SqL.of h2,by rw [r.length]; exact Nat.le_refl _⟩,fun i d hd=>?_⟩
 obtain ⟨u,h3,h4⟩:=r.get hd
 refine ⟨⟨us,u,SqL.of h2,h3⟩,fun x H' y=>?_⟩
 obtain ⟨rfl,y⟩:=y
 have:=y us (SqL.of h2)
 rw [h3] at this; cases this
 exact ⟨Same.refl _,Dn.same sm h4⟩
theorem itok_tup {F0 : Hp} {a : Addr} {us : List V} {ds : List D} (h : SqT K F0 a us) (r : Dns K F0 us ds) : ItOk K F0 (Itt K a) ds:=fun W H2 hl sm=>by
 have h2 : SqT K H2 a us:=Same.tup hid_same (Same.tup sm h)
 refine ⟨⟨us,h2,by rw [r.length]; exact Nat.le_refl _⟩,fun i d hd=>?_⟩
 obtain ⟨u,h3,h4⟩:=r.get hd
 refine ⟨⟨us,u,h2,h3⟩,fun x H' y=>?_⟩
 obtain ⟨rfl,y⟩:=y
 have:=y us h2
 rw [h3] at this; cases this
 exact ⟨Same.refl _,Dn.same sm h4⟩
theorem res_fz {ν : Nat -> List Addr} {Hs H : Hp} {k : Kd} {v : V} {d : D} (hl : ∀ a,Hd Z0 ν a -> Mu H a) (hn : ∀ a,Hd Z0 ν a -> Mu Hs a) (h : Res K Z0 ν Hs H k v d) : Dn K (fz k.isOld ν H) v d:=by
 unfold fz
 split
 ·exact h.old hl hn ‹_›
 ·exact h.den
def iL (te : TD) : TDI:=fun ρ Q Xd=>te ρ (fun d k=>match d with
 | .list ds=>Q ds k.isOld
 | _=>False) Xd
theorem dpi_list (hK : X.K = K) (hl : DE X K E l te) : DI X K E tg l (iL te):=⟨qi_imp (qpi_listK K hK hl.q) fun σ H R h=>by
 obtain ⟨H0,ν,ρ,Qd,Xd,S,h1,q,x⟩:=h
 refine ⟨H0,ν,ρ,_,Xd,S,h1,fun d k v H' g1 g2 g3=>?_,x⟩
 cases d with
 | list ds =>
  have hf:=res_fz (S.same g2).hl S.hl g3
  obtain ⟨a,us,rfl,q1,q2⟩:=dns_of_lst hf
  have q0 : H' a = some (.lst us):=by unfold fz at q1; split at q1; exact (of_hid q1).1; exact q1
  exact ⟨a,rfl,⟨us,SqL.of q0⟩,q ds _ _ H' g1 g2 (itok_list q1 q2)⟩
 | _=>exact g1.elim⟩
def iT (te : TD) : TDI:=fun ρ Q Xd=>te ρ (fun d k=>match d with
 | .tuple ds=>Q ds k.isOld
 | _=>False) Xd
theorem dpi_tup (hK : X.K = K) (hl : DE X K E l te) : DI X K E tg l (iT te):=⟨qi_imp (qpi_tupK K hK hl.q) fun σ H R h=>by
 obtain ⟨H0,ν,ρ,Qd,Xd,S,h1,q,x⟩:=h
 refine ⟨H0,ν,ρ,_,Xd,S,h1,fun d k v H' g1 g2 g3=>?_,x⟩
 cases d with
 | tuple ds =>
  have hf:=res_fz (S.same g2).hl S.hl g3
  obtain ⟨a,us,rfl,q1,q2⟩:=dns_of_tup hf
  have q0 : SqT K H' a us:=by unfold fz at q1; split at q1; exact Same.tup hid_same q1; exact q1
  exact ⟨a,rfl,⟨us,q0⟩,q ds _ _ H' g1 g2 (itok_tup q1 q2)⟩
 | _=>exact g1.elim⟩
def rngD (lo : Int) (n : Nat) : List D:=(List.range n).map fun (i : Nat)=>PyData.int (lo + i)
theorem itok_rng {F0 : Hp} {lo : Int} {n : Nat} : ItOk K F0 (Itr lo n) (rngD lo n):=fun W H2 hl sm=>by
 refine ⟨?_,fun i d hd=>?_⟩
 ·show n <= _
  unfold rngD; rw [length_map,length_range]; exact Nat.le_refl _
 ·unfold rngD at hd
  rw [List.getElem?_map] at hd
  cases e : (List.range n)[i]? with
  | none=>rw [e] at hd; cases hd
  | some j =>
   rw [e] at hd; cases hd
   obtain ⟨h1,h2⟩:=List.getElem?_eq_some_iff.mp e
   rw [List.getElem_range] at h2
   subst h2
   rw [length_range] at h1
   refine ⟨h1,fun x H' y=>?_⟩
   obtain ⟨rfl,rfl⟩:=y
   exact ⟨Same.refl _,.int _⟩
def iR1 (ta : TDA) : TDI:=fun ρ Q Xd=>ta ρ (fun ds _=>match ds with
 | [.int j]=>-(2 ^ 62) <= j /\ j < 2 ^ 62 /\ Q (rngD 0 j.toNat) true
 | _=>False) Xd
theorem dpi_range1 {a : Expr} {p : Pos} (hg : Gl X "range") (hm : X.mg "range" = none) (ha : DA X K E [a] ta) (hs : starEach [a] X.env = [(false,eval a X.env)]:=by rfl) : DI X K E tg (.Call (.Name "range" p) [a] [] pos) (iR1 ta):=⟨qi_imp (qpi_range1 hg hm ha.q hs) fun σ H R h=>by
 obtain ⟨H0,ν,ρ,Qd,Xd,S,h1,q,x⟩:=h
 refine ⟨H0,ν,ρ,_,Xd,S,h1,fun ds k vs H' g1 g2 g3=>?_,x⟩
 split at g1
 ·obtain ⟨v,rfl,h2⟩:=dns1 g3.dens
  exact ⟨_,by rw [dn_int h2],g1.1,g1.2.1,q _ _ _ H' g1.2.2 g2 itok_rng⟩
 ·exact g1.elim⟩
def dFor (ti : TDI) (bnd : TGD) (tb : TSD) : TSD:=fun Dd ρ Xd=>ti ρ (fun ds b=>b = true /\ ∃ W : Nat -> Ren -> Prop,W 0 ρ /\ (∀ i d ρ,ds[i]? = some d -> W i ρ -> bnd d ρ fun ρ'=>tb { Dd with nx:=W (i + 1),ct:=W (i + 1),bk:=Dd.nx } ρ' Xd) /\ ∀ ρ,W ds.length ρ -> Dd.nx ρ) Xd
theorem dps_for {iter : Expr} {body : List Stmt} {ti : TDI} {T : List Nat} {bnd : TGD} {tb : TSD} (hp : PassesOwn (model X.prog X.w) X.A X.env X.xe) (hc : X.calm = true) (hi : DI X K E tg iter ti) (hg : DG X K tg T bnd) (hb : DSs X K E body tb) (hs : ∀ x,foldedSetIterable iter X.env x = pure x:=by intro _; rfl) :
  DS X K E (.For tg iter body [] pos) (dFor ti bnd tb):=by
 obtain ⟨g,qg,og⟩:=hg.ex
 refine ⟨qs_imp (qps_for hp hc hi.q qg hb.q hs) fun En σ H h=>?_⟩
 obtain ⟨H0,ν,ρ,Dd,Xd,S,h1,ok,x⟩:=h
 refine ⟨H0,ν,ρ,_,Xd,S,h1,fun ds b J H1 g1 e1 it=>?_,x⟩
 obtain ⟨rfl,W,w0,step,done⟩:=g1
 have S1:=(S.same e1).high
 have eb : Same H0 (hid (Hd Z0 ν) H1):=(S.same e1).base
 have ok1:=ok.high eb
 have x1 : ∀ C H',Xd C -> Same (hid (Hd Z0 ν) H1) H' -> E (.ref C) none H':=fun C H' a b=>x C H' a (eb.trans b)
 have it : ItOk K (hid (Hd Z0 ν) H1) J ds:=it
 refine ⟨fun i m σ H=>m = ds.length - i /\ i <= ds.length /\ ∃ ν' ρ',StOk K Z0 (hid (Hd Z0 ν) H1) ν' ρ' σ H /\ W i ρ',⟨ds.length,by simp,Nat.zero_le _,ν,ρ,S1,w0⟩,?_⟩
 rintro i m σ2 H2 ⟨rfl,hi,ν2,ρ2,S2,w2⟩
 obtain ⟨i1,i2⟩:=it (Hd Z0 ν2) H2 S2.hl S2.base
 by_cases hlt : i < ds.length
 ·obtain ⟨j1,j2⟩:=i2 i ds[i] (List.getElem?_eq_getElem hlt)
  refine .inr ⟨j1,fun σ' H'=>∃ ν' ρ',StOk K Z0 (hid (Hd Z0 ν) H1) ν' ρ' σ' H' /\ W (i + 1) ρ',fun σ' H' ⟨ν',ρ',S',w'⟩=>⟨_,by omega,rfl,hlt,ν',ρ',S',w'⟩,fun y H' hy=>?_⟩
  obtain ⟨k1,k2⟩:=j2 y H' hy
  refine og _ ν2 ρ2 σ2 H' y _ _ _ (S2.same k1) k2 (step i _ ρ2 (List.getElem?_eq_getElem hlt) w2) fun ρ3 σ3 b3 S3 A _=>?_
  exact ⟨_,ν2,ρ3,_,Xd,S3,b3,⟨fun ν ρ σ H a S=>⟨ν,ρ,S,a⟩,fun ν ρ σ H a S=>ok1.nx ν ρ σ H a S,fun ν ρ σ H a S=>⟨ν,ρ,S,a⟩,ok1.rt⟩,x1⟩
 ·have e : i = ds.length:=by omega
  subst e
  exact .inl ⟨i1,ok1.nx _ _ _ _ (done ρ2 w2) S2⟩
end
abbrev Els:=List (D × Bool)
abbrev TB:=Ren -> Els -> (Els -> Prop) -> Prop
def Xf : XD:=fun _=>False
structure In (K : W.Frag) (Hs Hm H0 : Hp) (ν : Nat -> List Addr) (acc : Addr) (ρ : Ren) (σ : L2.St) (H : Hp) (es : Els) : Prop where
 st : StOk K Z0 H0 ν ρ σ H
 sm : Same Hm H
 nm : Hm acc = none
 hs : ∃ o,Hs acc = some o
 sh : ∀ a,H a = none -> Hs a = none
 hd : ∃ j,acc ∈ ν j
 no : noOwn ρ
 ac : ∃ us,H acc = some (.lst us) /\ Dns K (hid (Hd Z0 ν) H) us (es.map (·.1)) /\ (es.all (·.2) = true -> ∃ ms,Ows K H us (es.map (·.1)) ms /\ ms.Nodup /\ ∀ a ∈ ms,Hs a = none)
section
variable {K : W.Frag} {Hs Hm H0 H H' : Hp} {ν : Nat -> List Addr} {acc : Addr} {ρ ρ' : Ren} {σ : L2.St} {es : Els}
theorem In.same (I : In K Hs Hm H0 ν acc ρ σ H es) (e : Same H H') : In K Hs Hm H0 ν acc ρ σ H' es:=by
 obtain ⟨us,h1,h2,h3⟩:=I.ac
 refine ⟨I.st.same e,I.sm.trans e,I.nm,I.hs,fun a h=>I.sh a (e.gone h),I.hd,I.no,us,e _ _ h1,Dns.same (hid_mono e) h2,fun q=>?_⟩
 obtain ⟨ms,g1,g2,g3⟩:=h3 q
 exact ⟨ms,g1.same e,g2,g3⟩
theorem In.ren {σ' : L2.St} (I : In K Hs Hm H0 ν acc ρ σ H es) (S : StOk K Z0 H0 ν ρ' σ' H) (no : noOwn ρ') : In K Hs Hm H0 ν acc ρ' σ' H es:=⟨S,I.sm,I.nm,I.hs,I.sh,I.hd,no,I.ac⟩
theorem ows_snoc {vs : List V} {ds : List D} {v : V} {d : D} {ns ms : List Addr} (h : Ow K H v d ns) (r : Ows K H vs ds ms) : Ows K H (vs ++ [v]) (ds ++ [d]) (ms ++ ns):=by
 induction vs generalizing ds ms with
 | nil =>
  cases r
  rw [nil_append,nil_append,nil_append]
  have:=Ows.cons h (.nil (K:=K) (H:=H))
  rw [append_nil] at this; exact this
 | cons u us ih =>
  cases r with
  | cons a b=>rw [append_assoc]; exact .cons a (ih b)
theorem StOk.updH {ws : List V} (S : StOk K Z0 H0 ν ρ σ H) (hd : ∃ j,acc ∈ ν j) (no : noOwn ρ) : StOk K Z0 H0 ν ρ σ (upd H acc (.lst ws)) where
 sm:=by obtain ⟨j,hj⟩:=hd; exact S.sm.put (S.fr j acc hj).1
 len:=S.len
 sl:=fun i b d h=>by
  obtain ⟨v,h1,h2⟩:=S.sl i b d h
  refine ⟨v,h1,?_⟩
  cases b with
  | true=>exact absurd h (no i d)
  | false =>
   refine Dn.same (fun a o ha=>?_) h2
   obtain ⟨g1,g2⟩:=of_hid ha
   have : a ≠ acc:=fun z=>g2 (.inr (by rw [z]; exact hd))
   exact hid_of (by rw [upd_ne this]; exact g1) g2
 nd:=S.nd
 dj:=S.dj
 fr:=fun i a h=>by
  obtain ⟨g1,g2,us,g3⟩:=S.fr i a h
  by_cases z : a = acc
  ·subst z; exact ⟨g1,g2,Mu.lst upd_same⟩
  ·exact ⟨g1,g2,us,by rw [upd_ne z]; exact g3⟩
 zf:=fun a h=>h.elim
theorem In.emit {He : Hp} {k : Kd} {v : V} {d : D} (I : In K Hs Hm H0 ν acc ρ σ H es) (e : Same H H') (r : Res K Z0 ν H H' k v d) (hk : (if flat d = true then Kd.own [] else k).isOld = true) (b : Bool) (hb : b = true -> (if flat d = true then Kd.own [] else k) = .own []) :
  ∃ us,H' acc = some (.lst us) /\ us.length = es.length /\ In K Hs Hm H0 ν acc ρ σ (upd H' acc (.lst (us ++ [v]))) (es ++ [(d,b)]):=by
 have I':=I.same e
 obtain ⟨us,h1,h2,h3⟩:=I'.ac
 have hl:=I'.st.hl
 have r' : Res K Z0 ν H H' (if flat d = true then Kd.own [] else k) v d:=by
  split
  ·exact Res.flat r.den ‹_› hl _
  ·exact r
 generalize (if flat d = true then Kd.own [] else k) = k' at hk hb r'
 refine ⟨us,h1,by rw [h2.length,length_map],I'.st.updH I'.hd I'.no,I'.sm.put I'.nm,I'.nm,I'.hs,fun a h=>?_,I'.hd,I'.no,us ++ [v],upd_same,?_,fun q=>?_⟩
 ·by_cases z : a = acc
  ·subst z; rw [upd_same] at h; cases h
  ·rw [upd_ne z] at h; exact I'.sh a h
 ·rw [map_append]
  have ho:=r'.old hl I.st.hl hk
  have all : Dns K (hid (Hd Z0 ν) H') (us ++ [v]) (es.map (·.1) ++ [d]):=h2.append (.cons ho .nil)
  refine Dns.same (fun a o ha=>?_) all
  obtain ⟨g1,g2⟩:=of_hid ha
  have : a ≠ acc:=fun z=>g2 (.inr (by rw [z]; exact I'.hd))
  exact hid_of (by rw [upd_ne this]; exact g1) g2
 ·rw [List.all_append,Bool.and_eq_true] at q
  obtain ⟨q1,q2⟩:=q
  have hb':=hb (by simpa using q2)
  subst hb'
  obtain ⟨ms,g1,g2,g3⟩:=h3 q1
  obtain ⟨ns,k1,k2,k3⟩:=r'
  have frn : ∀ a ∈ ns,H a = none:=fun a ha=>by
   rcases k3 a ha with z | ⟨j,z,_⟩
   ·exact z
   ·cases z
  obtain ⟨us0,_,_,h30⟩:=I.ac
  obtain ⟨ms0,g10,g20,g30⟩:=h30 q1
  refine ⟨ms0 ++ ns,?_,nodup_append.mpr ⟨g20,k2,fun x hx y hy e'=>?_⟩,fun a ha=>?_⟩
  ·have hu : us0 = us:=by
    obtain ⟨us1,z1,_⟩:=I.ac
    have z2:=e _ _ z1
    rw [h1] at z2; cases z2
    rename_i hh _
    have : H acc = some (.lst us0):=by assumption
    rw [z1] at this; cases this; rfl
   subst hu
   rw [map_append]
   have hacc : ∀ a ∈ ms0 ++ ns,a ≠ acc:=fun a ha z=>by
    obtain ⟨o,ho⟩:=I.hs
    rcases mem_append.mp ha with ha | ha
    ·have:=g30 a ha; rw [z,ho] at this; cases this
    ·have:=I.sh a (frn a ha); rw [z,ho] at this; cases this
   refine (ows_snoc k1 (g10.same e)).kept ⟨fun a ha=>upd_ne (hacc a ha),fun a o ha hn=>?_⟩
   have : a ≠ acc:=fun z=>by rw [z,h1] at ha; cases ha; cases (show true = false from hn)
   rw [upd_ne this]; exact ha
  ·subst e'
   obtain ⟨ws,z⟩:=g10.there x hx
   rw [frn x hy] at z; cases z
  ·rcases mem_append.mp ha with ha | ha
   ·exact g30 a ha
   ·exact I.sh a (frn a ha)
end
def go (f : D -> Els -> (Els -> Prop) -> Prop) : List D -> Els -> (Els -> Prop) -> Prop
 | [],es,Q=>Q es
 | d :: r,es,Q=>f d es fun es'=>go f r es' Q
def LB (K : W.Frag) (acc : Addr) (T : List Nat) (tb : TB) : TS:=fun En σ H=>∃ Hs Hm H0 ν ρ es Qd,In K Hs Hm H0 ν acc ρ σ H es /\ tb ρ es Qd /\ ∀ es' ρ' σ' H',Qd es' -> In K Hs Hm H0 ν acc ρ' σ' H' es' -> Agr T ρ ρ' -> En.nx σ' H'
def LG (K : W.Frag) (T : List Nat) (bnd : TGD) : TG:=fun v σ H Q=>∃ H0 ν ρ d Qd,StOk K Z0 H0 ν ρ σ H /\ Dn K (hid (Hd Z0 ν) H) v d /\ bnd d ρ Qd /\ ∀ ρ' σ',Qd ρ' -> StOk K Z0 H0 ν ρ' σ' H -> Agr T ρ ρ' -> (noOwn ρ -> noOwn ρ') -> Q σ' H
structure DB (Y : Cx) (K : W.Frag) (elt : Expr) (gens : List Comprehension) (scope : Scope) (pos : Pos) (d : Nat) (acc : Addr) (T : List Nat) (tb : TB) : Prop where
 q : QB Y elt gens scope pos d acc (LB K acc T tb)
structure DTs (Y : Cx) (K : W.Frag) (ifs : List Expr) (t : TDT) : Prop where
 q : QTs Y ifs (LT K E0 t)
theorem qg_imp {X : Cx} {e : Expr} {g g' : TG} (h : QG X e g) (i : ∀ v σ H Q,g' v σ H Q -> g v σ H Q) : QG X e g':=⟨fun pins s σ H x u Q I r w=>h.h pins s σ H x u Q I r (i x σ H Q w)⟩
theorem qb_imp {Y : Cx} {elt : Expr} {gens : List Comprehension} {scope : Scope} {pos : Pos} {d : Nat} {acc : Addr} {t t' : TS} (h : QB Y elt gens scope pos d acc t) (i : ∀ En σ H,t' En σ H -> t En σ H) : QB Y elt gens scope pos d acc t':=⟨fun pins s σ H D I w=>h.h pins s σ H D I (i D σ H w)⟩
theorem DG.lift {X : Cx} {K : W.Frag} {tg : Expr} {T : List Nat} {bnd : TGD} (h : DG X K tg T bnd) : QG X tg (LG K T bnd):=by
 obtain ⟨g,q,o⟩:=h.ex
 refine qg_imp q fun v σ H Q w=>?_
 obtain ⟨H0,ν,ρ,d,Qd,S,h1,h2,h3⟩:=w
 exact o H0 ν ρ σ H v d Qd Q S h1 h2 h3
def dTrue : TDT:=fun _ Q _=>Q true
def isOwnK : Kd -> Bool
 | .own []=>true
 | _=>false
def eff (d : D) (k : Kd) : Kd:=if flat d = true then Kd.own [] else k
def dEmit (te : TD) : TB:=fun ρ es Q=>te ρ (fun d k=>es.length < 1000000 /\ (eff d k).isOld = true /\ Q (es ++ [(d,isOwnK (eff d k))])) Xf
def bFor (ti : TDI) (T : List Nat) (bnd : TGD) (tif : TDT) (tb : TB) : TB:=fun ρ es Q=>ti ρ (fun ds b=>b = true /\ go (fun d es Q'=>bnd d (dropS ρ T) fun ρ'=>tif ρ' (fun c=>if c = true then tb ρ' es Q' else Q' es) Xf) ds es Q) Xf
section
variable {Y : Cx} {K : W.Frag} {pos : Pos} {elt : Expr} {gens : List Comprehension} {scope : Scope} {dep : Nat} {acc : Addr}
theorem dpts_nil : DTs Y K [] dTrue:=⟨⟨fun pins s σ H Q I h=>qpts_nil.h pins s σ H Q I (by
 obtain ⟨H0,ν,ρ,Qd,Xd,S,h1,q,x⟩:=h
 exact q _ _ h1 (Same.refl H))⟩⟩
theorem dpts_one {c : Expr} {t : TDT} (h : DT Y K E0 c t) : DTs Y K [c] t:=⟨qpts_one h.q⟩
theorem dpb_emit {te : TD} (hg : gens[dep + 1]? = none) (hx : Y.xe = fun _ _=>False) (he : DE Y K E0 elt te) : DB Y K elt gens scope pos dep acc [] (dEmit te):=⟨qb_imp (qpb_emit hg hx he.q) fun En σ H h=>by
 obtain ⟨Hs,Hm,H0,ν,ρ,es,Qd,I,h1,q⟩:=h
 refine ⟨H0,ν,ρ,_,_,I.st,h1,fun d k v H' g1 g2 g3=>?_,fun C H' z _=>z.elim⟩
 obtain ⟨g0,g4,g5⟩:=g1
 obtain ⟨us,k1,k2,I'⟩:=I.emit (He:=H) g2 g3 g4 (isOwnK (eff d k)) (fun z=>by
  change eff d k = _
  generalize eff d k = k' at z
  unfold isOwnK at z
  split at z
  ·rfl
  ·cases z)
 exact ⟨us,k1,by rw [k2]; exact Nat.lt_of_lt_of_le g0 million,q _ _ _ _ g5 I' ⟨rfl,fun _ _=>rfl⟩⟩⟩
theorem noOwn_drop {ρ : Ren} {T : List Nat} (h : noOwn ρ) : noOwn (dropS ρ T):=fun i d z=>h i d (dropS_get T z).2
theorem StOk.agr {H0 : Hp} {ν : Nat -> List Addr} {ρ ρ' : Ren} {σ : L2.St} {H : Hp} {T : List Nat} (S : StOk K Z0 H0 ν ρ' σ H) (A : Agr T ρ ρ') : StOk K Z0 H0 ν (dropS ρ T) σ H :=
 ⟨S.sm,by rw [dropS_len,S.len,A.1],fun i b d h=>by
  obtain ⟨h1,h2⟩:=dropS_get T h
  exact S.sl i b d (by rw [A.2 i h1]; exact h2),S.nd,S.dj,S.fr,S.zf⟩
theorem Agr.drop {ρ : Ren} {T : List Nat} : Agr T ρ (dropS ρ T):=by
 refine ⟨dropS_len T ρ,fun i hi=>?_⟩
 induction T generalizing ρ with
 | nil=>rfl
 | cons j r ih =>
  rw [mem_cons,not_or] at hi
  show (dropS (ρ.set j none) r)[i]? = _
  rw [ih hi.2,List.getElem?_set_ne (Ne.symm hi.1)]
theorem Agr.same {ρ ρ' ρ'' : Ren} {T : List Nat} (h : Agr T ρ ρ') (g : Agr T ρ' ρ'') : Agr T ρ ρ'':=⟨g.1.trans h.1,fun i hi=>by rw [g.2 i hi,h.2 i hi]⟩
theorem Agr.less {ρ ρ' : Ren} {T U : List Nat} (h : Agr T ρ ρ') (s : ∀ i ∈ T,i ∈ U) : Agr U ρ ρ':=⟨h.1,fun i hi=>h.2 i fun z=>hi (s i z)⟩
theorem In.low {Hs Hm H0 H1 H : Hp} {ν : Nat -> List Addr} {ρ : Ren} {σ : L2.St} {es : Els} (I : In K Hs Hm H1 ν acc ρ σ H es) (e : Same H0 H1) : In K Hs Hm H0 ν acc ρ σ H es:=⟨I.st.low e,I.sm,I.nm,I.hs,I.sh,I.hd,I.no,I.ac⟩
theorem In.high {Hs Hm H0 H : Hp} {ν : Nat -> List Addr} {ρ : Ren} {σ : L2.St} {es : Els} (I : In K Hs Hm H0 ν acc ρ σ H es) : In K Hs Hm (hid (Hd Z0 ν) H) ν acc ρ σ H es:=⟨I.st.high,I.sm,I.nm,I.hs,I.sh,I.hd,I.no,I.ac⟩
theorem In.agr {Hs Hm H0 H : Hp} {ν : Nat -> List Addr} {ρ ρ' : Ren} {σ : L2.St} {es : Els} {T : List Nat} (I : In K Hs Hm H0 ν acc ρ' σ H es) (A : Agr T ρ ρ') (n : noOwn ρ) : In K Hs Hm H0 ν acc (dropS ρ T) σ H es:=I.ren (I.st.agr A) (noOwn_drop n)
theorem go_loop {Hs Hm H0 H F0 : Hp} {ν : Nat -> List Addr} {ρ : Ren} {σ : L2.St} {es : Els} {J : It} {ds : List D} {T Tb : List Nat} {bnd : TGD} {tif : TDT} {tb : TB} {Qd : Els -> Prop} {En : Ends} (I : In K Hs Hm H0 ν acc ρ σ H es) (it : ItOk K F0 J ds) (hf : Same F0 H0) (hT : ∀ i ∈ T,i ∈ T ++ Tb)
  (h : go (fun d es Q'=>bnd d (dropS ρ (T ++ Tb)) fun ρ'=>tif ρ' (fun c=>if c = true then tb ρ' es Q' else Q' es) Xf) ds es Qd)
  (q : ∀ es' ρ' σ' H',Qd es' -> In K Hs Hm H0 ν acc ρ' σ' H' es' -> Agr (T ++ Tb) ρ ρ' -> En.nx σ' H') :
  loopT J (LG K T bnd) (tIfB (LT K E0 tif) (LB K acc Tb tb)) En σ H:=by
 refine ⟨fun i m σ H=>m = ds.length - i /\ i <= ds.length /\ ∃ es,In K Hs Hm H0 ν acc (dropS ρ (T ++ Tb)) σ H es /\ go (fun d es Q'=>bnd d (dropS ρ (T ++ Tb)) fun ρ'=>tif ρ' (fun c=>if c = true then tb ρ' es Q' else Q' es) Xf) (ds.drop i) es Qd,
  ⟨ds.length,by simp,Nat.zero_le _,es,I.ren (I.st.agr ⟨rfl,fun _ _=>rfl⟩) (noOwn_drop I.no),by simpa using h⟩,?_⟩
 rintro i m σ2 H2 ⟨rfl,hi,es2,I2,w2⟩
 obtain ⟨i1,i2⟩:=it (Hd Z0 ν) H2 I2.st.hl (hf.trans I2.st.base)
 by_cases hlt : i < ds.length
 ·obtain ⟨j1,j2⟩:=i2 i ds[i] (List.getElem?_eq_getElem hlt)
  rw [List.drop_eq_getElem_cons hlt] at w2
  have back : ∀ es3 ρ3 σ3 H3,go (fun d es Q'=>bnd d (dropS ρ (T ++ Tb)) fun ρ'=>tif ρ' (fun c=>if c = true then tb ρ' es Q' else Q' es) Xf) (ds.drop (i + 1)) es3 Qd -> In K Hs Hm H0 ν acc ρ3 σ3 H3 es3 -> Agr (T ++ Tb) (dropS ρ (T ++ Tb)) ρ3 ->
    ∃ es,In K Hs Hm H0 ν acc (dropS ρ (T ++ Tb)) σ3 H3 es /\ go (fun d es Q'=>bnd d (dropS ρ (T ++ Tb)) fun ρ'=>tif ρ' (fun c=>if c = true then tb ρ' es Q' else Q' es) Xf) (ds.drop (i + 1)) es Qd:=fun es3 ρ3 σ3 H3 g3 I3 A3=>⟨es3,I3.agr (Agr.same Agr.drop A3) I.no,g3⟩
  refine .inr ⟨j1,fun σ' H'=>∃ es,In K Hs Hm H0 ν acc (dropS ρ (T ++ Tb)) σ' H' es /\ go (fun d es Q'=>bnd d (dropS ρ (T ++ Tb)) fun ρ'=>tif ρ' (fun c=>if c = true then tb ρ' es Q' else Q' es) Xf) (ds.drop (i + 1)) es Qd,fun σ' H' ⟨es',a,b⟩=>⟨_,by omega,rfl,hlt,es',a,b⟩,fun y H' hy=>?_⟩
  obtain ⟨k1,k2⟩:=j2 y H' hy
  refine ⟨H0,ν,_,_,_,(I2.same k1).st,k2,w2,fun ρ3 σ3 b3 S3 A3 n3=>?_⟩
  have I3:=(I2.same k1).ren S3 (n3 I2.no)
  have A3' : Agr (T ++ Tb) (dropS ρ (T ++ Tb)) ρ3:=A3.less hT
  refine ⟨H0,ν,ρ3,_,_,S3,b3,fun c H4 g4 e4=>?_,fun C H' z _=>z.elim⟩
  cases c with
  | true =>
   rw [if_pos rfl] at g4 ⊢
   exact ⟨Hs,Hm,H0,ν,ρ3,es2,_,I3.same e4,g4,fun es5 ρ5 σ5 H5 g5 I5 A5=>back es5 ρ5 σ5 H5 g5 I5 (Agr.same A3' (A5.less fun i hi=>mem_append_right _ hi))⟩
  | false =>
   rw [if_neg Bool.false_ne_true] at g4 ⊢
   exact back es2 ρ3 σ3 H4 g4 (I3.same e4) A3'
 ·have e : i = ds.length:=by omega
  subst e
  rw [List.drop_length] at w2
  exact .inl ⟨i1,q es2 _ σ2 H2 w2 I2 Agr.drop⟩
theorem dpb_for {tg iter : Expr} {ifs : List Expr} {ti : TDI} {T Tb : List Nat} {bnd : TGD} {tif : TDT} {tb : TB} (hgd : gens[dep + 1]? = some ⟨tg,iter,ifs,0⟩) (hx : Y.xe = fun _ _=>False) (hc : Y.calm = true) (hs : ∀ x,foldedSetIterable iter Y.env x = pure x) (hi : DI Y K E0 tg iter ti) (hg : DG Y K tg T bnd) (ht : DTs Y K ifs tif) (hb : DB Y K elt gens scope pos (dep + 1) acc Tb tb) :
  DB Y K elt gens scope pos dep acc (T ++ Tb) (bFor ti (T ++ Tb) bnd tif tb):=⟨qb_imp (qpb_for hgd hx hc hs hi.q hg.lift ht.q hb.q) fun En σ H h=>by
 obtain ⟨Hs,Hm,H0,ν,ρ,es,Qd,I,h1,q⟩:=h
 refine ⟨H0,ν,ρ,_,_,I.st,h1,fun ds b J H1 g1 e1 it=>?_,fun C H' z _=>z.elim⟩
 obtain ⟨rfl,g1⟩:=g1
 have I1:=I.same e1
 exact go_loop I1.high it (Same.refl _) (fun i hi=>mem_append_left _ hi) g1 fun es' ρ' σ' H' a I' A=>q es' ρ' σ' H' a (I'.low I1.st.base) A⟩
end
def capR (own : List Str) (cap : List (Str × Nat)) (ρ : Ren) : Ren:=own.map (fun _=>none) ++ cap.map fun p=>((ρ[p.2]?).join).map fun y=>(false,y.2)
def capOk (cap : List (Str × Nat)) (ρ : Ren) : Bool:=cap.all fun p=>match (ρ[p.2]?).join with
 | some (true,_)=>false
 | _=>true
def dLC (ti : TDI) (T : List Nat) (bnd : TGD) (tif : TDT) (tb : TB) (own : List Str) (cap : List (Str × Nat)) : TD:=fun ρ Q Xd=>ti ρ (fun ds b =>
 go (fun d es Q'=>bnd d (dropS (capR own cap ρ) T) fun ρ'=>tif ρ' (fun c=>if c = true then tb ρ' es Q' else Q' es) Xf) ds [] fun es=>Q (.list (es.map (·.1))) (if es.all (·.2) = true then .own [] else if (b && capOk cap ρ) = true then .old else .mix)) Xd
section
variable {K : W.Frag}
theorem capR_get {own : List Str} {cap : List (Str × Nat)} {ρ : Ren} {i : Nat} {b : Bool} {d : D} (h : (capR own cap ρ)[i]? = some (some (b,d))) : b = false /\ ∃ p c,cap[i - own.length]? = some p /\ own.length <= i /\ ρ[p.2]? = some (some (c,d)):=by
 unfold capR at h
 by_cases hi : i < own.length
 ·rw [List.getElem?_append_left (by simpa using hi),List.getElem?_map] at h
  cases e : own[i]? with
  | none=>rw [e] at h; cases h
  | some _=>rw [e] at h; cases h
 ·rw [List.getElem?_append_right (by simpa using Nat.le_of_not_lt hi),length_map,List.getElem?_map] at h
  cases e : cap[i - own.length]? with
  | none=>rw [e] at h; cases h
  | some p =>
   rw [e] at h
   simp only [Option.map_some,Option.some.injEq] at h
   cases e2 : ρ[p.2]? with
   | none=>rw [e2] at h; cases h
   | some x =>
    rw [e2] at h
    cases x with
    | none=>cases h
    | some y=>cases h; exact ⟨rfl,p,y.1,rfl,Nat.le_of_not_lt hi,e2⟩
theorem capS_get {own : List Str} {cap : List (Str × Nat)} {σ : L2.St} {i : Nat} {p : Str × Nat} {v : V} (h : cap[i - own.length]? = some p) (hi : own.length <= i) (hv : σ[p.2]? = some (some v)) : (capS own cap σ)[i]? = some (some v):=by
 unfold capS
 rw [List.getElem?_append_right (by simpa using hi),length_map,List.getElem?_map,h]
 simp [hv]
theorem capR_no {own : List Str} {cap : List (Str × Nat)} {ρ : Ren} : noOwn (capR own cap ρ):=fun i d h=>by
 have:=(capR_get h).1; cases this
def capN (ok : Bool) (acc : Addr) (ν : Nat -> List Addr) : Nat -> List Addr
 | 0=>[acc]
 | i + 1=>if ok = true then ν i else []
theorem capN_succ {ok : Bool} {acc : Addr} {ν : Nat -> List Addr} {i : Nat} : capN ok acc ν (i + 1) = if ok = true then ν i else []:=rfl
theorem lc_start {own : List Str} {cap : List (Str × Nat)} {H0 H1 : Hp} {ν : Nat -> List Addr} {ρ : Ren} {σ : L2.St} {acc : Addr} (S : StOk K Z0 H0 ν ρ σ H1) (ha : H1 acc = none) (ok : Bool) (hok : ok = true -> capOk cap ρ = true) :
  In K (upd H1 acc (.lst [])) H1 (fz ok ν H1) (capN ok acc ν) acc (capR own cap ρ) (capS own cap σ) (upd H1 acc (.lst [])) []:=by
 have sm : Same H1 (upd H1 acc (.lst [])):=Same.new ha
 have fzs : Same (fz ok ν H1) H1:=by unfold fz; split; exact hid_same; exact Same.refl _
 have nacc : ∀ i,acc ∉ ν i:=fun i z=>by obtain ⟨_,_,us,q⟩:=S.fr i acc z; rw [ha] at q; cases q
 refine ⟨⟨fzs.trans sm,?_,?_,?_,?_,?_,fun a z=>z.elim⟩,sm,ha,⟨_,upd_same⟩,fun a h=>h,⟨0,by simp [capN]⟩,capR_no,[],upd_same,.nil,fun _=>⟨[],.nil,nodup_nil,fun _ z=>by cases z⟩⟩
 ·unfold capS capR; simp
 ·intro i b d h
  obtain ⟨rfl,p,c,h1,h2,h3⟩:=capR_get h
  obtain ⟨v,g1,g2⟩:=S.sl p.2 c d h3
  refine ⟨v,capS_get h1 h2 g1,?_⟩
  cases ok with
  | true =>
   have hc:=hok rfl
   unfold capOk at hc
   have hc:=all_eq_true.mp hc p (List.mem_of_getElem? h1)
   rw [h3] at hc
   cases c with
   | true=>cases hc
   | false =>
    refine Dn.same (fun a o q=>?_) (show Dn K (hid (Hd Z0 ν) H1) v d from g2)
    obtain ⟨q1,q2⟩:=of_hid q
    refine hid_of (sm _ _ q1) fun z=>?_
    rcases z with z | ⟨j,z⟩
    ·exact z
    ·cases j with
     | zero=>rw [show capN true acc ν 0 = [acc] from rfl,mem_singleton] at z; rw [z,ha] at q1; cases q1
     | succ j=>exact q2 (.inr ⟨j,z⟩)
  | false =>
   have gd : Dn K H1 v d:=by
    cases c with
    | true=>exact Ow.den g2
    | false=>exact Dn.same hid_same g2
   refine Dn.same (fun a o q=>?_) gd
   refine hid_of (sm _ _ q) fun z=>?_
   rcases z with z | ⟨j,z⟩
   ·exact z
   ·cases j with
    | zero=>rw [show capN false acc ν 0 = [acc] from rfl,mem_singleton] at z; rw [z,ha] at q; cases q
    | succ j=>cases z
 ·intro i
  cases i with
  | zero=>simp [capN]
  | succ i=>rw [capN_succ]; split; exact S.nd i; exact nodup_nil
 ·intro i j a hi hj
  cases i with
  | zero =>
   have e : a = acc:=by simpa [capN] using hi
   cases j with
   | zero=>rfl
   | succ j =>
    rw [capN_succ] at hj
    split at hj
    ·rw [e] at hj; exact absurd hj (nacc j)
    ·cases hj
  | succ i =>
   rw [capN_succ] at hi
   split at hi
   case isFalse=>cases hi
   case isTrue =>
    cases j with
    | zero =>
     have e : a = acc:=by simpa [capN] using hj
     rw [e] at hi; exact absurd hi (nacc i)
    | succ j =>
     rename_i hk
     rw [capN_succ,if_pos hk] at hj
     rw [S.dj i j a hi hj]
 ·intro i a h
  cases i with
  | zero =>
   have e : a = acc:=by simpa [capN] using h
   subst e
   exact ⟨fzs.gone ha,fun z=>z,Mu.lst upd_same⟩
  | succ i =>
   rw [capN_succ] at h
   split at h
   case isFalse=>cases h
   case isTrue hk =>
    obtain ⟨_,_,us,q⟩:=S.fr i a h
    refine ⟨?_,fun z=>z,us,sm _ _ q⟩
    unfold fz; rw [if_pos hk]; unfold hid; rw [if_pos (.inr ⟨i,h⟩)]
theorem lc_end {H0 Hs H1 H' Hq : Hp} {ν : Nat -> List Addr} {ρ ρr : Ren} {σ σr : L2.St} {acc : Addr} {es : Els} {ok : Bool} (S : StOk K Z0 H0 ν ρ σ Hs) (e1 : Same Hs H1) (ha : H1 acc = none) (I : In K (upd H1 acc (.lst [])) H1 Hq (capN ok acc ν) acc ρr σr H' es) :
  Res K Z0 ν Hs H' (if es.all (·.2) = true then .own [] else if ok = true then .old else .mix) (.ref acc) (.list (es.map (·.1))):=by
 obtain ⟨us,h1,h2,h3⟩:=I.ac
 split
 ·obtain ⟨ms,g1,g2,g3⟩:=h3 ‹_›
  refine ⟨acc :: ms,.lst h1 g1,nodup_cons.mpr ⟨fun z=>?_,g2⟩,fun a hm=>.inl ?_⟩
  ·have:=g3 acc z; rw [upd_same] at this; cases this
  ·rcases mem_cons.mp hm with rfl | hm
   ·exact e1.gone ha
   ·have:=g3 a hm
    by_cases z : a = acc
    ·subst z; exact e1.gone ha
    ·rw [upd_ne z] at this; exact e1.gone this
 ·split
  case isTrue hk =>
   have hz : ¬ Hd Z0 ν acc:=fun z=>by obtain ⟨us,q⟩:=S.hl acc z; rw [e1.gone ha] at q; cases q
   refine .lst (hid_of h1 hz) (Dns.same (hid_less fun a z=>?_) h2)
   rcases z with z | ⟨j,z⟩
   ·exact z.elim
   ·exact .inr ⟨j + 1,by rw [capN_succ,if_pos hk]; exact z⟩
  case isFalse=>exact .lst h1 (Dns.same hid_same h2)
end
section
variable {X : Cx} {K : W.Frag} {E : XK} {pos : Pos} {elt tg iter : Expr} {ifs : List Expr} {rest : List Comprehension} {scope : Scope} {ti : TDI} {T Tb : List Nat} {bnd : TGD} {tif : TDT} {tb : TB}
theorem le_lc {own : List Str} {cap : List (Str × Nat)} : ∀ σ H Q,LE K E (dLC ti (T ++ Tb) bnd tif tb own cap) σ H Q -> tLC (LI K E ti) (LG K T bnd) (LT K E0 tif) (fun acc=>LB K acc Tb tb) own cap σ H Q:=fun σ H Q h=>by
 obtain ⟨H0,ν,ρ,Qd,Xd,S,h1,q,x⟩:=h
 refine ⟨H0,ν,ρ,_,Xd,S,h1,fun ds b J H1 g1 e1 it=>?_,x⟩
 intro acc ha
 obtain ⟨ok,hk⟩ : ∃ ok,ok = (b && capOk cap ρ):=⟨_,rfl⟩
 have I:=lc_start (own:=own) (S.same e1) ha ok (fun z=>by rw [hk,Bool.and_eq_true] at z; exact z.2)
 have hf : Same (fz b ν H1) (fz ok ν H1):=by
  cases ok with
  | true =>
   have : b = true:=by rw [Eq.comm,Bool.and_eq_true] at hk; exact hk.1
   rw [this]; exact Same.refl _
  | false=>unfold fz; split; exact hid_same; exact Same.refl _
 refine go_loop I it hf (fun i hi=>mem_append_left _ hi) g1 fun es' ρ' σ' H' a I' A=>?_
 rw [<- hk] at a
 exact q _ _ _ H' a (e1.trans I'.sm) (lc_end S e1 ha I')
theorem dpe_lc (own : List Str) (cap : List (Str × Nat)) (hc : X.calm = true) (L : LcScope X scope own cap) (hi : DI X K E tg iter ti)
  (hin : ∀ (s₃ : Shared) (H₃ : Hp) (fp : List Addr) (acc : Addr),DG (X.inn scope (L2.capN own cap) s₃ H₃ fp) K tg T bnd /\ DTs (X.inn scope (L2.capN own cap) s₃ H₃ fp) K ifs tif /\ DB (X.inn scope (L2.capN own cap) s₃ H₃ fp) K elt (⟨tg,iter,ifs,0⟩ :: rest) scope pos 0 acc Tb tb)
  (hs : ∀ x,foldedSetIterable iter X.env x = pure x:=by intro _; rfl) : DE X K E (.ListComp elt (⟨tg,iter,ifs,0⟩ :: rest) scope pos) (dLC ti (T ++ Tb) bnd tif tb own cap) :=
 ⟨qe_imp (qpe_lc own cap hc L hi.q (fun a b c d=>⟨(hin a b c d).1.lift,(hin a b c d).2.1.q,(hin a b c d).2.2.q⟩) hs) le_lc⟩
theorem dps_setlc {i : Nat} {y : Str} {py spos : Pos} (own : List Str) (cap : List (Str × Nat)) (hN : X.N.Nodup) (hyi : X.N[i]? = some y) (hy : X.env.scope.names.lookup y = some .local) (hc : X.calm = true) (L : LcScope X scope own cap) (hi : DI X K E tg iter ti)
  (hin : ∀ (s₃ : Shared) (H₃ : Hp) (fp : List Addr) (acc : Addr),DG (X.inn scope (L2.capN own cap) s₃ H₃ fp) K tg T bnd /\ DTs (X.inn scope (L2.capN own cap) s₃ H₃ fp) K ifs tif /\ DB (X.inn scope (L2.capN own cap) s₃ H₃ fp) K elt (⟨tg,iter,ifs,0⟩ :: rest) scope pos 0 acc Tb tb)
  (hsw : swapsWith (.ListComp elt (⟨tg,iter,ifs,0⟩ :: rest) scope pos) (some (.Name y py)) spos.line X.env = pure true:=by rfl) (hs : ∀ x,foldedSetIterable iter X.env x = pure x:=by intro _; rfl) :
  DS X K E (.Assign [.Name y py] (.ListComp elt (⟨tg,iter,ifs,0⟩ :: rest) scope pos) spos) (dSet i (dLC ti (T ++ Tb) bnd tif tb own cap)) :=
 ⟨qs_imp (qps_setlc own cap hN hyi hy hc L hi.q (fun a b c d=>⟨(hin a b c d).1.lift,(hin a b c d).2.1.q,(hin a b c d).2.2.q⟩) hsw hs) fun En σ H h=>by
  obtain ⟨H0,ν,ρ,Dd,Xd,S,h1,ok,x⟩:=h
  refine le_lc σ H _ ⟨H0,ν,ρ,_,Xd,S,h1,fun d k v H' g1 g2 g3=>?_,x⟩
  obtain ⟨ν',S'⟩:=S.setK g2 g3 i
  exact ok.nx _ _ _ _ g1 S'⟩
end
section
variable {K : W.Frag} {H0 H H' : Hp} {ν : Nat -> List Addr} {ρ : Ren} {σ : L2.St} {v : V} {d : D}
theorem StOk.mut (S : StOk K Z0 H0 ν ρ σ H) (s : List Nat) (i : Nat) {ms : List Addr} (hi : σ[i]? = some (some v)) (hr : i < ρ.length) (k : ∀ a o,H a = some o -> a ∉ ν i -> H' a = some o) (h : Ow K H' v d ms) (nd : ms.Nodup) (fr : ∀ a ∈ ms,a ∈ ν i \/ H a = none \/ ∃ j ∈ s,a ∈ ν j) (hs : i ∉ s)
  (gone : ∀ j ∈ s,∀ a ∈ ν j,Mu H' a) :
  StOk K Z0 H0 (fun j=>if j = i then ms else if j ∈ s then [] else ν j) ((dropS ρ s).set i (some (true,d))) σ H' where
 sm:=fun a o ha=>k a o (S.sm a o ha) fun z=>by rw [(S.fr i a z).1] at ha; cases ha
 len:=by rw [length_set,dropS_len]; exact S.len
 sl:=fun j b c hj=>by
  rcases set_get hj with ⟨rfl,h1,h2⟩ | ⟨h1,h2⟩
  ·cases h1
   exact ⟨v,hi,by rw [if_pos rfl]; rw [if_pos rfl]; exact h⟩
  ·obtain ⟨h3,h4⟩:=dropS_get s h2
   obtain ⟨u,q1,q2⟩:=S.sl j b c h4
   refine ⟨u,q1,?_⟩
   cases b with
   | true =>
    rw [if_pos rfl,if_neg h1,if_neg h3]
    have q2 : Ow K H u c (ν j):=q2
    refine q2.kept ⟨fun a ha=>?_,fun a o ha hn=>k a o ha fun z=>?_⟩
    ·obtain ⟨us,q⟩:=q2.there a ha
     rw [k a _ q fun z=>h1 (S.dj j i a ha z),q]
    ·exact (S.fr i a z).2.2.no ha hn
   | false =>
    refine Dn.same (fun a o ha=>?_) q2
    obtain ⟨g1,g2⟩:=of_hid ha
    refine hid_of (k a o g1 fun z=>g2 (.inr ⟨i,z⟩)) fun z=>?_
    rcases z with z | ⟨l,z⟩
    ·exact z
    ·have z : a ∈ (if l = i then ms else if l ∈ s then [] else ν l):=z
     split at z
     ·rcases fr a z with z | z | ⟨l,_,z⟩
      ·exact g2 (.inr ⟨i,z⟩)
      ·rw [g1] at z; cases z
      ·exact g2 (.inr ⟨l,z⟩)
     ·split at z
      ·cases z
      ·exact g2 (.inr ⟨l,z⟩)
 nd:=fun j=>by
  split
  ·exact nd
  ·split
   ·exact nodup_nil
   ·exact S.nd j
 dj:=fun j l a hj hl=>by
  have key : ∀ m,m ≠ i -> m ∉ s -> a ∈ ν m -> a ∉ ms:=fun m hm hms ha hz=>by
   rcases fr a hz with z | z | ⟨n,hn,z⟩
   ·exact hm (S.dj m i a ha z)
   ·obtain ⟨_,_,us,q⟩:=S.fr m a ha; rw [z] at q; cases q
   ·rw [S.dj m n a ha z] at hms; exact hms hn
  split at hj
  ·split at hl
   ·omega
   ·split at hl
    ·cases hl
    ·exact absurd hj (key l ‹_› ‹_› hl)
  ·split at hj
   ·cases hj
   ·split at hl
    ·exact absurd hl (key j ‹_› ‹_› hj)
    ·split at hl
     ·cases hl
     ·exact S.dj j l a hj hl
 fr:=fun j a ha=>by
  split at ha
  ·have ht:=h.there a ha
   rcases fr a ha with z | z | ⟨m,_,z⟩
   ·exact ⟨(S.fr i a z).1,(fun q=>q),ht⟩
   ·exact ⟨S.sm.gone z,(fun q=>q),ht⟩
   ·exact ⟨(S.fr m a z).1,(fun q=>q),ht⟩
  ·split at ha
   ·cases ha
   ·obtain ⟨q1,q2,us,q3⟩:=S.fr j a ha
    exact ⟨q1,q2,us,k a _ q3 fun z=>absurd (S.dj j i a ha z) ‹_›⟩
 zf:=fun a h=>h.elim
theorem eff_own {k : Kd} {s : List Nat} {Hs : Hp} (e : eff d k = .own s) (hl : ∀ a,Hd Z0 ν a -> Mu H a) (h : Res K Z0 ν Hs H k v d) : ∃ ms,Ow K H v d ms /\ ms.Nodup /\ ∀ a ∈ ms,Hs a = none \/ ∃ j ∈ s,a ∈ ν j:=by
 have h' : Res K Z0 ν Hs H (eff d k) v d:=by
  unfold eff
  split
  ·exact Res.flat h.den ‹_› hl _
  ·exact h
 rw [e] at h'
 exact h'
end
section
variable {X : Cx} {K : W.Frag} {E : XK} {pos apos cpos : Pos} {e : Expr} {te : TD}
def dApp (i : Nat) (te : TD) : TSD:=fun Dd ρ Xd=>∃ ds,ρ[i]? = some (some (true,.list ds)) /\ ds.length < 1000000 /\ te ρ (fun d k=>match eff d k with
 | .own s=>i ∉ s /\ Dd.nx ((dropS ρ s).set i (some (true,.list (ds ++ [d]))))
 | _=>False) Xd
theorem own_list {H0 H : Hp} {ν : Nat -> List Addr} {ρ : Ren} {σ : L2.St} {i : Nat} {ds : List D} (S : StOk K Z0 H0 ν ρ σ H) (h : ρ[i]? = some (some (true,.list ds))) : ∃ a us ns,σ[i]? = some (some (.ref a)) /\ H a = some (.lst us) /\ Ows K H us ds ns /\ ν i = a :: ns /\ a ∉ ns /\ ns.Nodup:=by
 obtain ⟨v,h1,h2⟩:=S.sl i true _ h
 have h2 : Ow K H v (.list ds) (ν i):=h2
 have hn:=S.nd i
 generalize hv : ν i = n at h2 hn
 cases h2 with
 | lst h r=>exact ⟨_,_,_,h1,h,r,rfl,(nodup_cons.mp hn).1,(nodup_cons.mp hn).2⟩
theorem len_of {α : Type} {l : List α} {i : Nat} {x : α} (h : l[i]? = some x) : i < l.length:=(List.getElem?_eq_some_iff.mp h).1
theorem ows_app {H : Hp} : ∀ {us vs : List V} {ds es : List D} {ns ms : List Addr},Ows K H us ds ns -> Ows K H vs es ms -> Ows K H (us ++ vs) (ds ++ es) (ns ++ ms)
 | _,_,_,_,_,_,.nil,q=>q
 | _,_,_,_,_,_,.cons h r,q=>by rw [append_assoc]; exact .cons h (ows_app r q)
theorem dps_append (i : Nat) {x : Str} {px : Pos} (hK : X.K = K) (ho : QE X (.Name x px) (tVar i)) (he : DE X K E e te) (hs : starEach [e] X.env = [(false,eval e X.env)]) (hbase : attributeBase (.Name x px) "append" X.env (eval (.Name x px) X.env) = eval (.Name x px) X.env) (hline : (apos.endLine == cpos.line) = true)
  (hsw : swapsWith (.Call (.Attribute (.Name x px) "append" apos) [e] [] cpos) none pos.line X.env = pure false:=by rfl) : DS X K E (.Expr (.Call (.Attribute (.Name x px) "append" apos) [e] [] cpos) pos) (dApp i te):=⟨qs_imp (qps_expr (qpm_appendK K hK ho he.q hs hbase hline) hsw) fun En σ H h=>by
 obtain ⟨H0,ν,ρ,Dd,Xd,S,⟨ds,h1,h2,h3⟩,ok,x⟩:=h
 obtain ⟨a,us,ns,g1,g2,g3,g4,g5,g6⟩:=own_list S h1
 refine ⟨_,g1,tyl (SqL.of g2),H0,ν,ρ,_,Xd,S,h3,fun d k v H1 q1 e1 r1=>?_,x⟩
 split at q1
 case h_2=>exact q1.elim
 case h_1 s es =>
  obtain ⟨ms,m1,m2,m3⟩:=eff_own es (S.same e1).hl r1
  have ha1 : H1 a = some (.lst us):=e1 _ _ g2
  have nm : ∀ b ∈ ms,b ∉ ν i:=fun b hb z=>by
   rcases m3 b hb with y | ⟨j,hj,y⟩
   ·obtain ⟨_,_,us,w⟩:=S.fr i b z; rw [y] at w; cases w
   ·rw [S.dj i j b z y] at q1; exact q1.1 hj
  have ham : a ∉ ms:=fun z=>nm a z (by rw [g4]; exact mem_cons_self)
  refine ⟨a,us,v,rfl,rfl,ha1,by rw [g3.den.length]; exact Nat.lt_of_lt_of_le h2 million,?_⟩
  have S1:=S.same e1
  refine ok.nx _ _ _ _ q1.2 (S.mut s i (ms:=a :: (ns ++ ms)) (v:=.ref a) g1 (len_of h1) (fun b o hb hn=>?_) ?_ ?_ ?_ q1.1 ?_)
  ·rw [upd_ne (fun z=>hn (by rw [z,g4]; exact mem_cons_self))]; exact e1 _ _ hb
  ·have kp : ∀ l : List Addr,(∀ b ∈ l,b ≠ a) -> Kept l H1 (upd H1 a (.lst (us ++ [v]))):=fun l hl=>⟨fun b hb=>upd_ne (hl b hb),fun b o hb hn=>by
    have : b ≠ a:=fun z=>by rw [z,ha1] at hb; cases hb; cases (show true = false from hn)
    rw [upd_ne this]; exact hb⟩
   have A:=(g3.same e1).kept (kp ns fun b hb z=>g5 (z ▸ hb))
   have B:=m1.kept (kp ms fun b hb z=>ham (z ▸ hb))
   exact .lst upd_same (ows_snoc B A)
  ·refine nodup_cons.mpr ⟨fun z=>?_,nodup_append.mpr ⟨g6,m2,fun y hy z hz e=>?_⟩⟩
   ·rcases mem_append.mp z with z | z
    ·exact g5 z
    ·exact ham z
   ·subst e; exact nm y hz (by rw [g4]; exact mem_cons_of_mem _ hy)
  ·intro b hb
   rcases mem_cons.mp hb with rfl | hb
   ·exact .inl (by rw [g4]; exact mem_cons_self)
   ·rcases mem_append.mp hb with hb | hb
    ·exact .inl (by rw [g4]; exact mem_cons_of_mem _ hb)
    ·rcases m3 b hb with y | y
     ·exact .inr (.inl y)
     ·exact .inr (.inr y)
  ·intro j hj b hb
   obtain ⟨_,_,us',w⟩:=S1.fr j b hb
   have : b ≠ a:=fun z=>by
    have:=S.dj i j b (by rw [g4,z]; exact mem_cons_self) hb
    rw [this] at q1; exact q1.1 hj
   exact ⟨us',by rw [upd_ne this]; exact w⟩⟩
end
section
variable {K : W.Frag}
theorem ows_split {H : Hp} : ∀ {us : List V} {ds : List D} {ns : List Addr} {j : Nat} {c : D},Ows K H us ds ns -> ds[j]? = some c -> ∃ n1 n2 n3 u,ns = n1 ++ (n2 ++ n3) /\ us[j]? = some u /\ Ow K H u c n2 /\
  (∀ H',Kept n1 H H' -> Kept n3 H H' -> ∀ v d ms,Ow K H' v d ms -> Ows K H' (us.set j v) (ds.set j d) (n1 ++ (ms ++ n3))) /\ ∀ H',Kept n1 H H' -> Kept n3 H H' -> Ows K H' (us.eraseIdx j) (ds.eraseIdx j) (n1 ++ n3)
 | _,_,_,0,c,.cons (ns:=n) (ms:=m) h r,e=>by
  simp at e; subst e
  exact ⟨[],n,m,_,rfl,rfl,h,fun H' _ k v d ms q=>by simpa using Ows.cons q (r.kept k),fun H' _ k=>by simpa using r.kept k⟩
 | _,_,_,j + 1,c,.cons (ns:=n) (ms:=m) h r,e=>by
  simp at e
  obtain ⟨n1,n2,n3,u,e1,e2,e3,e4,e5⟩:=ows_split r e
  refine ⟨n ++ n1,n2,n3,u,by rw [e1]; simp,by simpa using e2,e3,fun H' k1 k3 v d ms q=>?_,fun H' k1 k3=>?_⟩
  ·have:=Ows.cons (h.kept ⟨fun a ha=>k1.1 a (mem_append_left _ ha),k1.2⟩) (e4 H' ⟨fun a ha=>k1.1 a (mem_append_right _ ha),k1.2⟩ k3 v d ms q)
   simpa using this
  ·have:=Ows.cons (h.kept ⟨fun a ha=>k1.1 a (mem_append_left _ ha),k1.2⟩) (e5 H' ⟨fun a ha=>k1.1 a (mem_append_right _ ha),k1.2⟩ k3)
   simpa using this
theorem kept_upd {H H1 : Hp} {b : Addr} {o ow : HO} {l : List Addr} (e : Same H H1) (hb : H b = some ow) (hl : ∀ a ∈ l,(Mu H a) /\ a ≠ b) (mb : muO ow = true:=by rfl) : Kept l H (upd H1 b o):=⟨fun a ha=>by
 obtain ⟨⟨us,q⟩,z⟩:=hl a ha
 rw [upd_ne z,q]; exact e _ _ q,fun a o' ha hn=>by
 have : a ≠ b:=fun z=>by rw [z,hb] at ha; cases ha; rw [mb] at hn; cases hn
 rw [upd_ne this]; exact e _ _ ha⟩
theorem kept_upd1 {H1 : Hp} {b : Addr} {o ow : HO} {l : List Addr} (hb : H1 b = some ow) (hl : ∀ a ∈ l,a ≠ b) (mb : muO ow = true:=by rfl) : Kept l H1 (upd H1 b o):=⟨fun a ha=>upd_ne (hl a ha),fun a o' ha hn=>by
 have : a ≠ b:=fun z=>by rw [z,hb] at ha; cases ha; rw [mb] at hn; cases hn
 rw [upd_ne this]; exact ha⟩
theorem new_out {H0 H : Hp} {ν : Nat -> List Addr} {ρ : Ren} {σ : L2.St} {i : Nat} {s : List Nat} {ms : List Addr} (S : StOk K Z0 H0 ν ρ σ H) (m3 : ∀ b ∈ ms,H b = none \/ ∃ l ∈ s,b ∈ ν l) (hs : i ∉ s) : ∀ b ∈ ms,b ∉ ν i:=fun b hb z=>by
 rcases m3 b hb with y | ⟨j,hj,y⟩
 ·obtain ⟨_,_,us,w⟩:=S.fr i b z; rw [y] at w; cases w
 ·rw [S.dj i j b z y] at hs; exact hs hj
theorem gone_ok {H0 H H2 : Hp} {ν : Nat -> List Addr} {ρ : Ren} {σ : L2.St} {i : Nat} {s : List Nat} {a : Addr} {o : HO} (S : StOk K Z0 H0 ν ρ σ H) (hs : i ∉ s) (e : Same H H2) (ha : a ∈ ν i) : ∀ j ∈ s,∀ b ∈ ν j,Mu (upd H2 a o) b:=fun j hj b hb=>by
 obtain ⟨_,_,us',w⟩:=S.fr j b hb
 have : b ≠ a:=fun z=>by
  have:=S.dj i j b (by rw [z]; exact ha) hb
  rw [this] at hs; exact hs hj
 exact ⟨us',by rw [upd_ne this]; exact e _ _ w⟩
theorem StOk.put1 {H0 H H1 H2 : Hp} {ν : Nat -> List Addr} {ρ : Ren} {σ : L2.St} {i j : Nat} {ds : List D} {a : Addr} {us : List V} {ns ms : List Addr} {s : List Nat} {v : V} {d c : D} (S : StOk K Z0 H0 ν ρ σ H) (h1 : ρ[i]? = some (some (true,.list ds))) (g1 : σ[i]? = some (some (.ref a))) (g2 : H a = some (.lst us)) (g3 : Ows K H us ds ns) (g4 : ν i = a :: ns) (g5 : a ∉ ns) (g6 : ns.Nodup)
  (hj : ds[j]? = some c) (e1 : Same H H1) (m1 : Ow K H1 v d ms) (m2 : ms.Nodup) (m3 : ∀ b ∈ ms,H b = none \/ ∃ l ∈ s,b ∈ ν l) (hs : i ∉ s) (e2 : Same H1 H2) :
  ∃ ν',StOk K Z0 H0 ν' ((dropS ρ s).set i (some (true,.list (ds.set j d)))) σ (upd H2 a (.lst (us.set j v))):=by
 obtain ⟨n1,n2,n3,u,q1,q2,q3,q4,_⟩:=ows_split g3 hj
 have e:=e1.trans e2
 have nm:=new_out S m3 hs
 have ham : a ∉ ms:=fun z=>nm a z (by rw [g4]; exact mem_cons_self)
 have inI : ∀ b,b ∈ n1 \/ b ∈ n3 -> b ∈ ns:=fun b hb=>by rw [q1]; rcases hb with hb | hb <;> simp [hb]
 have nu:=g6
 rw [q1,nodup_append,nodup_append] at nu
 have k1 : ∀ l : List Addr,(∀ b ∈ l,b ∈ ns) -> Kept l H (upd H2 a (.lst (us.set j v))):=fun l hl=>kept_upd e g2 fun b hb=>⟨g3.there b (hl b hb),fun z=>g5 (z ▸ hl b hb)⟩
 have B:=(m1.same e2).kept (kept_upd1 (o:=.lst (us.set j v)) (e _ _ g2) fun b hb z=>ham (z ▸ hb))
 refine ⟨_,S.mut s i (ms:=a :: (n1 ++ (ms ++ n3))) (v:=.ref a) g1 (len_of h1) (fun b o hb hn=>?_) (.lst upd_same (q4 _ (k1 n1 fun b hb=>inI b (.inl hb)) (k1 n3 fun b hb=>inI b (.inr hb)) v d ms B)) ?_ ?_ hs (gone_ok S hs e (by rw [g4]; exact mem_cons_self))⟩
 ·rw [upd_ne (fun z=>hn (by rw [z,g4]; exact mem_cons_self))]; exact e _ _ hb
 ·refine nodup_cons.mpr ⟨fun z=>?_,nodup_append.mpr ⟨nu.1,nodup_append.mpr ⟨m2,nu.2.1.2.1,fun x hx y hy z=>?_⟩,fun x hx y hy z=>?_⟩⟩
  ·rcases mem_append.mp z with z | z
   ·exact g5 (inI a (.inl z))
   ·rcases mem_append.mp z with z | z
    ·exact ham z
    ·exact g5 (inI a (.inr z))
  ·subst z; exact nm x hx (by rw [g4]; exact mem_cons_of_mem _ (inI x (.inr hy)))
  ·subst z
   rcases mem_append.mp hy with hy | hy
   ·exact nm x hy (by rw [g4]; exact mem_cons_of_mem _ (inI x (.inl hx)))
   ·exact nu.2.2 x hx x (mem_append_right _ hy) rfl
 ·intro b hb
  rcases mem_cons.mp hb with rfl | hb
  ·exact .inl (by rw [g4]; exact mem_cons_self)
  ·rcases mem_append.mp hb with hb | hb
   ·exact .inl (by rw [g4]; exact mem_cons_of_mem _ (inI b (.inl hb)))
   ·rcases mem_append.mp hb with hb | hb
    ·exact .inr (m3 b hb)
    ·exact .inl (by rw [g4]; exact mem_cons_of_mem _ (inI b (.inr hb)))
theorem StOk.put2 {H0 H H1 H2 : Hp} {ν : Nat -> List Addr} {ρ : Ren} {σ : L2.St} {i j l : Nat} {ds es : List D} {a : Addr} {us : List V} {ns ms : List Addr} {s : List Nat} {v : V} {d c : D} (S : StOk K Z0 H0 ν ρ σ H) (h1 : ρ[i]? = some (some (true,.list ds))) (g1 : σ[i]? = some (some (.ref a))) (g2 : H a = some (.lst us)) (g3 : Ows K H us ds ns) (g4 : ν i = a :: ns) (g5 : a ∉ ns) (g6 : ns.Nodup)
  (hj : ds[j]? = some (.list es)) (hl : es[l]? = some c) (e1 : Same H H1) (m1 : Ow K H1 v d ms) (m2 : ms.Nodup) (m3 : ∀ b ∈ ms,H b = none \/ ∃ l ∈ s,b ∈ ν l) (hs : i ∉ s) (e2 : Same H1 H2) :
  ∃ b ws,us[j]? = some (.ref b) /\ H b = some (.lst ws) /\ ws.length = es.length /\ ∃ ν',StOk K Z0 H0 ν' ((dropS ρ s).set i (some (true,.list (ds.set j (.list (es.set l d)))))) σ (upd H2 b (.lst (ws.set l v))):=by
 obtain ⟨n1,n2,n3,u,q1,q2,q3,q4,_⟩:=ows_split g3 hj
 have e:=e1.trans e2
 have nm:=new_out S m3 hs
 have nu:=g6
 rw [q1,nodup_append,nodup_append] at nu
 cases q3 with
 | lst hb r =>
  rename_i b ws n2
  obtain ⟨p1,p2,p3,u',r1,r2,r3,r4,_⟩:=ows_split r hl
  have nb:=nodup_cons.mp nu.2.1.1
  have hbn : b ∈ ns:=by rw [q1]; simp
  have inI : ∀ y,y ∈ n1 \/ y ∈ n3 \/ y ∈ p1 \/ y ∈ p3 -> y ∈ ns:=fun y hy=>by rw [q1,r1]; rcases hy with hy | hy | hy | hy <;> simp [hy]
  have bne : ∀ y,y ∈ n1 \/ y ∈ n3 \/ y ∈ p1 \/ y ∈ p3 -> y ≠ b:=fun y hy z=>by
   subst z
   rcases hy with hy | hy | hy | hy
   ·exact nu.2.2 y hy y (by simp) rfl
   ·exact nu.2.1.2.2 y (by simp) y hy rfl
   ·exact nb.1 (by rw [r1]; simp [hy])
   ·exact nb.1 (by rw [r1]; simp [hy])
  have hbm : b ∉ ms:=fun z=>nm b z (by rw [g4]; exact mem_cons_of_mem _ hbn)
  have hab : a ≠ b:=fun z=>g5 (z ▸ hbn)
  have k1 : ∀ (w : List V) (l : List Addr),(∀ y ∈ l,y ∈ n1 \/ y ∈ n3 \/ y ∈ p1 \/ y ∈ p3) -> Kept l H (upd H2 b (.lst w)):=fun w l hl=>kept_upd e hb fun y hy=>⟨g3.there y (inI y (hl y hy)),bne y (hl y hy)⟩
  have B:=(m1.same e2).kept (kept_upd1 (o:=.lst (ws.set l v)) (e _ _ hb) fun y hy z=>hbm (z ▸ hy))
  have C : Ow K (upd H2 b (.lst (ws.set l v))) (.ref b) (.list (es.set l d)) (b :: (p1 ++ (ms ++ p3))):=.lst upd_same (r4 _ (k1 _ p1 fun y hy=>.inr (.inr (.inl hy))) (k1 _ p3 fun y hy=>.inr (.inr (.inr hy))) v d ms B)
  have us' : us.set j (.ref b) = us:=by
   apply List.ext_getElem?
   intro m
   by_cases z : m = j
   ·subst z; rw [List.getElem?_set_self (len_of q2),q2]
   ·rw [List.getElem?_set_ne (Ne.symm z)]
  have A:=q4 _ (k1 (ws.set l v) n1 fun y hy=>.inl hy) (k1 _ n3 fun y hy=>.inr (.inl hy)) (.ref b) _ _ C
  rw [us'] at A
  have np:=nb.2
  rw [r1,nodup_append,nodup_append] at np
  refine ⟨b,ws,q2,hb,r.den.length,_,S.mut s i (ms:=a :: (n1 ++ ((b :: (p1 ++ (ms ++ p3))) ++ n3))) (v:=.ref a) g1 (len_of h1) (fun y o hy hn=>?_) (.lst (by rw [upd_ne hab]; exact e _ _ g2) A) ?_ ?_ hs (gone_ok S hs e (by rw [g4]; exact mem_cons_of_mem _ hbn))⟩
  ·rw [upd_ne (fun z=>hn (by rw [z,g4]; exact mem_cons_of_mem _ hbn))]; exact e _ _ hy
  ·have inn : ∀ y,y ∈ p1 \/ y ∈ p3 -> y ∈ n2:=fun y hy=>by rw [r1]; rcases hy with hy | hy <;> simp [hy]
   have out : ∀ y ∈ ms,y ∉ ns:=fun y hy z=>nm y hy (by rw [g4]; exact mem_cons_of_mem _ z)
   have nin : (b :: (p1 ++ (ms ++ p3))).Nodup:=by
    refine nodup_cons.mpr ⟨fun z=>?_,nodup_append.mpr ⟨np.1,nodup_append.mpr ⟨m2,np.2.1.2.1,fun x hx y hy z=>?_⟩,fun x hx y hy z=>?_⟩⟩
    ·rcases mem_append.mp z with z | z
     ·exact bne b (.inr (.inr (.inl z))) rfl
     ·rcases mem_append.mp z with z | z
      ·exact hbm z
      ·exact bne b (.inr (.inr (.inr z))) rfl
    ·subst z; exact out x hx (inI x (.inr (.inr (.inr hy))))
    ·subst z
     rcases mem_append.mp hy with hy | hy
     ·exact out x hy (inI x (.inr (.inr (.inl hx))))
     ·exact np.2.2 x hx x (mem_append_right _ hy) rfl
   have cls : ∀ y ∈ b :: (p1 ++ (ms ++ p3)),y ∈ b :: n2 \/ y ∈ ms:=fun y hy=>by
    rcases mem_cons.mp hy with rfl | hy
    ·exact .inl mem_cons_self
    ·rcases mem_append.mp hy with hy | hy
     ·exact .inl (mem_cons_of_mem _ (inn y (.inl hy)))
     ·rcases mem_append.mp hy with hy | hy
      ·exact .inr hy
      ·exact .inl (mem_cons_of_mem _ (inn y (.inr hy)))
   refine nodup_cons.mpr ⟨fun z=>?_,nodup_append.mpr ⟨nu.1,nodup_append.mpr ⟨nin,nu.2.1.2.1,fun x hx y hy z=>?_⟩,fun x hx y hy z=>?_⟩⟩
   ·rcases mem_append.mp z with z | z
    ·exact g5 (inI a (.inl z))
    ·rcases mem_append.mp z with z | z
     ·rcases cls a z with z | z
      ·exact g5 (by rw [q1]; exact mem_append_right _ (mem_append_left _ z))
      ·exact nm a z (by rw [g4]; exact mem_cons_self)
     ·exact g5 (inI a (.inr (.inl z)))
   ·subst z
    rcases cls x hx with w | w
    ·exact nu.2.1.2.2 x w x hy rfl
    ·exact out x w (inI x (.inr (.inl hy)))
   ·subst z
    rcases mem_append.mp hy with hy | hy
    ·rcases cls x hy with w | w
     ·exact nu.2.2 x hx x (mem_append_left _ w) rfl
     ·exact out x w (inI x (.inl hx))
    ·exact nu.2.2 x hx x (mem_append_right _ hy) rfl
  ·intro y hy
   have mine : y ∈ ns -> y ∈ ν i:=fun z=>by rw [g4]; exact mem_cons_of_mem _ z
   rcases mem_cons.mp hy with rfl | hy
   ·exact .inl (by rw [g4]; exact mem_cons_self)
   ·rcases mem_append.mp hy with hy | hy
    ·exact .inl (mine (inI y (.inl hy)))
    ·rcases mem_append.mp hy with hy | hy
     ·rcases mem_cons.mp hy with rfl | hy
      ·exact .inl (mine hbn)
      ·rcases mem_append.mp hy with hy | hy
       ·exact .inl (mine (inI y (.inr (.inr (.inl hy)))))
       ·rcases mem_append.mp hy with hy | hy
        ·exact .inr (m3 y hy)
        ·exact .inl (mine (inI y (.inr (.inr (.inr hy)))))
     ·exact .inl (mine (inI y (.inr (.inl hy))))
end
section
variable {X : Cx} {K : W.Frag} {E : XK} {pos p1 p2 px : Pos} {e e1 e2 : Expr} {te t1 t2 : TD} {x : Str}
theorem some_of_lt {α : Type} {l : List α} {j : Nat} (h : j < l.length) : ∃ c,l[j]? = some c:=⟨_,List.getElem?_eq_getElem h⟩
theorem ixN_lt {n : Nat} {z : Int} {j : Nat} (h : ixN n z = some j) : j < n:=(ixN_seq h).2.1
def dPut1 (i : Nat) (t1 te : TD) : TSD:=fun Dd ρ Xd=>te ρ (fun d k=>∃ ds,ρ[i]? = some (some (true,.list ds)) /\ t1 ρ (fun y _=>∃ z j,y = .int z /\ ixN ds.length z = some j /\ match eff d k with
 | .own s=>i ∉ s /\ Dd.nx ((dropS ρ s).set i (some (true,.list (ds.set j d))))
 | _=>False) Xd) Xd
theorem dps_put1 (i : Nat) (ho : QE X (.Name x px) (tVar i)) (h1 : DE X K E e1 t1) (he : DE X K E e te)
  (ha : ∀ v,assign (.Subscript (.Name x px) e1 p1) X.env v = (do
   let ov <- holding [v] (eval (.Name x px) X.env)
   let iv <- holding [v,ov] (eval e1 X.env)
   standAt p1
   holding [v,ov,iv] (setItem ov iv v)
   release [v,ov,iv] []):=by intro _; rfl)
  (hs : swapsWithSole [.Subscript (.Name x px) e1 p1] e pos.line X.env = pure false:=by rfl) (hw : swappedStores [.Subscript (.Name x px) e1 p1] e X.env = pure none:=by rfl) (h2 : (assignEach [.Subscript (.Name x px) e1 p1] X.env).map (·.2) = [assign (.Subscript (.Name x px) e1 p1) X.env]:=by rfl) :
  DS X K E (.Assign [.Subscript (.Name x px) e1 p1] e pos) (dPut1 i t1 te):=⟨qs_imp (qps_asg he.q (qpg_sub ho h1.q set_list ha) hs hw h2) fun En σ H h=>by
 obtain ⟨H0,ν,ρ,Dd,Xd,S,h1,ok,x⟩:=h
 refine ⟨H0,ν,ρ,_,Xd,S,h1,fun d k v H1 q1 e1 r1=>?_,x⟩
 obtain ⟨ds,h1,q1⟩:=q1
 obtain ⟨a,us,ns,g1,g2,g3,g4,g5,g6⟩:=own_list S h1
 refine ⟨_,g1,H0,ν,ρ,_,Xd,S.same e1,q1,fun y l w H2 q2 e2 r2=>?_,x⟩
 obtain ⟨z,j,rfl,hj,q2⟩:=q2
 split at q2
 case h_2=>exact q2.elim
 case h_1 s es =>
  obtain ⟨ms,m1,m2,m3⟩:=eff_own es (S.same e1).hl r1
  obtain ⟨c,hc⟩:=some_of_lt (ixN_lt hj)
  obtain ⟨ν',S'⟩:=S.put1 h1 g1 g2 g3 g4 g5 g6 hc e1 m1 m2 m3 q2.1 e2
  exact ⟨a,us,z,j,rfl,dn_int r2.den,(e1.trans e2) _ _ g2,by rw [g3.den.length]; exact hj,ok.nx _ _ _ _ q2.2 S'⟩⟩
def dAug2 (i : Nat) (t1 t2 te : TD) (f : Int -> Int -> Int) : TSD:=fun Dd ρ Xd=>∃ ds,ρ[i]? = some (some (true,.list ds)) /\ t1 ρ (fun y1 _=>∃ z1 j1 es,y1 = .int z1 /\ ixN ds.length z1 = some j1 /\ ds[j1]? = some (.list es) /\ t2 ρ (fun y _=>∃ (j : Nat) (a : Int),y = .int j /\ es[j]? = some (.int a) /\ te ρ (fun d _=>∃ b,d = .int b /\ Dd.nx (ρ.set i (some (true,.list (ds.set j1 (.list (es.set j (.int (f a b)))))))) ) Xd) Xd) Xd
theorem ixN_nat {n j : Nat} (h : j < n) : ixN n (j : Int) = some j:=by
 unfold ixN
 rw [if_pos (by omega),if_pos (by omega)]; simp
theorem dps_aug2 (i : Nat) {op : Operator} {f : Int -> Int -> Int} (hK : X.K = K) (ho : QE X (.Name x px) (tVar i)) (h1 : DE X K E e1 t1) (h2' : DE X K E e2 t2) (he : DE X K E e te) (hp : PIp X op (ipI f)) (hpl : PlainIx e1)
  (ha : ∀ ov iv new,augStore e2 ov iv new = (do holding [new,ov,iv] (setItem ov iv new); release [new,ov,iv] []; pure .next):=by intros; rfl) :
  DS X K E (.AugAssign (.Subscript (.Subscript (.Name x px) e1 p1) e2 p2) op e pos) (dAug2 i t1 t2 te f):=⟨qs_imp (qps_augS (qpe_ix (ix_listK K hK) ho h1.q hpl) h2'.q (get_listK K hK) he.q hp set_list ha) fun En σ H h=>by
 obtain ⟨H0,ν,ρ,Dd,Xd,S,⟨ds,h1,h2⟩,ok,x⟩:=h
 obtain ⟨a,us,ns,g1,g2,g3,g4,g5,g6⟩:=own_list S h1
 refine ⟨_,g1,H0,ν,ρ,_,Xd,S,h2,fun y l w H1 q1 e1 r1=>?_,x⟩
 obtain ⟨z,j1,es,rfl,hj1,hes,q1⟩:=q1
 obtain ⟨n1,n2,n3,u,_,hu,hw,_⟩:=ows_split g3 hes
 refine ⟨a,us,z,u,rfl,dn_int r1.den,SqL.of (e1 _ _ g2),atI_of (by rw [g3.den.length]; exact hj1) hu,H0,ν,ρ,_,Xd,S.same e1,q1,fun y2 l2 w2 H2 q2 e2 r2=>?_,x⟩
 obtain ⟨j,xi,rfl,hj,q2⟩:=q2
 obtain ⟨b,ws,rfl,hb,rb⟩:=dns_of_lst hw.den
 obtain ⟨c,hc1,hc2⟩:=rb.get hj
 have hc2:=dn_int hc2
 subst hc2
 refine ⟨b,ws,j,_,rfl,dn_int r2.den,SqL.of ((e1.trans e2) _ _ hb),hc1,H0,ν,ρ,_,Xd,S.same (e1.trans e2),q2,fun y3 l3 w3 H3 q3 e3 r3=>?_,x⟩
 obtain ⟨bb,rfl,q3⟩:=q3
 refine ⟨xi,bb,rfl,dn_int r3.den,?_⟩
 obtain ⟨b',ws',k1,k2,k3,ν',S'⟩:=S.put2 (s:=[]) (ms:=[]) h1 g1 g2 g3 g4 g5 g6 hes hj ((e1.trans e2).trans e3) (.int (f xi bb)) nodup_nil (fun _ z=>by cases z) (by simp) (Same.refl _)
 rw [hu] at k1
 cases k1
 rw [hb] at k2; cases k2
 exact ⟨b,ws,(j : Int),j,rfl,dn_int r2.den,((e1.trans e2).trans e3) _ _ hb,ixN_nat (by rw [k3]; exact len_of hj),ok.nx _ _ _ _ q3 S'⟩⟩
end
def startR (N : List Str) (ds : List D) : Ren:=ds.map (fun d=>some (false,d)) ++ List.replicate (N.length - ds.length) none
theorem start_ok {K : W.Frag} {H : Hp} {vs : List V} {ds : List D} {N : List Str} (h : Dns K H vs ds) : StOk K Z0 H (fun _=>[]) (startR N ds) (start N vs) H:=by
 have hl:=h.length
 refine ⟨Same.refl H,?_,fun i b d hi=>?_,fun _=>nodup_nil,(fun _ _ _ z=>by cases z),(fun _ _ z=>by cases z),fun _ z=>False.elim z⟩
 ·unfold startR L2.start; simp [hl]
 ·unfold startR at hi
  by_cases hlt : i < ds.length
  ·rw [List.getElem?_append_left (by simpa using hlt),List.getElem?_map] at hi
   cases e : ds[i]? with
   | none=>rw [e] at hi; cases hi
   | some c =>
    rw [e] at hi; cases hi
    obtain ⟨v,g1,g2⟩:=h.get e
    refine ⟨v,?_,Dn.same hid_z0 g2⟩
    unfold L2.start
    rw [List.getElem?_append_left (by rw [length_map,hl]; exact hlt),List.getElem?_map,g1]; rfl
  ·rw [List.getElem?_append_right (by simpa using Nat.le_of_not_lt hlt),List.getElem?_replicate] at hi
   split at hi <;> cases hi
theorem dmk {X : Cx} {K : W.Frag} {E : XK} {b : List Stmt} {t : TSD} {N : List Str} {vs : List V} {H : Hp} {Q : VK} {ds : List D} {Qd : D -> Bool -> Prop} {Xd : XD} (h : DSs X K E b t) (hd : Dns K H vs ds) (q : ∀ d o v H',Qd d o -> Same H H' -> RR K H H' o v d -> Q v H') (x : ∀ C H',Xd C -> Same H H' -> E (.ref C) none H')
  (r : t { nx:=fun _=>Qd .none true,rt:=Qd } (startR N ds) Xd) : ∃ t,PSs X b t /\ t { nx:=fun _ H'=>Q .non H',rt:=Q } (start N vs) H :=
 ⟨_,h.q.h,H,_,_,_,Xd,start_ok hd,r,⟨fun ν ρ σ H' a S=>q _ _ _ _ a S.sm ⟨[],.non,nodup_nil,fun _ z=>by cases z⟩,fun _ _ _ _ z=>z.elim,fun _ _ _ _ z=>z.elim,q⟩,x⟩
theorem ok0 {P : Program} {w : World} {K : W.Frag} {mg : Str -> Option Value} {base : Heap} {x qual : Str} {st : Stmt} {f : Addr} {fd : FuncData} {N ps : List Str} {k : Nat} {sp : SpD} (F : Fun K x qual st f fd) (S : FnScope N ps (defScope st)) (len : ∀ ds Q X,sp ds Q X -> ds.length = ps.length)
  (hbody : ∀ (cdv : Value) (A : Around) (outer : List Env) (s : Shared) (H : Hp) (E : XK),Room k (A.deeper (envOfC qual (defScope st) s.heap.objs.size f cdv)) -> ∃ t,DSs (cxOf CX0 P w K mg base N qual (defScope st) f cdv A outer s H E).nox K E0 (defBody st) t /\ ∀ ds Qd,sp ds Qd Xf -> t { nx:=fun _=>Qd .none true,rt:=Qd } (startR N ds) Xf)
  (hx : ∀ ds Qd Xd,sp ds Qd Xd -> sp ds Qd Xf) : FnOk P w K mg base CX0 (k + 1) f fd ps (SpL K sp):=by
 refine F.ok S (fun vs H Q E h=>?_) (fun cdv A outer s H vs Q E hr h=>?_)
 ·obtain ⟨ds,Qd,Xd,h1,h2,_⟩:=h
  rw [h1.length]; exact len ds Qd Xd h2
 ·obtain ⟨ds,Qd,Xd,h1,h2,h3,h4⟩:=h
  obtain ⟨t,D,r⟩:=hbody cdv A outer s H E hr
  exact dmk D h1 h3 (fun _ _ z _=>z.elim) (r ds Qd (hx _ _ _ h2))
theorem okE {P : Program} {w : World} {K : W.Frag} {mg : Str -> Option Value} {base : Heap} {x qual : Str} {st : Stmt} {f : Addr} {fd : FuncData} {N ps : List Str} {k : Nat} {sp : SpD} (F : Fun K x qual st f fd) (S : FnScope N ps (defScope st)) (len : ∀ ds Q X,sp ds Q X -> ds.length = ps.length)
  (hbody : ∀ (cdv : Value) (A : Around) (outer : List Env) (s : Shared) (H : Hp) (E : XK),Room k (A.deeper (envOfC qual (defScope st) s.heap.objs.size f cdv)) -> ∃ t,DSs (cxOf (CXE P w base) P w K mg base N qual (defScope st) f cdv A outer s H E) K E (defBody st) t /\ ∀ ds Qd Xd,sp ds Qd Xd -> t { nx:=fun _=>Qd .none true,rt:=Qd } (startR N ds) Xd) :
  FnOk P w K mg base (CXE P w base) (k + 1) f fd ps (SpL K sp):=by
 refine F.okE S (fun vs H Q E h=>?_) (fun cdv A outer s H vs Q E hr h=>?_)
 ·obtain ⟨ds,Qd,Xd,h1,h2,_⟩:=h
  rw [h1.length]; exact len ds Qd Xd h2
 ·obtain ⟨ds,Qd,Xd,h1,h2,h3,h4⟩:=h
  obtain ⟨t,D,r⟩:=hbody cdv A outer s H E hr
  exact dmk D h1 h3 h4 (r ds Qd Xd h2)
section
variable {X : Cx} {K : W.Frag} {E : XK} {pos p2 px apos cpos : Pos} {e e1 : Expr} {te : TD} {x : Str}
theorem dnS {s : Stmt} {t : TSD} (h : DS X.nox K E s t) : DS X K E s t:=⟨qnS h.q⟩
theorem dnT {e : Expr} {t : TDT} (h : DT X.nox K E e t) : DT X K E e t:=⟨qnT h.q⟩
theorem StOk.popped {H0 H H1 : Hp} {ν : Nat -> List Addr} {ρ : Ren} {σ : L2.St} {i j : Nat} {ds : List D} {a : Addr} {us : List V} {ns : List Addr} {c : D} (S : StOk K Z0 H0 ν ρ σ H) (h1 : ρ[i]? = some (some (true,.list ds))) (g1 : σ[i]? = some (some (.ref a))) (g2 : H a = some (.lst us)) (g3 : Ows K H us ds ns) (g4 : ν i = a :: ns) (g5 : a ∉ ns) (g6 : ns.Nodup)
  (hj : ds[j]? = some c) (e1 : Same H H1) : ∃ ν' u,us[j]? = some u /\ StOk K Z0 H0 ν' (ρ.set i (some (true,.list (ds.eraseIdx j)))) σ (upd H1 a (.lst (us.eraseIdx j))) /\ Dn K (hid (Hd Z0 ν') (upd H1 a (.lst (us.eraseIdx j)))) u c:=by
 obtain ⟨n1,n2,n3,u,q1,q2,q3,_,q4⟩:=ows_split g3 hj
 have nu:=g6
 rw [q1,nodup_append,nodup_append] at nu
 have inI : ∀ b,b ∈ n1 \/ b ∈ n2 \/ b ∈ n3 -> b ∈ ns:=fun b hb=>by rw [q1]; rcases hb with hb | hb | hb <;> simp [hb]
 have k1 : ∀ l : List Addr,(∀ b ∈ l,b ∈ ns) -> Kept l H (upd H1 a (.lst (us.eraseIdx j))):=fun l hl=>kept_upd e1 g2 fun b hb=>⟨g3.there b (hl b hb),fun z=>g5 (z ▸ hl b hb)⟩
 have S':=S.mut [] i (ms:=a :: (n1 ++ n3)) (H':=upd H1 a (.lst (us.eraseIdx j))) (v:=.ref a) g1 (len_of h1) (fun b o hb hn=>by rw [upd_ne (fun z=>hn (by rw [z,g4]; exact mem_cons_self))]; exact e1 _ _ hb)
  (.lst upd_same (q4 _ (k1 n1 fun b hb=>inI b (.inl hb)) (k1 n3 fun b hb=>inI b (.inr (.inr hb)))))
  (nodup_cons.mpr ⟨fun z=>by rcases mem_append.mp z with z | z; exact g5 (inI a (.inl z)); exact g5 (inI a (.inr (.inr z))),nodup_append.mpr ⟨nu.1,nu.2.1.2.1,fun x hx y hy z=>nu.2.2 x hx y (mem_append_right _ hy) z⟩⟩)
  (fun b hb=>.inl (by
   rw [g4]
   rcases mem_cons.mp hb with rfl | hb
   ·exact mem_cons_self
   ·refine mem_cons_of_mem _ ?_
    rcases mem_append.mp hb with hb | hb
    ·exact inI b (.inl hb)
    ·exact inI b (.inr (.inr hb)))) (by simp) (fun _ z=>by cases z)
 refine ⟨_,u,q2,S',ow_hid S'.hl (q3.kept (k1 n2 fun b hb=>inI b (.inr (.inl hb)))) fun b hb z=>?_⟩
 rcases z with z | ⟨l,z⟩
 ·exact z
 ·have z : b ∈ (if l = i then a :: (n1 ++ n3) else if l ∈ ([] : List Nat) then [] else ν l):=z
  split at z
  ·rcases mem_cons.mp z with z | z
   ·exact g5 (z ▸ inI b (.inr (.inl hb)))
   ·rcases mem_append.mp z with z | z
    ·exact nu.2.2 b z b (mem_append_left _ hb) rfl
    ·exact nu.2.1.2.2 b hb b z rfl
  ·split at z
   ·cases z
   ·exact absurd (S.dj l i b z (by rw [g4]; exact mem_cons_of_mem _ (inI b (.inr (.inl hb))))) ‹_›
theorem popAt {H0 H : Hp} {ν : Nat -> List Addr} {ρ : Ren} {σ : L2.St} {i : Nat} {ds : List D} (S : StOk K Z0 H0 ν ρ σ H) (h1 : ρ[i]? = some (some (true,.list ds))) (hz : ds.length <= 1000000) {z : Int} {j : Nat} {c : D} (hj : ixN ds.length z = some j) (hc : ds[j]? = some c) {a : Addr} (ha : σ[i]? = some (some (.ref a))) {H1 : Hp} (e1 : Same H H1) {Q : VK}
  (q : ∀ ν' u H',StOk K Z0 H0 ν' (ρ.set i (some (true,.list (ds.eraseIdx j)))) σ H' -> Dn K (hid (Hd Z0 ν') H') u c -> Q u H') : rPopAt (.ref a) [.int z] H1 Q:=by
 obtain ⟨a',us,ns,g1,g2,g3,g4,g5,g6⟩:=own_list S h1
 rw [ha] at g1; cases g1
 obtain ⟨ν',u,q1,q2,q3⟩:=S.popped h1 ha g2 g3 g4 g5 g6 hc e1
 obtain ⟨k1,k2,k3,k4⟩:=ixN_seq hj
 have hl:=g3.den.length
 exact ⟨a,us,z,j,u,rfl,rfl,e1 _ _ g2,by omega,by omega,by rw [hl]; exact k1,q1,q _ _ _ q2 q3⟩
def dAppPop (i l : Nat) (te : TD) : TSD:=fun Dd ρ Xd=>∃ ds es,ρ[i]? = some (some (true,.list ds)) /\ i ≠ l /\ ρ[l]? = some (some (true,.list es)) /\ es.length <= 1000000 /\ ds.length < 1000000 /\ te ρ (fun y _=>∃ z j c,y = .int z /\ ixN es.length z = some j /\ es[j]? = some c /\ flat c = true /\ Dd.nx ((ρ.set l (some (true,.list (es.eraseIdx j)))).set i (some (true,.list (ds ++ [c]))))) Xd
theorem dps_appPop (i l : Nat) {y : Str} {py apos2 cpos2 : Pos} (hK : X.K = K) (ho : QE X (.Name x px) (tVar i)) (ho2 : QE X (.Name y py) (tVar l)) (he : DE X K E e te) (hs : starEach [e] X.env = [(false,eval e X.env)]) (hbase : attributeBase (.Name y py) "pop" X.env (eval (.Name y py) X.env) = eval (.Name y py) X.env) (hline : (apos2.endLine == cpos2.line) = true)
  (hs2 : starEach [.Call (.Attribute (.Name y py) "pop" apos2) [e] [] cpos2] X.env = [(false,eval (.Call (.Attribute (.Name y py) "pop" apos2) [e] [] cpos2) X.env)]) (hbase2 : attributeBase (.Name x px) "append" X.env (eval (.Name x px) X.env) = eval (.Name x px) X.env) (hline2 : (apos.endLine == cpos.line) = true)
  (hsw : swapsWith (.Call (.Attribute (.Name x px) "append" apos) [.Call (.Attribute (.Name y py) "pop" apos2) [e] [] cpos2] [] cpos) none pos.line X.env = pure false:=by rfl) :
  DS X K E (.Expr (.Call (.Attribute (.Name x px) "append" apos) [.Call (.Attribute (.Name y py) "pop" apos2) [e] [] cpos2] [] cpos) pos) (dAppPop i l te):=⟨qs_imp (qps_expr (qpm_appendK K hK ho (qpm_popAtK K hK ho2 he.q hs hbase hline) hs2 hbase2 hline2) hsw) fun En σ H h=>by
 obtain ⟨H0,ν,ρ,Dd,Xd,S,⟨ds,es,h1,hil,h2,hz,hz2,h3⟩,ok,x⟩:=h
 obtain ⟨a,us,ns,g1,g2,g3,g4,g5,g6⟩:=own_list S h1
 obtain ⟨b,ws,ms,k1,k2,k3,k4,k5,k6⟩:=own_list S h2
 refine ⟨_,g1,tyl (SqL.of g2),_,k1,tyl (SqL.of k2),H0,ν,ρ,_,Xd,S,h3,fun y m w H1 q1 e1 r1=>?_,x⟩
 obtain ⟨z,j,c,rfl,hj,hc,hf,q1⟩:=q1
 have:=dn_int r1.den
 subst this
 refine popAt S h2 hz hj hc k1 e1 fun ν' u H' S' hd=>?_
 have h1' : (ρ.set l (some (true,.list (es.eraseIdx j))))[i]? = some (some (true,.list ds)):=by rw [List.getElem?_set_ne (Ne.symm hil)]; exact h1
 obtain ⟨a',us',ns',g1',g2',g3',g4',g5',g6'⟩:=own_list S' h1'
 rw [g1] at g1'; cases g1'
 have C:=ow_flat (Dn.same hid_same hd) hf
 refine ⟨a,us',u,rfl,rfl,g2',by rw [g3'.den.length]; exact Nat.lt_of_lt_of_le hz2 million,?_⟩
 have S3:=S'.mut [] i (ms:=a :: (ns' ++ [])) (H':=upd H' a (.lst (us' ++ [u]))) (v:=.ref a) (d:=.list (ds ++ [c])) g1 (len_of h1') (fun b o hb hn=>by rw [upd_ne (fun z=>hn (by rw [z,g4']; exact mem_cons_self))]; exact hb)
  (.lst upd_same (ows_snoc (C.kept (kept_upd1 g2' fun _ z=>by cases z)) (g3'.kept (kept_upd1 g2' fun b hb z=>g5' (z ▸ hb))))) (by rw [append_nil]; exact nodup_cons.mpr ⟨g5',g6'⟩) (fun b hb=>.inl (by rw [append_nil] at hb; rw [g4']; exact hb)) (by simp) (fun _ z=>by cases z)
 exact ok.nx _ _ _ _ q1 S3⟩
def setAll (b : Bool) : Ren -> List Nat -> List D -> Ren
 | ρ,i :: is,d :: ds=>setAll b (ρ.set i (some (b && !flat d,d))) is ds
 | ρ,_,_=>ρ
def unpK (ρ : Ren) (is : List Nat) (ds : List D) (k : Kd) : Ren:=match eff (.tuple ds) k with
 | .own []=>setAll true ρ is ds
 | .old=>setAll false ρ is ds
 | _=>setAll false (frz ρ) is ds
def sets : L2.St -> List Nat -> List V -> L2.St
 | σ,i :: is,v :: vs=>sets (σ.set i (some v)) is vs
 | σ,_,_=>σ
theorem all_old {H0 H : Hp} {ν : Nat -> List Addr} : ∀ {is : List Nat} {vs : List V} {ds : List D} {ρ : Ren} {σ : L2.St},StOk K Z0 H0 ν ρ σ H -> Dns K (hid (Hd Z0 ν) H) vs ds -> StOk K Z0 H0 ν (setAll false ρ is ds) (sets σ is vs) H
 | [],_,_,_,_,S,_=>S
 | i :: is,_,_,_,_,S,.nil=>S
 | i :: is,_,_,_,_,S,.cons h r=>by
  have:=all_old (is:=is) (S.setOld i h) r
  exact this
theorem all_own {H0 H' : Hp} : ∀ (is : List Nat) {vs : List V} {ds : List D} {ρ : Ren} {σ : L2.St} {ν : Nat -> List Addr} {ms : List Addr},StOk K Z0 H0 ν ρ σ (hid (· ∈ ms) H') -> Ows K H' vs ds ms -> ms.Nodup -> ∃ ν',StOk K Z0 H0 ν' (setAll true ρ is ds) (sets σ is vs) H':=by
 intro is
 induction is with
 | nil=>intro vs ds ρ σ ν ms S _ _; exact ⟨ν,by unfold setAll sets; exact S.same hid_same⟩
 | cons i is ih =>
  intro vs ds ρ σ ν ms S r0 nd
  cases r0 with
  | nil=>exact ⟨ν,S.same hid_same⟩
  | cons h r =>
   rename_i v vs d ds n m
   rw [nodup_append] at nd
   have sm : Same (hid (· ∈ n ++ m) H') (hid (· ∈ m) H'):=hid_less fun a z=>mem_append_right _ z
   have nt : ∀ a o,H' a = some o -> muO o = false -> hid (· ∈ m) H' a = some o:=fun a o ha hn=>hid_of ha fun z=>by
    exact (r.there a z).no ha hn
   have hk : Kept n H' (hid (· ∈ m) H'):=⟨fun a ha=>by
    unfold hid
    rw [if_neg fun z=>nd.2.2 a ha a z rfl],nt⟩
   show ∃ ν',StOk K Z0 H0 ν' (setAll true (ρ.set i (some (true && !flat d,d))) is _) (sets (σ.set i (some v)) is _) H'
   cases hf : flat d with
   | true =>
    have S1:=(S.same sm).setOld i (v:=v) (d:=d) (den_hid (S.same sm).hl (den_kept nt h.den hf) hf)
    exact ih S1 r nd.2.1
   | false =>
    have S1:=S.setOwn [] i sm (h.kept hk) nd.1 fun a ha=>.inl (by unfold hid; rw [if_pos (mem_append_left _ ha)])
    exact ih S1 r nd.2.1
theorem unp_ok {H0 H H' : Hp} {ν : Nat -> List Addr} {ρ : Ren} {σ : L2.St} {k : Kd} {a : Addr} {ds : List D} (S : StOk K Z0 H0 ν ρ σ H) (e : Same H H') (h : Res K Z0 ν H H' k (.ref a) (.tuple ds)) (is : List Nat) : ∃ us ν',SqT K H' a us /\ us.length = ds.length /\ StOk K Z0 H0 ν' (unpK ρ is ds k) (sets σ is us) H':=by
 have h' : Res K Z0 ν H H' (eff (.tuple ds) k) (.ref a) (.tuple ds):=by
  unfold eff
  split
  ·exact Res.flat h.den ‹_› (S.same e).hl _
  ·exact h
 have frzc : ∃ us ν',SqT K H' a us /\ us.length = ds.length /\ StOk K Z0 H0 ν' (setAll false (frz ρ) is ds) (sets σ is us) H':=by
  obtain ⟨a',us,q,q1,q2⟩:=dns_of_tup h.den
  cases q
  exact ⟨us,_,q1,q2.length,all_old (S.same e).frz (Dns.same hid_z0 q2)⟩
 unfold unpK
 generalize eff (.tuple ds) k = k' at h'
 split
 ·obtain ⟨ms,m1,m2,m3⟩:=h'
  cases m1 with
  | tup q1 q2 =>
   have sm : Same H (hid (· ∈ ms) H'):=fun b o hb=>hid_of (e _ _ hb) fun z=>by
    rcases m3 b z with y | ⟨_,y,_⟩
    ·rw [hb] at y; cases y
    ·cases y
   obtain ⟨ν',S'⟩:=all_own is (S.same sm) q2 m2
   exact ⟨_,ν',q1,q2.den.length,S'⟩
 ·obtain ⟨a',us,q,q1,q2⟩:=dns_of_tup (show Dn K _ _ _ from h')
  cases q
  exact ⟨us,ν,Same.tup hid_same q1,q2.length,all_old (S.same e) q2⟩
 ·exact frzc
def gNames : List Nat -> TGs
 | []=>gNil
 | i :: is=>gCons (gName i) (gNames is)
theorem gNames_of : ∀ (is : List Nat) (vs : List V) (σ : L2.St) (H : Hp) (Q : L2.St -> Hp -> Prop),vs.length = is.length -> Q (sets σ is vs) H -> gNames is vs σ H Q
 | [],[],σ,H,Q,_,q=>⟨rfl,q⟩
 | i :: is,v :: vs,σ,H,Q,hl,q=>⟨v,vs,rfl,gNames_of is vs _ H Q (by simpa using hl) q⟩
 | [],_ :: _,_,_,_,hl,_=>by cases hl
 | _ :: _,[],_,_,_,hl,_=>by cases hl
def dUnp (is : List Nat) (te : TD) : TSD:=fun Dd ρ Xd=>te ρ (fun d k=>match d with
 | .tuple ds=>ds.length = is.length /\ Dd.nx (unpK ρ is ds k)
 | _=>False) Xd
theorem dps_unp (is : List Nat) (n : Nat) {es : List Expr} {kt : Nat} {pt : Pos} (hn' : is.length = n) (hK : X.K = K) (hc : X.calm = true) (hg : QGs X es (gNames is)) (hn : (assignEach es X.env).length = n) (hst : (assignEach es X.env).findIdx? (·.1) = none) (he : DE X K E e te)
  (hs : swapsWithSole [.Tuple es kt pt] e pos.line X.env = pure false:=by rfl) (hw : swappedStores [.Tuple es kt pt] e X.env = pure none:=by rfl) (h1 : (assignEach [.Tuple es kt pt] X.env).map (·.2) = [assign (.Tuple es kt pt) X.env]:=by rfl) :
  DS X K E (.Assign [.Tuple es kt pt] e pos) (dUnp is te):=⟨qs_imp (qps_asg he.q (qpg_tupK K n hK hc hg hn hst) hs hw h1) fun En σ H h=>by
 obtain ⟨H0,ν,ρ,Dd,Xd,S,h1,ok,x⟩:=h
 refine ⟨H0,ν,ρ,_,Xd,S,h1,fun d k v H' q1 e1 r1=>?_,x⟩
 cases d with
 | tuple ds =>
  obtain ⟨a,us0,rfl,_,_⟩:=dns_of_tup r1.den
  obtain ⟨us,ν',k1,k2,S'⟩:=unp_ok S e1 r1 is
  exact ⟨a,us,rfl,k1,by rw [k2,q1.1,hn'],gNames_of is us σ H' _ (by rw [k2,q1.1]) (ok.nx _ _ _ _ q1.2 S')⟩
 | _=>exact q1.elim⟩
theorem flats_ints {ns : List Int} : flats (ns.map PyData.int) = true:=flats_iff.mpr fun d hd=>by
 obtain ⟨n,_,rfl⟩:=mem_map.mp hd
 rfl
theorem dns_of_ints {H : Hp} : ∀ (ns : List Int),Dns K H (ns.map V.int) (ns.map PyData.int)
 | []=>.nil
 | n :: r=>.cons (.int n) (dns_of_ints r)
def dInts (ns : List Int) : TDA:=fun _ Q _=>Q (ns.map PyData.int) (.own [])
theorem dpa_ints {es : List Expr} {ns : List Int} (h : intsOf es = some ns) : DA X K E es (dInts ns):=⟨qa_imp (qpa_ints h) fun σ H Q h=>by
 obtain ⟨H0,ν,ρ,Qd,Xd,S,h1,q,x⟩:=h
 exact q _ _ _ H h1 (Same.refl H) ⟨[],ows_flat (dns_of_ints ns) flats_ints,nodup_nil,fun _ z=>by cases z⟩⟩
def dLR (ta : TDA) : TD:=fun ρ Q Xd=>ta ρ (fun ds _=>match ds with
 | [.int z]=>∃ n : Nat,z = n /\ n <= 1000000 /\ Q (.list ((List.range n).map fun (i : Nat)=>PyData.int (i : Int))) (.own [])
 | _=>False) Xd
theorem dpe_listrange {a : Expr} {ta : TDA} {p p2 pos2 : Pos} (hc : X.calm = true) (hg : Gl X "list") (hm : X.mg "list" = none) (hg2 : Gl X "range") (hm2 : X.mg "range" = none) (ha : DA X K E [a] ta) (hs : starEach [a] X.env = [(false,eval a X.env)]:=by rfl) (hs2 : starEach [(.Call (.Name "range" p2) [a] [] pos2)] X.env = [(false,eval (.Call (.Name "range" p2) [a] [] pos2) X.env)]:=by rfl) :
  DE X K E (.Call (.Name "list" p) [.Call (.Name "range" p2) [a] [] pos2] [] pos) (dLR ta):=⟨qe_imp (qpe_listrange hc hg hm hg2 hm2 ha.q hs hs2) fun σ H Q h=>by
 obtain ⟨H0,ν,ρ,Qd,Xd,S,h1,q,x⟩:=h
 refine ⟨H0,ν,ρ,_,Xd,S,h1,fun ds k vs H' q1 e1 r1=>?_,x⟩
 split at q1
 ·obtain ⟨v,rfl,h2⟩:=dns1 r1.dens
  obtain ⟨n,rfl,hn,q1⟩:=q1
  refine ⟨n,by rw [dn_int h2],hn,fun l hl=>q _ _ _ _ q1 (e1.trans (Same.new hl)) (res_newL (S.same e1).hl e1 hl ⟨[],?_,nodup_nil,fun _ z=>by cases z⟩)⟩
  have:=dns_of_ints (K:=K) (H:=H') ((List.range n).map fun (i : Nat)=>(i : Int))
  rw [map_map,map_map] at this
  refine ows_flat this ?_
  have:=flats_ints (ns:=(List.range n).map fun (i : Nat)=>(i : Int))
  rw [map_map] at this
  exact this
 ·exact q1.elim⟩
end
def iD (r : List Int) : D:=.list (r.map PyData.int)
def gD (g : List (List Int)) : D:=.list (g.map iD)
theorem flat_int {i : Int} : flat (.int i) = true:=rfl
theorem flat_bool {i : Bool} : flat (.bool i) = true:=rfl
theorem flat_str {i : Str} : flat (.str i) = true:=rfl
theorem flat_non : flat .none = true:=rfl
theorem flat_list {l : List D} : flat (.list l) = false:=rfl
theorem flat_tuple {l : List D} : flat (.tuple l) = flats l:=rfl
theorem flats_nil : flats [] = true:=rfl
theorem flats_cons {d : D} {l : List D} : flats (d :: l) = (flat d && flats l):=rfl
theorem flat_iD {r : List Int} : flat (iD r) = false:=rfl
theorem flat_gD {r : List (List Int)} : flat (gD r) = false:=rfl
def lpD (ds : List D) (bnd : TGD) (tb : TSD) : TSD:=fun Dd ρ Xd=>∃ W : Nat -> Ren -> Prop,W 0 ρ /\ (∀ i d ρ,ds[i]? = some d -> W i ρ -> bnd d ρ fun ρ'=>tb { Dd with nx:=W (i + 1),ct:=W (i + 1),bk:=Dd.nx } ρ' Xd) /\ ∀ ρ,W ds.length ρ -> Dd.nx ρ
theorem lp_list {ds : List D} {bnd : TGD} {tb : TSD} {Dd : EndsD} {ρ : Ren} {Xd : XD} (W : Nat -> Ren -> Prop) (h0 : W 0 ρ) (hs : ∀ i d ρ,ds[i]? = some d -> W i ρ -> bnd d ρ fun ρ'=>tb { Dd with nx:=W (i + 1),ct:=W (i + 1),bk:=Dd.nx } ρ' Xd) (hd : ∀ ρ,W ds.length ρ -> Dd.nx ρ) : lpD ds bnd tb Dd ρ Xd:=⟨W,h0,hs,hd⟩
theorem rngD_get {lo : Int} {n i : Nat} {d : D} (h : (rngD lo n)[i]? = some d) : i < n /\ d = .int (lo + i):=by
 unfold rngD at h
 rw [List.getElem?_map] at h
 cases e : (List.range n)[i]? with
 | none=>rw [e] at h; cases h
 | some j =>
  rw [e] at h; cases h
  obtain ⟨h1,h2⟩:=List.getElem?_eq_some_iff.mp e
  rw [List.getElem_range] at h2
  rw [length_range] at h1
  exact ⟨h1,by rw [h2]⟩
theorem rngD_len {lo : Int} {n : Nat} : (rngD lo n).length = n:=by unfold rngD; rw [length_map,length_range]
theorem lp_rng {lo : Int} {n : Nat} {bnd : TGD} {tb : TSD} {Dd : EndsD} {ρ : Ren} {Xd : XD} (W : Nat -> Ren -> Prop) (h0 : W 0 ρ) (hs : ∀ (i : Nat) ρ,i < n -> W i ρ -> bnd (.int (lo + i)) ρ fun ρ'=>tb { Dd with nx:=W (i + 1),ct:=W (i + 1),bk:=Dd.nx } ρ' Xd) (hd : ∀ ρ,W n ρ -> Dd.nx ρ) : lpD (rngD lo n) bnd tb Dd ρ Xd :=
 ⟨W,h0,fun i d ρ e w=>by obtain ⟨h1,rfl⟩:=rngD_get e; exact hs i ρ h1 w,fun ρ w=>hd ρ (by rw [rngD_len] at w; exact w)⟩
theorem go_flat {f : D -> Els -> (Els -> Prop) -> Prop} {Q : Els -> Prop} (h : D -> Els) (m : Nat) : ∀ {ds : List D} {es : Els},(∀ d ∈ ds,∀ es (Q' : Els -> Prop),es.length + (h d).length <= m -> Q' (es ++ h d) -> f d es Q') -> es.length + (ds.flatMap h).length <= m -> Q (es ++ ds.flatMap h) -> go f ds es Q
 | [],es,_,_,q=>by
  show Q es
  simpa using q
 | d :: r,es,hs,hm,q=>by
  rw [List.flatMap_cons,length_append] at hm
  refine hs d mem_cons_self es _ (by omega) (go_flat h m (fun d hd=>hs d (mem_cons_of_mem _ hd)) ?_ ?_)
  ·rw [length_append]; omega
  ·rw [append_assoc]; rw [List.flatMap_cons] at q; exact q
theorem flatMap_one {α β : Type} (h : α -> β) (l : List α) : (l.flatMap fun a=>[h a]) = l.map h:=by
 induction l with
 | nil=>rfl
 | cons a r ih=>rw [List.flatMap_cons,ih]; rfl
theorem go_map {f : D -> Els -> (Els -> Prop) -> Prop} {Q : Els -> Prop} (h : D -> D × Bool) {ds : List D} (hs : ∀ d ∈ ds,∀ es (Q' : Els -> Prop),es.length < 1000000 -> Q' (es ++ [h d]) -> f d es Q') (hm : ds.length <= 1000000) (q : Q (ds.map h)) : go f ds [] Q:=by
 refine go_flat (fun d=>[h d]) 1000000 (fun d hd es Q' hl q=>hs d hd es Q' ?_ q) ?_ ?_
 ·simp only [length_cons,List.length_nil] at hl; omega
 ·rw [flatMap_one,length_map]; simpa using hm
 ·rw [flatMap_one]; exact q
def onB (d : D) (Q : Bool -> Prop) : Prop:=match d with | .bool i=>Q i | _=>False
def onI (d : D) (Q : Int -> Prop) : Prop:=match d with | .int i=>Q i | _=>False
def onL (d : D) (Q : List D -> Prop) : Prop:=match d with | .list l=>Q l | _=>False
def onT (d : D) (Q : List D -> Prop) : Prop:=match d with | .tuple l=>Q l | _=>False
section
variable {t u : TSD} {te ta tb tc : TD} {tA tB : TDT} {tl : TDA} {Dd : EndsD} {ρ : Ren} {Xd : XD} {Q : QD} {QT : Bool -> Prop} {QA : List D -> Kd -> Prop} {i : Nat} {d e : D} {k l : Kd}
theorem w_onB {b : Bool} {Q : Bool -> Prop} (h : Q b) : onB (.bool b) Q:=h
theorem w_onI {b : Int} {Q : Int -> Prop} (h : Q b) : onI (.int b) Q:=h
theorem w_onL {b : List D} {Q : List D -> Prop} (h : Q b) : onL (.list b) Q:=h
theorem w_onLi {b : List Int} {Q : List D -> Prop} (h : Q (b.map PyData.int)) : onL (iD b) Q:=h
theorem w_onLg {b : List (List Int)} {Q : List D -> Prop} (h : Q (b.map iD)) : onL (gD b) Q:=h
theorem w_onT {b : List D} {Q : List D -> Prop} (h : Q b) : onT (.tuple b) Q:=h
theorem w_seq (h : t { Dd with nx:=fun ρ'=>u Dd ρ' Xd } ρ Xd) : dSeq t u Dd ρ Xd:=h
theorem w_set (h : te ρ (fun d k=>Dd.nx (setK ρ i d k)) Xd) : dSet i te Dd ρ Xd:=h
theorem w_ret (h : te ρ (fun d k=>Dd.rt d (rtK d k)) Xd) : dRet te Dd ρ Xd:=h
theorem w_drop (h : te ρ (fun _ _=>Dd.nx ρ) Xd) : dDrop te Dd ρ Xd:=h
theorem w_next (h : Dd.nx ρ) : dNext Dd ρ Xd:=h
theorem w_ifS (h : tA ρ (fun b=>if b = true then t Dd ρ Xd else u Dd ρ Xd) Xd) : dIfS tA t u Dd ρ Xd:=h
theorem w_nx {f b c : Ren -> Prop} {r : D -> Bool -> Prop} (h : f ρ) : EndsD.nx ⟨f,r,b,c⟩ ρ:=h
theorem w_rt {f b c : Ren -> Prop} {r : D -> Bool -> Prop} {o : Bool} (h : r d o) : EndsD.rt ⟨f,r,b,c⟩ d o:=h
theorem w_frz (h : t Dd (frz1 i ρ) Xd) : dFrz i t Dd ρ Xd:=h
theorem w_c (h : Q d .old) : dC d ρ Q Xd:=h
theorem w_op {f : F2} (h : ta ρ (fun d k=>tb ρ (fun e l=>f d k e l Q) Xd) Xd) : dOp f ta tb ρ Q Xd:=h
theorem w_fI0 {g : Int -> Int -> D} {x y : Int} (h : Q (g x y) .old) : fI T2 g (.int x) k (.int y) l Q:=⟨trivial,h⟩
theorem w_fI {C : Int -> Int -> Prop} {g : Int -> Int -> D} {x y : Int} (h : C x y /\ Q (g x y) .old) : fI C g (.int x) k (.int y) l Q:=h
theorem w_addI {x y : Int} (h : Q (.int (x + y)) .old) : fAdd (.int x) k (.int y) l Q:=h
theorem w_addL {x y : List D} (h : x.length + y.length <= 1000000 /\ Q (.list (x ++ y)) (kels2 x k y l)) : fAdd (.list x) k (.list y) l Q:=h
def IxD (ds : List D) (i : Int) (Q : D -> Prop) : Prop:=∃ x,atI ds i = some x /\ Q x
theorem w_ixLi {x : List Int} {y : Int} (h : IxD (x.map PyData.int) y fun d=>Q d k.sub) : fIx (iD x) k (.int y) l Q:=h
theorem w_ixLg {x : List (List Int)} {y : Int} (h : IxD (x.map iD) y fun d=>Q d k.sub) : fIx (gD x) k (.int y) l Q:=h
theorem w_ixT {x : List D} {y : Int} (h : IxD x y fun d=>Q d k.sub) : fIx (.tuple x) k (.int y) l Q:=h
theorem w_eq {f : Bool -> Bool} (h : (d.canLay0 = true /\ e.canLay0 = true /\ d.depth <= 32) /\ Q (.bool (f (PyData.eqv d e))) .old) : fEq f d k e l Q:=⟨h.1.1,h.1.2.1,h.1.2.2,h.2⟩
theorem w_eqI {f : Bool -> Bool} {x y : Int} (h : Q (.bool (f (x == y))) .old) : fEq f (.int x) k (.int y) l Q:=⟨rfl,rfl,Nat.zero_le _,h⟩
theorem w_is {f : Bool -> Bool} (h : Q (.bool (f (isNon d))) .old) : fIs f d k .none l Q:=⟨rfl,h⟩
theorem w_in {f : Bool -> Bool} {x : List D} (h : (scalD d = true /\ x.all scalD = true) /\ Q (.bool (f (inD d x))) .old) : fIn f d k (.list x) l Q:=⟨h.1.1,h.1.2,h.2⟩
theorem w_inT {f : Bool -> Bool} {x : List D} (h : (scalD d = true /\ x.all scalD = true) /\ Q (.bool (f (inD d x))) .old) : fIn f d k (.tuple x) l Q:=⟨h.1.1,h.1.2,h.2⟩
theorem w_notV (h : ta ρ (fun d _=>onB d fun i=>Q (.bool (!i)) .old) Xd) : dNotV ta ρ Q Xd:=h
theorem w_andV (h : ta ρ (fun d _=>onB d fun i=>if i = true then tb ρ Q Xd else Q (.bool false) .old) Xd) : dAndV ta tb ρ Q Xd:=h
theorem w_B (h : ta ρ (fun d _=>onB d QT) Xd) : dB ta ρ QT Xd:=h
theorem w_or (h : tA ρ (fun b=>if b = true then QT true else tB ρ QT Xd) Xd) : dOr tA tB ρ QT Xd:=h
theorem w_not (h : tA ρ (fun b=>QT (!b)) Xd) : dNot tA ρ QT Xd:=h
theorem w_true (h : QT true) : dTrue ρ QT Xd:=h
theorem w_if (h : tA ρ (fun b=>if b = true then ta ρ Q Xd else tb ρ Q Xd) Xd) : dIf tA ta tb ρ Q Xd:=h
theorem w_chain {f g : Int -> Int -> Bool} (h : ta ρ (fun x _=>tb ρ (fun y _=>onI x fun i=>onI y fun j=>if f i j = true then tc ρ (fun z _=>onI z fun l=>Q (.bool (g j l)) .old) Xd else Q (.bool false) .old) Xd) Xd) : dChain f g ta tb tc ρ Q Xd:=by
 unfold dChain
 have key : ∀ x y : D,(onI x fun i=>onI y fun j=>if f i j = true then tc ρ (fun z _=>onI z fun l=>Q (.bool (g j l)) .old) Xd else Q (.bool false) .old) = (match x,y with
  | .int i,.int j=>if f i j = true then tc ρ (fun z _=>match z with | .int l=>Q (.bool (g j l)) .old | _=>False) Xd else Q (.bool false) .old
  | _,_=>False):=fun x y=>by
  cases x <;> first | rfl | (cases y <;> rfl)
 simp only [key] at h
 exact h
theorem w_nil (h : QA [] (.own [])) : dNil ρ QA Xd:=h
theorem w_cons (h : ta ρ (fun d k=>tl ρ (fun ds l=>QA (d :: ds) (kcons d k l)) Xd) Xd) : dCons ta tl ρ QA Xd:=h
theorem w_ints {ns : List Int} (h : QA (ns.map PyData.int) (.own [])) : dInts ns ρ QA Xd:=h
theorem w_tup (h : tl ρ (fun ds k=>ds.length <= 1000 /\ Q (.tuple ds) k) Xd) : dTup tl ρ Q Xd:=h
theorem w_lst (h : tl ρ (fun ds k=>ds.length <= 1000 /\ Q (.list ds) k) Xd) : dLst tl ρ Q Xd:=h
theorem w_call {sp : SpD} (h : tl ρ (fun ds _=>sp ds (fun d o=>Q d (kRet o)) Xd) Xd) : dCall sp tl ρ Q Xd:=h
theorem w_call0 {sp : SpD} (h : tl ρ (fun ds _=>sp ds (fun d o=>Q d (kRet o)) Xf) Xd) : dCall0 sp tl ρ Q Xd:=h
theorem w_cb {g : FA} (h : tl ρ (fun ds k=>g ds k Q) Xd) : dCB g tl ρ Q Xd:=h
theorem w_len {x : List D} (h : Q (.int x.length) .old) : fLen [.list x] k Q:=h
theorem w_lenI {x : List Int} (h : Q (.int x.length) .old) : fLen [iD x] k Q:=by show Q (.int (x.map PyData.int).length) .old; rw [length_map]; exact h
theorem w_lenG {x : List (List Int)} (h : Q (.int x.length) .old) : fLen [gD x] k Q:=by show Q (.int (x.map iD).length) .old; rw [length_map]; exact h
theorem w_lenS {x : List D} (h : Q (.int x.length) .old) : fLen [.dict [(.none,.list x)]] k Q:=h
theorem intsD_map : ∀ (ns : List Int),intsD (ns.map PyData.int) = some ns
 | []=>rfl
 | n :: r=>by show (intsD (r.map PyData.int)).map (n :: ·) = _; rw [intsD_map r]; rfl
theorem w_sumI {x : List Int} (h : Q (.int x.sum) .old) : fSum [iD x] k Q:=⟨x,intsD_map x,h⟩
theorem w_bls {f : List Bool -> Bool} {x : List D} (h : ∃ ns,boolsD x = some ns /\ Q (.bool (f ns)) .old) : fBls f [.list x] k Q:=h
theorem w_intB {x : Bool} (h : Q (.int (if x = true then 1 else 0)) .old) : fInt [.bool x] k Q:=h
theorem w_listI {x : List Int} (h : Q (iD x) (.own [])) : fList [iD x] k Q:=by
 show Q (.list _) (kels _ k)
 unfold kels; rw [if_pos flats_ints]; exact h
theorem w_min2 {x y : Int} (h : Q (.int (if y < x then y else x)) .old) : fMin [.int x,.int y] k Q:=h
theorem w_max2 {x y : Int} (h : Q (.int (if y > x then y else x)) .old) : fMax [.int x,.int y] k Q:=h
theorem w_isi {f : D -> Bool} (h : ta ρ (fun d _=>noDict d = true /\ Q (.bool (f d)) .old) Xd) : dIs f ta ρ Q Xd:=h
theorem w_sl {f : F3} {tlo thi : TDO} (h : te ρ (fun d k=>tlo ρ (fun l=>thi ρ (fun h=>f d k l h Q) Xd) Xd) Xd) : dSl f te tlo thi ρ Q Xd:=h
theorem w_noPart {Q : Option Int -> Prop} (h : Q none) : dNoPart ρ Q Xd:=h
theorem w_part {Q : Option Int -> Prop} (h : te ρ (fun d _=>onI d fun i=>Q (some i)) Xd) : dPart te ρ Q Xd:=h
theorem w_bName {Q : Ren -> Prop} (h : Q (ρ.set i (some (false,d)))) : bName i d ρ Q:=h
theorem w_bTup {n : Nat} {bs : TGsD} {ds : List D} {Q : Ren -> Prop} (h : ds.length = n /\ bs ds ρ Q) : bTup n bs (.tuple ds) ρ Q:=h
theorem w_bCons {b : TGD} {bs : TGsD} {ds : List D} {Q : Ren -> Prop} (h : b d ρ fun ρ'=>bs ds ρ' Q) : bCons b bs (d :: ds) ρ Q:=h
theorem w_bNil {Q : Ren -> Prop} (h : Q ρ) : bNil [] ρ Q:=⟨rfl,h⟩
theorem w_for {ti : TDI} {bnd : TGD} (h : ti ρ (fun ds b=>b = true /\ lpD ds bnd t Dd ρ Xd) Xd) : dFor ti bnd t Dd ρ Xd:=h
theorem w_iL {Q : List D -> Bool -> Prop} (h : te ρ (fun d k=>onL d fun ds=>Q ds k.isOld) Xd) : iL te ρ Q Xd:=h
theorem w_iT {Q : List D -> Bool -> Prop} (h : te ρ (fun d k=>onT d fun ds=>Q ds k.isOld) Xd) : iT te ρ Q Xd:=h
def on1I (ds : List D) (Q : Int -> Prop) : Prop:=match ds with | [.int j]=>Q j | _=>False
def on2I (ds : List D) (Q : Int -> Int -> Prop) : Prop:=match ds with | [.int i,.int j]=>Q i j | _=>False
theorem w_on1I {x : Int} {Q : Int -> Prop} (h : Q x) : on1I [.int x] Q:=h
theorem w_on2I {x y : Int} {Q : Int -> Int -> Prop} (h : Q x y) : on2I [.int x,.int y] Q:=h
theorem w_iR1 {Q : List D -> Bool -> Prop} (h : tl ρ (fun ds _=>on1I ds fun j=>(-(2 ^ 62) <= j /\ j < 2 ^ 62) /\ Q (rngD 0 j.toNat) true) Xd) : iR1 tl ρ Q Xd:=by
 have e : (fun (ds : List D) (_ : Kd)=>on1I ds fun j=>(-(2 ^ 62) <= j /\ j < 2 ^ 62) /\ Q (rngD 0 j.toNat) true) = (fun ds _=>match ds with | [.int j]=>-(2 ^ 62) <= j /\ j < 2 ^ 62 /\ Q (rngD 0 j.toNat) true | _=>False):=by
  funext ds _
  unfold on1I
  split
  ·exact propext and_assoc
  ·rfl
 rw [e] at h
 exact h
theorem w_lr (h : tl ρ (fun ds _=>on1I ds fun z=>∃ n : Nat,z = n /\ n <= 1000000 /\ Q (.list ((List.range n).map fun (i : Nat)=>PyData.int (i : Int))) (.own [])) Xd) : dLR tl ρ Q Xd:=h
theorem w_unp {is : List Nat} (h : te ρ (fun d k=>onT d fun ds=>ds.length = is.length /\ Dd.nx (unpK ρ is ds k)) Xd) : dUnp is te Dd ρ Xd:=h
theorem w_raise {C : Addr} (h : tl ρ (fun ds _=>ds.length <= 1000 /\ Xd C) Xd) : dRaise C tl Dd ρ Xd:=h
def LcD (f : D -> Els -> (Els -> Prop) -> Prop) (ds : List D) (ok : Bool) (Q : QD) : Prop:=go f ds [] fun es=>Q (.list (es.map (·.1))) (if es.all (·.2) = true then .own [] else if ok = true then .old else .mix)
theorem w_lc {ti : TDI} {T : List Nat} {bnd : TGD} {tif : TDT} {tb : TB} {own : List Str} {cap : List (Str × Nat)} (h : ti ρ (fun ds b=>LcD (fun d es Q'=>bnd d (dropS (capR own cap ρ) T) fun ρ'=>tif ρ' (fun c=>if c = true then tb ρ' es Q' else Q' es) Xf) ds (b && capOk cap ρ) Q) Xd) : dLC ti T bnd tif tb own cap ρ Q Xd:=h
theorem w_emit {es : Els} {Q : Els -> Prop} (h : te ρ (fun d k=>es.length < 1000000 /\ (eff d k).isOld = true /\ Q (es ++ [(d,isOwnK (eff d k))])) Xf) : dEmit te ρ es Q:=h
theorem w_bFor {ti : TDI} {T : List Nat} {bnd : TGD} {tif : TDT} {tb : TB} {es : Els} {Q : Els -> Prop} (h : ti ρ (fun ds b=>b = true /\ go (fun d es Q'=>bnd d (dropS ρ T) fun ρ'=>tif ρ' (fun c=>if c = true then tb ρ' es Q' else Q' es) Xf) ds es Q) Xf) : bFor ti T bnd tif tb ρ es Q:=h
theorem w_ift {A B : Prop} (h : A) : if (true : Bool) = true then A else B:=h
theorem w_iff {A B : Prop} (h : B) : if (false : Bool) = true then A else B:=by rw [if_neg Bool.false_ne_true]; exact h
theorem setK_int {x : Int} : setK ρ i (.int x) k = ρ.set i (some (false,.int x)):=rfl
theorem setK_bool {x : Bool} : setK ρ i (.bool x) k = ρ.set i (some (false,.bool x)):=rfl
theorem setK_str {x : Str} : setK ρ i (.str x) k = ρ.set i (some (false,.str x)):=rfl
theorem setK_non : setK ρ i .none k = ρ.set i (some (false,.none)):=rfl
theorem setK_own {x : List D} {s : List Nat} : setK ρ i (.list x) (.own s) = (dropS ρ s).set i (some (true,.list x)):=rfl
theorem setK_old {x : List D} : setK ρ i (.list x) .old = ρ.set i (some (false,.list x)):=rfl
theorem setK_mix {x : List D} : setK ρ i (.list x) .mix = (frz ρ).set i (some (false,.list x)):=rfl
theorem setK_ownI {x : List Int} {s : List Nat} : setK ρ i (iD x) (.own s) = (dropS ρ s).set i (some (true,iD x)):=rfl
theorem setK_oldI {x : List Int} : setK ρ i (iD x) .old = ρ.set i (some (false,iD x)):=rfl
theorem setK_mixI {x : List Int} : setK ρ i (iD x) .mix = (frz ρ).set i (some (false,iD x)):=rfl
theorem setK_ownG {x : List (List Int)} {s : List Nat} : setK ρ i (gD x) (.own s) = (dropS ρ s).set i (some (true,gD x)):=rfl
theorem setK_oldG {x : List (List Int)} : setK ρ i (gD x) .old = ρ.set i (some (false,gD x)):=rfl
theorem setK_mixG {x : List (List Int)} : setK ρ i (gD x) .mix = (frz ρ).set i (some (false,gD x)):=rfl
theorem setK_tup {x : List D} (h : flats x = true) : setK ρ i (.tuple x) k = ρ.set i (some (false,.tuple x)):=by unfold setK; rw [flat_tuple,if_pos h]
theorem rtK_int {x : Int} : rtK (.int x) k = true:=rfl
theorem rtK_bool {x : Bool} : rtK (.bool x) k = true:=rfl
theorem rtK_str {x : Str} : rtK (.str x) k = true:=rfl
theorem rtK_non : rtK .none k = true:=rfl
theorem rtK_own {s : List Nat} : rtK d (.own s) = true:=by unfold rtK; rw [Bool.or_true]
theorem rtK_tup {x : List D} (h : flats x = true) : rtK (.tuple x) k = true:=by unfold rtK; rw [flat_tuple,h]; rfl
theorem kcons_flat (h : flat d = true) : kcons d k (.own []) = .own []:=by unfold kcons; rw [if_pos h]; rfl
theorem kcons_own {s : List Nat} (h : flat d = false) : kcons d (.own s) (.own []) = .own (s ++ []):=by
 unfold kcons; rw [h,if_neg Bool.false_ne_true]
 show (if disj s [] = true then Kd.own (s ++ []) else .mix) = _
 rw [if_pos (by unfold disj; simp)]
theorem kcons_old (h : flat d = false) : kcons d .old (.own []) = .old:=by unfold kcons; rw [h]; rfl
theorem frz_nil : frz [] = []:=rfl
theorem frz_some {b : Bool} {r : Ren} : frz (some (b,d) :: r) = some (false,d) :: frz r:=rfl
theorem frz_none {r : Ren} : frz (none :: r) = none :: frz r:=rfl
theorem dropS_nil : dropS ρ [] = ρ:=rfl
theorem dropS_cons {s : List Nat} : dropS ρ (i :: s) = dropS (ρ.set i none) s:=rfl
theorem kRet_t : kRet true = .own []:=rfl
theorem kRet_f : kRet false = .mix:=rfl
theorem sub_own : Kd.sub (.own []) = .own []:=rfl
theorem sub_old : Kd.sub .old = .old:=rfl
theorem sub_ownc {s : List Nat} : Kd.sub (.own (i :: s)) = .mix:=rfl
theorem sub_mix : Kd.sub .mix = .mix:=rfl
theorem isOld_own : Kd.isOld (.own []) = true:=rfl
theorem isOld_old : Kd.isOld .old = true:=rfl
theorem isOld_mix : Kd.isOld .mix = false:=rfl
theorem isOld_ownc {s : List Nat} : Kd.isOld (.own (i :: s)) = false:=rfl
theorem eff_int {x : Int} : eff (.int x) k = .own []:=rfl
theorem eff_bool {x : Bool} : eff (.bool x) k = .own []:=rfl
theorem eff_str {x : Str} : eff (.str x) k = .own []:=rfl
theorem eff_tup {x : List D} (h : flats x = true) : eff (.tuple x) k = .own []:=by unfold eff; rw [flat_tuple,h]; rfl
theorem eff_ltc {x : List D} : eff (.list x) k = k:=rfl
theorem eff_iD {x : List Int} : eff (iD x) k = k:=rfl
theorem eff_gD {x : List (List Int)} : eff (gD x) k = k:=rfl
theorem isOwnK_own : isOwnK (.own []) = true:=rfl
theorem isOwnK_old : isOwnK .old = false:=rfl
theorem w_v0 {r : Ren} (q : Q d .old) : dVar 0 (some (false,d) :: r) Q Xd:=⟨false,d,rfl,q⟩
theorem w_v1 {x0 : Option (Bool × D)} {r : Ren} (q : Q d .old) : dVar 1 (x0 :: some (false,d) :: r) Q Xd:=⟨false,d,rfl,q⟩
theorem w_o1 {x0 : Option (Bool × D)} {r : Ren} (q : Q d (.own [1])) : dVar 1 (x0 :: some (true,d) :: r) Q Xd:=⟨true,d,rfl,q⟩
theorem w_v2 {x0 x1 : Option (Bool × D)} {r : Ren} (q : Q d .old) : dVar 2 (x0 :: x1 :: some (false,d) :: r) Q Xd:=⟨false,d,rfl,q⟩
theorem w_o2 {x0 x1 : Option (Bool × D)} {r : Ren} (q : Q d (.own [2])) : dVar 2 (x0 :: x1 :: some (true,d) :: r) Q Xd:=⟨true,d,rfl,q⟩
theorem w_v3 {x0 x1 x2 : Option (Bool × D)} {r : Ren} (q : Q d .old) : dVar 3 (x0 :: x1 :: x2 :: some (false,d) :: r) Q Xd:=⟨false,d,rfl,q⟩
theorem w_o3 {x0 x1 x2 : Option (Bool × D)} {r : Ren} (q : Q d (.own [3])) : dVar 3 (x0 :: x1 :: x2 :: some (true,d) :: r) Q Xd:=⟨true,d,rfl,q⟩
theorem w_v4 {x0 x1 x2 x3 : Option (Bool × D)} {r : Ren} (q : Q d .old) : dVar 4 (x0 :: x1 :: x2 :: x3 :: some (false,d) :: r) Q Xd:=⟨false,d,rfl,q⟩
theorem w_o4 {x0 x1 x2 x3 : Option (Bool × D)} {r : Ren} (q : Q d (.own [4])) : dVar 4 (x0 :: x1 :: x2 :: x3 :: some (true,d) :: r) Q Xd:=⟨true,d,rfl,q⟩
theorem w_v5 {x0 x1 x2 x3 x4 : Option (Bool × D)} {r : Ren} (q : Q d .old) : dVar 5 (x0 :: x1 :: x2 :: x3 :: x4 :: some (false,d) :: r) Q Xd:=⟨false,d,rfl,q⟩
theorem w_o5 {x0 x1 x2 x3 x4 : Option (Bool × D)} {r : Ren} (q : Q d (.own [5])) : dVar 5 (x0 :: x1 :: x2 :: x3 :: x4 :: some (true,d) :: r) Q Xd:=⟨true,d,rfl,q⟩
theorem w_v6 {x0 x1 x2 x3 x4 x5 : Option (Bool × D)} {r : Ren} (q : Q d .old) : dVar 6 (x0 :: x1 :: x2 :: x3 :: x4 :: x5 :: some (false,d) :: r) Q Xd:=⟨false,d,rfl,q⟩
theorem w_o6 {x0 x1 x2 x3 x4 x5 : Option (Bool × D)} {r : Ren} (q : Q d (.own [6])) : dVar 6 (x0 :: x1 :: x2 :: x3 :: x4 :: x5 :: some (true,d) :: r) Q Xd:=⟨true,d,rfl,q⟩
theorem w_v7 {x0 x1 x2 x3 x4 x5 x6 : Option (Bool × D)} {r : Ren} (q : Q d .old) : dVar 7 (x0 :: x1 :: x2 :: x3 :: x4 :: x5 :: x6 :: some (false,d) :: r) Q Xd:=⟨false,d,rfl,q⟩
theorem w_o7 {x0 x1 x2 x3 x4 x5 x6 : Option (Bool × D)} {r : Ren} (q : Q d (.own [7])) : dVar 7 (x0 :: x1 :: x2 :: x3 :: x4 :: x5 :: x6 :: some (true,d) :: r) Q Xd:=⟨true,d,rfl,q⟩
theorem w_v8 {x0 x1 x2 x3 x4 x5 x6 x7 : Option (Bool × D)} {r : Ren} (q : Q d .old) : dVar 8 (x0 :: x1 :: x2 :: x3 :: x4 :: x5 :: x6 :: x7 :: some (false,d) :: r) Q Xd:=⟨false,d,rfl,q⟩
theorem w_o8 {x0 x1 x2 x3 x4 x5 x6 x7 : Option (Bool × D)} {r : Ren} (q : Q d (.own [8])) : dVar 8 (x0 :: x1 :: x2 :: x3 :: x4 :: x5 :: x6 :: x7 :: some (true,d) :: r) Q Xd:=⟨true,d,rfl,q⟩
theorem w_v9 {x0 x1 x2 x3 x4 x5 x6 x7 x8 : Option (Bool × D)} {r : Ren} (q : Q d .old) : dVar 9 (x0 :: x1 :: x2 :: x3 :: x4 :: x5 :: x6 :: x7 :: x8 :: some (false,d) :: r) Q Xd:=⟨false,d,rfl,q⟩
end
def LEX (K : W.Frag) (t : TD) : TEX:=fun σ H Q E=>∃ H0 ν ρ Qd Xd,StOk K Z0 H0 ν ρ σ H /\ t ρ Qd Xd /\ (∀ d k v H',Qd d k -> Same H H' -> Res K Z0 ν H H' k v d -> Q v H') /\ ∀ C H',Xd C -> Same H H' -> E (.ref C) none H'
structure DEX (X : Cx) (K : W.Frag) (e : Expr) (t : TD) : Prop where
 q : PEX X e (LEX K t)
abbrev TSDX:=EndsD -> Ren -> (Ren -> Addr -> Prop) -> Prop
def LSX (K : W.Frag) (t : TSDX) : TSX:=fun En Es σ H=>∃ H0 ν ρ Dd Xr,StOk K Z0 H0 ν ρ σ H /\ t Dd ρ Xr /\ EndsOk K H0 En Dd /\ ∀ ν' ρ' σ' H' C,Xr ρ' C -> StOk K Z0 H0 ν' ρ' σ' H' -> Es σ' (.ref C) none H'
structure DSX (X : Cx) (K : W.Frag) (s : Stmt) (t : TSDX) : Prop where
 q : PSX X s (LSX K t)
structure DSXs (X : Cx) (K : W.Frag) (s : List Stmt) (t : TSDX) : Prop where
 q : PSXs X s (LSX K t)
theorem pex_imp {X : Cx} {e : Expr} {t t' : TEX} (h : PEX X e t) (i : ∀ σ H Q E,t' σ H Q E -> t σ H Q E) : PEX X e t':=⟨fun pins s σ H Q E I w=>h.h pins s σ H Q E I (i σ H Q E w)⟩
theorem psx_imp {X : Cx} {e : Stmt} {t t' : TSX} (h : PSX X e t) (i : ∀ D E σ H,t' D E σ H -> t D E σ H) : PSX X e t':=⟨fun pins s σ H D E I w=>h.h pins s σ H D E I (i D E σ H w)⟩
section
variable {X : Cx} {K : W.Frag} {pos : Pos} {e : Expr}
def xCl (sp : SpD) (t : TDA) : TD:=fun ρ Q Xd=>t ρ (fun ds _=>sp ds (fun d o=>Q d (kRet o)) Xd) Xf
theorem dex_call {x : Str} {ps : List Str} {k : Nat} {sp : SpD} {p : Pos} {es : List Expr} {t : TDA} (D : DfE X.prog X.w X.K X.mg X.base x ps k (SpL K sp)) (F : Flat X) (hr : Room k X.A) (ha : DA X.nox K E0 (e :: es) t) (hg : Gl X x:=by rfl) (hdb : (x == ("__debug__" : Str)) = false:=by decide)
  (he : starEach (e :: es) X.env = (false,eval e X.env) :: starEach es X.env:=by rfl) (hpl : (backTo pos (starEach es X.env)).any (·.1) = false:=by rfl) : DEX X K (.Call (.Name x p) (e :: es) [] pos) (xCl sp t):=⟨pex_imp (pex_call D F hr ha.q hg hdb he hpl) fun σ H Q E h=>by
 obtain ⟨H0,ν,ρ,Qd,Xd,S,h1,q,x⟩:=h
 refine ⟨H0,ν,ρ,_,Xf,S,h1,fun ds k vs H1 g1 e1 r1=>?_,fun _ _ z _=>z.elim⟩
 exact ⟨ds,_,Xd,r1.dens,g1,fun d o v H' a1 a2 a3=>q _ _ _ _ a1 (e1.trans a2) (rr_res e1 a3),fun C H' a1 a2=>x C H' a1 (e1.trans a2)⟩⟩
def xTp2 (ta tb : TD) : TD:=fun ρ Q Xd=>ta ρ (fun d k=>tb ρ (fun e l=>Q (.tuple [d,e]) (kcons d k (kcons e l (.own [])))) Xd) Xf
theorem dex_tup2 {a b : Expr} {ta tb : TD} {x1} (ha : DE X.nox K E0 a ta) (hb : DEX X K b tb) (hs : starEach [a,b] X.env = [(false,eval a X.env),(false,eval b X.env)]:=by rfl) : DEX X K (.Tuple [a,b] x1 pos) (xTp2 ta tb):=⟨pex_imp (pex_tup2 ha.q hb.q hs) fun σ H Q E h=>by
 obtain ⟨H0,ν,ρ,Qd,Xd,S,h1,q,x⟩:=h
 refine ⟨H0,ν,ρ,_,Xf,S,h1,fun d k v H1 g1 e1 r1=>?_,fun _ _ z _=>z.elim⟩
 refine ⟨H0,ν,ρ,_,Xd,S.same e1,g1,fun d2 k2 v2 H2 g2 e2 r2 p hp=>?_,fun C H' a b=>x C H' a (e1.trans b)⟩
 have hl2 : ∀ a,Hd Z0 ν a -> Mu H2 a:=(S.same (e1.trans e2)).hl
 have R2 : RsL K Z0 ν H1 H2 (kcons d2 k2 (.own [])) [v2] [d2]:=rsl_cons (S.same e1).hl S.dj e2 (Same.refl H2) r2 ⟨[],.nil,nodup_nil,fun _ z=>by cases z⟩
 exact q _ _ _ _ g2 ((e1.trans e2).trans (Same.new hp)) (res_newT hl2 (e1.trans e2) hp (rsl_cons S.hl S.dj e1 e2 r1 R2))⟩
def xRt (te : TD) : TSDX:=fun Dd ρ Xr=>te ρ (fun d k=>Dd.rt d (rtK d k)) (Xr ρ)
theorem dsx_ret {te : TD} (h : DEX X K e te) : DSX X K (.Return (some e) pos) (xRt te):=⟨psx_imp (psx_ret h.q) fun D E σ H h=>by
 obtain ⟨H0,ν,ρ,Dd,Xr,S,h1,ok,x⟩:=h
 exact ⟨H0,ν,ρ,_,_,S,h1,fun d k v H' g1 g2 g3=>ok.rt _ _ _ _ g1 (S.sm.trans g2) (rr_of S g2 g3),fun C H' a b=>x _ _ _ _ _ a (S.same b)⟩⟩
theorem dsxs_one {s : Stmt} {t : TSDX} (h : DSX X K s t) : DSXs X K [s] t:=⟨psxs_one h.q⟩
def xIf (tc : TDT) (a b : TSDX) : TSDX:=fun Dd ρ Xr=>tc ρ (fun c=>if c = true then a Dd ρ Xr else b Dd ρ Xr) Xf
def opq (a : Addr) : D:=.dict [(.bool true,.int (a : Nat))]
def onlyRt (Dd : EndsD) : EndsD:={ nx:=fun _=>False,rt:=Dd.rt,bk:=fun _=>False,ct:=fun _=>False }
def dTryN (K : W.Frag) (mg : Str -> Option Value) (R : Addr) (i : Nat) (tb : TSDX) (ts : Addr -> Addr -> TSD) : TSD:=fun Dd ρ _=>tb Dd ρ fun ρ' C=>Fits K C R /\ (∃ x,ExC K mg x C) /\ ExK K C /\ ∀ ea,ts ea C (onlyRt Dd) (ρ'.set i (some (false,opq ea))) Xf
theorem dps_tryN (i : Nat) {E : XK} {x n : Str} {R : Addr} {b0 : Stmt} {body suite : List Stmt} {tb : TSDX} {ts : Addr -> Addr -> TSD} {np hpos : Pos} {mg : Str -> Option Value} (hK : X.K = K) (hmg : X.mg = mg) (F : Flat X) (hN : X.N.Nodup) (hg : Gl X x) (hm : mg x = some (.ref R)) (hb : DSXs X K body tb)
  (hs : ∀ ea oe C y,XOf oe C -> ExC K mg y C -> ExK K C -> DSs (X.within ea oe) K E0 (b0 :: suite) (ts ea C)) (hi : X.N[i]? = some n:=by rfl) (hln : X.env.kindOf n = some .local:=by rfl) (hln2 : X.env.scope.names.lookup n = some .local:=by rfl) (hdb : (x == ("__debug__" : Str)) = false:=by decide) :
  DS X K E (.Try body [.ExceptHandler (some (.Name x np)) (some n) (b0 :: suite) hpos] [] [] pos) (dTryN K mg R i tb ts):=⟨qs_imp (qps_tryN i K hK mg hmg F hN hg hm hb.q (fun ea oe C y h1 h2 h3=>(hs ea oe C y h1 h2 h3).q) hi hln hln2 hdb) fun En σ H h=>by
 obtain ⟨H0,ν,ρ,Dd,Xd,S,h1,ok,x⟩:=h
 refine ⟨H0,ν,ρ,Dd,_,S,h1,ok,fun ν' ρ' σ' H' C a S'=>?_⟩
 obtain ⟨a1,⟨y,a2⟩,a3,a4⟩:=a
 refine ⟨C,y,rfl,a1,a2,a3,fun ea _=>⟨H0,ν',_,onlyRt Dd,Xf,S'.setOld i (v:=.ref ea) (d:=opq ea) (.opq ea),a4 ea,⟨fun _ _ _ _ z=>z.elim,fun _ _ _ _ z=>z.elim,fun _ _ _ _ z=>z.elim,ok.rt⟩,fun _ _ z _=>z.elim⟩⟩⟩
def dIsX (K : W.Frag) (ea C D : Addr) (te : TD) : TD:=fun ρ Q Xd=>te ρ (fun d _=>d = opq ea /\ ∃ b,PySem.W.kitOne K (.ref C) (.ref D) = some b /\ Q (.bool b) .old) Xd
theorem dn_opq {H : Hp} {v : V} {a : Addr} (h : Dn K H v (opq a)) : v = .ref a:=by
 unfold opq at h
 generalize hd : (PyData.dict [(.bool true,.int ((a : Nat) : Int))]) = d at h
 cases h with
 | opq b =>
  have : ((a : Nat) : Int) = ((b : Nat) : Int):=by injection hd with z; injection z with z _; injection z with _ z; injection z
  have : a = b:=by exact_mod_cast this
  rw [this]
 | _=>cases hd
theorem dpe_isX {E : XK} {ea C D : Addr} {oe : Obj} {x y : Str} {te : TD} {p p2 : Pos} {ex : Expr} (hK : X.K = K) (hp : (ea,oe) ∈ X.pn) (hc : XOf oe C) (c : ExC K X.mg x C) (k : ExK K C) (hg : Gl X "isinstance") (hm : X.mg "isinstance" = none) (ha : DE X K E ex te) (hg2 : Gl X y) (hm2 : X.mg y = some (.ref D)) (hd : (y == ("__debug__" : Str)) = false:=by decide)
  (he : starEach [ex,.Name y p2] X.env = (false,eval ex X.env) :: starEach [.Name y p2] X.env:=by rfl) (hpl : (backTo pos (starEach [.Name y p2] X.env)).any (·.1) = false:=by rfl) : DE X K E (.Call (.Name "isinstance" p) [ex,.Name y p2] [] pos) (dIsX K ea C D te) :=
 ⟨qe_imp (qpe_callB (call_isX hK hp hc.1 c k) hg hm (by decide +kernel) (qpa_cons ha.q (hs:=he) (qpa_cons (qpe_cls hg2 hm2 hd) qpa_nil)) (by decide) (by decide) he hpl) fun σ H Q h=>by
  obtain ⟨H0,ν,ρ,Qd,Xd,S,h1,q,x⟩:=h
  refine ⟨H0,ν,ρ,_,Xd,S,h1,fun d l v H' g1 g2 g3=>?_,x⟩
  obtain ⟨rfl,b,hb,g1⟩:=g1
  exact ⟨.ref D,b,by rw [dn_opq g3.den],.inl ⟨D,rfl,hb⟩,q _ _ _ _ g1 g2 (.bl _)⟩⟩
def dIsXT (K : W.Frag) (ea C : Addr) (Ds : List Addr) (te : TD) : TD:=fun ρ Q Xd=>te ρ (fun d _=>d = opq ea /\ ∃ b,PySem.W.kitAny K (.ref C) (Ds.map Value.ref) = some b /\ Q (.bool b) .old) Xd
theorem dpe_isXT {E : XK} {ea C : Addr} (Ds : List Addr) {oe : Obj} {x : Str} {te : TD} {p p2 : Pos} {ex : Expr} {es : List Expr} {x1} (hK : X.K = K) (hp : (ea,oe) ∈ X.pn) (hc : XOf oe C) (c : ExC K X.mg x C) (k : ExK K C) (hg : Gl X "isinstance") (hm : X.mg "isinstance" = none) (ha : DE X K E ex te) (hcl : QA X es (fun _ H Q=>Q (Ds.map V.ref) H)) (hl : Ds.length <= 1000)
  (he : starEach [ex,.Tuple es x1 p2] X.env = (false,eval ex X.env) :: starEach [.Tuple es x1 p2] X.env:=by rfl) (he2 : starEach [.Tuple es x1 p2] X.env = (false,eval (.Tuple es x1 p2) X.env) :: starEach [] X.env:=by rfl) (hpl : (backTo pos (starEach [.Tuple es x1 p2] X.env)).any (·.1) = false:=by rfl) : DE X K E (.Call (.Name "isinstance" p) [ex,.Tuple es x1 p2] [] pos) (dIsXT K ea C Ds te) :=
 ⟨qe_imp (qpe_callB (call_isXT hK hp hc.1 c k) hg hm (by decide +kernel) (qpa_cons ha.q (hs:=he) (qpa_cons (qpe_tup hcl) (hs:=he2) qpa_nil)) (by decide) (by decide) he hpl) fun σ H Q h=>by
  obtain ⟨H0,ν,ρ,Qd,Xd,S,h1,q,x⟩:=h
  refine ⟨H0,ν,ρ,_,Xd,S,h1,fun d l v H' g1 g2 g3=>?_,x⟩
  obtain ⟨rfl,b,hb,g1⟩:=g1
  refine ⟨by rw [length_map]; exact Nat.le_trans hl (by decide),fun tp htp=>⟨tp,Ds,b,by rw [dn_opq g3.den],upd_same,hb,q _ _ _ _ g1 (g2.trans (Same.new htp)) (.bl _)⟩⟩⟩
end
theorem lc_map {f : D -> Els -> (Els -> Prop) -> Prop} {ds : List D} {ok : Bool} {Q : QD} (h : D -> D) (hs : ∀ d ∈ ds,∀ es (Q' : Els -> Prop),es.length < 1000000 -> Q' (es ++ [(h d,true)]) -> f d es Q') (hm : ds.length <= 1000000) (q : Q (.list (ds.map h)) (.own [])) : LcD f ds ok Q:=by
 refine go_map (fun d=>(h d,true)) hs hm ?_
 have e1 : ((ds.map fun d=>(h d,true)).map (·.1)) = ds.map h:=by rw [map_map]; rfl
 have e2 : ((ds.map fun d=>(h d,true)).all (·.2)) = true:=by rw [List.all_map]; exact all_eq_true.mpr fun _ _=>rfl
 rw [e1,if_pos e2]; exact q
section
variable {Q : QD} {k : Kd} {X : Cx} {K : W.Frag}
theorem cut_from {x : List D} {j : Nat} {z : Int} (hz : z = j) : cutD x (some z) none = x.drop j:=by
 subst hz
 unfold cutD
 rw [HT.sIx_nat,HT.sIx_none]
 by_cases h : j <= x.length
 ·rw [Nat.min_eq_left h]
  exact List.take_of_length_le (by rw [length_drop]; exact Nat.le_refl _)
 ·rw [Nat.min_eq_right (by omega),List.drop_eq_nil_of_le (Nat.le_refl _),List.drop_eq_nil_of_le (by omega)]; simp
theorem cut_to {x : List D} {j : Nat} {z : Int} (hz : z = j) : cutD x none (some z) = x.take j:=by
 subst hz
 unfold cutD
 rw [HT.sIx_nat,HT.sIx_none,List.drop_zero,Nat.sub_zero]
 by_cases h : j <= x.length
 ·rw [Nat.min_eq_left h]
 ·rw [Nat.min_eq_right (by omega),List.take_of_length_le (Nat.le_refl _),List.take_of_length_le (by omega)]
theorem w_slI {x : List Int} {lo hi : Option Int} (h : Q (.list (cutD (x.map PyData.int) lo hi)) (kels (cutD (x.map PyData.int) lo hi) k)) : fSl (iD x) k lo hi Q:=h
theorem w_slG {x : List (List Int)} {lo hi : Option Int} (h : Q (.list (cutD (x.map iD) lo hi)) (kels (cutD (x.map iD) lo hi) k)) : fSl (gD x) k lo hi Q:=h
theorem list_iD {x : List Int} : PyData.list (x.map PyData.int) = iD x:=rfl
theorem list_gD {x : List (List Int)} : PyData.list (x.map iD) = gD x:=rfl
theorem dop_fdivB : DOp X K (binaryOp .FloorDiv) (fI CDivB fun i j=>.int (i / j)):=⟨_,op_fdivB,prim_int⟩
end
section
variable {te t1 : TD} {Dd : EndsD} {ρ : Ren} {Xd : XD} {i : Nat} {d e : D} {k : Kd}
def AppK (ds : List D) (i : Nat) (ρ : Ren) (Dd : EndsD) (d : D) : Kd -> Prop
 | .own s=>i ∉ s /\ Dd.nx ((dropS ρ s).set i (some (true,.list (ds ++ [d]))))
 | _=>False
def PutK (i : Nat) (ρ : Ren) (Dd : EndsD) (x : D) : Kd -> Prop
 | .own s=>i ∉ s /\ Dd.nx ((dropS ρ s).set i (some (true,x)))
 | _=>False
theorem w_putK {x : D} {s : List Nat} (h : i ∉ s /\ Dd.nx ((dropS ρ s).set i (some (true,x)))) : PutK i ρ Dd x (.own s):=h
theorem w_put1 (h : te ρ (fun d k=>∃ ds,ρ[i]? = some (some (true,.list ds)) /\ t1 ρ (fun y _=>onI y fun z=>∃ j,ixN ds.length z = some j /\ PutK i ρ Dd (.list (ds.set j d)) (eff d k)) Xd) Xd) : dPut1 i t1 te Dd ρ Xd:=by
 have e : (fun (d : D) (k : Kd)=>∃ ds,ρ[i]? = some (some (true,.list ds)) /\ t1 ρ (fun y _=>onI y fun z=>∃ j,ixN ds.length z = some j /\ PutK i ρ Dd (.list (ds.set j d)) (eff d k)) Xd) = fun d k=>∃ ds,ρ[i]? = some (some (true,.list ds)) /\ t1 ρ (fun y _=>∃ z j,y = .int z /\ ixN ds.length z = some j /\ match eff d k with
  | .own s=>i ∉ s /\ Dd.nx ((dropS ρ s).set i (some (true,.list (ds.set j d))))
  | _=>False) Xd:=by
  funext d k
  congr 1
  funext ds
  congr 2
  funext y _
  refine propext ⟨fun h=>?_,fun h=>?_⟩
  ·cases y with
   | int z =>
    obtain ⟨j,h1,h2⟩:=h
    refine ⟨z,j,rfl,h1,?_⟩
    cases he : eff d k <;> rw [he] at h2 <;> exact h2
   | _=>exact h.elim
  ·obtain ⟨z,j,rfl,h1,h2⟩:=h
   refine ⟨j,h1,?_⟩
   cases he : eff d k <;> rw [he] at h2 <;> exact h2
 rw [e] at h
 exact h
theorem unpK_own {is : List Nat} {ds : List D} : unpK ρ is ds (.own []) = setAll true ρ is ds:=by
 unfold unpK eff
 split <;> first | rfl | (split at * <;> simp_all)
theorem unpK_flat {is : List Nat} {ds : List D} (h : flats ds = true) : unpK ρ is ds k = setAll true ρ is ds:=by
 unfold unpK
 have : eff (.tuple ds) k = .own []:=eff_tup h
 rw [this]
theorem setAll_cons {b : Bool} {is : List Nat} {ds : List D} : setAll b ρ (i :: is) (d :: ds) = setAll b (ρ.set i (some (b && !flat d,d))) is ds:=rfl
theorem setAll_nil {b : Bool} {ds : List D} : setAll b ρ [] ds = ρ:=rfl
theorem app_iD {r : List Int} {x : Int} : PyData.list (r.map .int ++ [.int x]) = iD (r ++ [x]):=by unfold iD; rw [map_append]; rfl
theorem app_gD {g : List (List Int)} {r : List Int} : PyData.list (g.map iD ++ [iD r]) = gD (g ++ [r]):=by unfold gD; rw [map_append]; rfl
end
variable {α : Type}
theorem go_fltA {f : D -> Els -> (Els -> Prop) -> Prop} {Q : Els -> Prop} (F G : α -> D) (p : α -> Bool) : ∀ (L : List α) (es : Els),(∀ a ∈ L,∀ es (Q' : Els -> Prop),es.length < 1000000 -> Q' (if p a = true then es ++ [(G a,true)] else es) -> f (F a) es Q') -> es.length + L.length <= 1000000 -> Q (es ++ (L.filter p).map fun a=>(G a,true)) -> go f (L.map F) es Q
 | [],es,_,_,q=>by
  show Q es
  simpa using q
 | a :: r,es,hs,hm,q=>by
  rw [length_cons] at hm
  refine hs a mem_cons_self es _ (by omega) ?_
  refine go_fltA F G p r _ (fun b hb=>hs b (mem_cons_of_mem _ hb)) ?_ ?_
  ·split
   ·rw [length_append,List.length_singleton]; omega
   ·omega
  ·rw [List.filter_cons] at q
   by_cases hp : p a = true
   ·rw [if_pos hp] at q ⊢
    rw [append_assoc]; exact q
   ·rw [if_neg hp] at q ⊢; exact q
theorem lc_fltA {f : D -> Els -> (Els -> Prop) -> Prop} {ok : Bool} {Q : QD} {L : List α} (F G : α -> D) (p : α -> Bool) (hs : ∀ a ∈ L,∀ es (Q' : Els -> Prop),es.length < 1000000 -> Q' (if p a = true then es ++ [(G a,true)] else es) -> f (F a) es Q') (hm : L.length <= 1000000) (q : Q (.list ((L.filter p).map G)) (.own [])) : LcD f (L.map F) ok Q:=by
 refine go_fltA F G p L [] hs (by simpa using hm) ?_
 have e1 : ((((L.filter p).map fun a=>(G a,true)) : Els).map (·.1)) = (L.filter p).map G:=by rw [map_map]; rfl
 have e2 : ((((L.filter p).map fun a=>(G a,true)) : Els).all (·.2)) = true:=by rw [List.all_map]; exact all_eq_true.mpr fun _ _=>rfl
 rw [nil_append,e1,if_pos e2]; exact q
theorem lc_mapA {f : D -> Els -> (Els -> Prop) -> Prop} {ok : Bool} {Q : QD} {L : List α} (F G : α -> D) (hs : ∀ a ∈ L,∀ es (Q' : Els -> Prop),es.length < 1000000 -> Q' (es ++ [(G a,true)]) -> f (F a) es Q') (hm : L.length <= 1000000) (q : Q (.list (L.map G)) (.own [])) : LcD f (L.map F) ok Q :=
 lc_fltA F G (fun _=>true) hs hm (by rw [List.filter_eq_self.mpr fun _ _=>rfl]; exact q)
def dJn (t : TSD) : TSD:=t
theorem dps_jn {X : Cx} {K : W.Frag} {E : XK} {s : Stmt} {t : TSD} (h : DS X K E s t) : DS X K E s (dJn t):=h
theorem w_jn {t : TSD} {Dd : EndsD} {ρ : Ren} {Xd : XD} (I : Ren -> Prop) (h1 : ∀ N : Ren -> Prop,(∀ ρ',I ρ' -> N ρ') -> t { Dd with nx:=N } ρ Xd) (h2 : ∀ ρ',I ρ' -> Dd.nx ρ') : dJn t Dd ρ Xd:=h1 Dd.nx h2
theorem bools_map (f : α -> Bool) : ∀ (L : List α),boolsD (L.map fun a=>PyData.bool (f a)) = some (L.map f)
 | []=>rfl
 | a :: L=>by
  have:=bools_map f L
  simp [boolsD,this]
section
variable {K : W.Frag} {R : Addr} {tb : TSDX} {ts : TSD} {Dd : EndsD} {ρ : Ren} {Xd : XD} {Xr : Ren -> Addr -> Prop} {te : TD} {tl : TDA} {sp : SpD} {Q : QD}
theorem w_tryN {mg : Str -> Option Value} {i : Nat} {ts : Addr -> Addr -> TSD} (h : tb Dd ρ fun ρ' C=>Fits K C R /\ (∃ x,ExC K mg x C) /\ ExK K C /\ ∀ ea,ts ea C (onlyRt Dd) (ρ'.set i (some (false,opq ea))) Xf) : dTryN K mg R i tb ts Dd ρ Xd:=h
theorem w_xCl (h : tl ρ (fun ds _=>sp ds (fun d o=>Q d (kRet o)) Xd) Xf) : xCl sp tl ρ Q Xd:=h
theorem w_xTp {ta tb : TD} (h : ta ρ (fun d k=>tb ρ (fun e l=>Q (.tuple [d,e]) (kcons d k (kcons e l (.own [])))) Xd) Xf) : xTp2 ta tb ρ Q Xd:=h
theorem w_xRt (h : te ρ (fun d k=>Dd.rt d (rtK d k)) (Xr ρ)) : xRt te Dd ρ Xr:=h
end
theorem lay_gD (g : List (List Int)) : (gD g).canLay0 = true:=lay_dG g
theorem depth_gD (g : List (List Int)) : (gD g).depth <= 32:=depth_dG g
theorem frz1_0 {b : Bool} {d : D} {r : Ren} : frz1 0 (some (b,d) :: r) = some (false,d) :: r:=rfl
theorem frz1_s {i : Nat} {x : Option (Bool × D)} {r : Ren} : frz1 (i + 1) (x :: r) = x :: frz1 i r:=by
 unfold frz1
 rw [List.getElem?_cons_succ]
 cases h : r[i]? with
 | none=>rfl
 | some y=>cases y with
  | none=>rfl
  | some p=>rfl
section
variable {K : W.Frag} {e : Expr} {y : Str}
theorem StOk.junk {Z : Addr -> Prop} {H0 H : Hp} {ν : Nat -> List Addr} {ρ : Ren} {σ : L2.St} (S : StOk K Z H0 ν ρ σ H) {t : Nat} (h : ∀ b d,ρ[t]? ≠ some (some (b,d))) (v : Option V) : StOk K Z H0 ν ρ (σ.set t v) H where
 sm:=S.sm
 len:=by rw [length_set]; exact S.len
 sl:=fun j b d hj=>by
  obtain ⟨u,h1,h2⟩:=S.sl j b d hj
  exact ⟨u,by rw [List.getElem?_set_ne (fun e=>by subst e; exact h b d hj)]; exact h1,h2⟩
 nd:=S.nd
 dj:=S.dj
 fr:=S.fr
 zf:=S.zf
theorem onI_ex {y : D} {Q : Int -> Prop} (h : onI y Q) : ∃ z,y = .int z /\ Q z:=by
 cases y with
 | int z=>exact ⟨z,rfl,h⟩
 | _=>exact h.elim
theorem mix_get {ds ds' : List D} (hl : ds'.length = ds.length) {k : Nat} {row : D} (h : ds[k]? = some row) : (ds'.take k ++ ds.drop k)[k]? = some row:=by
 have hk:=(List.getElem?_eq_some_iff.mp h).1
 rw [List.getElem?_append_right (by rw [length_take]; omega),length_take,List.getElem?_drop,show k + (k - min k ds'.length) = k by omega]; exact h
theorem mix_set {ds ds' : List D} (hl : ds'.length = ds.length) {k : Nat} {F : D} (h : ds'[k]? = some F) : (ds'.take k ++ ds.drop k).set k F = ds'.take (k + 1) ++ ds.drop (k + 1):=by
 have hk:=(List.getElem?_eq_some_iff.mp h).1
 refine List.ext_getElem? fun m=>?_
 by_cases e : m = k
 ·subst e
  rw [List.getElem?_set_self (by rw [length_append,length_take,length_drop]; omega),List.getElem?_append_left (by rw [length_take]; omega),List.getElem?_take,if_pos (by omega),h]
 ·rw [List.getElem?_set_ne (fun z=>e z.symm)]
  by_cases e2 : m < k
  ·rw [List.getElem?_append_left (by rw [length_take]; omega),List.getElem?_append_left (by rw [length_take]; omega),List.getElem?_take,List.getElem?_take,if_pos e2,if_pos (by omega)]
  ·rw [List.getElem?_append_right (by rw [length_take]; omega),List.getElem?_append_right (by rw [length_take]; omega),length_take,length_take,List.getElem?_drop,List.getElem?_drop]
   congr 1; omega
end
section
variable {k : Expr}
theorem lay_iD (r : List Int) : (iD r).canLay0 = true:=lay_ints r
theorem depth_iD (r : List Int) : (iD r).depth <= 32:=by
 show PyData.depthAll _ + 1 <= 32
 have : PyData.depthAll (r.map PyData.int) = 0:=depth_ints r
 omega
theorem kcons_int {x : Int} {k : Kd} : kcons (.int x) k (.own []) = .own []:=kcons_flat rfl
theorem kcons_boo {x : Bool} {k : Kd} : kcons (.bool x) k (.own []) = .own []:=kcons_flat rfl
theorem kcons_st {x : Str} {k : Kd} : kcons (.str x) k (.own []) = .own []:=kcons_flat rfl
theorem kcons_nn {k : Kd} : kcons .none k (.own []) = .own []:=kcons_flat rfl
theorem one_iD {x : Int} : PyData.list [PyData.int x] = iD [x]:=rfl
theorem two_iD {x y : Int} : PyData.list [PyData.int x,PyData.int y] = iD [x,y]:=rfl
end
section
variable {X : Cx} {K : W.Frag} {E : XK} {pos p1 px apos cpos : Pos} {e e1 : Expr} {te t1 : TD} {x : Str}
theorem StOk.row {H0 H H2 : Hp} {ν : Nat -> List Addr} {ρ : Ren} {σ : L2.St} {i j : Nat} {ds es : List D} {a : Addr} {us : List V} {ns : List Addr} {s : List Nat} (S : StOk K Z0 H0 ν ρ σ H) (h1 : ρ[i]? = some (some (true,.list ds))) (g1 : σ[i]? = some (some (.ref a))) (g2 : H a = some (.lst us)) (g3 : Ows K H us ds ns) (g4 : ν i = a :: ns) (g5 : a ∉ ns) (g6 : ns.Nodup)
  (hj : ds[j]? = some (.list es)) (e : Same H H2) (hs : i ∉ s) :
  ∃ b ws ms0,us[j]? = some (.ref b) /\ H b = some (.lst ws) /\ Ows K H ws es ms0 /\ b ∉ ms0 /\ ms0.Nodup /\ (∀ y ∈ b :: ms0,y ∈ ns) /\ ∀ (ws' : List V) (es' : List D) (ms : List Addr),Ows K (upd H2 b (.lst ws')) ws' es' ms -> ms.Nodup -> (∀ y ∈ ms,y ∈ ms0 \/ H y = none \/ ∃ l ∈ s,y ∈ ν l) ->
   ∃ ν',StOk K Z0 H0 ν' ((dropS ρ s).set i (some (true,.list (ds.set j (.list es'))))) σ (upd H2 b (.lst ws')):=by
 obtain ⟨n1,n2,n3,u,q1,q2,q3,q4,_⟩:=ows_split g3 hj
 have nu:=g6
 rw [q1,nodup_append,nodup_append] at nu
 cases q3 with
 | lst hb r =>
  rename_i b ws n2
  have nb:=nodup_cons.mp nu.2.1.1
  have inr : ∀ y ∈ b :: n2,y ∈ ns:=fun y hy=>by rw [q1]; exact mem_append_right _ (mem_append_left _ hy)
  refine ⟨b,ws,n2,q2,hb,r,nb.1,nb.2,inr,fun ws' es' ms hm nd fr=>?_⟩
  have hbn : b ∈ ns:=inr b mem_cons_self
  have hab : a ≠ b:=fun z=>g5 (z ▸ hbn)
  have in13 : ∀ y,y ∈ n1 \/ y ∈ n3 -> y ∈ ns:=fun y hy=>by rw [q1]; rcases hy with hy | hy <;> simp [hy]
  have ne13 : ∀ y,y ∈ n1 \/ y ∈ n3 -> ∀ z ∈ b :: n2,y ≠ z:=fun y hy z hz e=>by
   subst e
   rcases hy with hy | hy
   ·exact nu.2.2 y hy y (mem_append_left _ hz) rfl
   ·exact nu.2.1.2.2 y hz y hy rfl
  have ms13 : ∀ y,y ∈ n1 \/ y ∈ n3 -> y ∉ ms:=fun y hy z=>by
   rcases fr y z with z | z | ⟨l,hl,z⟩
   ·exact ne13 y hy y (mem_cons_of_mem _ z) rfl
   ·obtain ⟨us,w⟩:=g3.there y (in13 y hy); rw [z] at w; cases w
   ·rw [S.dj i l y (by rw [g4]; exact mem_cons_of_mem _ (in13 y hy)) z] at hs; exact hs hl
  have msa : a ∉ ms:=fun z=>by
   rcases fr a z with z | z | ⟨l,hl,z⟩
   ·exact g5 (inr a (mem_cons_of_mem _ z))
   ·rw [g2] at z; cases z
   ·rw [S.dj i l a (by rw [g4]; exact mem_cons_self) z] at hs; exact hs hl
  have msb : b ∉ ms:=fun z=>by
   rcases fr b z with z | z | ⟨l,hl,z⟩
   ·exact nb.1 z
   ·rw [hb] at z; cases z
   ·rw [S.dj i l b (by rw [g4]; exact mem_cons_of_mem _ hbn) z] at hs; exact hs hl
  have k1 : ∀ (l : List Addr),(∀ y ∈ l,y ∈ n1 \/ y ∈ n3) -> Kept l H (upd H2 b (.lst ws')):=fun l hl=>kept_upd e hb fun y hy=>⟨g3.there y (in13 y (hl y hy)),ne13 y (hl y hy) b mem_cons_self⟩
  have C : Ow K (upd H2 b (.lst ws')) (.ref b) (.list es') (b :: ms):=.lst upd_same hm
  have us' : us.set j (.ref b) = us:=by
   apply List.ext_getElem?
   intro m
   by_cases z : m = j
   ·subst z; rw [List.getElem?_set_self (len_of q2),q2]
   ·rw [List.getElem?_set_ne (Ne.symm z)]
  have A:=q4 _ (k1 n1 fun y hy=>.inl hy) (k1 n3 fun y hy=>.inr hy) (.ref b) _ _ C
  rw [us'] at A
  refine ⟨_,S.mut s i (ms:=a :: (n1 ++ ((b :: ms) ++ n3))) (v:=.ref a) g1 (len_of h1) (fun y o hy hn=>?_) (.lst (by rw [upd_ne hab]; exact e _ _ g2) A) ?_ ?_ hs (gone_ok S hs e (by rw [g4]; exact mem_cons_of_mem _ hbn))⟩
  ·rw [upd_ne (fun z=>hn (by rw [z,g4]; exact mem_cons_of_mem _ hbn))]; exact e _ _ hy
  ·refine nodup_cons.mpr ⟨fun z=>?_,nodup_append.mpr ⟨nu.1,nodup_append.mpr ⟨nodup_cons.mpr ⟨msb,nd⟩,nu.2.1.2.1,fun x hx y hy z=>?_⟩,fun x hx y hy z=>?_⟩⟩
   ·rcases mem_append.mp z with z | z
    ·exact g5 (in13 a (.inl z))
    ·rcases mem_append.mp z with z | z
     ·rcases mem_cons.mp z with z | z
      ·exact hab z
      ·exact msa z
     ·exact g5 (in13 a (.inr z))
   ·subst z
    rcases mem_cons.mp hx with z | z
    ·exact ne13 x (.inr hy) b mem_cons_self z
    ·exact ms13 x (.inr hy) z
   ·subst z
    rcases mem_append.mp hy with hy | hy
    ·rcases mem_cons.mp hy with z | z
     ·exact ne13 x (.inl hx) b mem_cons_self z
     ·exact ms13 x (.inl hx) z
    ·exact nu.2.2 x hx x (mem_append_right _ hy) rfl
  ·intro y hy
   have tk : ∀ y ∈ ns,y ∈ ν i:=fun y hy=>by rw [g4]; exact mem_cons_of_mem _ hy
   rcases mem_cons.mp hy with rfl | hy
   ·exact .inl (by rw [g4]; exact mem_cons_self)
   ·rcases mem_append.mp hy with hy | hy
    ·exact .inl (tk y (in13 y (.inl hy)))
    ·rcases mem_append.mp hy with hy | hy
     ·rcases mem_cons.mp hy with rfl | hy
      ·exact .inl (tk _ hbn)
      ·rcases fr y hy with z | z | z
       ·exact .inl (tk y (inr y (mem_cons_of_mem _ z)))
       ·exact .inr (.inl z)
       ·exact .inr (.inr z)
     ·exact .inl (tk y (in13 y (.inr hy)))
def App2K (ds es : List D) (j i : Nat) (ρ : Ren) (Dd : EndsD) (d : D) : Kd -> Prop
 | .own s=>i ∉ s /\ Dd.nx ((dropS ρ s).set i (some (true,.list (ds.set j (.list (es ++ [d]))))))
 | _=>False
def dApp2 (i : Nat) (t1 te : TD) : TSD:=fun Dd ρ Xd=>∃ ds,ρ[i]? = some (some (true,.list ds)) /\ t1 ρ (fun y1 _=>onI y1 fun z1=>∃ (j1 : Nat) (es : List D),ixN ds.length z1 = some j1 /\ ds[j1]? = some (.list es) /\ es.length < 1000000 /\ te ρ (fun d k=>App2K ds es j1 i ρ Dd d (eff d k)) Xd) Xd
theorem dps_app2 (i : Nat) (hK : X.K = K) (ho : QE X (.Name x px) (tVar i)) (h1 : DE X K E e1 t1) (he : DE X K E e te) (hpl : PlainIx e1) (hs : starEach [e] X.env = [(false,eval e X.env)]) (hbase : attributeBase (.Subscript (.Name x px) e1 p1) "append" X.env (eval (.Subscript (.Name x px) e1 p1) X.env) = eval (.Subscript (.Name x px) e1 p1) X.env) (hline : (apos.endLine == cpos.line) = true)
  (hsw : swapsWith (.Call (.Attribute (.Subscript (.Name x px) e1 p1) "append" apos) [e] [] cpos) none pos.line X.env = pure false:=by rfl) : DS X K E (.Expr (.Call (.Attribute (.Subscript (.Name x px) e1 p1) "append" apos) [e] [] cpos) pos) (dApp2 i t1 te):=⟨qs_imp (qps_expr (qpm_appendK K hK (qpe_ix (ix_listK K hK) ho h1.q hpl) he.q hs hbase hline) hsw) fun En σ H h=>by
 obtain ⟨H0,ν,ρ,Dd,Xd,S,⟨ds,h1,h2⟩,ok,x⟩:=h
 obtain ⟨a,us,ns,g1,g2,g3,g4,g5,g6⟩:=own_list S h1
 refine ⟨_,g1,H0,ν,ρ,_,Xd,S,h2,fun y l w H1 q1 e1 r1=>?_,x⟩
 obtain ⟨z,rfl,j,es,hj,hes,hl,q1⟩:=onI_ex q1
 obtain ⟨n1,n2,n3,u,_,hu,hw,_⟩:=ows_split g3 hes
 cases hw with
 | @lst b ws _ m hb hr =>
  refine ⟨a,us,z,.ref b,rfl,dn_int r1.den,SqL.of (e1 _ _ g2),atI_of (by rw [g3.den.length]; exact hj) hu,tyl (SqL.of (e1 _ _ hb)),H0,ν,ρ,_,Xd,S.same e1,q1,fun d k v H2 q2 e2 r2=>?_,x⟩
  generalize ek : eff d k = kk at q2
  cases kk with
  | own s =>
   obtain ⟨hs,q2⟩:=q2
   obtain ⟨ms,m1,m2,m3⟩:=eff_own ek ((S.same e1).same e2).hl r2
   obtain ⟨b',ws',ms0,k1,k2,k3,k4,k5,k6,k7⟩:=S.row (s:=s) h1 g1 g2 g3 g4 g5 g6 hes (e1.trans e2) hs
   rw [hu] at k1
   cases k1
   rw [hb] at k2
   cases k2
   have m3' : ∀ y ∈ ms,H y = none \/ ∃ l ∈ s,y ∈ ν l:=fun y hy=>by
    rcases m3 y hy with z | z
    ·exact .inl (e1.gone z)
    ·exact .inr z
   have out:=new_out S m3' hs
   have bi : ∀ y ∈ b :: ms0,y ∈ ν i:=fun y hy=>by rw [g4]; exact mem_cons_of_mem _ (k6 y hy)
   have hbH:=(e1.trans e2) _ _ hb
   have kp : ∀ l : List Addr,(∀ y ∈ l,y ≠ b) -> Kept l H2 (upd H2 b (.lst (ws ++ [v]))):=fun l hl=>kept_upd1 hbH hl
   have B:=m1.kept (kp ms fun y hy z=>out y hy (z ▸ bi b mem_cons_self))
   have A:=(k3.same (e1.trans e2)).kept (kp ms0 fun y hy z=>k4 (z ▸ hy))
   obtain ⟨ν',S'⟩:=k7 (ws ++ [v]) (es ++ [d]) (ms0 ++ ms) (ows_snoc B A) (nodup_append.mpr ⟨k5,m2,fun y hy z hz e=>out z hz (e ▸ bi y (mem_cons_of_mem _ hy))⟩) fun y hy=>by
    rcases mem_append.mp hy with hy | hy
    ·exact .inl hy
    ·exact .inr (m3' y hy)
   exact ⟨b,ws,v,rfl,rfl,hbH,by rw [hr.den.length]; exact Nat.lt_of_lt_of_le hl million,ok.nx _ _ _ _ q2 S'⟩
  | old=>exact q2.elim
  | mix=>exact q2.elim⟩
theorem w_app2K {ds es : List D} {i j : Nat} {ρ : Ren} {Dd : EndsD} {d : D} {s : List Nat} (h : i ∉ s /\ Dd.nx ((dropS ρ s).set i (some (true,.list (ds.set j (.list (es ++ [d]))))))) : App2K ds es j i ρ Dd d (.own s):=h
end
end DL
namespace L2
open PySem PySem.Spec PyProof.Rows
end L2
namespace DL
open PySem PySem.Spec PyProof.Rows L2
section
variable {K : W.Frag}
theorem w_isX {ea C D' : Addr} {te : TD} {ρ : Ren} {Q : QD} {Xd : XD} (h : te ρ (fun d _=>d = opq ea /\ ∃ b,PySem.W.kitOne K (.ref C) (.ref D') = some b /\ Q (.bool b) .old) Xd) : dIsX K ea C D' te ρ Q Xd:=h
theorem w_isXT {ea C : Addr} {Ds : List Addr} {te : TD} {ρ : Ren} {Q : QD} {Xd : XD} (h : te ρ (fun d _=>d = opq ea /\ ∃ b,PySem.W.kitAny K (.ref C) (Ds.map Value.ref) = some b /\ Q (.bool b) .old) Xd) : dIsXT K ea C Ds te ρ Q Xd:=h
end
end DL
namespace L2
open PySem PySem.Spec PyProof.Rows
theorem qpm_extendK {X : Cx} (K : W.Frag) (hK : X.K = K) {o e : Expr} {to te : TE} {apos cpos : Pos} (ho : QE X o to) (he : QE X e te) (hs : starEach [e] X.env = [(false,eval e X.env)]) (hbase : attributeBase o "extend" X.env (eval o X.env) = eval o X.env) (hline : (apos.endLine == cpos.line) = true) : QE X (.Call (.Attribute o "extend" apos) [e] [] cpos) (tBM K "list" rExtend to (tCons te tNil)):=⟨by
 subst hK
 exact pe_bm PySem.F.plainAttrs_list PySem.F.slot_list_extend PySem.F.type_list_extend mt_extend ho.h (pa_cons he.h pa_nil hs) hbase (by rw [hs]; rfl) hline hs rfl⟩
end L2
namespace DL
open PySem PySem.Spec PyProof.Rows L2
section
variable {X : Cx} {K : W.Frag} {E : XK} {pos px apos cpos : Pos} {e : Expr} {te : TD} {x : Str}
def ExtK (ds : List D) (i : Nat) (ρ : Ren) (Dd : EndsD) (es : List D) : Kd -> Prop
 | .own s=>i ∉ s /\ Dd.nx ((dropS ρ s).set i (some (true,.list (ds ++ es))))
 | _=>False
def dExt (i : Nat) (te : TD) : TSD:=fun Dd ρ Xd=>∃ ds,ρ[i]? = some (some (true,.list ds)) /\ te ρ (fun d k=>onL d fun es=>ds.length + es.length <= 1000000 /\ ExtK ds i ρ Dd es (if flats es = true then .own [] else k)) Xd
theorem onL_ex {y : D} {Q : List D -> Prop} (h : onL y Q) : ∃ z,y = .list z /\ Q z:=by
 cases y with
 | list z=>exact ⟨z,rfl,h⟩
 | _=>exact h.elim
theorem ows_list {H : Hp} {v : V} {es : List D} {ms : List Addr} (h : Ow K H v (.list es) ms) : ∃ b zs ms',v = .ref b /\ H b = some (.lst zs) /\ Ows K H zs es ms' /\ ms = b :: ms':=by
 cases h with
 | lst h1 h2=>exact ⟨_,_,_,rfl,h1,h2,rfl⟩
theorem dps_extend (i : Nat) (hK : X.K = K) (ho : QE X (.Name x px) (tVar i)) (he : DE X K E e te) (hs : starEach [e] X.env = [(false,eval e X.env)]) (hbase : attributeBase (.Name x px) "extend" X.env (eval (.Name x px) X.env) = eval (.Name x px) X.env) (hline : (apos.endLine == cpos.line) = true)
  (hsw : swapsWith (.Call (.Attribute (.Name x px) "extend" apos) [e] [] cpos) none pos.line X.env = pure false:=by rfl) : DS X K E (.Expr (.Call (.Attribute (.Name x px) "extend" apos) [e] [] cpos) pos) (dExt i te):=⟨qs_imp (qps_expr (qpm_extendK K hK ho he.q hs hbase hline) hsw) fun En σ H h=>by
 obtain ⟨H0,ν,ρ,Dd,Xd,S,⟨ds,h1,h3⟩,ok,x⟩:=h
 obtain ⟨a,us,ns,g1,g2,g3,g4,g5,g6⟩:=own_list S h1
 refine ⟨_,g1,tyl (SqL.of g2),H0,ν,ρ,_,Xd,S,h3,fun d k v H1 q1 e1 r1=>?_,x⟩
 obtain ⟨es,rfl,hl,q1⟩:=onL_ex q1
 have ha1 : H1 a = some (.lst us):=e1 _ _ g2
 have key : ∃ (b : Addr) (zs : List V) (s : List Nat) (ms : List Addr),v = .ref b /\ H1 b = some (.lst zs) /\ Ows K H1 zs es ms /\ ms.Nodup /\ (∀ y ∈ ms,H y = none \/ ∃ j ∈ s,y ∈ ν j) /\ i ∉ s /\ Dd.nx ((dropS ρ s).set i (some (true,.list (ds ++ es)))):=by
  by_cases hf : flats es = true
  ·rw [if_pos hf] at q1
   obtain ⟨b,zs,rfl,b1,b2⟩:=dns_of_lst r1.den
   exact ⟨b,zs,[],[],rfl,b1,ows_flat b2 hf,nodup_nil,(fun _ z=>by cases z),q1⟩
  ·rw [if_neg hf] at q1
   cases k with
   | own s =>
    obtain ⟨ms,m1,m2,m3⟩:=eff_own (d:=.list es) (k:=.own s) (s:=s) rfl (S.same e1).hl r1
    obtain ⟨b,zs,ms',rfl,b1,b2,rfl⟩:=ows_list m1
    exact ⟨b,zs,s,ms',rfl,b1,b2,(nodup_cons.mp m2).2,fun y hy=>m3 y (mem_cons_of_mem _ hy),q1⟩
   | old=>exact q1.elim
   | mix=>exact q1.elim
 obtain ⟨b,zs,s,ms,rfl,b1,b2,m2,m3,his,hq⟩:=key
 have nm : ∀ y ∈ ms,y ∉ ν i:=new_out S m3 his
 have ham : a ∉ ms:=fun z=>nm a z (by rw [g4]; exact mem_cons_self)
 refine ⟨a,b,us,zs,rfl,rfl,ha1,b1,by rw [g3.den.length,b2.den.length]; exact Nat.le_trans hl million,?_⟩
 refine ok.nx _ _ _ _ hq (S.mut s i (ms:=a :: (ns ++ ms)) (v:=.ref a) g1 (len_of h1) (fun y o hy hn=>?_) ?_ ?_ ?_ his (gone_ok S his e1 (by rw [g4]; exact mem_cons_self)))
 ·rw [upd_ne (fun z=>hn (by rw [z,g4]; exact mem_cons_self))]; exact e1 _ _ hy
 ·have kp : ∀ l : List Addr,(∀ y ∈ l,y ≠ a) -> Kept l H1 (upd H1 a (.lst (us ++ zs))):=fun l hl=>kept_upd1 ha1 hl
  have A:=(g3.same e1).kept (kp ns fun y hy z=>g5 (z ▸ hy))
  have B:=b2.kept (kp ms fun y hy z=>ham (z ▸ hy))
  exact .lst upd_same (ows_app A B)
 ·refine nodup_cons.mpr ⟨fun z=>?_,nodup_append.mpr ⟨g6,m2,fun y hy z hz e=>?_⟩⟩
  ·rcases mem_append.mp z with z | z
   ·exact g5 z
   ·exact ham z
  ·subst e; exact nm y hz (by rw [g4]; exact mem_cons_of_mem _ hy)
 ·intro y hy
  rcases mem_cons.mp hy with rfl | hy
  ·exact .inl (by rw [g4]; exact mem_cons_self)
  ·rcases mem_append.mp hy with hy | hy
   ·exact .inl (by rw [g4]; exact mem_cons_of_mem _ hy)
   ·exact .inr (m3 y hy)⟩
theorem w_extK {ds es : List D} {i : Nat} {ρ : Ren} {Dd : EndsD} {s : List Nat} (h : i ∉ s /\ Dd.nx ((dropS ρ s).set i (some (true,.list (ds ++ es))))) : ExtK ds i ρ Dd es (.own s):=h
end
section
variable {κ : Type} [DecidableEq κ]
def look (es : List (κ × D)) (k : κ) : Option D:=(es.find? fun p=>decide (p.1 = k)).map (·.2)
end
def tupK (k : List Key) : D:=.tuple (k.map keyV)
def dKD (es : List (Key × D)) : D:=dctD false (es.map fun p=>(keyV p.1,p.2))
def dTD (es : List (List Key × D)) : D:=dctD true (es.map fun p=>(tupK p.1,p.2))
abbrev KeyR:=Sum Key (List Key)
abbrev TKy:=Ren -> (KeyR -> Prop) -> XD -> Prop
noncomputable abbrev hidL (ms : List Addr) (H : Hp) : Hp:=hid (fun a=>a ∈ ms) H
def SpLO (K : W.Frag) (sp : SpD) : Sp:=fun vs H Q E=>∃ ds ms Qd Xd,Ows K H vs ds ms /\ ms.Nodup /\ sp ds Qd Xd /\ (∀ d o v H',Qd d o -> Same (hidL ms H) H' -> RR K (hidL ms H) H' o v d -> Q v H') /\ ∀ C H',Xd C -> Same (hidL ms H) H' -> E (.ref C) none H'
section
variable {X : Cx} {K : W.Frag} {E : XK} {pos p : Pos} {e : Expr} {es : List Expr} {x : Str} {ps : List Str} {k : Nat} {sp : SpD} {t : TDA}
theorem hidL_low {H0 H : Hp} {ms : List Addr} (e : Same H0 H) (h : ∀ a ∈ ms,H0 a = none) : Same H0 (hidL ms H):=fun a o q=>by
 refine hid_of (e a o q) fun z=>?_
 rw [h a z] at q; cases q
def dCallO (sp : SpD) (t : TDA) : TD:=fun ρ Q Xd=>t ρ (fun ds k=>k = .own [] /\ sp ds (fun d o=>Q d (kRet o)) Xf) Xd
theorem dpe_dfO (D : Df X.prog X.w X.K X.mg X.base x ps k (SpLO K sp)) (hr : Room k X.A) (ha : DA X K E (e :: es) t) (hg : Gl X x:=by rfl) (hdb : (x == ("__debug__" : Str)) = false:=by decide)
  (he : starEach (e :: es) X.env = (false,eval e X.env) :: starEach es X.env:=by rfl) (hpl : (backTo pos (starEach es X.env)).any (·.1) = false:=by rfl) : DE X K E (.Call (.Name x p) (e :: es) [] pos) (dCallO sp t) :=
 ⟨qe_imp (qpe_df D hr ha.q hg hdb he hpl) fun σ H Q h=>by
  obtain ⟨H0,ν,ρ,Qd,Xd,S,h1,q,x⟩:=h
  show LA K E t σ H fun vs H1=>SpLO K sp (vs ++ []) H1 Q E0
  simp only [append_nil]
  refine ⟨H0,ν,ρ,_,Xd,S,h1,fun ds k vs H1 g1 e1 r1=>?_,x⟩
  obtain ⟨rfl,g1⟩:=g1
  obtain ⟨ms,m1,m2,m3⟩:=r1
  have low : Same H (hidL ms H1):=hidL_low e1 fun a ha=>by
   rcases m3 a ha with z | ⟨j,z,_⟩
   ·exact z
   ·cases z
  refine ⟨ds,ms,_,_,m1,m2,g1,fun d o v H' a1 a2 a3=>q _ _ _ _ a1 (low.trans a2) ?_,fun C H' z _=>z.elim⟩
  cases o with
  | true=>obtain ⟨ns,b1,b2,b3⟩:=a3; exact ⟨ns,b1,b2,fun a ha=>.inl (low.gone (b3 a ha))⟩
  | false=>exact a3⟩
end
end DL
namespace L2
open PySem PySem.Spec PyProof.Rows
end L2
namespace DL
open PySem PySem.Spec PyProof.Rows L2
section
variable {ρ : Ren} {Q : QD} {Xd : XD} {k : Kd} {t : TDA} {sp : SpD} {ds : List D}
def onC (sp : SpD) (Q : QD) : List D -> Kd -> Prop:=fun ds k=>k = .own [] /\ sp ds (fun d o=>Q d (kRet o)) Xf
theorem w_callO (h : t ρ (onC sp Q) Xd) : dCallO sp t ρ Q Xd:=h
end
end DL
namespace L2
open PySem PySem.Spec PyProof.Rows PySem.W
open PySem.Calls
def sameK : V -> V -> Bool
 | .int _,.int _=>true
 | .str _,.str _=>true
 | _,_=>false
def sameKs : List V -> List V -> Bool
 | [],[]=>true
 | a :: r,b :: t=>sameK a b && sameKs r t
 | _,_=>false
theorem sameK.symm {a b : V} (h : sameK a b = true) : sameK b a = true:=by cases a <;> cases b <;> first | rfl | cases h
theorem sameK.trans {a b c : V} (h : sameK a b = true) (g : sameK b c = true) : sameK a c = true:=by cases a <;> cases b <;> first | (cases h; done) | (cases c <;> first | rfl | (cases g; done))
theorem sameKs.symm : ∀ {a b : List V},sameKs a b = true -> sameKs b a = true
 | [],[],_=>rfl
 | _ :: _,_ :: _,h=>by
  rw [sameKs,Bool.and_eq_true] at h ⊢
  exact ⟨sameK.symm h.1,sameKs.symm h.2⟩
 | [],_ :: _,h=>by cases h
 | _ :: _,[],h=>by cases h
theorem sameKs.trans : ∀ {a b c : List V},sameKs a b = true -> sameKs b c = true -> sameKs a c = true
 | [],[],[],_,_=>rfl
 | _ :: _,_ :: _,_ :: _,h,g=>by
  rw [sameKs,Bool.and_eq_true] at h g ⊢
  exact ⟨sameK.trans h.1 g.1,sameKs.trans h.2 g.2⟩
 | [],_ :: _,_,h,_=>by cases h
 | _ :: _,[],_,h,_=>by cases h
 | _,[],_ :: _,_,g=>by cases g
 | _,_ :: _,[],_,g=>by cases g
section
variable {X : Cx} {pins : List (Addr × Obj)} {σ : List (Option V)} {H : Hp} {s : Shared}
theorem tups_ok (I : Inv X pins σ H s) : ∀ {as : List Addr} {us : List (List V)},Paired (SqT X.K H) as us -> ∃ xss : List (List Value),Paired (fun u xs=>Vals u xs) us xss /\ Paired (fun a xs=>IsTup s.heap a (List.toArray xs)) as xss
 | _,_,.nil=>⟨[],.nil,.nil⟩
 | _,_,.cons h r=>by
  obtain ⟨xs,h1,h2,_⟩:=I.tuple h
  obtain ⟨xss,h3,h4⟩:=tups_ok I r
  exact ⟨xs :: xss,.cons h1 h3,.cons h2 h4⟩
end
end L2
namespace DL
open PySem PySem.Spec PyProof.Rows L2
def scV : D -> Option V
 | .int i=>some (.int i)
 | .str x=>some (.str x)
 | _=>Option.none
def scVs : List D -> Option (List V)
 | []=>some []
 | d :: r=>match scV d,scVs r with
  | some v,some vs=>some (v :: vs)
  | _,_=>Option.none
def tupV : D -> Option (List V)
 | .tuple ds=>scVs ds
 | _=>Option.none
def tupVs : List D -> Option (List (List V))
 | []=>some []
 | d :: r=>match tupV d,tupVs r with
  | some v,some vs=>some (v :: vs)
  | _,_=>Option.none
section
variable {K : W.Frag} {H : Hp}
theorem scV_den {v u : V} {d : D} (h : Dn K H v d) (e : scV d = some u) : v = u /\ flat d = true:=by
 cases h <;> simp [scV] at e
 ·exact ⟨e,rfl⟩
 ·exact ⟨e,rfl⟩
theorem scVs_den : ∀ {vs us : List V} {ds : List D},Dns K H vs ds -> scVs ds = some us -> vs = us /\ flats ds = true
 | _,_,_,.nil,e=>by cases e; exact ⟨rfl,rfl⟩
 | _,_,d :: ds,.cons h r,e=>by
  unfold scVs at e
  cases e1 : scV d with
  | none=>rw [e1] at e; cases e
  | some v =>
   cases e2 : scVs ds with
   | none=>rw [e1,e2] at e; cases e
   | some w =>
    rw [e1,e2] at e
    cases e
    obtain ⟨h1,h2⟩:=scV_den h e1
    obtain ⟨h3,h4⟩:=scVs_den r e2
    exact ⟨by rw [h1,h3],by simp [flats,h2,h4]⟩
theorem tupVs_den : ∀ {vs : List V} {us : List (List V)} {ds : List D},Dns K H vs ds -> tupVs ds = some us -> ∃ as,vs = as.map V.ref /\ PySem.Paired (SqT K H) as us /\ flats ds = true
 | _,_,_,.nil,e=>by cases e; exact ⟨[],rfl,.nil,rfl⟩
 | _,_,d :: ds,.cons h r,e=>by
  unfold tupVs at e
  cases e1 : tupV d with
  | none=>rw [e1] at e; cases e
  | some v =>
   cases e2 : tupVs ds with
   | none=>rw [e1,e2] at e; cases e
   | some w =>
    rw [e1,e2] at e
    cases e
    obtain ⟨as,h3,h4,h5⟩:=tupVs_den r e2
    cases h <;> simp [tupV] at e1
    rename_i a us ds' ht hr
    obtain ⟨g1,g2⟩:=scVs_den hr e1
    subst g1
    exact ⟨a :: as,by rw [h3]; rfl,.cons ht h4,by simp [flats,flat,g2,h5]⟩
end
variable {α : Type}
theorem go_mapA {f : D -> Els -> (Els -> Prop) -> Prop} {Q : Els -> Prop} (F G : α -> D) (L : List α) (es : Els) (hs : ∀ a ∈ L,∀ es (Q' : Els -> Prop),es.length < 1000000 -> Q' (es ++ [(G a,true)]) -> f (F a) es Q') (hm : es.length + L.length <= 1000000) (q : Q (es ++ (L.map G).map fun d=>(d,true))) : go f (L.map F) es Q :=
 go_fltA F G (fun _=>true) L es hs hm (by rw [List.filter_eq_self.mpr fun _ _=>rfl]; rw [map_map] at q; exact q)
theorem go_flatA {f : D -> Els -> (Els -> Prop) -> Prop} {Q : Els -> Prop} (F : α -> D) (G : α -> List D) : ∀ (L : List α) (es : Els),(∀ a ∈ L,∀ es (Q' : Els -> Prop),es.length + (G a).length <= 1000000 -> Q' (es ++ (G a).map fun d=>(d,true)) -> f (F a) es Q') -> es.length + (L.flatMap G).length <= 1000000 -> Q (es ++ (L.flatMap G).map fun d=>(d,true)) -> go f (L.map F) es Q
 | [],es,_,_,q=>by
  show Q es
  simpa using q
 | a :: r,es,hs,hm,q=>by
  rw [List.flatMap_cons,length_append] at hm
  rw [List.flatMap_cons,map_append,<- append_assoc] at q
  refine hs a mem_cons_self es _ (by omega) ?_
  exact go_flatA F G r _ (fun b hb=>hs b (mem_cons_of_mem _ hb)) (by rw [length_append,length_map]; omega) q
theorem lc_flatA {f : D -> Els -> (Els -> Prop) -> Prop} {ok : Bool} {Q : QD} {L : List α} (F : α -> D) (G : α -> List D) (hs : ∀ a ∈ L,∀ es (Q' : Els -> Prop),es.length + (G a).length <= 1000000 -> Q' (es ++ (G a).map fun d=>(d,true)) -> f (F a) es Q') (hm : (L.flatMap G).length <= 1000000) (q : Q (.list (L.flatMap G)) (.own [])) : LcD f (L.map F) ok Q:=by
 refine go_flatA F G L [] hs (by simpa using hm) ?_
 have e1 : ((((L.flatMap G).map fun d=>(d,true)) : Els).map (·.1)) = L.flatMap G:=by rw [map_map]; exact List.map_id _
 have e2 : ((((L.flatMap G).map fun d=>(d,true)) : Els).all (·.2)) = true:=by rw [List.all_map]; exact all_eq_true.mpr fun _ _=>rfl
 rw [nil_append,e1,if_pos e2]; exact q
end DL
namespace L2
open PySem PySem.Spec PyProof.Rows
end L2
namespace DL
open PySem PySem.Spec PyProof.Rows L2
end DL
namespace L2
open PySem PySem.Spec PyProof.Rows PySem.W PySem.Calls
end L2
namespace DL
open PySem PySem.Spec PyProof.Rows L2
end DL
namespace L2
open PySem PySem.Spec PyProof.Rows PySem.W PySem.Calls
end L2
namespace DL
open PySem PySem.Spec PyProof.Rows L2
section
variable {ρ : Ren} {i : Nat} {s : List Nat} {es : List (List Key × D)} {eK : List (Key × D)}
theorem flat_dT : flat (dTD es) = false:=rfl
theorem flat_dK : flat (dKD eK) = false:=rfl
theorem setK_ownT : setK ρ i (dTD es) (.own s) = (dropS ρ s).set i (some (true,dTD es)):=rfl
theorem setK_oldT : setK ρ i (dTD es) .old = ρ.set i (some (false,dTD es)):=rfl
theorem setK_mixT : setK ρ i (dTD es) .mix = (frz ρ).set i (some (false,dTD es)):=rfl
theorem setK_ownK : setK ρ i (dKD eK) (.own s) = (dropS ρ s).set i (some (true,dKD eK)):=rfl
theorem setK_oldK : setK ρ i (dKD eK) .old = ρ.set i (some (false,dKD eK)):=rfl
theorem setK_mixK : setK ρ i (dKD eK) .mix = (frz ρ).set i (some (false,dKD eK)):=rfl
end
end DL
namespace L2
open PySem PySem.Spec PyProof.Rows
end L2
namespace DL
open PySem PySem.Spec PyProof.Rows L2
section
theorem kels2_flat {ds es : List D} {k l : Kd} (h : (flats ds && flats es) = true) : kels2 ds k es l = .own []:=by unfold kels2; rw [if_pos h]
end
section
variable {ρ : Ren} {d : D} {q : Nat}
def lk (q : Nat) (d : D) (ρ : Ren) : Ren:=(frz ρ).set q (some (false,d))
end
end DL
namespace L2
open PySem PySem.Spec PyProof.Rows
open HT
end L2
namespace DL
open PySem PySem.Spec PyProof.Rows L2
end DL
namespace L2
open PySem PySem.Spec PyProof.Rows
end L2
namespace DL
open PySem PySem.Spec PyProof.Rows L2
section
variable {K : W.Frag} {x : Str} {e : Expr}
theorem ows_rev {H : Hp} : ∀ {us : List V} {ds : List D} {ns : List Addr},Ows K H us ds ns -> ns.Nodup -> ∃ ms,Ows K H us.reverse ds.reverse ms /\ ms.Nodup /\ ∀ a,a ∈ ms ↔ a ∈ ns
 | _,_,_,.nil,_=>⟨[],.nil,nodup_nil,fun _=>Iff.rfl⟩
 | _,_,_,.cons (ns:=n) (ms:=m) h r,nd=>by
  rw [nodup_append] at nd
  obtain ⟨ms,a1,a2,a3⟩:=ows_rev r nd.2.1
  refine ⟨ms ++ n,by rw [List.reverse_cons,List.reverse_cons]; exact ows_snoc h a1,nodup_append.mpr ⟨a2,nd.1,fun x hx y hy e=>nd.2.2 y hy x ((a3 x).mp hx) e.symm⟩,fun a=>?_⟩
  rw [mem_append,mem_append,a3]; exact Or.comm
variable {y : Str} {ds : List D} {n : Nat}
end
end DL
namespace L2
open PySem PySem.Spec PyProof.Rows HT
end L2
namespace DL
open PySem PySem.Spec PyProof.Rows L2
end DL
namespace L2
open PySem PySem.Spec PyProof.Rows
end L2
namespace DL
open PySem PySem.Spec PyProof.Rows L2
end DL
namespace L2
open PySem PySem.Spec PyProof.Rows PySem.W PySem.Calls
end L2
namespace DL
open PySem PySem.Spec PyProof.Rows L2
end DL
namespace L2
open PySem PySem.Spec PyProof.Rows PySem.W
section
variable {κ : Nat -> Int} {p : Array Nat}
def kk (κ : Nat -> Int) (p : Array Nat) (i : Nat) : Int:=κ (p.getD i 0)
def Dn (κ : Nat -> Int) (p : Array Nat) (n : Nat) : Prop:=∀ i j,i <= j -> j < n -> kk κ p j <= kk κ p i
end
open PySem.Calls
def btx (w : World) : Bool:=w.params.followText "set-order"
section
variable {prog : Program} {w : World} {A : Around} {E : Value -> Shared -> Prop} {s : Shared}
theorem sm_new (a : Value) {Q₁ : Value -> Shared -> Prop} (h : Q₁ (.ref s.heap.objs.size) { s with heap:=s.heap.push { cls:=.type "set",dict:=none,data:=.set #[] 0 (.fresh 0 0 (!btx w)) } }) :
  codeAny (model prog w) A (.call (.builtin "set.__new__") ⟨[.type "set",a],[]⟩) (wants Q₁ E) s:=by
 refine codeAny_of_tree (show wpAny _ A.in1 (do checkBuiltinCall "set.__new__" ⟨[.type "set",a],[]⟩; again (.builtin "set.__new__" ⟨[.type "set",a],[]⟩)) _ _ s from ?_)
 refine wpAny_bind (wpAny_of_eq (PySem.F.newCall_set_1 a) (wpAny_pure ⟨plainId_quiet PySem.F.plain_set_new _,codeAny_builtin PySem.F.entry_set_new ?_⟩))
 rw [Around.under_plainId PySem.F.plain_set_new _]
 unfold Builtin.«set.__new__» Builtin.Frozenset.newClass
 have hsub:=sub_set_self
 obtain ⟨hp,g,d,tk,os⟩:=s
 dsimp only
 wp_walk
 refine wpAny_askSetting (wpAny_pure ?_)
 dsimp only
 simp only [newObj]
 exact wpAny_bind (wpAny_alloc (wpAny_pure (wpAny_pure h)))
end
section
variable {w : World}
abbrev newS (w : World) : Obj:={ cls:=.type "set",dict:=none,data:=.set #[] 0 (.fresh 0 0 (!btx w)) }
end
end L2
namespace DL
open PySem PySem.Spec PyProof.Rows L2
end DL
namespace L2
open PySem PySem.Spec PyProof.Rows PySem.W PySem.Calls
end L2
namespace DL
open PySem PySem.Spec PyProof.Rows L2
section
variable {K : W.Frag} {H0 H H' : Hp} {ν : Nat -> List Addr} {ρ : Ren} {σ : L2.St}
theorem StOk.forget (S : StOk K Z0 H0 ν ρ σ H) (i : Nat) (k : ∀ a o,H a = some o -> a ∉ ν i -> H' a = some o) : StOk K Z0 H0 (fun j=>if j = i then [] else ν j) (ρ.set i none) σ H' where
 sm:=fun a o ha=>k a o (S.sm a o ha) fun z=>by rw [(S.fr i a z).1] at ha; cases ha
 len:=by rw [length_set]; exact S.len
 sl:=fun j b c hj=>by
  have ne : j ≠ i:=fun z=>by
   subst z
   by_cases hl : j < ρ.length
   ·rw [List.getElem?_set_self hl] at hj; cases hj
   ·rw [List.getElem?_eq_none (by rw [length_set]; omega)] at hj; cases hj
  rw [List.getElem?_set_ne (Ne.symm ne)] at hj
  obtain ⟨v,h1,h2⟩:=S.sl j b c hj
  refine ⟨v,h1,?_⟩
  cases b with
  | true =>
   have h2 : Ow K H v c (ν j):=h2
   show Ow K H' v c (if j = i then [] else ν j)
   rw [if_neg ne]
   refine h2.kept ⟨fun a ha=>?_,fun a o ho hm=>k a o ho fun z=>?_⟩
   ·obtain ⟨_,_,o,ho⟩:=S.fr j a ha
    rw [ho]
    exact k a _ ho fun z=>ne (S.dj j i a ha z)
   ·obtain ⟨_,_,m⟩:=S.fr i a z
    exact m.no ho hm
  | false =>
   have h2 : Dn K (hid (Hd Z0 ν) H) v c:=h2
   refine Dn.same (fun a o ho=>?_) h2
   obtain ⟨q1,q2⟩:=of_hid ho
   refine hid_of (k a o q1 fun z=>q2 (.inr ⟨i,z⟩)) fun z=>?_
   rcases z with z | ⟨l,z⟩
   ·exact z
   ·have z : a ∈ (if l = i then [] else ν l):=z
    by_cases e : l = i
    ·rw [if_pos e] at z; cases z
    ·rw [if_neg e] at z; exact q2 (.inr ⟨l,z⟩)
 nd:=fun j=>by
  show (if j = i then [] else ν j).Nodup
  split
  ·exact nodup_nil
  ·exact S.nd j
 dj:=fun j l a h1 h2=>by
  have h1 : a ∈ (if j = i then [] else ν j):=h1
  have h2 : a ∈ (if l = i then [] else ν l):=h2
  split at h1
  ·cases h1
  ·split at h2
   ·cases h2
   ·exact S.dj j l a h1 h2
 fr:=fun j a h=>by
  have h : a ∈ (if j = i then [] else ν j):=h
  split at h
  ·cases h
  ·rename_i ne
   obtain ⟨f1,f2,o,f3⟩:=S.fr j a h
   exact ⟨f1,f2,o,k a _ f3 fun z=>ne (S.dj j i a h z)⟩
 zf:=fun a z=>z.elim
end
section
variable {K : W.Frag}
theorem sqt_upd {H : Hp} {t a : Addr} {xs us vs : List V} (h : SqT K H t xs) (e : H a = some (.lst us)) : SqT K (upd H a (.lst vs)) t xs:=by
 refine Kept.sqt (ns:=[]) ⟨fun _ z=>(by cases z),fun b o hb hm=>?_⟩ h
 rw [upd_ne (fun z=>by rw [z,e] at hb; cases hb; cases (show true = false from hm))]; exact hb
end
end DL
namespace L2
open PySem
abbrev Pb:=SetTable.Probe
def adv (mask : Nat) (p : Pb) : Pb:=if p.more > 0 then { p with j:=p.j + 1,more:=p.more - 1 } else
 { p with j:=(SetTable.leap mask p.i p.perturb).1,more:=SetTable.runEnd mask (SetTable.leap mask p.i p.perturb).1 - (SetTable.leap mask p.i p.perturb).1,i:=(SetTable.leap mask p.i p.perturb).1,perturb:=(SetTable.leap mask p.i p.perturb).2 }
theorem adv_eq (t : SetTable) (p : Pb) : t.advance p = adv t.mask p:=by
 unfold SetTable.advance adv
 split <;> rfl
def st0 (mask i pert : Nat) : Pb:={ j:=i,more:=SetTable.runEnd mask i - i,i:=i,perturb:=pert,dummy:=none }
def itr (mask : Nat) : Nat -> Pb -> Pb
 | 0,p=>p
 | n + 1,p=>adv mask (itr mask n p)
theorem itr_front (mask : Nat) : ∀ (n : Nat) (p : Pb),itr mask (n + 1) p = itr mask n (adv mask p)
 | 0,p=>rfl
 | n + 1,p=>by show adv mask (itr mask (n + 1) p) = _; rw [itr_front mask n p]; rfl
theorem itr_add (mask : Nat) : ∀ (n m : Nat) (p : Pb),itr mask (n + m) p = itr mask n (itr mask m p)
 | 0,m,p=>by rw [Nat.zero_add]; rfl
 | n + 1,m,p=>by rw [show n + 1 + m = (n + m) + 1 by omega]; show adv mask _ = adv mask _; rw [itr_add mask n m p]
theorem run_end (mask : Nat) : ∀ (m : Nat) (p : Pb),p.more = m -> p.dummy = none -> itr mask (m + 1) p = st0 mask (SetTable.leap mask p.i p.perturb).1 (SetTable.leap mask p.i p.perturb).2
 | 0,p,h,hd=>by
  show adv mask p = _
  unfold adv
  rw [if_neg (by omega)]
  cases p; simp only at hd; subst hd; rfl
 | m + 1,p,h,hd=>by
  rw [itr_front]
  have e : adv mask p = { p with j:=p.j + 1,more:=p.more - 1 }:=by unfold adv; rw [if_pos (by omega)]
  rw [e]
  exact run_end mask m { p with j:=p.j + 1,more:=p.more - 1 } (by show p.more - 1 = m; omega) hd
theorem run_le (mask i : Nat) : SetTable.runEnd mask i - i <= 9:=by unfold SetTable.runEnd; split <;> omega
def lps (mask : Nat) : Nat -> Nat -> Nat -> Nat × Nat
 | 0,i,q=>(i,q)
 | n + 1,i,q=>SetTable.leap mask (lps mask n i q).1 (lps mask n i q).2
theorem lps_at (mask i q : Nat) : ∀ n,∃ r,r <= 10 * n /\ itr mask r (st0 mask i q) = st0 mask (lps mask n i q).1 (lps mask n i q).2
 | 0=>⟨0,Nat.le_refl _,rfl⟩
 | n + 1=>by
  obtain ⟨r,hr,e⟩:=lps_at mask i q n
  have:=run_end mask _ (st0 mask (lps mask n i q).1 (lps mask n i q).2) rfl rfl
  refine ⟨(SetTable.runEnd mask (lps mask n i q).1 - (lps mask n i q).1 + 1) + r,by have:=run_le mask (lps mask n i q).1; omega,?_⟩
  rw [itr_add,e]
  exact this
theorem lps_pert (mask i q : Nat) : ∀ n,(lps mask n i q).2 = q / 32 ^ n
 | 0=>by simp [lps]
 | n + 1=>by
  show (lps mask n i q).2 / 32 = _
  rw [lps_pert mask i q n,Nat.div_div_eq_div_mul,Nat.pow_succ]
theorem lps_le (mask i q n : Nat) : (lps mask (n + 1) i q).1 <= mask:=by
 show (_ % (mask + 1)) <= mask
 exact Nat.le_of_lt_succ (Nat.mod_lt _ (Nat.succ_pos _))
def orb (mask : Nat) : Nat -> Nat -> List Nat
 | 0,i=>[i]
 | n + 1,i=>i :: orb mask n ((i * 5 + 1) % (mask + 1))
def orb7 : List Nat:=[0,1,6,7,4,5,2,3]
theorem orb7_eq : orb 7 7 0 = orb7:=by decide +kernel
theorem orb7_all : (List.range 8).all (fun j=>orb7.contains j) = true:=by decide +kernel
def orb31 : List Nat:=[0,1,6,31,28,13,2,11,24,25,30,23,20,5,26,3,16,17,22,15,12,29,18,27,8,9,14,7,4,21,10,19]
theorem orb31_eq : orb 31 31 0 = orb31:=by decide +kernel
theorem orb31_all : (List.range 32).all (fun j=>orb31.contains j) = true:=by decide +kernel
def orb127 : List Nat:=[0,1,6,31,28,13,66,75,120,89,62,55,20,101,122,99,112,49,118,79,12,61,50,123,104,9,46,103,4,21,106,19,96,97,102,127,124,109,34,43,88,57,30,23,116,69,90,67,80,17,86,47,108,29,18,91,72,105,14,71,100,117,74,115,64,65,70,95,92,77,2,11,56,25,126,119,84,37,58,35,48,113,54,15,76,125,114,59,40,73,110,39,68,85,42,83,32,33,38,63,60,45,98,107,24,121,94,87,52,5,26,3,16,81,22,111,44,93,82,27,8,41,78,7,36,53,10,51]
theorem orb127_eq : orb 127 127 0 = orb127:=by decide +kernel
theorem orb127_all : (List.range 128).all (fun j=>orb127.contains j) = true:=by decide +kernel
def fit (mask : Nat) : Nat -> Nat -> Nat
 | 0,i=>i
 | n + 1,i=>(fit mask n i * 5 + 1) % (mask + 1)
theorem fit_add (mask i : Nat) : ∀ n m,fit mask (n + m) i = fit mask n (fit mask m i)
 | 0,m=>by rw [Nat.zero_add]; rfl
 | n + 1,m=>by rw [show n + 1 + m = (n + m) + 1 by omega]; show (fit mask (n + m) i * 5 + 1) % _ = _; rw [fit_add mask i n m]; rfl
theorem fit_front (mask : Nat) (n i : Nat) : fit mask (n + 1) i = fit mask n ((i * 5 + 1) % (mask + 1)):=fit_add mask i n 1
theorem orb_fit (mask : Nat) : ∀ (m i j : Nat),j ∈ orb mask m i -> ∃ k,k <= m /\ fit mask k i = j
 | 0, i, j, h => ⟨0, Nat.le_refl _, by have : j = i := by simpa [orb] using h
                                       exact this.symm⟩
 | m + 1,i,j,h=>by
  rcases mem_cons.mp h with e | h
  ·exact ⟨0,Nat.zero_le _,e.symm⟩
  ·obtain ⟨k,hk,e⟩:=orb_fit mask m _ j h
   exact ⟨k + 1,by omega,by rw [fit_front]; exact e⟩
theorem fit_lps (mask i q n : Nat) (hq : q / 32 ^ n = 0) : ∀ k,(lps mask (n + k) i q).1 = fit mask k (lps mask n i q).1
 | 0=>rfl
 | k + 1=>by
  show ((lps mask (n + k) i q).1 * 5 + 1 + (lps mask (n + k) i q).2 / 32) % (mask + 1) = (fit mask k (lps mask n i q).1 * 5 + 1) % (mask + 1)
  have : (lps mask (n + k) i q).2 = 0:=by
   rw [lps_pert,Nat.pow_add,<- Nat.div_div_eq_div_mul,hq]; simp
  rw [this,fit_lps mask i q n hq k]
def Mask (m : Nat) : Prop:=m = 7 \/ m = 31 \/ m = 127
theorem fit_any {mask : Nat} (hm : Mask mask) {j : Nat} (hj : j <= mask) : ∃ k,k <= mask /\ fit mask k 0 = j:=by
 have h : j ∈ orb mask mask 0:=by
  rcases hm with rfl | rfl | rfl
  ·rw [orb7_eq]; simpa using all_eq_true.mp orb7_all j (mem_range.mpr (by omega))
  ·rw [orb31_eq]; simpa using all_eq_true.mp orb31_all j (mem_range.mpr (by omega))
  ·rw [orb127_eq]; simpa using all_eq_true.mp orb127_all j (mem_range.mpr (by omega))
 exact orb_fit mask mask 0 j h
theorem fit_round {mask : Nat} (hm : Mask mask) : fit mask (mask + 1) 0 = 0:=by rcases hm with rfl | rfl | rfl <;> decide +kernel
theorem all_met {mask : Nat} (hm : Mask mask) {i q j : Nat} (hq : q < 2 ^ 64) (hj : j <= mask) : ∃ k,k <= mask + 13 /\ (lps mask k i q).1 = j:=by
 have h0 : q / 32 ^ 13 = 0:=Nat.div_eq_of_lt (Nat.lt_of_lt_of_le hq (by decide))
 have hi : (lps mask 13 i q).1 <= mask:=lps_le mask i q 12
 obtain ⟨a,ha,ea⟩:=fit_any hm hi
 obtain ⟨b,hb,eb⟩:=fit_any hm hj
 by_cases c : a <= b
 ·exact ⟨13 + (b - a),by omega,by rw [fit_lps mask i q 13 h0,<- ea,<- fit_add,show b - a + a = b by omega,eb]⟩
 ·refine ⟨13 + (b + (mask + 1) - a),by omega,?_⟩
  rw [fit_lps mask i q 13 h0,<- ea,<- fit_add,show b + (mask + 1) - a + a = b + (mask + 1) by omega,fit_add,fit_round hm,eb]
theorem bits_lt64 (h : Int) : SetTable.bits h < 2 ^ 64:=by
 unfold SetTable.bits
 have h1:=Int.emod_nonneg h (show (2 ^ 64 : Int) ≠ 0 by decide)
 have h2:=Int.emod_lt_of_pos h (show (0 : Int) < 2 ^ 64 by decide)
 omega
def sq (mask : Nat) (h : Int) (n : Nat) : Pb:=itr mask n (st0 mask (SetTable.bits h % (mask + 1)) (SetTable.bits h))
theorem sq_succ (mask : Nat) (h : Int) (n : Nat) : sq mask h (n + 1) = adv mask (sq mask h n):=rfl
theorem sq_dummy (mask : Nat) (h : Int) : ∀ n,(sq mask h n).dummy = none
 | 0=>rfl
 | n + 1=>by
  rw [sq_succ]
  unfold adv
  split
  ·exact sq_dummy mask h n
  ·exact sq_dummy mask h n
theorem least {P : Nat -> Prop} : ∀ (N r : Nat),r < N -> P r -> ∃ E,E < N /\ P E /\ ∀ m,m < E -> ¬ P m
 | 0,r,h,_=>absurd h (Nat.not_lt_zero _)
 | N + 1,r,h,p=>by
  by_cases q : ∃ r',r' < N /\ P r'
  ·obtain ⟨r',h',p'⟩:=q
   obtain ⟨E,e1,e2,e3⟩:=least N r' h' p'
   exact ⟨E,by omega,e2,e3⟩
  ·exact ⟨r,h,p,fun m hm pm=>q ⟨m,by omega,pm⟩⟩
theorem first_free {mask : Nat} (hm : Mask mask) (h : Int) {F : Nat -> Prop} (l : List Nat) (hl : ∀ j,F j -> j ∈ l) (len : l.length <= mask) : ∃ E,E < 10 * (mask + 15) /\ ¬ F (sq mask h E).j /\ ∀ m,m < E -> F (sq mask h m).j:=by
 have ⟨j,hj,hn⟩ : ∃ j,j <= mask /\ ¬ F j:=by
  refine Classical.byContradiction fun z=>?_
  have sub : List.range (mask + 1) ⊆ l:=fun j hj=>hl j (Classical.byContradiction fun nf=>z ⟨j,by have:=mem_range.mp hj; omega,nf⟩)
  have:=List.Nodup.length_le_of_subset List.nodup_range sub
  rw [length_range] at this
  omega
 obtain ⟨k,hk,e⟩:=all_met hm (i:=SetTable.bits h % (mask + 1)) (bits_lt64 h) hj
 obtain ⟨r,hr,e2⟩:=lps_at mask (SetTable.bits h % (mask + 1)) (SetTable.bits h) k
 obtain ⟨E,e3,e4,e5⟩:=least (P:=fun r=>¬ F (sq mask h r).j) (10 * (mask + 15)) r (by omega) (by
  have : (sq mask h r).j = j:=by unfold sq; rw [e2]; exact e
  rw [this]; exact hn)
 exact ⟨E,e3,e4,fun m hm=>Classical.byContradiction fun z=>e5 m hm z⟩
theorem below_go (xs : Array Nat) (j : Nat) (hs : ∀ a b,(hb : b < xs.size) -> (hab : a < b) -> xs[a]'(Nat.lt_trans hab hb) < xs[b]) : ∀ (fuel lo hi : Nat),hi - lo <= fuel -> lo <= hi -> hi <= xs.size -> (∀ k (hk : k < xs.size),k < lo -> xs[k] < j) -> (∀ k (hk : k < xs.size),hi <= k -> j <= xs[k]) ->
  (SetTable.below.go xs j fuel lo hi <= xs.size /\ (∀ k (hk : k < xs.size),k < SetTable.below.go xs j fuel lo hi -> xs[k] < j) /\ ∀ k (hk : k < xs.size),SetTable.below.go xs j fuel lo hi <= k -> j <= xs[k])
 | 0,lo,hi,hf,hl,hh,h1,h2=>by
  have : lo = hi:=by omega
  subst this
  exact ⟨hh,h1,h2⟩
 | fuel + 1,lo,hi,hf,hl,hh,h1,h2=>by
  unfold SetTable.below.go
  by_cases c : lo < hi
  ·rw [if_pos c]
   dsimp only
   have hm : (lo + hi) / 2 < xs.size:=by omega
   have eg : xs.getD ((lo + hi) / 2) j = xs[(lo + hi) / 2]:=by simp [Array.getD,hm]
   rw [eg]
   by_cases c2 : xs[(lo + hi) / 2] < j
   ·rw [if_pos c2]
    refine below_go xs j hs fuel _ _ (by omega) (by omega) hh (fun k hk hlt=>?_) h2
    by_cases e : k = (lo + hi) / 2
    ·subst e; exact c2
    ·exact Nat.lt_trans (hs k ((lo + hi) / 2) hm (by omega)) c2
   ·rw [if_neg c2]
    refine below_go xs j hs fuel _ _ (by omega) (by omega) (by omega) h1 fun k hk hle=>?_
    by_cases e : k = (lo + hi) / 2
    ·subst e; omega
    ·have:=hs ((lo + hi) / 2) k hk (by omega)
     omega
  ·rw [if_neg c]
   have : lo = hi:=by omega
   subst this
   exact ⟨hh,h1,h2⟩
theorem below_spec {xs : Array Nat} (h : xs.toList.Pairwise (· < ·)) (j : Nat) : SetTable.below xs j <= xs.size /\ (∀ k (hk : k < xs.size),k < SetTable.below xs j -> xs[k] < j) /\ ∀ k (hk : k < xs.size),SetTable.below xs j <= k -> j <= xs[k]:=by
 refine below_go xs j (fun a b hb hab=>?_) xs.size 0 xs.size (by omega) (Nat.zero_le _) (Nat.le_refl _) (fun k hk h=>absurd h (Nat.not_lt_zero _)) fun k hk h=>by omega
 have:=List.pairwise_iff_getElem.mp h a b (by simpa using Nat.lt_trans hab hb) (by simpa using hb) hab
 simpa using this
theorem below_at {xs : Array Nat} (h : xs.toList.Pairwise (· < ·)) {i j : Nat} (e : xs[i]? = some j) : SetTable.below xs j = i:=by
 obtain ⟨hi,e⟩:=Array.getElem?_eq_some_iff.mp e
 obtain ⟨h0,h1,h2⟩:=below_spec h j
 rcases Nat.lt_trichotomy (SetTable.below xs j) i with c | c | c
 ·have a:=List.pairwise_iff_getElem.mp h (SetTable.below xs j) i (by simp; omega) (by simpa using hi) c
  have b:=h2 (SetTable.below xs j) (by omega) (Nat.le_refl _)
  simp at a
  omega
 ·exact c
 ·have:=h1 i hi c
  omega
theorem ins_sorted {xs : Array Nat} (h : xs.toList.Pairwise (· < ·)) {j : Nat} (hj : j ∉ xs.toList) : (SetTable.insertAt xs (SetTable.below xs j) j).toList.Pairwise (· < ·):=by
 rw [SetTable.toList_insertAt]
 obtain ⟨h0,h1,h2⟩:=below_spec h j
 have t1 : ∀ x ∈ xs.toList.take (SetTable.below xs j),x < j:=fun x hx=>by
  obtain ⟨k,hk,e⟩:=List.mem_take_iff_getElem.mp hx
  have:=h1 k (by simp at hk; omega) (by simp at hk; omega)
  rw [<- e]; simpa using this
 have t2 : ∀ x ∈ xs.toList.drop (SetTable.below xs j),j < x:=fun x hx=>by
  obtain ⟨k,hk,e⟩:=List.mem_drop_iff_getElem.mp hx
  have hk' : SetTable.below xs j + k < xs.size:=by simp at hk; omega
  have:=h2 (SetTable.below xs j + k) hk' (by omega)
  have ne : xs[SetTable.below xs j + k] ≠ j:=fun z=>hj (by rw [<- z]; simp)
  have e : xs[SetTable.below xs j + k] = x:=by simpa using e
  omega
 rw [List.pairwise_append]
 refine ⟨h.sublist (List.take_sublist _ _),List.pairwise_cons.mpr ⟨t2,h.sublist (List.drop_sublist _ _)⟩,fun a ha b hb=>?_⟩
 rcases mem_cons.mp hb with rfl | hb
 ·exact t1 a ha
 ·exact Nat.lt_trans (t1 a ha) (t2 b hb)
def Rch (mask : Nat) (F : Nat -> Prop) (h : Int) (s : Nat) : Prop:=∃ n,(sq mask h n).j = s /\ ∀ m,m < n -> F (sq mask h m).j
structure TabOk (t : SetTable) (hs : List Int) : Prop where
 up : t.place.toList.Pairwise (· < ·)
 dum : t.dummies = #[]
 len : t.place.size = hs.length
 msk : Mask t.mask
 room : hs.length <= t.mask
 reach : ∀ p ∈ hs.zip t.place.toList,Rch t.mask (· ∈ t.place.toList) p.1 p.2
section
variable {t : SetTable} {hs : List Int}
theorem TabOk.empty (T : TabOk t hs) {j : Nat} (h : j ∉ t.place.toList) : t.slot j = .empty:=by
 unfold SetTable.slot
 dsimp only
 rw [if_neg,if_neg]
 ·rw [T.dum]; unfold SetTable.has; simp
 ·intro z
  have z : t.place[SetTable.below t.place j]? = some j:=eq_of_beq z
  exact h (Array.mem_toList_iff.mpr (Array.mem_of_getElem? z))
theorem TabOk.live (T : TabOk t hs) {i j : Nat} (h : t.place[i]? = some j) : t.slot j = .live i:=by
 unfold SetTable.slot
 dsimp only
 rw [below_at T.up h,if_pos (by rw [h]; exact beq_self_eq_true _)]
theorem TabOk.fits (T : TabOk t hs) {n : Nat} (hn : n = hs.length) : t.fits n = true:=by
 subst hn
 unfold SetTable.fits SetTable.fill
 rw [T.len,T.dum]
 simp
 exact T.room
theorem TabOk.first (T : TabOk t hs) (h : Int) : ∃ E,E < 10 * (t.mask + 15) /\ (sq t.mask h E).j ∉ t.place.toList /\ ∀ m,m < E -> (sq t.mask h m).j ∈ t.place.toList :=
 first_free T.msk h (F:=fun j=>j ∈ t.place.toList) t.place.toList (fun _ hj=>hj) (by rw [Array.length_toList,T.len]; exact T.room)
theorem TabOk.go (T : TabOk t hs) {hashAt : Nat -> Int} {h : Int} {E : Nat} (he : (sq t.mask h E).j ∉ t.place.toList) (hl : ∀ m,m < E -> (sq t.mask h m).j ∈ t.place.toList) : ∀ (fuel k : Nat),k <= E -> E - k < fuel ->
  (SetTable.probe.go t hashAt h fuel (sq t.mask h k) = some (.empty (sq t.mask h E).j none) /\ ∀ m i,k <= m -> m < E -> t.place[i]? = some (sq t.mask h m).j -> hashAt i ≠ h) \/
  ∃ m i,k <= m /\ m < E /\ t.place[i]? = some (sq t.mask h m).j /\ hashAt i = h /\ SetTable.probe.go t hashAt h fuel (sq t.mask h k) = some (.candidate (sq t.mask h m).j i (sq t.mask h (m + 1))) /\ ∀ m' i',k <= m' -> m' < m -> t.place[i']? = some (sq t.mask h m').j -> hashAt i' ≠ h
 | 0,k,hk,hf=>absurd hf (Nat.not_lt_zero _)
 | fuel + 1,k,hk,hf=>by
  unfold SetTable.probe.go
  by_cases e : k = E
  ·subst e
   rw [T.empty he]
   dsimp only
   rw [sq_dummy]
   exact .inl ⟨rfl,fun m i h1 h2=>by omega⟩
  ·have hlt : k < E:=by omega
   obtain ⟨i,hi,ei⟩:=List.getElem_of_mem (hl k hlt)
   have hp : t.place[i]? = some (sq t.mask h k).j:=by
    rw [Array.length_toList] at hi
    rw [Array.getElem?_eq_getElem hi]; simpa using ei
   have uniq : ∀ i',t.place[i']? = some (sq t.mask h k).j -> i' = i:=fun i' h'=>by rw [<- below_at T.up h',below_at T.up hp]
   rw [T.live hp]
   dsimp only
   by_cases c : hashAt i = h
   ·rw [if_pos (by simpa using c),adv_eq,<- sq_succ]
    exact .inr ⟨k,i,Nat.le_refl _,hlt,hp,c,rfl,fun m' i' h1 h2=>by omega⟩
   ·rw [if_neg (by simpa using c),adv_eq,<- sq_succ]
    rcases TabOk.go T he hl fuel (k + 1) (by omega) (by omega) with ⟨g1,g2⟩ | ⟨m,i2,g1,g2,g3,g4,g5,g6⟩
    ·refine .inl ⟨g1,fun m i' h1 h2 h3=>?_⟩
     by_cases z : m = k
     ·subst z; rw [uniq i' h3]; exact c
     ·exact g2 m i' (by omega) h2 h3
    ·refine .inr ⟨m,i2,by omega,g2,g3,g4,g5,fun m' i' h1 h2 h3=>?_⟩
     by_cases z : m' = k
     ·subst z; rw [uniq i' h3]; exact c
     ·exact g6 m' i' (by omega) h2 h3
theorem zip_ins {α β : Type} {xs : List α} {ys : List β} (h : xs.length = ys.length) (p : Nat) (a : α) (b : β) : (xs.take p ++ a :: xs.drop p).zip (ys.take p ++ b :: ys.drop p) = (xs.zip ys).take p ++ (a,b) :: (xs.zip ys).drop p:=by
 rw [List.zip_append (by rw [length_take,length_take,h]),List.zip_cons_cons]
 simp only [List.zip,List.take_zipWith,List.drop_zipWith]
theorem Rch.mono {mask : Nat} {F G : Nat -> Prop} {h : Int} {s : Nat} (r : Rch mask F h s) (i : ∀ j,F j -> G j) : Rch mask G h s:=let ⟨n,e,l⟩:=r; ⟨n,e,fun m hm=>i _ (l m hm)⟩
theorem TabOk.put (T : TabOk t hs) {h : Int} {E : Nat} (he : (sq t.mask h E).j ∉ t.place.toList) (hl : ∀ m,m < E -> (sq t.mask h m).j ∈ t.place.toList) (hr : hs.length + 1 <= t.mask) (pl : Bool) :
  TabOk { (t.put (sq t.mask h E).j).1 with plain:=pl } (hs.take (t.put (sq t.mask h E).j).2 ++ h :: hs.drop (t.put (sq t.mask h E).j).2):=by
 have pe : (t.put (sq t.mask h E).j).2 = SetTable.below t.place (sq t.mask h E).j:=rfl
 have ple : (t.put (sq t.mask h E).j).1.place = SetTable.insertAt t.place (SetTable.below t.place (sq t.mask h E).j) (sq t.mask h E).j:=rfl
 have dme : (t.put (sq t.mask h E).j).1.dummies = #[]:=by
  show (if SetTable.has t.dummies _ then _ else t.dummies) = #[]
  rw [T.dum]
  unfold SetTable.has
  simp
 have mem : ∀ x,x ∈ (SetTable.insertAt t.place (SetTable.below t.place (sq t.mask h E).j) (sq t.mask h E).j).toList ↔ x = (sq t.mask h E).j \/ x ∈ t.place.toList:=fun x=>by
  rw [SetTable.toList_insertAt,mem_append,mem_cons]
  have e:=List.take_append_drop (SetTable.below t.place (sq t.mask h E).j) t.place.toList
  constructor
  ·rintro (z | z | z)
   ·exact .inr (mem_of_mem_take z)
   ·exact .inl z
   ·exact .inr (List.mem_of_mem_drop z)
  ·rintro (z | z)
   ·exact .inr (.inl z)
   ·rw [<- e] at z
    rcases mem_append.mp z with z | z
    ·exact .inl z
    ·exact .inr (.inr z)
 refine ⟨?_,dme,?_,T.msk,?_,fun p hp=>?_⟩
 ·show (t.put _).1.place.toList.Pairwise _
  rw [ple]; exact ins_sorted T.up he
 ·show (t.put _).1.place.size = _
  rw [ple,pe,<- Array.length_toList,SetTable.toList_insertAt,length_append,length_cons,length_append,length_cons,length_take,length_drop,length_take,length_drop,Array.length_toList,T.len]
 ·show _ <= t.mask
  rw [length_append,length_cons,length_take,length_drop]; omega
 ·have hp : p ∈ (hs.take (SetTable.below t.place (sq t.mask h E).j) ++ h :: hs.drop (SetTable.below t.place (sq t.mask h E).j)).zip (SetTable.insertAt t.place (SetTable.below t.place (sq t.mask h E).j) (sq t.mask h E).j).toList:=hp
  show Rch t.mask (· ∈ (SetTable.insertAt t.place (SetTable.below t.place (sq t.mask h E).j) (sq t.mask h E).j).toList) p.1 p.2
  rw [SetTable.toList_insertAt,zip_ins (T.len.symm.trans Array.length_toList.symm)] at hp
  have old : ∀ q ∈ hs.zip t.place.toList,Rch t.mask (· ∈ (SetTable.insertAt t.place (SetTable.below t.place (sq t.mask h E).j) (sq t.mask h E).j).toList) q.1 q.2:=fun q hq=>(T.reach q hq).mono fun j hj=>(mem j).mpr (.inr hj)
  rcases mem_append.mp hp with hp | hp
  ·exact old p (mem_of_mem_take hp)
  ·rcases mem_cons.mp hp with hp | hp
   ·subst hp
    exact ⟨E,rfl,fun m hm=>(mem _).mpr (.inr (hl m hm))⟩
   ·exact old p (List.mem_of_mem_drop hp)
theorem TabOk.fresh (led : Bool) : TabOk (.fresh 0 0 led) []:=⟨List.Pairwise.nil,rfl,rfl,.inl rfl,Nat.zero_le _,fun p hp=>by cases hp⟩
end
abbrev Own:=Array (Option Nat)
def Fl (owner : Own) (j : Nat) : Prop:=∃ idx,owner[j]? = some (some idx)
theorem lps_front (mask : Nat) (i q : Nat) : ∀ k,lps mask (k + 1) i q = lps mask k (SetTable.leap mask i q).1 (SetTable.leap mask i q).2
 | 0=>rfl
 | k + 1=>by show SetTable.leap mask (lps mask (k + 1) i q).1 (lps mask (k + 1) i q).2 = _; rw [lps_front mask i q k]; rfl
theorem itr_run (mask i q : Nat) : ∀ k,k <= SetTable.runEnd mask i - i -> itr mask k (st0 mask i q) = { j:=i + k,more:=SetTable.runEnd mask i - i - k,i:=i,perturb:=q,dummy:=none }
 | 0,_=>rfl
 | k + 1,h=>by
  show adv mask (itr mask k _) = _
  rw [itr_run mask i q k (by omega)]
  unfold adv
  rw [if_pos (by show SetTable.runEnd mask i - i - k > 0; omega)]
  rfl
theorem run_ge (mask i : Nat) : i <= SetTable.runEnd mask i:=by unfold SetTable.runEnd; split <;> omega
theorem run_mask {mask i : Nat} (h : i <= mask) : SetTable.runEnd mask i <= mask:=by unfold SetTable.runEnd; split <;> omega
section
variable {mask : Nat} {owner : Own}
theorem getD_none {owner : Own} {j : Nat} (hj : j < owner.size) : (owner.getD j (some 0)).isNone = true ↔ ¬ Fl owner j:=by
 unfold Fl
 have e : owner.getD j (some 0) = owner[j]:=by simp [Array.getD,hj]
 rw [e,Array.getElem?_eq_getElem hj]
 cases owner[j] <;> simp
theorem free_spec (hs : owner.size = mask + 1) : ∀ (fuel i q : Nat),i <= mask -> (∃ k,k < fuel /\ ¬ Fl owner (lps mask k i q).1) ->
  ∃ r,SetTable.layClean.free mask owner fuel i q = some (itr mask r (st0 mask i q)).j /\ (itr mask r (st0 mask i q)).j <= mask /\ ¬ Fl owner (itr mask r (st0 mask i q)).j /\ ∀ m,m < r -> Fl owner (itr mask m (st0 mask i q)).j
 | 0,i,q,_,⟨k,h,_⟩=>absurd h (Nat.not_lt_zero _)
 | fuel + 1,i,q,hi,⟨k,hk,hn⟩=>by
  unfold SetTable.layClean.free
  have hre:=run_mask hi
  have hge:=run_ge mask i
  cases hf : (List.range (SetTable.runEnd mask i + 1 - i)).find? fun k=>(owner.getD (i + k) (some 0)).isNone with
  | some r =>
   dsimp only
   have hr:=List.find?_some hf
   have hm:=mem_range.mp (List.mem_of_find?_eq_some hf)
   have er : (itr mask r (st0 mask i q)).j = i + r:=by rw [itr_run mask i q r (by omega)]
   refine ⟨r,by rw [er],by rw [er]; omega,?_,fun m hmr=>?_⟩
   ·rw [er]; exact (getD_none (by omega)).mp hr
   ·have em : (itr mask m (st0 mask i q)).j = i + m:=by rw [itr_run mask i q m (by omega)]
    rw [em]
    refine Classical.byContradiction fun z=>?_
    have hz:=(getD_none (owner:=owner) (j:=i + m) (by omega)).mpr z
    obtain ⟨h1,as,bs,e1,e2⟩:=List.find?_eq_some_iff_append.mp hf
    have hmem : m ∈ as:=by
     have hlen : as.length = r:=by
      have hN : as.length < SetTable.runEnd mask i + 1 - i:=by have:=congrArg List.length e1; simp at this; omega
      have:=congrArg (fun l : List Nat=>l[as.length]?) e1
      simp only [List.getElem?_range hN,List.getElem?_append_right (Nat.le_refl as.length),Nat.sub_self,List.getElem?_cons_zero] at this
      exact Option.some.inj this
     have:=congrArg (fun l : List Nat=>l[m]?) e1
     simp only [List.getElem?_range (show m < SetTable.runEnd mask i + 1 - i by omega),List.getElem?_append_left (show m < as.length by omega)] at this
     exact List.mem_of_getElem? this.symm
    have:=e2 m hmem
    rw [hz] at this
    cases this
  | none =>
   dsimp only
   have hall : ∀ m,m <= SetTable.runEnd mask i - i -> Fl owner (i + m):=fun m hm=>Classical.byContradiction fun z=>by
    have hz:=(getD_none (owner:=owner) (j:=i + m) (by omega)).mpr z
    have:=List.find?_eq_none.mp hf m (mem_range.mpr (by omega))
    exact this hz
   have hk0 : k ≠ 0:=fun z=>by
    subst z
    have:=hall 0 (by omega)
    rw [Nat.add_zero] at this
    exact hn this
   obtain ⟨k',rfl⟩ : ∃ k',k = k' + 1:=⟨k - 1,by omega⟩
   rw [lps_front] at hn
   have hi' : (SetTable.leap mask i q).1 <= mask:=by
    show _ % (mask + 1) <= mask
    exact Nat.le_of_lt_succ (Nat.mod_lt _ (Nat.succ_pos _))
   obtain ⟨r,e1,e2,e3,e4⟩:=free_spec hs fuel _ _ hi' ⟨k',by omega,hn⟩
   have ej : itr mask (SetTable.runEnd mask i - i + 1) (st0 mask i q) = st0 mask (SetTable.leap mask i q).1 (SetTable.leap mask i q).2:=run_end mask _ (st0 mask i q) rfl rfl
   have ea : ∀ r,itr mask (r + (SetTable.runEnd mask i - i + 1)) (st0 mask i q) = itr mask r (st0 mask (SetTable.leap mask i q).1 (SetTable.leap mask i q).2):=fun r=>by rw [itr_add,ej]
   refine ⟨r + (SetTable.runEnd mask i - i + 1),by rw [ea]; exact e1,by rw [ea]; exact e2,by rw [ea]; exact e3,fun m hm=>?_⟩
   by_cases c : m <= SetTable.runEnd mask i - i
   ·rw [itr_run mask i q m c]; exact hall m c
   ·rw [show m = (m - (SetTable.runEnd mask i - i + 1)) + (SetTable.runEnd mask i - i + 1) by omega,ea]
    exact e4 _ (by omega)
structure OwnOk (mask : Nat) (hs : List Int) (owner : Own) : Prop where
 size : owner.size = mask + 1
 at' : ∀ (idx : Nat) h,hs[idx]? = some h -> ∃ j : Nat,j <= mask /\ owner[j]? = some (some idx) /\ Rch mask (Fl owner) h j
 back : ∀ (j idx : Nat),owner[j]? = some (some idx) -> idx < hs.length
 inj : ∀ (j j' idx : Nat),owner[j]? = some (some idx) -> owner[j']? = some (some idx) -> j = j'
 few : ∃ l : List Nat,l.length = hs.length /\ ∀ j,Fl owner j -> j ∈ l
theorem OwnOk.new (mask : Nat) : OwnOk mask [] (Array.replicate (mask + 1) none):=by
 have no : ∀ (j idx : Nat),(Array.replicate (mask + 1) (none : Option Nat))[j]? = some (some idx) -> False:=fun j idx h=>by
  rw [Array.getElem?_replicate] at h
  split at h <;> cases h
 exact ⟨by simp,fun idx h e=>by simp at e,fun j idx h=>(no j idx h).elim,fun j j' idx h=>(no j idx h).elim,[],rfl,fun j ⟨idx,h⟩=>(no j idx h).elim⟩
theorem OwnOk.add {hs : List Int} (hm : Mask mask) (O : OwnOk mask hs owner) (h : Int) (hr : hs.length <= mask) :
  ∃ j,SetTable.layClean.free mask owner (SetTable.turns mask) (SetTable.bits h % (mask + 1)) (SetTable.bits h) = some j /\ OwnOk mask (hs ++ [h]) (owner.setIfInBounds j (some hs.length)):=by
 obtain ⟨l,hl,hfl⟩:=O.few
 have ⟨j0,hj0,hn0⟩ : ∃ j,j <= mask /\ ¬ Fl owner j:=by
  refine Classical.byContradiction fun z=>?_
  have sub : List.range (mask + 1) ⊆ l:=fun j hj=>hfl j (Classical.byContradiction fun nf=>z ⟨j,by have:=mem_range.mp hj; omega,nf⟩)
  have:=List.Nodup.length_le_of_subset List.nodup_range sub
  rw [length_range] at this
  omega
 obtain ⟨k,hk,e⟩:=all_met hm (i:=SetTable.bits h % (mask + 1)) (bits_lt64 h) hj0
 have him : SetTable.bits h % (mask + 1) <= mask:=Nat.le_of_lt_succ (Nat.mod_lt _ (Nat.succ_pos _))
 obtain ⟨r,f1,f2,f3,f4⟩:=free_spec O.size (SetTable.turns mask) _ (SetTable.bits h) him ⟨k,by unfold SetTable.turns; omega,by rw [e]; exact hn0⟩
 refine ⟨_,f1,?_⟩
 generalize hj : (itr mask r (st0 mask (SetTable.bits h % (mask + 1)) (SetTable.bits h))).j = j at f2 f3
 have hjs : j < owner.size:=by rw [O.size]; omega
 have get : ∀ m : Nat,(owner.setIfInBounds j (some hs.length))[m]? = if j = m then some (some hs.length) else owner[m]?:=fun m=>by
  rw [Array.getElem?_setIfInBounds]
  by_cases c : j = m
  ·subst c; rw [if_pos rfl,if_pos rfl,if_pos hjs]
  ·rw [if_neg c,if_neg c]
 have flm : ∀ m,Fl owner m -> Fl (owner.setIfInBounds j (some hs.length)) m:=fun m ⟨idx,e⟩=>⟨idx,by
  rw [get,if_neg (fun z=>f3 ⟨idx,by rw [z]; exact e⟩)]; exact e⟩
 refine ⟨by simp [O.size],fun idx g eg=>?_,fun m idx hm'=>?_,fun m m' idx h1 h2=>?_,l ++ [j],by simp [hl],fun m ⟨idx,hm'⟩=>?_⟩
 ·by_cases c : idx < hs.length
  ·rw [List.getElem?_append_left c] at eg
   obtain ⟨m,m1,m2,m3⟩:=O.at' idx g eg
   exact ⟨m,m1,by rw [get,if_neg (fun z=>f3 ⟨idx,by rw [z]; exact m2⟩)]; exact m2,m3.mono flm⟩
  ·rw [List.getElem?_append_right (by omega)] at eg
   have hc : idx - hs.length = 0:=by
    have:=(List.getElem?_eq_some_iff.mp eg).1
    simp at this; omega
   rw [hc] at eg
   cases eg
   have : idx = hs.length:=by omega
   subst this
   exact ⟨j,f2,by rw [get,if_pos rfl],r,hj,fun m hm'=>flm _ (f4 m hm')⟩
 ·rw [get] at hm'
  rw [length_append]
  split at hm'
  ·cases hm'; simp
  ·have:=O.back m idx hm'; omega
 ·rw [get] at h1 h2
  split at h1
  ·cases h1
   split at h2
   ·omega
   ·have:=O.back m' _ h2; omega
  ·split at h2
   ·cases h2
    have:=O.back m _ h1; omega
   ·exact O.inj m m' idx h1 h2
 ·rw [get] at hm'
  split at hm'
  ·rename_i c; exact mem_append_right _ (by simp [c])
  ·exact mem_append_left _ (hfl m ⟨idx,hm'⟩)
theorem clean_ok (hm : Mask mask) : ∀ (rest hs : List Int) (owner : Own),OwnOk mask hs owner -> hs.length + rest.length <= mask ->
  ∃ o2,rest.foldl (fun (acc : Option (Own × Nat)) h=>do
   let (owner,k) <- acc
   let j <- SetTable.layClean.free mask owner (SetTable.turns mask) (SetTable.bits h % (mask + 1)) (SetTable.bits h)
   pure (owner.setIfInBounds j (some k),k + 1)) (some (owner,hs.length)) = some (o2,hs.length + rest.length) /\ OwnOk mask (hs ++ rest) o2
 | [],hs,owner,O,_=>⟨owner,rfl,by rw [append_nil]; exact O⟩
 | h :: rest,hs,owner,O,hl=>by
  obtain ⟨j,e,O2⟩:=O.add hm h (by rw [length_cons] at hl; omega)
  rw [List.foldl_cons]
  obtain ⟨o2,e2,O3⟩:=clean_ok hm rest (hs ++ [h]) _ O2 (by rw [length_append]; simp at hl ⊢; omega)
  refine ⟨o2,?_,by rw [append_assoc] at O3; exact O3⟩
  rw [length_append] at e2
  simp only [Option.bind_eq_bind,Option.bind_some,e,pure]
  rw [length_cons,show hs.length + (rest.length + 1) = hs.length + [h].length + rest.length by simp; omega]
  exact e2
theorem layClean_ok (hm : Mask mask) (hs : Array Int) (hl : hs.size <= mask) : ∃ o2,SetTable.layClean mask hs = some o2 /\ OwnOk mask hs.toList o2:=by
 obtain ⟨o2,e,O⟩:=clean_ok hm hs.toList [] _ (OwnOk.new mask) (by simpa using hl)
 refine ⟨o2,?_,by simpa using O⟩
 unfold SetTable.layClean
 rw [<- Array.foldl_toList]
 have e : List.foldl _ (some (Array.replicate (mask + 1) none,0)) hs.toList = some (o2,_):=e
 rw [e]
 rfl
def liveOf (mask : Nat) (o : Own) : List (Nat × Nat):=(List.range (mask + 1)).filterMap fun j=>(o.getD j none).map (j,·)
theorem live_mem {mask : Nat} {o : Own} (hs : o.size = mask + 1) (p : Nat × Nat) : p ∈ liveOf mask o ↔ o[p.1]? = some (some p.2):=by
 unfold liveOf
 rw [List.mem_filterMap]
 have ed : ∀ j,j < o.size -> o.getD j none = o[j]?.join:=fun j hj=>by simp [Array.getD,hj]
 constructor
 ·rintro ⟨j,hj,e⟩
  rw [ed j (by rw [hs]; exact mem_range.mp hj)] at e
  obtain ⟨idx,e1,rfl⟩:=Option.map_eq_some_iff.mp e
  show o[j]? = some (some idx)
  cases q : o[j]? with
  | none=>rw [q] at e1; cases e1
  | some z=>rw [q] at e1; exact congrArg some e1
 ·intro h
  have hj : p.1 < o.size:=(Array.getElem?_eq_some_iff.mp h).1
  exact ⟨p.1,mem_range.mpr (by omega),by rw [ed _ hj,h]; rfl⟩
theorem live_up (mask : Nat) (o : Own) : ((liveOf mask o).map (·.1)).Pairwise (· < ·):=by
 unfold liveOf
 rw [List.pairwise_map]
 refine List.Pairwise.filterMap _ (fun a a' h b hb b' hb'=>?_) List.pairwise_lt_range
 obtain ⟨_,_,rfl⟩:=Option.map_eq_some_iff.mp hb
 obtain ⟨_,_,rfl⟩:=Option.map_eq_some_iff.mp hb'
 exact h
theorem live_nodup {hs : List Int} {o : Own} (O : OwnOk mask hs o) : ((liveOf mask o).map (·.2)).Nodup:=by
 have h1:=live_up mask o
 rw [List.pairwise_map] at h1
 unfold List.Nodup
 rw [List.pairwise_map]
 refine List.Pairwise.imp_of_mem (fun {a b} ha hb h e=>?_) h1
 have h2:=(live_mem O.size a).mp ha
 have h3:=(live_mem O.size b).mp hb
 rw [<- e] at h3
 have:=O.inj a.1 b.1 a.2 h2 h3
 omega
theorem live_len {hs : List Int} {o : Own} (O : OwnOk mask hs o) : (liveOf mask o).length = hs.length:=by
 have nd:=live_nodup O
 have s1 : (liveOf mask o).map (·.2) ⊆ List.range hs.length:=fun x hx=>by
  obtain ⟨p,hp,rfl⟩:=mem_map.mp hx
  exact mem_range.mpr (O.back _ _ ((live_mem O.size p).mp hp))
 have s2 : List.range hs.length ⊆ (liveOf mask o).map (·.2):=fun x hx=>by
  have hx:=mem_range.mp hx
  obtain ⟨j,_,e,_⟩:=O.at' x _ (List.getElem?_eq_getElem hx)
  exact mem_map.mpr ⟨(j,x),(live_mem O.size (j,x)).mpr e,rfl⟩
 have l1:=List.Nodup.length_le_of_subset nd s1
 have l2:=List.Nodup.length_le_of_subset List.nodup_range s2
 rw [length_range,length_map] at *
 omega
theorem zip_maps {α β γ : Type} (f : α -> β) (g : α -> γ) : ∀ l : List α,(l.map f).zip (l.map g) = l.map fun x=>(f x,g x)
 | []=>rfl
 | x :: r=>by rw [map_cons,map_cons,List.zip_cons_cons,zip_maps f g r]; rfl
theorem relaid_ok {t : SetTable} {es : Array (Int × Value)} {wanted : Nat} (hm : Mask (SetTable.sizeAbove wanted - 1)) (hl : es.size <= SetTable.sizeAbove wanted - 1) :
  ∃ t2 order,t.relaid (es.map (·.1)) wanted = some (t2,order) /\ (order.filterMap (es[·]?)).toList.Perm es.toList /\ TabOk t2 ((order.filterMap (es[·]?)).toList.map (·.1)) /\ t2.led = t.led /\ t2.mask = SetTable.sizeAbove wanted - 1:=by
 generalize hM : SetTable.sizeAbove wanted - 1 = mask at hm hl
 obtain ⟨o,e,O⟩:=layClean_ok hm (es.map (·.1)) (by simpa using hl)
 have hsz : (es.map (·.1)).toList.length = es.size:=by simp
 refine ⟨{ mask:=mask,place:=((liveOf mask o).map (·.1)).toArray,dummies:=#[],finger:=t.finger,led:=t.led,moves:=t.movedTo mask,plain:=t.plain },((liveOf mask o).map (·.2)).toArray,?_,?_⟩
 ·unfold SetTable.relaid SetTable.laid
  rw [hM,e]
  rfl
 have idx : ∀ p ∈ liveOf mask o,p.2 < es.size:=fun p hp=>by have:=O.back _ _ ((live_mem O.size p).mp hp); rwa [hsz] at this
 have el : (((liveOf mask o).map (·.2)).toArray.filterMap (es[·]?)).toList = (liveOf mask o).map fun p=>es.getD p.2 (0,.none):=by
  rw [Array.toList_filterMap]
  show List.filterMap (es[·]?) ((liveOf mask o).map (·.2)) = _
  rw [List.filterMap_map]
  have : ∀ l : List (Nat × Nat),(∀ p ∈ l,p.2 < es.size) -> List.filterMap ((es[·]?) ∘ (·.2)) l = l.map fun p=>es.getD p.2 (0,.none):=fun l=>by
   induction l with
   | nil=>intro _; rfl
   | cons p r ih =>
    intro h
    have hp:=h p mem_cons_self
    have e1 : ((es[·]?) ∘ (·.2)) p = some es[p.2]:=by show es[p.2]? = _; exact Array.getElem?_eq_getElem hp
    rw [List.filterMap_cons_some e1,map_cons,ih fun q hq=>h q (mem_cons_of_mem _ hq)]
    congr 1
    simp [Array.getD,hp]
  exact this _ idx
 have perm : ((liveOf mask o).map (·.2)).Perm (List.range es.size):=by
  refine (List.perm_ext_iff_of_nodup (live_nodup O) List.nodup_range).mpr fun x=>⟨fun hx=>?_,fun hx=>?_⟩
  ·obtain ⟨p,hp,rfl⟩:=mem_map.mp hx
   exact mem_range.mpr (idx p hp)
  ·have hx:=mem_range.mp hx
   obtain ⟨j,_,e,_⟩:=O.at' x _ (List.getElem?_eq_getElem (by rw [hsz]; exact hx))
   exact mem_map.mpr ⟨(j,x),(live_mem O.size (j,x)).mpr e,rfl⟩
 refine ⟨?_,⟨?_,rfl,?_,hm,?_,fun p hp=>?_⟩,rfl,rfl⟩
 ·rw [el]
  have:=perm.map fun i=>es.getD i (0,.none)
  rw [map_map] at this
  refine this.trans ?_
  have e3 : (List.range es.size).map (fun i=>es.getD i (0,.none)) = es.toList:=by
   apply List.ext_getElem
   ·simp
   ·intro i h1 h2
    simp at h1
    simp [Array.getD,h1]
  rw [e3]
 ·exact live_up mask o
 ·rw [el]; simp
 ·rw [el,length_map,length_map,live_len O,hsz]; exact hl
 ·rw [el,map_map] at hp
  have hp : p ∈ ((liveOf mask o).map ((fun x : Int × Value=>x.1) ∘ fun p=>es.getD p.2 (0,.none))).zip ((liveOf mask o).map (·.1)):=hp
  rw [zip_maps] at hp
  obtain ⟨q,hq,rfl⟩:=mem_map.mp hp
  have hqm:=(live_mem O.size q).mp hq
  have hqi:=idx q hq
  obtain ⟨j,_,e1,r1⟩:=O.at' q.2 (es[q.2]).1 (by rw [Array.toList_map,List.getElem?_map,Array.getElem?_toList,Array.getElem?_eq_getElem hqi]; rfl)
  have ej:=O.inj j q.1 q.2 e1 hqm
  subst ej
  have eg : (es.getD q.2 (0,.none)).1 = (es[q.2]).1:=by simp [Array.getD,hqi]
  show Rch mask _ (es.getD q.2 (0,.none)).1 q.1
  rw [eg]
  refine r1.mono fun m ⟨i,hi⟩=>?_
  show m ∈ (liveOf mask o).map (·.1)
  exact mem_map.mpr ⟨(m,i),(live_mem O.size (m,i)).mpr hi,rfl⟩
end
open PySem.Spec PyProof.Rows PySem.W PySem.Calls
abbrev tK (prog : Program) (w : World):=tupleKind (mixKind prog w)
section
variable {prog : Program} {w : World} {A : Around} {E : Value -> Shared -> Prop} {s : Shared}
theorem cls_byValue (n : Nat) {v : Value} (h : carriedByValue v = true) : ofAClassStatement n v = pure false:=by
 cases v <;> first | (cases h; done) | (cases n <;> simp [ofAClassStatement])
theorem ts_cls {k : List Key} {b : Addr} {Q : Bool -> Shared -> Prop} (hk : (tK prog w).is s.heap k b) (h : Q false s) : wpAny (model prog w) A (ofAClassStatement 8 (.ref b)) Q E s:=by
 have hk : IsTupleKey (mixKind prog w) s.heap k b:=hk
 have hT:=hk.typeIs
 obtain ⟨o,items,n,ho,_,hd,hi⟩:=hk
 unfold ofAClassStatement
 refine wpAny_bind (wpAny_typeOf hT ?_)
 dsimp only
 refine wpAny_bind (wpAny_pure ?_)
 rw [if_neg (by decide)]
 refine wpAny_bind (wpAny_seqItems ho hd ?_)
 dsimp only
 refine wpAny_bind ?_
 rw [<- Array.forIn_toList]
 refine wpAny_forIn_list _ (fun rest r s'=>r.1 = none /\ s' = s /\ ∀ v ∈ rest,carriedByValue v = true) _ ?_ ?_ _ _ ⟨rfl,rfl,hi.byValue⟩
 ·rintro v rest r s' ⟨hr,rfl,hall⟩
  rw [cls_byValue _ (hall v mem_cons_self)]
  refine wpAny_bind (wpAny_pure ?_)
  rw [if_neg Bool.false_ne_true]
  exact wpAny_pure ⟨rfl,rfl,fun u hu=>hall u (mem_cons_of_mem _ hu)⟩
 ·rintro ⟨r1,r2⟩ s' ⟨hr,rfl,_⟩
  simp only at hr
  subst hr
  exact wpAny_pure h
theorem ts_seen {k : List Key} {b : Addr} {stored : List Value} {Q : Bool -> Shared -> Prop} (hk : (tK prog w).is s.heap k b) (hs : ∀ y ∈ stored,∃ c k',y = .ref c /\ (tK prog w).is s.heap k' c) (h : Q false s) : wpAny (model prog w) A (searchCouldBeSeen (.ref b) stored) Q E s:=by
 unfold searchCouldBeSeen
 refine wpAny_bind ?_
 refine wpAny_forIn_list _ (fun rest r s'=>r.1 = none /\ s' = s /\ ∀ y ∈ rest,∃ c k',y = .ref c /\ (tK prog w).is s.heap k' c) _ ?_ ?_ _ _ ⟨rfl,rfl,hs⟩
 ·rintro v rest r s' ⟨hr,rfl,hall⟩
  obtain ⟨c,k',rfl,hc⟩:=hall v mem_cons_self
  have rst:=fun u hu=>hall u (mem_cons_of_mem _ hu)
  dsimp only
  by_cases e : (b == c || (carriedByValue (.ref b) && carriedByValue (.ref c))) = true
  ·rw [if_pos e]
   exact wpAny_pure ⟨rfl,rfl,rst⟩
  ·rw [if_neg e]
   refine wpAny_bind ((tK prog w).quiet hk ?_)
   rw [if_neg (by decide)]
   refine wpAny_bind ((tK prog w).quiet hc ?_)
   rw [if_neg (by decide)]
   refine wpAny_bind (ts_cls hk ?_)
   rw [if_neg Bool.false_ne_true]
   refine wpAny_bind (ts_cls hc ?_)
   rw [if_neg Bool.false_ne_true]
   exact wpAny_pure ⟨rfl,rfl,rst⟩
 ·rintro ⟨r1,r2⟩ s' ⟨hr,rfl,_⟩
  simp only at hr
  subst hr
  exact wpAny_pure h
theorem byval_pure (n : Nat) {v : Value} (h : carriedByValue v = true) : ∃ r,hashByValue n v = pure r:=by
 cases v <;> first | (cases h; done) | (cases n <;> exact ⟨_,by first | rfl | (unfold hashByValue; rfl)⟩)
theorem ts_byval {k : List Key} {b : Addr} {Q : Bool -> Shared -> Prop} (hk : (tK prog w).is s.heap k b) (h : ∀ r,Q r s) : wpAny (model prog w) A (hashByValue 8 (.ref b)) Q E s:=by
 have hk : IsTupleKey (mixKind prog w) s.heap k b:=hk
 have hT:=hk.typeIs
 obtain ⟨o,items,n,ho,_,hd,hi⟩:=hk
 unfold hashByValue
 refine wpAny_bind (wpAny_specialOf hT PySem.F.slot_tuple_hash.lookup ?_)
 dsimp only
 refine wpAny_bind (wpAny_seqItems ho hd ?_)
 refine wpAny_bind ?_
 show wpAny _ _ (forIn items _ _) _ _ s
 rw [<- Array.forIn_toList]
 refine wpAny_forIn_list _ (fun rest r s'=>s' = s /\ ∀ v ∈ rest,carriedByValue v = true) _ ?_ ?_ _ _ ⟨rfl,hi.byValue⟩
 ·rintro v rest r s' ⟨rfl,hall⟩
  obtain ⟨c,hc⟩:=byval_pure 7 (hall v mem_cons_self)
  rw [hc]
  refine wpAny_bind (wpAny_pure ?_)
  cases c with
  | true =>
   rw [if_neg (by decide)]
   exact wpAny_pure ⟨rfl,fun u hu=>hall u (mem_cons_of_mem _ hu)⟩
  | false =>
   rw [if_pos (by decide)]
   exact wpAny_pure (wpAny_pure (h _))
 ·rintro ⟨r1,r2⟩ s' ⟨rfl,_⟩
  cases r1 with
  | none=>exact wpAny_pure (h _)
  | some r=>exact wpAny_pure (h _)
abbrev Tx:=List (List Key × Addr)
structure TsAt (prog : Program) (w : World) (h : Heap) (a : Addr) (xs : Tx) (ep : Nat) (t : SetTable) : Prop where
 obj : ∃ o,h.get? a = some o /\ o.ExactSet /\ o.data = .set (xs.map fun x=>((tK prog w).hash x.1,Value.ref x.2)).toArray ep t
 tup : ∀ x ∈ xs,(tK prog w).is h x.1 x.2
 nd : (xs.map (·.1)).Nodup
 tab : TabOk t (xs.map fun x=>(tK prog w).hash x.1)
 few : xs.length * 5 < t.mask * 3
variable {a : Addr} {xs : Tx} {ep : Nat} {t : SetTable}
theorem TsAt.state (T : TsAt prog w s.heap a xs ep t) {Q : (Array (Int × Value) × Nat × SetTable) -> Shared -> Prop} (h : Q ((xs.map fun x=>((tK prog w).hash x.1,Value.ref x.2)).toArray,ep,t) s) : wpAny (model prog w) A (setState a) Q E s:=by
 obtain ⟨o,e1,e2,e3⟩:=T.obj
 exact wpAny_setState_of e1 e3 (T.tab.fits (by simp)) h
theorem mask_odd {m : Nat} (h : Mask m) : (m % 2 == 0) = false:=by rcases h with rfl | rfl | rfl <;> rfl
theorem ts_search {k : List Key} {b : Addr} {Q : SetFound -> Shared -> Prop} (hu : (tK prog w).room A) (T : TsAt prog w s.heap a xs ep t) (hk : (tK prog w).is s.heap k b) {En : Nat} (hE : En < 10 * (t.mask + 15)) (he : (sq t.mask ((tK prog w).hash k) En).j ∉ t.place.toList) (hl : ∀ m,m < En -> (sq t.mask ((tK prog w).hash k) m).j ∈ t.place.toList)
  (h1 : k ∈ xs.map (·.1) -> Q (.there none) s) (h2 : k ∉ xs.map (·.1) -> Q (.free (sq t.mask ((tK prog w).hash k) En).j false) s) :
  ∀ (fuel k0 : Nat) (stand : Option SetTable.Probe),stand.getD (t.probeStart ((tK prog w).hash k)) = sq t.mask ((tK prog w).hash k) k0 -> k0 <= En -> En - k0 < fuel -> (∀ m (i : Nat) x,m < k0 -> t.place[i]? = some (sq t.mask ((tK prog w).hash k) m).j -> xs[i]? = some x -> x.1 ≠ k) ->
   wpAny (model prog w) A (setSearchFrom a (.ref b) ((tK prog w).hash k) true fuel stand) Q E s
 | 0,k0,stand,_,_,hf,_=>absurd hf (Nat.not_lt_zero _)
 | fuel + 1,k0,stand,hst,hk0,hf,hno=>by
  unfold setSearchFrom
  refine wpAny_bind (T.state ?_)
  dsimp only
  rw [show t.gaveWay = false from mask_odd T.tab.msk,if_neg Bool.false_ne_true]
  rw [hst]
  have pe : ∀ f : Nat -> Int,(∀ i,f i = (((xs.map fun x=>((tK prog w).hash x.1,Value.ref x.2)).toArray[i]?).map (·.1)).getD 0) -> t.probe f ((tK prog w).hash k) (sq t.mask ((tK prog w).hash k) k0) = t.probe (fun i=>(((xs.map fun x=>((tK prog w).hash x.1,Value.ref x.2)).toArray[i]?).map (·.1)).getD 0) ((tK prog w).hash k) (sq t.mask ((tK prog w).hash k) k0):=fun f hf=>by rw [funext hf]
  rw [pe _ ?sideg]
  case sideg=>intro i; rfl
  have hat : ∀ (i : Nat) x,xs[i]? = some x -> (((xs.map fun x=>((tK prog w).hash x.1,Value.ref x.2)).toArray[i]?).map (·.1)).getD 0 = (tK prog w).hash x.1:=fun i x e=>by
   rw [List.getElem?_toArray,List.getElem?_map,e]; rfl
  have plx : ∀ (i j : Nat),t.place[i]? = some j -> ∃ x,xs[i]? = some x:=fun i j e=>by
   have h1:=(Array.getElem?_eq_some_iff.mp e).1
   rw [T.tab.len,length_map] at h1
   exact ⟨_,List.getElem?_eq_getElem h1⟩
  have gg:=T.tab.go he hl (10 * SetTable.turns t.mask) k0 hk0 (by unfold SetTable.turns; omega) (hashAt:=fun i=>(((xs.map fun x=>((tK prog w).hash x.1,Value.ref x.2)).toArray[i]?).map (·.1)).getD 0)
  unfold SetTable.probe
  rcases gg with ⟨g1,g2⟩ | ⟨m,i,g1,g2,g3,g4,g5,g6⟩
  ·rw [g1]
   dsimp only
   refine wpAny_pure (h2 fun hin=>?_)
   obtain ⟨x,hx,ex⟩:=mem_map.mp hin
   obtain ⟨i,hi⟩:=List.getElem?_of_mem hx
   have hil : i < xs.length:=(List.getElem?_eq_some_iff.mp hi).1
   have hip : i < t.place.size:=by rw [T.tab.len,length_map]; exact hil
   have hz : ((tK prog w).hash k,t.place[i]) ∈ (xs.map fun x=>(tK prog w).hash x.1).zip t.place.toList:=by
    refine List.mem_of_getElem? (i:=i) ?_
    rw [List.getElem?_zip_eq_some]
    exact ⟨by rw [List.getElem?_map,hi,<- ex]; rfl,by rw [Array.getElem?_toList,Array.getElem?_eq_getElem hip]⟩
   obtain ⟨n,en,ln⟩:=T.tab.reach _ hz
   have hnE : n < En:=by
    rcases Nat.lt_trichotomy n En with c | c | c
    ·exact c
    ·subst c; exact absurd (by rw [en]; simp) he
    ·exact absurd (ln En c) he
   have hpn : t.place[i]? = some (sq t.mask ((tK prog w).hash k) n).j:=by rw [Array.getElem?_eq_getElem hip]; exact congrArg some en.symm
   by_cases c : n < k0
   ·exact hno n i x c hpn hi ex
   ·exact g2 n i (by omega) hnE hpn (by rw [hat i x hi,ex])
  ·rw [g5]
   dsimp only
   obtain ⟨x,hx⟩:=plx i _ g3
   have hxm:=List.mem_of_getElem? hx
   have exi : (xs.map fun x=>((tK prog w).hash x.1,Value.ref x.2)).toArray[i]? = some ((tK prog w).hash x.1,Value.ref x.2):=by rw [List.getElem?_toArray,List.getElem?_map,hx]; rfl
   have hfin : x.1 ≠ k -> wpAny (model prog w) A (setSearchFrom a (.ref b) ((tK prog w).hash k) true fuel (some (sq t.mask ((tK prog w).hash k) (m + 1)))) Q E s:=fun hne=>by
    refine ts_search hu T hk hE he hl h1 h2 fuel (m + 1) _ rfl (by omega) (by omega) fun m' i' x' hm' hp' hx'=>?_
    by_cases c : m' < k0
    ·exact hno m' i' x' c hp' hx'
    ·by_cases c2 : m' = m
     ·subst c2
      have ei : i' = i:=by rw [<- below_at T.tab.up hp',below_at T.tab.up g3]
      subst ei
      rw [hx] at hx'; cases hx'; exact hne
     ·intro z
      exact g6 m' i' (by omega) (by omega) hp' (by rw [hat i' x' hx',z])
   have hseen : ∀ Q' : Bool -> Shared -> Prop,Q' false s -> wpAny (model prog w) A (searchCouldBeSeen (.ref b) (((xs.map fun x=>((tK prog w).hash x.1,Value.ref x.2)).toArray.filter fun e=>e.1 == (tK prog w).hash k).toList.map (·.2))) Q' E s:=fun Q' q=>ts_seen hk (fun y hy=>by
    obtain ⟨e,he',rfl⟩:=mem_map.mp hy
    have he2 : e ∈ (xs.map fun x=>((tK prog w).hash x.1,Value.ref x.2)).toArray:=(Array.mem_filter.mp (Array.mem_toList_iff.mp he')).1
    obtain ⟨z,hz,rfl⟩:=mem_map.mp (by simpa using he2 : e ∈ xs.map fun x=>((tK prog w).hash x.1,Value.ref x.2))
    exact ⟨z.2,z.1,rfl,T.tup z hz⟩) q
   rw [exi]
   cases hled : t.led with
   | true =>
    rw [Bool.not_true,if_neg Bool.false_ne_true]
    dsimp only
    refine wpAny_bind (wpAny_holding ((tK prog w).eqBool hu (T.tup x hxm) hk ?_))
    refine wpAny_bind (T.state ?_)
    by_cases ek : x.1 = k
    ·rw [decide_eq_true ek,Bool.true_and,if_pos rfl]
     exact wpAny_pure (h1 (ek ▸ mem_map.mpr ⟨x,hxm,rfl⟩))
    ·rw [decide_eq_false ek,Bool.and_false,if_neg Bool.false_ne_true]
     dsimp only
     rw [show t.sameMemory t.moves t.mask = some true by unfold SetTable.sameMemory; rw [if_pos (beq_self_eq_true _)]]
     dsimp only
     rw [if_pos rfl,T.tab.live g3]
     dsimp only
     rw [exi]
     dsimp only
     refine wpAny_bind ?_
     unfold isSame
     dsimp only
     rw [if_pos (beq_self_eq_true _)]
     refine wpAny_pure (wpAny_bind (wpAny_pure ?_))
     rw [if_pos rfl]
     dsimp only
     rw [if_neg Bool.false_ne_true]
     exact hfin ek
   | false =>
    rw [Bool.not_false,if_pos rfl]
    refine wpAny_bind (hseen _ ?_)
    rw [if_neg Bool.false_ne_true]
    dsimp only
    refine wpAny_bind (wpAny_holding ((tK prog w).eqBool hu (T.tup x hxm) hk ?_))
    refine wpAny_bind (T.state ?_)
    by_cases ek : x.1 = k
    ·rw [decide_eq_true ek,Bool.true_and,if_pos rfl]
     exact wpAny_pure (h1 (ek ▸ mem_map.mpr ⟨x,hxm,rfl⟩))
    ·rw [decide_eq_false ek,Bool.and_false,if_neg Bool.false_ne_true]
     dsimp only
     rw [show t.sameMemory t.moves t.mask = some true by unfold SetTable.sameMemory; rw [if_pos (beq_self_eq_true _)]]
     dsimp only
     rw [if_pos rfl,T.tab.live g3]
     dsimp only
     rw [exi]
     dsimp only
     refine wpAny_bind ?_
     unfold isSame
     dsimp only
     rw [if_pos (beq_self_eq_true _)]
     refine wpAny_pure (wpAny_bind (wpAny_pure ?_))
     rw [if_pos rfl]
     dsimp only
     rw [if_neg Bool.false_ne_true]
     exact hfin ek
end
theorem perm_map_inv {α β : Type} {f : α -> β} {l m : List β} (p : l.Perm m) : ∀ {xs : List α},m = xs.map f -> ∃ ys : List α,l = ys.map f /\ ys.Perm xs:=by
 induction p with
 | nil=>intro xs h; exact ⟨[],rfl,by cases xs with
  | nil=>exact .rfl
  | cons=>cases h⟩
 | cons x _ ih =>
  intro xs h
  cases xs with
  | nil=>cases h
  | cons y r =>
   rw [map_cons] at h
   injection h with h1 h2
   obtain ⟨ys,e,q⟩:=ih h2
   exact ⟨y :: ys,by rw [map_cons,e,h1],q.cons y⟩
 | swap x y r =>
  intro xs h
  cases xs with
  | nil=>cases h
  | cons u v =>
   cases v with
   | nil=>rw [map_cons] at h; injection h with _ h; cases h
   | cons z t =>
    rw [map_cons,map_cons] at h
    injection h with h1 h2
    injection h2 with h2 h3
    exact ⟨z :: u :: t,by rw [map_cons,map_cons,h1,h2,h3],List.Perm.swap _ _ _⟩
 | trans _ _ ih1 ih2 =>
  intro xs h
  obtain ⟨ys,e,q⟩:=ih2 h
  obtain ⟨zs,e2,q2⟩:=ih1 e
  exact ⟨zs,e2,q2.trans q⟩
section
variable {prog : Program} {w : World} {A : Around} {E : Value -> Shared -> Prop} {s : Shared} {a : Addr} {xs : Tx} {ep : Nat} {t : SetTable}
theorem tk_keep {h h' : Heap} {k : List Key} {c : Addr} (x : (tK prog w).is h k c) (kp : ∀ o,h.get? c = some o -> o.cls = .type "tuple" -> h'.get? c = some o) : (tK prog w).is h' k c:=by
 have x : IsTupleKey (mixKind prog w) h k c:=x
 obtain ⟨o,items,n,ho,hc,r⟩:=x
 exact (show IsTupleKey (mixKind prog w) h' k c from ⟨o,items,n,kp o ho hc,hc,r⟩)
theorem tk_same {h h' : Heap} {k : List Key} {c : Addr} {o : Obj} (x : (tK prog w).is h k c) (ho : h.get? a = some o) (hx : o.ExactSet) (sb : Heap.SameBut a h h') : (tK prog w).is h' k c :=
 tk_keep x fun o' e hc=>(sb.2 c (fun z=>by subst z; rw [ho] at e; cases e; rw [hx.1] at hc; exact absurd (Value.type.inj hc) (by decide))).trans e
theorem grow_ok {n m : Nat} (hm : Mask m) (h1 : n * 5 < m * 3) (h2 : (n + 1) * 5 ≥ m * 3) (h3 : n < 70) : Mask (SetTable.sizeAbove (SetTable.grown (n + 1)) - 1) /\ n + 1 <= SetTable.sizeAbove (SetTable.grown (n + 1)) - 1 /\ (n + 1) * 5 < (SetTable.sizeAbove (SetTable.grown (n + 1)) - 1) * 3 /\ SetTable.sizeAbove (SetTable.grown (n + 1)) <= sizeLine:=by
 rcases hm with rfl | rfl | rfl
 ·have : n = 4:=by omega
  subst this
  exact ⟨.inr (.inl (by decide +kernel)),by decide +kernel,by decide +kernel,by rw [sizeLine_eq]; decide +kernel⟩
 ·have : n = 18:=by omega
  subst this
  exact ⟨.inr (.inr (by decide +kernel)),by decide +kernel,by decide +kernel,by rw [sizeLine_eq]; decide +kernel⟩
 ·omega
abbrev fE (prog : Program) (w : World) : List Key × Addr -> Int × Value:=fun x=>((tK prog w).hash x.1,Value.ref x.2)
theorem ts_add {k : List Key} {b : Addr} {Q : Bool -> Shared -> Prop} (hu : (tK prog w).room A) (T : TsAt prog w s.heap a xs ep t) (hk : (tK prog w).is s.heap k b) (hn : xs.length < 70)
  (h : ∀ h' r xs' ep' t',Heap.SameBut a s.heap h' -> TsAt prog w h' a xs' ep' t' -> (∀ q,q ∈ xs'.map (·.1) ↔ q ∈ xs.map (·.1) \/ q = k) -> xs'.length <= xs.length + 1 -> Q r { s with heap:=h' }) :
  wpAny (model prog w) A (setAddHashed a (.ref b) ((tK prog w).hash k)) Q E s:=by
 obtain ⟨o,ho,hex,hd⟩:=T.obj
 unfold setAddHashed setAddHashedIn
 refine wpAny_holding (wpAny_bind (T.state ?_))
 dsimp only
 rw [show byScan (.ref b) (xs.map fun x=>((tK prog w).hash x.1,Value.ref x.2)).toArray = false from rfl,if_neg Bool.false_ne_true]
 obtain ⟨En,hE,he,hl⟩:=T.tab.first ((tK prog w).hash k)
 refine wpAny_bind ?_
 unfold setSearch
 have hm127 : t.mask <= 127:=by rcases T.tab.msk with e | e | e <;> omega
 refine ts_search hu T hk hE he hl (fun hin=>?_) (fun hnin=>?_) 100000 0 none rfl (Nat.zero_le _) (by omega) fun m i x hm=>absurd hm (Nat.not_lt_zero _)
 ·dsimp only
  refine wpAny_pure ?_
  have:=h s.heap false xs ep t (Heap.SameBut.refl a s.heap) T (fun q=>⟨.inl,fun z=>z.elim id fun e=>e ▸ hin⟩) (by omega)
  cases s; exact this
 ·dsimp only
  refine wpAny_bind (T.state ?_)
  dsimp only
  have hfew:=T.few
  have hroom : (xs.map fun x=>(tK prog w).hash x.1).length + 1 <= t.mask:=by
   rw [length_map]
   rcases T.tab.msk with e | e | e <;> omega
  generalize hp : (t.put (sq t.mask ((tK prog w).hash k) En).j).2 = p
  have main : ∀ t1 : SetTable,(∃ pl,t1 = { (t.put (sq t.mask ((tK prog w).hash k) En).j).1 with plain:=pl }) -> wpAny (model prog w) A (do
    storeSet a (SetTable.insertAt (xs.map (fE prog w)).toArray p ((tK prog w).hash k,Value.ref b)) t1
    if (!false && t1.tooFull) = true then
      setRelay a (SetTable.grown ((xs.map (fE prog w)).toArray.size + 1))
      pure true
     else pure true) Q E s:=by
   rintro t1 ⟨pl,rfl⟩
   have T1:=T.tab.put he hl hroom pl
   rw [hp] at T1
   have es1 : SetTable.insertAt (xs.map (fE prog w)).toArray p ((tK prog w).hash k,Value.ref b) = ((xs.take p ++ (k,b) :: xs.drop p).map (fE prog w)).toArray:=by
    apply Array.toList_inj.mp
    rw [SetTable.toList_insertAt]
    show (xs.map (fE prog w)).take p ++ _ :: (xs.map (fE prog w)).drop p = _
    rw [map_append,map_cons,map_take,List.map_drop]
   have hs1 : (xs.map fun x=>(tK prog w).hash x.1).take p ++ (tK prog w).hash k :: (xs.map fun x=>(tK prog w).hash x.1).drop p = (xs.take p ++ (k,b) :: xs.drop p).map fun x=>(tK prog w).hash x.1:=by
    rw [map_append,map_cons,map_take,List.map_drop]
   rw [hs1] at T1
   have mem1 : ∀ z,z ∈ xs.take p ++ (k,b) :: xs.drop p ↔ z ∈ xs \/ z = (k,b):=fun z=>by
    rw [mem_append,mem_cons]
    have e:=List.take_append_drop p xs
    constructor
    ·rintro (y | y | y)
     ·exact .inl (mem_of_mem_take y)
     ·exact .inr y
     ·exact .inl (List.mem_of_mem_drop y)
    ·rintro (y | y)
     ·rw [<- e] at y
      rcases mem_append.mp y with y | y
      ·exact .inl y
      ·exact .inr (.inr y)
     ·exact .inr (.inl y)
   have perm1 : (xs.take p ++ (k,b) :: xs.drop p).Perm ((k,b) :: xs):=by
    refine List.perm_middle.trans ?_
    rw [List.take_append_drop]
   have len1 : (xs.take p ++ (k,b) :: xs.drop p).length = xs.length + 1:=by rw [perm1.length_eq]; rfl
   have nd1 : ((xs.take p ++ (k,b) :: xs.drop p).map (·.1)).Nodup:=by
    refine (perm1.map (·.1)).nodup_iff.mpr ?_
    rw [map_cons,nodup_cons]
    exact ⟨hnin,T.nd⟩
   have size0 : (xs.map (fE prog w)).toArray.size = xs.length:=by simp
   rw [es1,size0]
   clear es1 hs1
   generalize hx1 : xs.take p ++ (k,b) :: xs.drop p = xs1 at *
   generalize ht1 : ({ (t.put (sq t.mask ((tK prog w).hash k) En).j).1 with plain:=pl } : SetTable) = t1 at T1
   have hmask : t1.mask = t.mask:=by rw [<- ht1]; rfl
   have sz1 : (xs1.map (fE prog w)).toArray.size <= sizeLine:=by rw [sizeLine_eq]; simp; omega
   refine wpAny_bind (wpAny_storeSet_of ho hd ?_ sz1)
   have hg : (s.heap.update a (Obj.putSet (xs1.map (fE prog w)).toArray t1)).get? a = some { o with data:=.set (xs1.map (fE prog w)).toArray (ep + 1) t1 }:=by
    have:=Heap.get?_update_self (Obj.putSet (xs1.map (fE prog w)).toArray t1) ho (by rw [putSet_of _ _ hd]; rfl)
    rw [putSet_of _ _ hd] at this; exact this
   have hsb:=Heap.SameBut.update s.heap a (Obj.putSet (xs1.map (fE prog w)).toArray t1)
   have keys1 : ∀ q,q ∈ xs1.map (·.1) ↔ q ∈ xs.map (·.1) \/ q = k:=fun q=>by
    rw [(perm1.map (·.1)).mem_iff,map_cons,mem_cons]
    exact ⟨fun z=>z.elim .inr .inl,fun z=>z.elim .inr .inl⟩
   have fill1 : t1.fill = xs.length + 1:=by
    unfold SetTable.fill
    rw [T1.len,T1.dum,length_map,len1]; rfl
   have tup1 : ∀ h' : Heap,Heap.SameBut a s.heap h' -> ∀ x ∈ xs1,(tK prog w).is h' x.1 x.2:=fun h' sb x hx=>by
    rcases (mem1 x).mp hx with z | z
    ·exact tk_same (T.tup x z) ho hex sb
    ·rw [z]; exact tk_same hk ho hex sb
   cases hT : t1.tooFull with
   | false =>
    rw [Bool.and_false,if_neg Bool.false_ne_true]
    have nf : ¬ ((xs.length + 1) * 5 ≥ t.mask * 3):=by
     have : decide (t1.fill * 5 ≥ t1.mask * 3) = false:=hT
     rw [fill1,hmask] at this
     exact of_decide_eq_false this
    exact wpAny_pure (h _ true xs1 (ep + 1) t1 hsb ⟨⟨_,hg,hex,rfl⟩,tup1 _ hsb,nd1,T1,by rw [len1,hmask]; omega⟩ keys1 (by omega))
   | true =>
    rw [Bool.and_true,if_pos (by rfl)]
    have nf : (xs.length + 1) * 5 ≥ t.mask * 3:=by
     have : decide (t1.fill * 5 ≥ t1.mask * 3) = true:=hT
     rw [fill1,hmask] at this
     exact of_decide_eq_true this
    obtain ⟨g1,g2,g3,g4⟩:=grow_ok T.tab.msk hfew nf hn
    refine wpAny_bind ?_
    unfold setRelay
    refine wpAny_bind (wpAny_setState_of (s:={ s with heap:=s.heap.update a (Obj.putSet (xs1.map (fE prog w)).toArray t1) }) hg rfl (T1.fits (by simp)) ?_)
    dsimp only
    rw [if_neg (by omega)]
    obtain ⟨t2,order,r1,r2,r3,r4,r5⟩:=relaid_ok (t:=t1) (es:=(xs1.map (fE prog w)).toArray) (wanted:=SetTable.grown (xs.length + 1)) g1 (by simpa [len1] using g2)
    rw [r1]
    refine wpAny_bind ?_
    have hsz2 : (order.filterMap ((xs1.map (fE prog w)).toArray[·]?)).size = (xs1.map (fE prog w)).toArray.size:=by
     have:=r2.length_eq
     rw [Array.length_toList,Array.length_toList] at this
     exact this
    show wpAny _ _ (ite (((order.filterMap ((xs1.map (fE prog w)).toArray[·]?)).size != (xs1.map (fE prog w)).toArray.size) = true) _ _) _ _ _
    rw [if_neg (by rw [hsz2]; simp)]
    refine wpAny_pure ?_
    dsimp only
    obtain ⟨xs2,e2,p2⟩:=perm_map_inv r2 (f:=fE prog w) (xs:=xs1) rfl
    have ea : order.filterMap ((xs1.map (fE prog w)).toArray[·]?) = (xs2.map (fE prog w)).toArray:=Array.toList_inj.mp e2
    rw [ea] at r3 ⊢
    have l2 : xs2.length = xs.length + 1:=by rw [p2.length_eq,len1]
    refine wpAny_storeSet_of (s:={ s with heap:=s.heap.update a (Obj.putSet (xs1.map (fE prog w)).toArray t1) }) hg rfl ?_ (by rw [sizeLine_eq]; simp; omega)
    have hg2 : ((s.heap.update a (Obj.putSet (xs1.map (fE prog w)).toArray t1)).update a (Obj.putSet (xs2.map (fE prog w)).toArray t2)).get? a = some { o with data:=.set (xs2.map (fE prog w)).toArray (ep + 1 + 1) t2 }:=by
     have:=Heap.get?_update_self (Obj.putSet (xs2.map (fE prog w)).toArray t2) hg (by rw [putSet_of _ _ (show Obj.data { o with data:=.set (xs1.map (fE prog w)).toArray (ep + 1) t1 } = _ from rfl)]; rfl)
     rw [putSet_of _ _ (show Obj.data { o with data:=.set (xs1.map (fE prog w)).toArray (ep + 1) t1 } = _ from rfl)] at this
     exact this
    have hsb2:=hsb.trans (Heap.SameBut.update (s.heap.update a (Obj.putSet (xs1.map (fE prog w)).toArray t1)) a (Obj.putSet (xs2.map (fE prog w)).toArray t2))
    refine wpAny_pure (h _ true xs2 (ep + 1 + 1) t2 hsb2 ⟨⟨_,hg2,hex,rfl⟩,fun x hx=>tup1 _ hsb2 x (p2.mem_iff.mp hx),(p2.map (·.1)).nodup_iff.mpr nd1,?_,by rw [l2,r5]; exact g3⟩ (fun q=>by rw [(p2.map (·.1)).mem_iff]; exact keys1 q) (by omega))
    have e3 : (xs2.map (fE prog w)).toArray.toList.map (·.1) = xs2.map fun x=>(tK prog w).hash x.1:=by
     show (xs2.map (fE prog w)).map (·.1) = _
     rw [map_map]; rfl
    rw [e3] at r3
    exact r3
  split
  ·refine wpAny_bind (ts_byval hk fun r=>?_)
   cases r with
   | true=>exact main _ ⟨_,rfl⟩
   | false=>exact main _ ⟨false,rfl⟩
  ·refine wpAny_bind (wpAny_pure ?_)
   exact main _ ⟨_,rfl⟩
end
section
variable {prog : Program} {w : World} {A : Around} {E : Value -> Shared -> Prop} {s : Shared}
abbrev itsOf (ps : Tx) : Array Value:=(ps.map fun x=>Value.ref x.2).toArray
theorem tk_iter {h h' : Heap} {I l : Addr} {i : Nat} {k : List Key} {c : Addr} (x : (tK prog w).is h k c) (hit : h.IsListIter I l i) (kp : ∀ b o,b ∉ [I] -> h.get? b = some o -> h'.get? b = some o) : (tK prog w).is h' k c :=
 tk_keep x fun o e hc=>kp c o (fun z=>by
  rw [mem_singleton] at z
  subst z
  obtain ⟨o',e',c',_⟩:=hit
  rw [e] at e'; cases e'
  rw [hc] at c'
  exact absurd (Value.type.inj c') (by decide)) e
theorem ts_loop {R : Result -> Shared -> Prop} {I l S : Addr} {ps : Tx} (hu : (tK prog w).room A.in1) (hh : A.in1.handled = none) (hne : l ≠ I) (hS : S ∉ [I,l]) (hn : ps.length < 70) :
  ∀ (n i : Nat) (s : Shared) (xs : Tx) (ep : Nat) (t : SetTable),ps.length - i = n -> i <= ps.length -> (s.heap.IsListIter I l i /\ s.heap.IsList l (itsOf ps)) -> TsAt prog w s.heap S xs ep t -> (∀ x ∈ ps,(tK prog w).is s.heap x.1 x.2) -> xs.length <= i -> (∀ q,q ∈ xs.map (·.1) ↔ q ∈ (ps.take i).map (·.1)) ->
   (∀ h' tk xs' ep' t',(∀ b o,b ≠ S -> b ≠ I -> s.heap.get? b = some o -> h'.get? b = some o) -> TsAt prog w h' S xs' ep' t' -> (∀ q,q ∈ xs'.map (·.1) ↔ q ∈ ps.map (·.1)) -> xs'.length <= ps.length -> R (.ok (.ret .none)) { s with heap:=h',toks:=tk }) ->
   codeAny (model prog w) A (.builtin "set.update.loop" ⟨[.ref S,.ref I],[]⟩) R s:=by
 have nI : S ≠ I:=fun z=>hS (z ▸ mem_cons_self)
 have W:=Walks.list (prog:=prog) (w:=w) (A:=A.in1) hh I l hne (itsOf ps)
 have hsz : (itsOf ps).size = ps.length:=by simp
 have moved : ∀ {h h' : Heap} {i : Nat} {xs : Tx} {ep : Nat} {t : SetTable},h.IsListIter I l i -> (∀ b o,b ∉ [I] -> h.get? b = some o -> h'.get? b = some o) -> TsAt prog w h S xs ep t -> TsAt prog w h' S xs ep t:=fun hit k T=>by
  obtain ⟨o,e1,e2⟩:=T.obj
  exact ⟨⟨o,k S o (by simpa using nI) e1,e2⟩,fun x hx=>tk_iter (T.tup x hx) hit k,T.nd,T.tab,T.few⟩
 intro n
 induction n with
 | zero =>
  intro i s xs ep t hk hi st T hps hl hq hR
  have e : i = ps.length:=by omega
  subst e
  refine codeAny_builtin PyProof.Rows.F.entry_set_update_loop ?_
  rw [Around.under_plainId PyProof.Rows.F.plain_set_update_loop _]
  show wpAny _ A.in1 (pyNext (.ref I) >>= _) _ _ s
  rw [hsz] at W
  refine wpAny_bind (W.done s _ _ st fun h' tk hk=>?_)
  refine wpAny_pure (hR h' tk xs ep t (fun b o _ hb q=>hk b o (by simpa using hb) q) (moved st.1 hk T) (fun q=>by rw [hq,take_length]) hl)
 | succ n ih =>
  intro i s xs ep t hk hi st T hps hl hq hR
  have hlt : i < ps.length:=by omega
  refine codeAny_builtin PyProof.Rows.F.entry_set_update_loop ?_
  rw [Around.under_plainId PyProof.Rows.F.plain_set_update_loop _]
  show wpAny _ A.in1 (pyNext (.ref I) >>= _) _ _ s
  refine wpAny_bind (W.item i s _ _ (by rw [hsz]; exact hlt) st fun v h1 tk hv st1 k1=>?_)
  have hpi : ps[i]? = some ps[i]:=List.getElem?_eq_getElem hlt
  have ev : v = .ref ps[i].2:=by
   rw [List.getElem?_toArray,List.getElem?_map,hpi] at hv
   exact (Option.some.inj hv).symm
  subst ev
  have hpm : ps[i] ∈ ps:=List.getElem_mem hlt
  have T1:=moved st.1 k1 T
  have hps1 : ∀ x ∈ ps,(tK prog w).is h1 x.1 x.2:=fun x hx=>tk_iter (hps x hx) st.1 k1
  show wpAny _ A.in1 (holding [Value.ref ps[i].2] (setAdd S (.ref ps[i].2)) >>= _) _ _ _
  refine wpAny_bind (wpAny_holding ?_)
  unfold setAdd
  refine wpAny_holding (wpAny_bind ((tK prog w).pyHash (s:={ s with heap:=h1,toks:=tk }) hu (hps1 _ hpm) ?_))
  refine ts_add (s:={ s with heap:=h1,toks:=tk + (tK prog w).draws ps[i].1 }) hu T1 (hps1 _ hpm) (by omega) fun h2 r xs2 ep2 t2 sb T2 hq2 hl2=>?_
  obtain ⟨oS,hoS,hexS,_⟩:=T1.obj
  refine wpAny_pure ⟨plainId_quiet PyProof.Rows.F.plain_set_update_loop _,ih (i + 1) _ xs2 ep2 t2 (by omega) hlt ?_ T2 (fun x hx=>tk_same (hps1 x hx) hoS hexS sb) (by omega) (fun q=>?_) fun h3 tk3 xs3 ep3 t3 k3 T3 hq3 hl3=>?_⟩
  ·exact W.frame _ h1 _ st1 fun b hb o q=>(sb.2 b (fun z=>hS (z ▸ hb))).trans q
  ·rw [hq2,hq,List.take_succ_eq_append_getElem hlt,map_append,mem_append]
   simp
  ·exact hR h3 tk3 xs3 ep3 t3 (fun b o hb hb' q=>k3 b o hb hb' ((sb.2 b hb).trans (k1 b o (by simpa using hb') q))) T3 hq3 hl3
theorem ts_call {l : Addr} {ps : Tx} {Q : Value -> Shared -> Prop} (hu : A.units + 8 < cLine) (hh : A.handled = none) (hl : s.heap.IsList l (itsOf ps)) (hps : ∀ x ∈ ps,(tK prog w).is s.heap x.1 x.2) (hn : ps.length < 70)
  (h : ∀ h' tk xs ep t,TsAt prog w h' s.heap.objs.size xs ep t -> (∀ q,q ∈ xs.map (·.1) ↔ q ∈ ps.map (·.1)) -> xs.length <= ps.length -> (∀ b o,b < s.heap.objs.size -> s.heap.get? b = some o -> h'.get? b = some o) -> Q (.ref s.heap.objs.size) { s with heap:=h',toks:=tk }) :
  wpAny (model prog w) A (call (.type "set") [.ref l]) Q E s:=by
 have cs:=PySem.F.called_set
 obtain ⟨c0,tl0,hmro⟩:=cs.mro
 have hmade:=cs.made
 have hsub:=cs.sub
 refine wpAny_call (codeAny_of_tree (show wpAny _ _ (callAny (.type "set") _) _ _ _ from wpAny_pure ⟨Code.quiet_builtin _ (by decide +kernel),codeAny_builtin PySem.F.entry_type_call ?_⟩))
 rw [Around.under_plain (weight_type_call_type "set" [.ref l] []) rfl]
 have n1:=cs.notType
 have n2:=cs.canCreate
 have n3:=PySem.F.typeCall_set_1 (.ref l)
 repeat (any_goals (first | assumption | wp_step))
 have at1 : (s.heap.push (newS w)).get? s.heap.objs.size = some (newS w):=Heap.get?_push_size _ rfl
 refine codeAny_mono (sm_new (.ref l) (E:=E) (Q₁:=fun r s1=>r = .ref s.heap.objs.size /\ s1 = { s with heap:=s.heap.push (newS w) }) ⟨rfl,rfl⟩) fun r s1 hr=>?_
 cases r with
 | error e=>exact hr
 | ok fl =>
  cases fl with
  | next=>exact hr.elim
  | brk=>exact hr.elim
  | cont=>exact hr.elim
  | ret obj =>
   obtain ⟨rfl,rfl⟩:=hr
   have ty : Shared.TypeIs { s with heap:=s.heap.push (newS w) } (.ref s.heap.objs.size) "set":=⟨_,at1,rfl⟩
   have b1:=cs.init.lookup
   have b2:=cs.init.bind (.ref s.heap.objs.size)
   repeat (any_goals (first | assumption | wp_step))
   refine codeAny_mono (codeAny_call_builtin (R:=wants (fun r s2=>r = .none /\ ∃ h' tk xs ep t,s2 = { s with heap:=h',toks:=tk } /\ TsAt prog w h' s.heap.objs.size xs ep t /\ (∀ q,q ∈ xs.map (·.1) ↔ q ∈ ps.map (·.1)) /\ xs.length <= ps.length /\ (∀ b o,b < s.heap.objs.size -> s.heap.get? b = some o -> h'.get? b = some o)) E) cs.init.plain PySem.F.entry_set_init (check_set_init_1 ty ?_)) fun r2 s2 hr2=>?_
   ·obtain ⟨ol,hol,hcl,nl,hdl⟩:=id hl
    obtain ⟨ocls,odict,odata,oslots⟩:=ol
    simp only at hcl hdl
    subst hcl hdl
    have old1 : (s.heap.push (newS w)).get? l = some { cls:=.type "list",dict:=odict,data:=.seq (itsOf ps) nl,slots:=oslots }:=Heap.get?_push_of_some _ hol
    have f1:=PySem.F.sub_list_set
    have f2:=PySem.F.sub_list_frozenset
    have f3 : (Value.type "list" == Value.type "dict") = false:=by decide
    have hl1 : (s.heap.push (newS w)).IsList l (itsOf ps):=⟨_,old1,rfl,nl,rfl⟩
    unfold Builtin.«set.__init__» noKeywords Builtin.Frozenset.updateFrom
    generalize hPI : pyIter = PI
    wp_walk
    subst hPI
    refine wpAny_pyIter_list hl1 (wpAny_bind (wpAny_runValue ?_))
    have ltl : l < s.heap.objs.size:=Heap.lt_size hol
    have szp : (s.heap.push (newS w)).objs.size = s.heap.objs.size + 1:=Heap.size_push ..
    have nd1 : l ≠ (s.heap.push (newS w)).objs.size:=fun z=>Nat.lt_irrefl _ (Nat.lt_trans ltl (by rw [z,szp]; exact Nat.lt_succ_self _))
    have nd2 : s.heap.objs.size ∉ [(s.heap.push (newS w)).objs.size,l]:=by
     rw [szp,mem_cons,mem_singleton]
     rintro (z | z)
     ·exact Nat.lt_irrefl _ (Nat.lt_of_lt_of_eq (Nat.lt_succ_self _) z.symm)
     ·exact Nat.lt_irrefl _ (z ▸ ltl)
    refine ts_loop (ps:=ps) (show _ < cLine by simp; omega) (by simpa using hh) nd1 nd2 hn _ 0 _ [] 0 (.fresh 0 0 (!btx w)) rfl (Nat.zero_le _) ⟨⟨_,Heap.get?_push_size _ rfl,rfl,rfl⟩,hl1.push _⟩ ⟨⟨_,Heap.get?_push_of_some _ at1,⟨rfl,rfl,rfl⟩,rfl⟩,fun x hx=>(by cases hx),nodup_nil,TabOk.fresh _,(by show 0 * 5 < 7 * 3; decide)⟩ (fun x hx=>tk_keep (hps x hx) fun o e _=>Heap.get?_push_of_some _ (Heap.get?_push_of_some _ e)) (Nat.le_refl _) (fun q=>by simp) fun h' tk xs ep t kp T hq hlx=>?_
    show wpAny _ _ _ _ _ _
    refine wpAny_pure (show wpAny _ _ (ret Value.none) _ _ _ from wpAny_pure ⟨rfl,h',tk,xs,ep,t,rfl,T,hq,hlx,fun b o hb q=>kp b o (Nat.ne_of_lt hb) (by rw [szp]; exact Nat.ne_of_lt (Nat.lt_succ_of_lt hb)) (Heap.get?_push_of_some _ (Heap.get?_push_of_some _ q))⟩)
   ·cases r2 with
    | error e=>exact hr2
    | ok fl2 =>
     cases fl2 with
     | next=>exact hr2.elim
     | brk=>exact hr2.elim
     | cont=>exact hr2.elim
     | ret r =>
      obtain ⟨rfl,h',tk,xs,ep,t,rfl,T,hq,hlx,kp⟩:=hr2
      repeat (any_goals (first | assumption | wp_step))
      exact h h' tk xs ep t T hq hlx kp
end
theorem keys_of {P : Program} {w : World} {h : Heap} : ∀ {as : List Addr} {kss : List (List Key)} {xss : List (List Value)},Paired (fun u xs=>Vals u xs) (kss.map fun k=>k.map kV) xss -> Paired (fun a xs=>IsTup h a (List.toArray xs)) as xss ->
  ∃ ps : Tx,ps.map (·.1) = kss /\ ps.map (·.2) = as /\ ∀ x ∈ ps,(tK P w).is h x.1 x.2
 | _,[],_,h1,h2=>by cases h1; cases h2; exact ⟨[],rfl,rfl,fun _ z=>by cases z⟩
 | _,k :: kss,_,h1,h2=>by
  cases h1 with
  | cons v r =>
   cases h2 with
   | cons t r2 =>
    rename_i a as
    obtain ⟨ps,e1,e2,e3⟩:=keys_of (P:=P) (w:=w) r r2
    obtain ⟨o,g1,g2,n,g3⟩:=t
    refine ⟨(k,a) :: ps,by rw [map_cons,e1],by rw [map_cons,e2],fun x hx=>?_⟩
    rcases mem_cons.mp hx with rfl | hx
    ·exact ⟨o,_,n,g1,g2,g3,by simpa using items_are v⟩
    ·exact e3 x hx
section
variable {X : Cx} {e : Expr} {te : TE} {p1 p2 pos1 pos2 : Pos}
def OneEach (kss : List (List Key)) (n : Nat) : Prop:=∃ l : List (List Key),l.Nodup /\ l.length = n /\ ∀ q,q ∈ l ↔ q ∈ kss
def tLS (K : W.Frag) (te : TE) : TE:=fun σ H Q=>te σ H fun v H1=>∃ p as kss,v = .ref p /\ SqL K H1 p (as.map V.ref) /\ Paired (SqT K H1) as (kss.map fun k=>k.map kV) /\ kss.length < 70 /\ ∀ n : Nat,OneEach kss n -> Q (.int n) H1
theorem pe_lenset (hc : X.calm = true) (hu : X.A.units + 64 < cLine) (g1 : Gl X "len") (m1 : X.mg "len" = none) (v1 : bootBuiltins "len" = some (.builtin "len")) (g2 : Gl X "set") (m2 : X.mg "set" = none) (v2 : bootBuiltins "set" = some (.type "set")) (ha : PE X e te)
  (he : starEach [e] X.env = [(false,eval e X.env)]:=by rfl) : PE X (.Call (.Name "len" p1) [.Call (.Name "set" p2) [e] [] pos2] [] pos1) (tLS X.K te):=by
 intro pins s σ H Q I h
 refine wpAny_Call_Name_kw (ld_blt I g1 m1 v1 ?_)
 refine PyProof.Rows.callWith_builtin1 ?_ rfl rfl
 show wpAny _ _ (spliced [(false,eval (.Call (.Name "set" p2) [e] [] pos2) X.env)]) _ _ s
 refine Calls.spliced_cons ?_
 refine wpAny_Call_Name_kw (ld_blt I g2 m2 v2 ?_)
 refine PyProof.Rows.callWith_type1 ?_ he rfl
 rw [he]
 show wpAny _ _ (spliced [(false,eval e X.env)]) _ _ s
 refine Calls.spliced_cons (thn (ha pins s σ H _ I h) fun u s1 ⟨v,H1,I1,r1,p,as,kss,ev,sq,pr,hlen,q⟩=>Calls.spliced_nil ?_)
 subst ev
 cases r1
 obtain ⟨its,rv,pl,_⟩:=I1.list sq
 obtain ⟨xss,t1,t2⟩:=tups_ok I1 pr
 obtain ⟨ps,e1,e2,e3⟩:=keys_of (P:=X.prog) (w:=X.w) t1 t2
 have hh:=I1.ok.hd hc
 have ei : its.toArray = itsOf ps:=by
  rw [vals_refs rv,<- e2,map_map]; rfl
 rw [ei] at pl
 have lps : ps.length = kss.length:=by rw [<- e1,length_map]
 refine ts_call (ps:=ps) (by omega) hh pl.isList e3 (by omega) fun h2 tk xs ep t T hm hl kp=>?_
 have I2 : Inv X pins σ H1 { s1 with heap:=h2,toks:=tk }:=I1.kept fun b o q=>kp b o (Heap.lt_size q) q
 refine Calls.spliced_nil ?_
 obtain ⟨o,o1,o2,o3⟩:=T.obj
 have n63:=line63
 have sz : ((xs.map fun x=>((tK X.prog X.w).hash x.1,Value.ref x.2)).toArray).size = xs.length:=by simp
 refine call_len_set (s:={ s1 with heap:=h2,toks:=tk }) o1 o2 o3 (T.tab.fits (by simp)) (by rw [sz]; omega) ?_
 rw [sz]
 exact ⟨.int xs.length,H1,I2.tok _,⟨_,rfl⟩,q _ ⟨xs.map (·.1),T.nd,by rw [length_map],fun k=>by rw [hm,e1]⟩⟩
end
end L2
namespace DL
open PySem PySem.Spec PyProof.Rows L2
section
variable {X : Cx} {K : W.Frag} {E : XK} {e : Expr} {te : TD} {p1 p2 pos1 pos2 : Pos}
theorem scVs_K (k : List Key) : scVs (k.map keyV) = some (k.map kV):=by
 induction k with
 | nil=>rfl
 | cons a r ih=>rw [map_cons,scVs,ih]; cases a <;> rfl
theorem tupVs_K (kss : List (List Key)) : tupVs (kss.map tupK) = some (kss.map fun k=>k.map kV):=by
 induction kss with
 | nil=>rfl
 | cons a r ih =>
  rw [map_cons,tupVs,ih,show tupV (tupK a) = some (a.map kV) from scVs_K a]; rfl
def dLS (te : TD) : TD:=fun ρ Q Xd=>te ρ (fun d _=>∃ kss,d = .list (kss.map tupK) /\ kss.length < 70 /\ ∀ n : Nat,OneEach kss n -> Q (.int n) .old) Xd
theorem dpe_lenset (hK : X.K = K) (hc : X.calm = true) (hu : X.A.units + 64 < cLine) (g1 : Gl X "len") (m1 : X.mg "len" = none) (v1 : bootBuiltins "len" = some (.builtin "len")) (g2 : Gl X "set") (m2 : X.mg "set" = none) (v2 : bootBuiltins "set" = some (.type "set")) (ha : DE X K E e te)
  (he : starEach [e] X.env = [(false,eval e X.env)]:=by rfl) : DE X K E (.Call (.Name "len" p1) [.Call (.Name "set" p2) [e] [] pos2] [] pos1) (dLS te):=⟨qe_imp ⟨pe_lenset hc hu g1 m1 v1 g2 m2 v2 ha.q.h he⟩ fun σ H Q h=>by
 obtain ⟨H0,ν,ρ,Qd,Xd,S,h1,q,x⟩:=h
 refine ⟨H0,ν,ρ,_,Xd,S,h1,fun d k v H' g1 g2 g3=>?_,x⟩
 obtain ⟨kss,rfl,hl,g⟩:=g1
 obtain ⟨a,us,rfl,e1,e2⟩:=dns_of_lst (show Dn K H' v (.list (kss.map tupK)) from g3.den)
 obtain ⟨as,rfl,e4,_⟩:=tupVs_den e2 (tupVs_K kss)
 exact ⟨a,as,kss,rfl,hK ▸ SqL.of e1,hK ▸ e4,hl,fun n hn=>q _ _ _ _ (g n hn) g2 (.int _)⟩⟩
theorem nd_sub_len {α : Type} [DecidableEq α] : ∀ {l m : List α},l.Nodup -> (∀ q ∈ l,q ∈ m) -> l.length <= m.length
 | [],_,_,_=>Nat.zero_le _
 | a :: l,m,nd,h=>by
  obtain ⟨h1,h2⟩:=nodup_cons.mp nd
  have ha:=h a mem_cons_self
  have:=nd_sub_len (m:=m.erase a) h2 fun q hq=>(List.mem_erase_of_ne fun e=>h1 (by rw [<- e]; exact hq)).mpr (h q (mem_cons_of_mem _ hq))
  rw [List.length_erase_of_mem ha] at this
  have:=List.length_pos_of_mem ha
  rw [length_cons]
  omega
theorem nd_of_len {α : Type} [DecidableEq α] : ∀ {l m : List α},l.Nodup -> (∀ q,q ∈ l ↔ q ∈ m) -> l.length = m.length -> m.Nodup
 | _,[],_,_,_=>nodup_nil
 | l,a :: m,nd,h,e=>by
  have ha : a ∈ l:=(h a).mpr mem_cons_self
  have hn : a ∉ m:=fun z=>by
   have:=nd_sub_len nd (m:=m) fun q hq=>by
    rcases mem_cons.mp ((h q).mp hq) with rfl | y
    ·exact z
    ·exact y
   rw [e,length_cons] at this
   omega
  refine nodup_cons.mpr ⟨hn,nd_of_len (l:=l.erase a) (nd.erase a) (fun q=>?_) (by rw [List.length_erase_of_mem ha,e,length_cons]; omega)⟩
  rw [nd.mem_erase_iff,h,mem_cons]
  exact ⟨fun ⟨h1,h2⟩=>h2.resolve_left h1,fun h=>⟨fun z=>hn (z ▸ h),.inr h⟩⟩
theorem oneEach_nodup {kss : List (List Key)} {n : Nat} (h : OneEach kss n) : n = kss.length ↔ kss.Nodup:=by
 obtain ⟨l,h1,rfl,h2⟩:=h
 constructor
 ·exact nd_of_len h1 h2
 ·intro nd
  exact ((List.perm_ext_iff_of_nodup h1 nd).mpr h2).length_eq
end
end DL
namespace L2
open PySem PySem.Spec PyProof.Rows
end L2
namespace DL
open PySem PySem.Spec PyProof.Rows L2
section
variable {K : W.Frag}
def dMutL (i t : Nat) : TSD:=fun Dd ρ Xd=>i ≠ t /\ t < ρ.length /\ ∃ d0 ls,ρ[i]? = some (some (true,.tuple [d0,.list ls])) /\ (∀ d ∈ ls,∃ es,d = .list es /\ es.length < 1000000) /\ ls.length < 1000000 /\ Dd.nx ((ρ.set i none).set t none)
abbrev tR1 (K : W.Frag) (i : Nat) : TE:=tOp (rIxT K) (tVar i) (tC (.int 1))
theorem w_mutl {i t : Nat} {Dd : EndsD} {ρ : Ren} {Xd : XD} (h : i ≠ t /\ t < ρ.length /\ ∃ d0 ls,ρ[i]? = some (some (true,.tuple [d0,.list ls])) /\ (∀ d ∈ ls,∃ es,d = .list es /\ es.length < 1000000) /\ ls.length < 1000000 /\ Dd.nx ((ρ.set i none).set t none)) : dMutL i t Dd ρ Xd:=h
end
end DL
namespace L2
open PySem PySem.Spec PyProof.Rows
end L2
namespace DL
open PySem PySem.Spec PyProof.Rows L2
section
variable {X : Cx} {K : W.Frag} {x y : Str}
def fRep : F2:=fun d _ e _ Q=>match d,e with
 | .list ds,.int z=>flats ds = true /\ (0 <= z /\ ds.length * z.toNat <= 1000000 /\ z < 1000000) /\ Q (.list (List.replicate z.toNat ds).flatten) (.own [])
 | _,_=>False
theorem dns_rep {H : Hp} {us : List V} {ds : List D} (h : Dns K H us ds) : ∀ k : Nat,Dns K H (List.replicate k us).flatten (List.replicate k ds).flatten
 | 0=>.nil
 | k + 1=>by rw [replicate_succ,replicate_succ,flatten_cons,flatten_cons]; exact h.append (dns_rep h k)
theorem flats_rep {ds : List D} (h : flats ds = true) : ∀ k : Nat,flats (List.replicate k ds).flatten = true
 | 0=>rfl
 | k + 1=>by rw [replicate_succ,flatten_cons]; exact flats_app h (flats_rep h k)
theorem prim_rep : Prim2 K rRep fRep:=fun Z ν Hs H x y d k e l Qf Q hl hn hs h3 h4 h5 h6=>by
 unfold fRep at h5
 split at h5
 ·rename_i ds z
  obtain ⟨a,us,rfl,a1,a2,a3⟩:=res_list hl hn h3
  have:=dn_int h4.den
  subst this
  obtain ⟨hf,⟨b1,b2,b3⟩,q⟩:=h5
  refine ⟨a,z,us,rfl,rfl,a1,by omega,by omega,?_,fun p hp=>?_⟩
  ·rw [a2.length]; exact Nat.le_trans b2 million
  ·exact h6 _ _ _ _ q (Same.new hp) (res_newL (k:=.own []) hl hs hp ⟨[],ows_flat (dns_rep a2 _) (flats_rep hf _),nodup_nil,fun _ z=>by cases z⟩)
 ·exact h5.elim
theorem dop_rep : DOp X K (binaryOp .Mult) fRep:=⟨_,op_rep,prim_rep⟩
theorem w_rep {k l : Kd} {ds : List D} {z : Int} {Q : QD} (h : flats ds = true /\ (0 <= z /\ ds.length * z.toNat <= 1000000 /\ z < 1000000) /\ Q (.list (List.replicate z.toNat ds).flatten) (.own [])) : fRep (.list ds) k (.int z) l Q:=h
end
section
variable {X : Cx} {K : W.Frag} {E : XK} {pos pos2 pa pi px py pt apos cpos : Pos} {e e1 c : Expr} {te : TD} {tc : TDT} {x y : Str}
theorem dps_dead {st : Stmt} : DS X K E st dNever:=⟨⟨fun pins s σ H D I h=>by
 obtain ⟨H0,ν,ρ,Dd,Xd,S,h1,ok,x⟩:=h
 exact h1.elim⟩⟩
theorem dpss_dead {st : List Stmt} : DSs X K E st dNever:=⟨⟨fun pins s σ H D I h=>by
 obtain ⟨H0,ν,ρ,Dd,Xd,S,h1,ok,x⟩:=h
 exact h1.elim⟩⟩
theorem set_own {α : Type} : ∀ {l : List α} {k : Nat} {x : α},l[k]? = some x -> l.set k x = l
 | _ :: _,0,_,h=>by cases h; rfl
 | a :: l,k + 1,x,h=>by
  show a :: l.set k x = a :: l
  rw [set_own (l:=l) h]
def dForRev (i t z : Nat) (tc : TDT) (te : TD) : TSD:=fun Dd ρ Xd=>(i ≠ t /\ i ≠ z /\ t ≠ z /\ t < ρ.length /\ z < ρ.length) /\ ∃ (ds ds' : List D) (zs : Nat -> Int),ρ[i]? = some (some (true,.list ds)) /\ ρ[z]? = some (some (false,.int (zs 0))) /\ ds'.length = ds.length /\
 (∀ (k : Nat) (row : D),ds[k]? = some row -> tc (((ρ.set t none).set z (some (false,.int (zs k)))).set i none) (fun b=>(∃ es,row = .list es /\ ds'[k]? = some (.list (if b = true then es.reverse else es))) /\ te (((ρ.set t none).set z (some (false,.int (zs k)))).set i none) (fun d _=>d = .int (zs (k + 1))) Xd) Xd) /\
 Dd.nx (((ρ.set t none).set z (some (false,.int (zs ds.length)))).set i (some (true,.list ds')))
theorem dps_forrev (i t z : Nat) {zn : Str} {pz : Pos} (hp : PassesOwn (model X.prog X.w) X.A X.env X.xe) (hc : X.calm = true) (hK : X.K = K) (hN : X.N.Nodup) (hx : QE X (.Name x px) (tVar i)) (hy : QE X (.Name y py) (tVar t)) (hg : QG X (.Name y pt) (gName t)) (h1 : DT X K E c tc) (he : DE X K E e te)
  (hbase : attributeBase (.Name y py) "reverse" X.env (eval (.Name y py) X.env) = eval (.Name y py) X.env) (hline : (apos.endLine == cpos.line) = true)
  (hsw : swapsWith (.Call (.Attribute (.Name y py) "reverse" apos) [] [] cpos) none pos2.line X.env = pure false:=by rfl)
  (hzi : X.N[z]? = some zn:=by rfl) (hlo : Loc X.env.scope zn:=by first | exact Or.inl rfl | exact Or.inr rfl) (hs : swapsWith e (some (.Name zn pz)) pa.line X.env = pure false:=by rfl) (hfn : X.fn zn = true \/ X.env.scope.names.lookup zn = some .local:=by first | exact .inl rfl | exact .inr rfl | assumption)
  (hf : ∀ z,foldedSetIterable (.Name x px) X.env z = pure z:=by intro _; rfl) :
  DS X K E (.For (.Name y pt) (.Name x px) [.If c [.Expr (.Call (.Attribute (.Name y py) "reverse" apos) [] [] cpos) pos2] [] pi,.Assign [.Name zn pz] e pa] [] pos) (dForRev i t z tc te):=⟨qs_imp (qps_for hp hc (qpi_listK K hK hx) hg (qpss_cons (qps_if h1.q (qpss_one (qps_expr (qpm_reverseK K hK hy hbase hline) hsw)) qpss_nil) (qpss_one (qpset z hN he.q hzi hlo hs hfn))) hf) fun En σ H h=>by
 obtain ⟨H0,ν,ρ,Dd,Xd,S,⟨⟨hit,hiz,htz,htl,hzl⟩,ds,ds',zs,h1,h2,hlen,step,fin⟩,ok,xx⟩:=h
 obtain ⟨a,us,ns,g1,g2,g3,g4,g5,g6⟩:=own_list S h1
 rw [tFor_eq]
 refine ⟨_,g1,a,rfl,⟨us,SqL.of g2⟩,?_⟩
 have ul : us.length = ds.length:=g3.den.length
 have hil:=len_of h1
 refine loop_list us (fun k σ H=>∃ ν,StOk K Z0 H0 ν (((ρ.set t none).set z (some (false,.int (zs k)))).set i (some (true,.list (ds'.take k ++ ds.drop k)))) σ H /\ σ[i]? = some (some (.ref a)) /\ H a = some (.lst us)) ?_ ?_ ?_ ?_
 ·refine ⟨ν,?_,g1,g2⟩
  have e : ((ρ.set t none).set z (some (false,.int (zs 0)))).set i (some (true,.list (ds'.take 0 ++ ds.drop 0))) = ρ.set t none:=by
   refine List.ext_getElem? fun m=>?_
   by_cases e : m = i
   ·subst e
    rw [List.getElem?_set_self (by rw [length_set,length_set]; exact hil),List.getElem?_set_ne (fun z=>hit z.symm),h1]; rfl
   ·rw [List.getElem?_set_ne (fun z=>e z.symm)]
    by_cases e2 : m = z
    ·subst e2
     rw [List.getElem?_set_self (by rw [length_set]; exact hzl),List.getElem?_set_ne htz,h2]
    ·rw [List.getElem?_set_ne (fun z=>e2 z.symm)]
  rw [e]; exact S.drop t
 ·rintro k σ H _ ⟨_,_,_,q⟩
  exact SqL.of q
 ·rintro k v σ H hv ⟨ν,S,q1,q2⟩
  have hk : k < ds.length:=by have:=(List.getElem?_eq_some_iff.mp hv).1; omega
  obtain ⟨row,hrow⟩:=some_of_lt hk
  have hmix:=mix_get hlen hrow
  have hri : (((ρ.set t none).set z (some (false,.int (zs k)))).set i (some (true,.list (ds'.take k ++ ds.drop k))))[i]? = some (some (true,.list (ds'.take k ++ ds.drop k))):=List.getElem?_set_self (by rw [length_set,length_set]; exact hil)
  have S3:=S.junk (t:=t) (fun b d w=>by
   rw [List.getElem?_set_ne hit,List.getElem?_set_ne (fun z=>htz z.symm),List.getElem?_set_self htl] at w
   cases w) (some v)
  have hsl : σ.length = ρ.length:=by
   have:=S.len
   rw [length_set,length_set,length_set] at this
   exact this
  have hst : (σ.set t (some v))[t]? = some (some v):=List.getElem?_set_self (by omega)
  have hsi : (σ.set t (some v))[i]? = some (some (.ref a)):=by rw [List.getElem?_set_ne (fun z=>hit z.symm)]; exact q1
  obtain ⟨a',us',ns',f1,f2,f3,f4,f5,f6⟩:=own_list S3 hri
  have ea : a' = a:=by rw [hsi] at f1; cases f1; rfl
  subst ea
  have eu : us' = us:=by rw [q2] at f2; cases f2; rfl
  subst eu
  have SD:=S3.drop i
  rw [List.set_set] at SD
  refine ⟨H0,_,_,_,Xd,SD,step k row hrow,fun b H1 q e1=>?_,xx⟩
  obtain ⟨⟨es,rfl,hd⟩,q⟩:=q
  have fin : ∀ ν2 H2,StOk K Z0 H0 ν2 ((((ρ.set t none).set z (some (false,.int (zs k)))).set i (some (true,.list (ds'.take (k + 1) ++ ds.drop (k + 1)))))) (σ.set t (some v)) H2 -> H2 a' = some (.lst us') -> LE K E te (σ.set t (some v)) H2 (fun w H3=>∃ ν,StOk K Z0 H0 ν (((ρ.set t none).set z (some (false,.int (zs (k + 1))))).set i (some (true,.list (ds'.take (k + 1) ++ ds.drop (k + 1))))) ((σ.set t (some v)).set z (some w)) H3 /\ ((σ.set t (some v)).set z (some w))[i]? = some (some (.ref a')) /\ H3 a' = some (.lst us')):=fun ν2 H2 S2 hH=>by
   have S2D:=S2.drop i
   rw [List.set_set] at S2D
   refine ⟨H0,_,_,_,Xd,S2D,q,fun d kd w H3 q e3 r=>?_,xx⟩
   subst q
   have hw:=dn_int r.den
   subst hw
   have S5:=(S2.same e3).setOld z (v:=.int (zs (k + 1))) (d:=.int (zs (k + 1))) (.int _)
   rw [List.set_comm _ _ hiz,List.set_set] at S5
   exact ⟨_,S5,by rw [List.getElem?_set_ne (fun w=>hiz w.symm)]; exact hsi,e3 _ _ hH⟩
  obtain ⟨b0,ws,ms0,b1,b2,b3,b4,b5,b6,b7⟩:=S3.row (s:=[]) hri hsi f2 f3 f4 f5 f6 hmix e1 (by simp)
  have hvb : v = .ref b0:=by rw [hv] at b1; cases b1; rfl
  cases b with
  | true =>
   rw [if_pos rfl] at hd
   rw [if_pos rfl]
   obtain ⟨ms,m1,m2,m3⟩:=ows_rev b3 b5
   have hb1 : H1 b0 = some (.lst ws):=e1 _ _ b2
   refine ⟨v,hst,?_⟩
   rw [hvb] at hst ⊢
   refine ⟨tyl (SqL.of hb1),b0,ws,rfl,rfl,hb1,?_⟩
   obtain ⟨ν2,S4⟩:=b7 ws.reverse es.reverse ms ((m1.same e1).kept (kept_upd1 hb1 fun y hy z=>b4 ((m3 b0).mp (z ▸ hy)))) m2 fun y hy=>.inl ((m3 y).mp hy)
   have e5 : ((dropS (((ρ.set t none).set z (some (false,.int (zs k)))).set i (some (true,.list (ds'.take k ++ ds.drop k)))) []).set i (some (true,.list ((ds'.take k ++ ds.drop k).set k (.list es.reverse)))) : Ren) = ((ρ.set t none).set z (some (false,.int (zs k)))).set i (some (true,.list (ds'.take (k + 1) ++ ds.drop (k + 1)))):=by
    show ((((ρ.set t none).set z _).set i _).set i _ : Ren) = _
    rw [List.set_set,mix_set hlen hd]
   rw [e5] at S4
   have hba : a' ≠ b0:=fun z=>f5 (b6 a' (z ▸ mem_cons_self))
   have:=fin ν2 _ S4 (by rw [upd_ne hba]; exact e1 _ _ f2)
   rw [hvb] at this
   exact this
  | false =>
   rw [if_neg Bool.false_ne_true] at hd
   have e6 : (ds'.take (k + 1) ++ ds.drop (k + 1)) = ds'.take k ++ ds.drop k:=by
    rw [<- mix_set hlen hd]
    exact set_own hmix
   rw [if_neg Bool.false_ne_true]
   exact fin _ _ (by rw [e6]; exact S3.same e1) (e1 _ _ f2)
 ·rintro σ H ⟨ν,S,_,_⟩
  rw [ul,List.take_of_length_le (by omega),List.drop_eq_nil_of_le (Nat.le_refl _),append_nil] at S
  exact ok.nx _ _ _ _ fin S⟩
end
end DL
namespace L2
open PySem PySem.Spec PyProof.Rows
end L2
namespace DL
open PySem PySem.Spec PyProof.Rows L2
section
variable {X : Cx} {K : W.Frag} {E : XK}
theorem dmutn_of {i t : Nat} {m : Int} {b : List Stmt} (h : QSs X b (tSeq (tFor (iList K (tR1 K i)) (gName t) (tDrop (tBM K "list" rAppend (tVar t) (tCons (tC (.int m)) tNil)))) (tDrop (tBM K "list" rAppend (tR1 K i) (tCons (tLst tNil) tNil))))) : DSs X K E b (dMutL i t):=⟨qss_imp h fun En σ H h=>by
 obtain ⟨H0,ν,ρ,Dd,Xd,S,⟨hit,htl,d0,ls,h1,hall,hll,fin⟩,ok,xx⟩:=h
 have htl : t < σ.length:=by rw [S.len]; exact htl
 obtain ⟨v,g1,g2⟩:=S.sl i true _ h1
 have g2 : Ow K H v _ (ν i):=g2
 have nd:=S.nd i
 generalize hN : ν i = N at g2 nd
 cases g2 with
 | tup ht q =>
 cases q with
 | cons q1 q2 =>
 cases q2 with
 | cons q3 q4 =>
 cases q4
 cases q3 with
 | lst hb rs =>
 rename_i a vu n1 b us n2
 have hbN : b ∈ n1 ++ (b :: n2 ++ []):=by simp
 have hbn2 : b ∉ n2:=by
  rw [append_nil,nodup_append] at nd
  exact (nodup_cons.mp nd.2.1).1
 have at1 : ∀ (x y : V),atI [x,y] 1 = some y:=fun _ _=>rfl
 have hul:=rs.den.length
 have junk : ∀ (ν' : Nat -> List Addr) (H' : Hp) (σ' : L2.St),StOk K Z0 H0 ν' ((ρ.set i none).set t none) σ H' -> (σ' = σ \/ ∃ w,σ' = σ.set t (some w)) -> En.nx σ' H':=fun ν' H' σ' S1 hs'=>by
  refine ok.nx ν' _ _ _ fin ?_
  rcases hs' with rfl | ⟨w,rfl⟩
  ·exact S1
  ·refine S1.junk (t:=t) (fun b d z=>?_) (some w)
   by_cases hl : t < (ρ.set i none).length
   ·rw [List.getElem?_set_self hl] at z; cases z
   ·rw [List.getElem?_eq_none (by rw [length_set]; omega)] at z; cases z
 have hus : ∀ v ∈ us,∃ c ws,v = .ref c /\ c ∈ n2 /\ H c = some (.lst ws) /\ ws.length < 1000000:=fun v hv=>by
  obtain ⟨j,hj,ej⟩:=List.mem_iff_getElem.mp hv
  obtain ⟨d,hd'⟩ : ∃ d,ls[j]? = some d:=⟨ls[j]'(by omega),List.getElem?_eq_getElem _⟩
  obtain ⟨u,ms,e1,e2,e3,_⟩:=ows_get rs hd'
  have eu : u = v:=by rw [List.getElem?_eq_getElem hj,ej] at e1; cases e1; rfl
  subst eu
  obtain ⟨es,rfl,hl⟩:=hall d (mem_iff_getElem?.mpr ⟨j,hd'⟩)
  cases e2 with
  | lst g1 g2=>exact ⟨_,_,rfl,e3 _ mem_cons_self,g1,by rw [g2.den.length]; exact hl⟩
 show tFor _ _ _ _ σ H
 rw [tFor_eq]
 refine ⟨_,g1,a,_,1,_,rfl,rfl,ht,at1 _ _,b,rfl,⟨us,SqL.of hb⟩,?_⟩
 refine loop_list us (fun k σ' H'=>(σ' = σ \/ ∃ w,σ' = σ.set t (some w)) /\ (∀ x o,H x = some o -> x ∉ n2 -> H' x = some o) /\ H' b = some (.lst us) /\ SqT K H' a [vu,.ref b] /\ ∀ v ∈ us,∃ c ws,v = .ref c /\ c ∈ n2 /\ H' c = some (.lst ws) /\ ws.length < 1000000 + k) ⟨.inl rfl,fun _ _ e _=>e,hb,ht,hus⟩ (fun _ _ _ _ h=>SqL.of h.2.2.1) ?_ ?_
 ·rintro k v σ' H' hv ⟨hs',hk,hb',ht',hi'⟩
  have hvm : v ∈ us:=mem_iff_getElem?.mpr ⟨k,hv⟩
  have hs2 : (σ'.set t (some v)) = σ.set t (some v):=by
   rcases hs' with rfl | ⟨w,rfl⟩
   ·rfl
   ·exact List.set_set ..
  show tDrop _ _ (σ'.set t (some v)) H'
  rw [hs2]
  have hvt : (σ.set t (some v))[t]? = some (some v):=List.getElem?_set_self htl
  obtain ⟨c,ws,rfl,e2,e3,e4⟩:=hi' v hvm
  have hcb : b ≠ c:=fun z=>hbn2 (z ▸ e2)
  have hlen : ws.length < sizeLine:=by
   have hk':=(List.getElem?_eq_some_iff.mp hv).1
   rw [sizeLine_eq]
   omega
  have keep : ∀ x o,H' x = some o -> x ≠ c -> upd H' c (.lst (ws ++ [.int m])) x = some o:=fun x o hx hn=>by
   rw [upd_ne hn]; exact hx
  refine ⟨_,hvt,tyl (SqL.of e3),?_⟩
  refine ⟨c,ws,.int m,rfl,rfl,e3,hlen,.inr ⟨_,rfl⟩,fun x o ho hx=>keep x o (hk x o ho hx) (fun z=>hx (by rw [z]; exact e2)),keep b _ hb' hcb,?_,fun v hv=>?_⟩
  ·exact sqt_upd ht' e3
  ·obtain ⟨c2,ws2,f1,f2,f3,f4⟩:=hi' v hv
   by_cases z : c2 = c
   ·subst z
    rw [e3] at f3
    cases f3
    exact ⟨c2,_,f1,f2,upd_same,by rw [length_append]; show ws.length + 1 < _; omega⟩
   ·exact ⟨c2,ws2,f1,f2,keep c2 _ f3 z,by omega⟩
 ·rintro σ' H' ⟨hs',hk,hb',ht',_⟩
  have hi : σ'[i]? = some (some (.ref a)):=by
   rcases hs' with rfl | ⟨w,rfl⟩
   ·exact g1
   ·rw [List.getElem?_set_ne (fun z=>hit z.symm)]; exact g1
  show tDrop (tBM K "list" rAppend (tR1 K i) (tCons (tLst tNil) tNil)) En σ' H'
  refine ⟨_,hi,a,_,1,_,rfl,rfl,ht',at1 _ _,tyl (SqL.of hb'),by show 0 <= sizeLine; exact Nat.zero_le _,fun p hp=>?_⟩
  have hb2 : upd H' p (.lst []) b = some (.lst us):=by rw [upd_ne (fun z=>by rw [z,hp] at hb'; cases hb')]; exact hb'
  refine ⟨b,us,.ref p,rfl,rfl,hb2,by rw [hul,sizeLine_eq]; omega,?_⟩
  refine junk _ _ σ' ((S.forget i (H':=upd (upd H' p (.lst [])) b (.lst (us ++ [.ref p]))) fun x o ho hx=>?_).drop t) hs'
  rw [hN] at hx
  have hxb : x ≠ b:=fun z=>hx (by rw [z]; exact hbN)
  have hx2 : x ∉ n2:=fun z=>hx (by simp [z])
  have:=hk x o ho hx2
  rw [upd_ne hxb,upd_ne (fun z=>by rw [z,hp] at this; cases this)]
  exact this⟩
end
end DL
namespace L2
open PySem PySem.Spec PyProof.Rows PySem.W PySem.Calls
end L2
namespace DL
open PySem PySem.Spec PyProof.Rows L2
section
abbrev TDJ:=Ren -> Str -> QD -> XD -> Prop
end
end DL
namespace L2
open PySem PySem.Spec PyProof.Rows PySem.W PySem.Calls
end L2
namespace DL
open PySem PySem.Spec PyProof.Rows L2
end DL
namespace L2
open PySem PySem.Spec PyProof.Rows PySem.W PySem.Calls
section
open Builtin.Str in
end
section
variable {X : Cx} {e : Expr} {pos : Pos} {x : Str}
theorem var_st {i : Nat} {x : Str} {pos : Pos} {v : V} {pins : List (Addr × Obj)} {s : Shared} {σ : St} {H : Hp} {Q : Value -> Shared -> Prop} {E : Value -> Shared -> Prop} (I : Inv X pins σ H s) (e : σ[i]? = some (some v)) (hN : X.N[i]? = some x) (hv : Vis X.env.scope x) (fin : ∀ u,RelV v u -> Q u s)
  (hd : (x == ("__debug__" : Str)) = false:=by decide) (hcd : (x == ("__classdict__" : Str)) = false:=by decide) : wpAny (model X.prog X.w) X.A (eval (.Name x pos) X.env) Q E s:=by
 obtain ⟨m,hn,hl⟩:=I.loc
 obtain ⟨u,r,l⟩:=hl i x v hN e hv
 rcases l with ⟨hk,hm⟩ | ⟨hk,c,hc,hcell⟩
 ·exact wpAny_Name (wpAny_loadName_local I.ok.kind hk hn hm (fin u r)) hd
 ·rcases hk with hk | hk
  ·exact wpAny_Name (wpAny_loadName_cell I.ok.kind hk hc hcell (fin u r)) hd
  ·exact wpAny_Name (wpAny_loadName_free I.ok.kind hk hc hcell (fin u r) hcd) hd
end
def lkS (D : List (Str × Str)) (z : Str) : Option Str:=(D.find? fun p=>p.1 == z).map (·.2)
def rowsS : List DictEntry -> List (Str × Str) -> Bool
 | [],[]=>true
 | e :: es,(x,i) :: D=>(match e.key,e.val with
  | .str y _,.str j _=>y == x && j == i
  | _,_=>false) && rowsS es D
 | _,_=>false
structure GDcS (P : Params) (K : W.Frag) (mg : Str -> Option Value) (x : Str) (D : List (Str × Str)) : Prop where
 ex : ∃ a es n,mg x = some (.ref a) /\ (a == sysModules) = false /\ K.lookup a = some ⟨.type "dict",none,.dict es n,#[]⟩ /\ PySem.W.KeysLit P es.toList /\ rowsS es.toList D = true
theorem rowsS_find : ∀ {es : List DictEntry} {D : List (Str × Str)},rowsS es D = true -> ∀ z,(∃ i t,lkS D z = some i /\ (es.find? fun d=>Value.isStrOf z d.key).map (·.val) = some (.str i t)) \/ (lkS D z = none /\ (es.find? fun d=>Value.isStrOf z d.key).map (·.val) = none)
 | [],[],_,z=>.inr ⟨rfl,rfl⟩
 | [],_ :: _,h,_=>by cases h
 | _ :: _,[],h,_=>by cases h
 | e :: es,(x,i) :: D,h,z=>by
  unfold rowsS at h
  rw [Bool.and_eq_true] at h
  obtain ⟨h1,h2⟩:=h
  split at h1
  ·rename_i y t j t' e1 e2
   rw [Bool.and_eq_true] at h1
   have ex : y = x:=eq_of_beq h1.1
   have ei : j = i:=eq_of_beq h1.2
   subst ex ei
   have ek : Value.isStrOf z e.key = (y == z):=by rw [e1]; first | rfl | (unfold Value.isStrOf; simp [eq_comm])
   by_cases hz : (y == z) = true
   ·refine .inl ⟨j,t',?_,?_⟩
    ·unfold lkS; rw [List.find?_cons_of_pos (p:=fun p : Str × Str=>p.1 == z) hz]; rfl
    ·rw [List.find?_cons_of_pos (by rw [ek]; exact hz)]; show some e.val = _; rw [e2]
   ·have a1 : lkS ((y,j) :: D) z = lkS D z:=by unfold lkS; rw [List.find?_cons_of_neg (p:=fun p : Str × Str=>p.1 == z) hz]
    have a2 : ((e :: es).find? fun d=>Value.isStrOf z d.key) = es.find? fun d=>Value.isStrOf z d.key:=List.find?_cons_of_neg (by rw [ek]; exact hz)
    rw [a1,a2]
    exact rowsS_find h2 z
  ·cases h1
theorem findS_by {es : Array DictEntry} {D : List (Str × Str)} (h : rowsS es.toList D = true) (z : Str) : (∃ i t,lkS D z = some i /\ findBy Value.isStrOf es z = some (.str i t)) \/ (lkS D z = none /\ findBy Value.isStrOf es z = none):=by
 obtain ⟨l⟩:=es
 unfold findBy
 rw [List.find?_toArray]
 exact rowsS_find h z
section
variable {X : Cx} {e : Expr} {pos p p2 : Pos} {x g : Str} {D : List (Str × Str)}
def tGitS (D : List (Str × Str)) (j : Nat) : TE:=fun σ H Q=>∃ z i,σ[j]? = some (some (.str z)) /\ lkS D z = some i /\ Q (.str i) H
theorem pe_gitemS {j : Nat} (G : GDcS X.w.params X.K X.mg g D) (hg : Gl X g) (hN : X.N[j]? = some x) (hv : Vis X.env.scope x) (hs : PlainIx (.Name x p2)) (hd : (g == ("__debug__" : Str)) = false:=by decide) (hd2 : (x == ("__debug__" : Str)) = false:=by decide) (hcd : (x == ("__classdict__" : Str)) = false:=by decide) :
  PE X (.Subscript (.Name g p) (.Name x p2) pos) (tGitS D j):=by
 intro pins s σ H Q I h
 obtain ⟨z,i,e,e2,q⟩:=h
 obtain ⟨a,es,n,hm,lo,hl,hk,hr⟩:=G.ex
 refine Subscript_ (ld_glob I hg hm ?_ hd)
 refine var_st I e hN hv (fun u r1=>?_) hd2 hcd
 obtain ⟨t,rfl⟩:=r1
 have hm':=mapOf_K (prog:=X.prog) I.kIn hl hk
 have hf : ∃ t',findBy Value.isStrOf es z = some (.str i t'):=by
  rcases findS_by hr z with ⟨i',t',a1,a2⟩ | ⟨a1,a2⟩
  ·rw [e2] at a1; cases a1; exact ⟨t',a2⟩
  ·rw [e2] at a1; cases a1
 obtain ⟨t',hf⟩:=hf
 exact tail_any hm'.typeIs slot_dict_getitem.lookup (wpAny_getItem_of (strKind_is X.prog X.w z t) hm' hf ⟨.str i,H,I.tok _,⟨t',rfl⟩,q⟩) (hs _ _)
end
end L2
namespace DL
open PySem PySem.Spec PyProof.Rows L2
section
variable {X : Cx} {K : W.Frag} {E : XK} {pos p p2 : Pos} {x g : Str} {D : List (Str × Str)} {ρ : Ren} {Q : QD} {Xd : XD}
def dGitS (D : List (Str × Str)) (j : Nat) : TD:=fun ρ Q _=>∃ b z i,ρ[j]? = some (some (b,.str z)) /\ lkS D z = some i /\ Q (.str i) .old
theorem dpe_gits (j : Nat) (hK : X.K = K) (G : GDcS X.w.params K X.mg g D) (hg : Gl X g) (hs : PlainIx (.Name x p2)) (hN : X.N[j]? = some x:=by rfl) (hv : Vis X.env.scope x:=by first | exact Or.inl rfl | exact Or.inr (Or.inl rfl) | exact Or.inr (Or.inr rfl)) (hd : (g == ("__debug__" : Str)) = false:=by decide) (hd2 : (x == ("__debug__" : Str)) = false:=by decide) (hcd : (x == ("__classdict__" : Str)) = false:=by decide) :
  DE X K E (.Subscript (.Name g p) (.Name x p2) pos) (dGitS D j):=by
 subst hK
 refine ⟨qe_imp ⟨pe_gitemS G hg hN hv hs hd hd2 hcd⟩ fun σ H Q h=>?_⟩
 obtain ⟨H0,ν,ρ,Qd,Xd,S,⟨b,z,i,h1,h2,h3⟩,q,xx⟩:=h
 obtain ⟨v,g1,g2⟩:=S.get h1
 cases g2
 exact ⟨z,i,g1,h2,q _ _ _ _ h3 (Same.refl H) (.str _)⟩
theorem w_gits {b : Bool} {z i : Str} {j : Nat} (h1 : ρ[j]? = some (some (b,.str z))) (h2 : lkS D z = some i) (h : Q (.str i) .old) : dGitS D j ρ Q Xd:=⟨b,z,i,h1,h2,h⟩
end
end DL
namespace L2
open PySem PySem.Spec PyProof.Rows PySem.W PySem.Calls
def ddN (ns : List Int) : Nat:=(firstMet (fun i=>ns.getD i 0) ns.length).length
def tLI (K : W.Frag) (te : TE) : TE:=fun σ H Q=>te σ H fun v H1=>∃ p ns,v = .ref p /\ SqL K H1 p (ns.map V.int) /\ ns.length < 1000 /\ Q (.int (ddN ns)) H1
section
variable {X : Cx} {e : Expr} {te : TE} {p1 p2 pos1 pos2 : Pos}
theorem pe_lensetI (hc : X.calm = true) (hu : X.A.units + 64 < cLine) (g1 : Gl X "len") (m1 : X.mg "len" = none) (v1 : bootBuiltins "len" = some (.builtin "len")) (g2 : Gl X "set") (m2 : X.mg "set" = none) (v2 : bootBuiltins "set" = some (.type "set")) (ha : PE X e te)
  (he : starEach [e] X.env = [(false,eval e X.env)]:=by rfl) : PE X (.Call (.Name "len" p1) [.Call (.Name "set" p2) [e] [] pos2] [] pos1) (tLI X.K te):=by
 intro pins s σ H Q I h
 refine wpAny_Call_Name_kw (ld_blt I g1 m1 v1 ?_)
 refine PyProof.Rows.callWith_builtin1 ?_ rfl rfl
 show wpAny _ _ (spliced [(false,eval (.Call (.Name "set" p2) [e] [] pos2) X.env)]) _ _ s
 refine Calls.spliced_cons ?_
 refine wpAny_Call_Name_kw (ld_blt I g2 m2 v2 ?_)
 refine PyProof.Rows.callWith_type1 ?_ he rfl
 rw [he]
 show wpAny _ _ (spliced [(false,eval e X.env)]) _ _ s
 refine Calls.spliced_cons (thn (ha pins s σ H _ I h) fun u s1 ⟨v,H1,I1,r1,p,ns,ev,sq,hlen,q⟩=>Calls.spliced_nil ?_)
 subst ev
 cases r1
 obtain ⟨its,rv,pl,_⟩:=I1.list sq
 have iz : IntsAre its ns:=intsAre_of rv
 have hl : its.length = ns.length:=IntsAre.length iz
 have hsz : its.toArray.size = ns.length:=by simpa using hl
 have hh:=I1.ok.hd hc
 refine call_set_list (l:=p) (items:=its.toArray) (ns:=ns) hh pl.isList (by simpa using iz) (by rw [hsz]; unfold scanBound; omega) fun h2 tk T kp=>?_
 have I2 : Inv X pins σ H1 { s1 with heap:=h2,toks:=tk }:=I1.kept fun b o q=>kp b o (Heap.lt_size q) q
 refine Calls.spliced_nil ?_
 obtain ⟨o,es,ep,t,o1,o2,o3,o4,o5,o6,o7,o8⟩:=T
 rw [hsz] at o8
 refine call_len_set (s:={ s1 with heap:=h2,toks:=tk }) o1 o2 o3 o7 (by unfold scanBound at o6; omega) ?_
 rw [o8]
 exact ⟨.int (ddN ns),H1,I2.tok _,⟨_,rfl⟩,q⟩
end
theorem ddN_one {ns : List Int} (h : ns ≠ []) : 1 < ddN ns ↔ ∃ x ∈ ns,∃ y ∈ ns,x ≠ y:=by
 have hm : ∀ i,(List.range i).map (fun j=>ns.getD j 0) = (List.range i).map fun j=>ns.getD j 0:=fun _=>rfl
 have em : (List.range ns.length).map (fun j=>ns.getD j 0) = ns:=by
  refine List.ext_getElem? fun i=>?_
  by_cases hi : i < ns.length
  ·rw [List.getElem?_map,List.getElem?_range hi,List.getElem?_eq_getElem hi]
   show some (ns.getD i 0) = _
   rw [getD_eq_getElem?_getD,List.getElem?_eq_getElem hi]; rfl
  ·rw [List.getElem?_eq_none (by simp; omega),List.getElem?_eq_none (by omega)]
 have ha : ∀ k,(firstMet (fun i=>ns.getD i 0) ns.length).any (· == k) = ns.any (· == k):=fun k=>by
  rw [firstMet_any,em]
 have mem : ∀ k,k ∈ firstMet (fun i=>ns.getD i 0) ns.length ↔ k ∈ ns:=fun k=>by
  have:=ha k
  rw [Bool.eq_iff_iff,any_eq_true,any_eq_true] at this
  constructor
  ·intro hk
   obtain ⟨x,hx,e⟩:=this.mp ⟨k,hk,by simp⟩
   have : x = k:=by simpa using e
   rwa [<- this]
  ·intro hk
   obtain ⟨x,hx,e⟩:=this.mpr ⟨k,hk,by simp⟩
   have : x = k:=by simpa using e
   rwa [<- this]
 have nd : ∀ i,(firstMet (fun i=>ns.getD i 0) i).Nodup:=fun i=>by
  induction i with
  | zero=>exact nodup_nil
  | succ i ih =>
   rw [firstMet_succ]
   unfold step_dedup
   split
   ·exact ih
   ·rename_i hx
    rw [nodup_append]
    refine ⟨ih,by simp,fun a ha b hb=>?_⟩
    rw [mem_singleton] at hb
    subst hb
    intro e
    subst e
    exact hx (any_eq_true.mpr ⟨_,ha,by simp⟩)
 have nd:=nd ns.length
 unfold ddN
 revert mem nd
 generalize firstMet (fun i=>ns.getD i 0) ns.length = L
 intro mem nd
 match L,mem,nd with
 | [],mem,_ =>
  exfalso
  obtain ⟨x,hx⟩:=List.exists_mem_of_ne_nil ns h
  exact absurd ((mem x).mpr hx) (by simp)
 | [a],mem,_ =>
  refine iff_of_false (by simp) ?_
  rintro ⟨x,hx,y,hy,ne⟩
  have h1 : x = a:=by simpa using (mem x).mpr hx
  have h2 : y = a:=by simpa using (mem y).mpr hy
  exact ne (h1.trans h2.symm)
 | a :: b :: r,mem,nd =>
  refine iff_of_true (by simp) ⟨a,(mem a).mp (by simp),b,(mem b).mp (by simp),?_⟩
  intro e
  subst e
  simp at nd
end L2
namespace DL
open PySem PySem.Spec PyProof.Rows L2
section
variable {X : Cx} {K : W.Frag} {E : XK} {e : Expr} {te : TD} {p1 p2 pos1 pos2 : Pos}
def dLI (te : TD) : TD:=fun ρ Q Xd=>te ρ (fun d _=>∃ ns : List Int,d = iD ns /\ ns.length < 1000 /\ Q (.int (ddN ns)) .old) Xd
theorem dpe_lensetI (hK : X.K = K) (hc : X.calm = true) (hu : X.A.units + 64 < cLine) (g1 : Gl X "len") (m1 : X.mg "len" = none) (v1 : bootBuiltins "len" = some (.builtin "len")) (g2 : Gl X "set") (m2 : X.mg "set" = none) (v2 : bootBuiltins "set" = some (.type "set")) (ha : DE X K E e te)
  (he : starEach [e] X.env = [(false,eval e X.env)]:=by rfl) : DE X K E (.Call (.Name "len" p1) [.Call (.Name "set" p2) [e] [] pos2] [] pos1) (dLI te):=⟨qe_imp ⟨pe_lensetI hc hu g1 m1 v1 g2 m2 v2 ha.q.h he⟩ fun σ H Q h=>by
 obtain ⟨H0,ν,ρ,Qd,Xd,S,h1,q,x⟩:=h
 refine ⟨H0,ν,ρ,_,Xd,S,h1,fun d k v H' g1 g2 g3=>?_,x⟩
 obtain ⟨ns,rfl,hl,g⟩:=g1
 obtain ⟨a,us,rfl,e1,e2⟩:=dns_of_lst (show Dn K H' v (.list (ns.map PyData.int)) from g3.den)
 have e3:=dns_ints e2 (intsD_map ns)
 subst e3
 exact ⟨a,ns,rfl,hK ▸ SqL.of e1,hl,q _ _ _ _ g g2 (.int _)⟩⟩
theorem w_li {ρ : Ren} {Q : QD} {Xd : XD} (h : te ρ (fun d _=>∃ ns : List Int,d = iD ns /\ ns.length < 1000 /\ Q (.int (ddN ns)) .old) Xd) : dLI te ρ Q Xd:=h
end
end DL
namespace L2
open PySem PySem.Spec PyProof.Rows PySem.W PySem.Calls
section
variable {X : Cx}
def tLR2 (ta : TA) : TE:=fun σ H Q=>ta σ H fun vs H1=>∃ i j : Int,vs = [.int i,.int j] /\ (-1000000 <= i /\ i <= j /\ j <= 1000000) /\ ∀ l,H1 l = none -> Q (.ref l) (upd H1 l (.lst ((List.range (j - i).toNat).map fun (k : Nat)=>V.int (i + (k : Int)))))
theorem pe_listrange2 {a b : Expr} {ta : TA} {p p2 pos pos2 : Pos} (hc : X.calm = true) (hg : Gl X "list") (hm : X.mg "list" = none) (hg2 : Gl X "range") (hm2 : X.mg "range" = none) (ha : PA X [a,b] ta)
  (hs : starEach [a,b] X.env = [(false,eval a X.env),(false,eval b X.env)]:=by rfl) (hsb : starEach [b] X.env = [(false,eval b X.env)]:=by rfl) (hs2 : starEach [(.Call (.Name "range" p2) [a,b] [] pos2)] X.env = [(false,eval (.Call (.Name "range" p2) [a,b] [] pos2) X.env)]:=by rfl) : PE X (.Call (.Name "list" p) [.Call (.Name "range" p2) [a,b] [] pos2] [] pos) (tLR2 ta):=by
 intro pins s σ H Q I h
 refine Call_ (ld_blt I hg hm PyProof.Rows.boot_list (PyProof.Rows.callWith_type1 ?_ hs2 rfl))
 rw [hs2]
 show wpAny _ _ (spliced ((false,eval (.Call (.Name "range" p2) [a,b] [] pos2) X.env) :: backTo pos [])) _ _ s
 refine Calls.spliced_cons (Call_ (ld_blt I hg2 hm2 boot_range (PyProof.Rows.callWith_type1 (thn (ha pos2 pins s σ H _ I h) fun us s1 ⟨vs,H1,I1,r1,q1⟩=>?_) (by rw [hs,hsb]) (by rw [hsb]; rfl))))
 obtain ⟨i,j,rfl,⟨hi,hij,hj⟩,q⟩:=q1
 obtain ⟨u,u',rfl,⟨t,rfl⟩,t',rfl⟩:=vals2 r1
 refine call_range_2 (Calls.spliced_nil ?_)
 have hsz : Builtin.Range.rangeSize i j 1 = (((j - i).toNat : Nat) : Int):=by rw [rangeSize_one]; split <;> omega
 have hle : (j - i).toNat <= 2000000:=by omega
 revert hsz hle
 generalize (j - i).toNat = n at q ⊢
 intro hsz hle
 refine call_list_range (I.ok.hd hc) (IsRange.new ..) (small_one (by omega) (by omega) (by omega) (by omega)) hsz (by omega) fun h' tk acc' c' hk hS hacc=>?_
 have I2 : Inv X pins σ H1 { s1 with heap:=s1.heap.push { cls:=.type "range",data:=.fields #[.int i t,.int j t',.int 1 s1.toks] },toks:=s1.toks + 1 }:=I1.kept fun b o e=>Heap.get?_push_of_some _ e
 obtain ⟨ha1,ha2⟩:=hacc
 have hv : Vals ((List.range n).map fun (k : Nat)=>V.int (i + (k : Int))) acc'.toList:=by
  have : ∀ (k : Nat) (l : List Value) (m : Nat),l.length = k -> (∀ (j : Nat) (v : Value),l[j]? = some v -> ∃ t,v = Value.int (i + ((m + j : Nat) : Int)) t) -> Vals ((List.range' m k).map fun (k : Nat)=>V.int (i + (k : Int))) l:=by
   intro k
   induction k with
   | zero=>intro l m hl _; cases l with
    | nil=>exact .nil
    | cons _ _=>cases hl
   | succ k ih =>
    intro l m hl hj
    cases l with
    | nil=>cases hl
    | cons v l =>
     rw [List.range'_succ,map_cons]
     refine .cons ?_ (ih l (m + 1) (by simpa using hl) fun j v' e=>?_)
     ·obtain ⟨t,rfl⟩:=hj 0 v rfl
      exact ⟨t,by simp⟩
     ·obtain ⟨t,rfl⟩:=hj (j + 1) v' (by simpa using e)
      exact ⟨t,by congr 1; omega⟩
  rw [List.range_eq_range']
  refine this n acc'.toList 0 (by simpa using ha1) fun j v e=>?_
  obtain ⟨t,rfl⟩:=ha2 j v (by simpa using e)
  exact ⟨t,by congr 1 <;> omega⟩
 have I3:=I2.laid (h':=h') (t':=tk) (o:=.lst ((List.range n).map fun (k : Nat)=>V.int (i + (k : Int)))) hk (Nat.le_refl _) ⟨by rw [length_map,length_range]; exact Nat.le_trans hle (by decide),acc'.toList,c',hv,by simpa using hS⟩
 refine ⟨.ref _,_,I3,rfl,q _ ?_⟩
 exact I1.hok.fresh (by rw [Heap.size_push]; exact Nat.le_succ _)
end
end L2
namespace DL
open PySem PySem.Spec PyProof.Rows L2
section
variable {X : Cx} {K : W.Frag} {E : XK} {pos : Pos}
def dLR2 (ta : TDA) : TD:=fun ρ Q Xd=>ta ρ (fun ds _=>match ds with
 | [.int i,.int j]=>(-1000000 <= i /\ i <= j /\ j <= 1000000) /\ Q (.list ((List.range (j - i).toNat).map fun (k : Nat)=>PyData.int (i + (k : Int)))) (.own [])
 | _=>False) Xd
theorem dpe_listrange2 {a b : Expr} {ta : TDA} {p p2 pos2 : Pos} (hc : X.calm = true) (hg : Gl X "list") (hm : X.mg "list" = none) (hg2 : Gl X "range") (hm2 : X.mg "range" = none) (ha : DA X K E [a,b] ta) (hs : starEach [a,b] X.env = [(false,eval a X.env),(false,eval b X.env)]:=by rfl) (hsb : starEach [b] X.env = [(false,eval b X.env)]:=by rfl) (hs2 : starEach [(.Call (.Name "range" p2) [a,b] [] pos2)] X.env = [(false,eval (.Call (.Name "range" p2) [a,b] [] pos2) X.env)]:=by rfl) :
  DE X K E (.Call (.Name "list" p) [.Call (.Name "range" p2) [a,b] [] pos2] [] pos) (dLR2 ta):=⟨qe_imp ⟨pe_listrange2 hc hg hm hg2 hm2 ha.q.h hs hsb hs2⟩ fun σ H Q h=>by
 obtain ⟨H0,ν,ρ,Qd,Xd,S,h1,q,x⟩:=h
 refine ⟨H0,ν,ρ,_,Xd,S,h1,fun ds k vs H' q1 e1 r1=>?_,x⟩
 split at q1
 ·rename_i i j
  obtain ⟨v,w',rfl,h2,h3⟩:=dns2 r1.dens
  obtain ⟨hb,q1⟩:=q1
  refine ⟨i,j,by rw [dn_int h2,dn_int h3],hb,fun l hl=>q _ _ _ _ q1 (e1.trans (Same.new hl)) (res_newL (S.same e1).hl e1 hl ⟨[],?_,nodup_nil,fun _ z=>by cases z⟩)⟩
  have:=dns_of_ints (K:=K) (H:=H') ((List.range (j - i).toNat).map fun (k : Nat)=>(i + (k : Int)))
  rw [map_map,map_map] at this
  refine ows_flat this ?_
  have:=flats_ints (ns:=(List.range (j - i).toNat).map fun (k : Nat)=>(i + (k : Int)))
  rw [map_map] at this
  exact this
 ·exact q1.elim⟩
theorem w_lr2 {ta : TDA} {ρ : Ren} {Q : QD} {Xd : XD} (h : ta ρ (fun ds _=>on2I ds fun i j=>(-1000000 <= i /\ i <= j /\ j <= 1000000) /\ Q (.list ((List.range (j - i).toNat).map fun (k : Nat)=>PyData.int (i + (k : Int)))) (.own [])) Xd) : dLR2 ta ρ Q Xd:=h
end
end DL
namespace M50
structure Ar where
 i : Int
 j : Int
 k : Int
deriving DecidableEq
def key (a : Ar) : Int:=a.i * 1000000 + a.j * 1000 + a.k
def Bd (a : Ar) : Prop:=(0 <= a.i /\ a.i < 1000) /\ (0 <= a.j /\ a.j < 1000) /\ 0 <= a.k /\ a.k < 1000
theorem perm_of_sub {α : Type} [DecidableEq α] : ∀ {l m : List α},l.Nodup -> (∀ a ∈ l,a ∈ m) -> m.length <= l.length -> l.Perm m
 | [],m,_,_,h=>by
  cases m with
  | nil=>exact .nil
  | cons b m=>simp at h
 | a :: l,m,nd,sub,h=>by
  have ha:=sub a mem_cons_self
  have nd':=nodup_cons.mp nd
  have e:=List.perm_cons_erase ha
  refine (List.Perm.cons a (perm_of_sub nd'.2 (fun b hb=>?_) ?_)).trans e.symm
  ·exact (List.mem_erase_of_ne (fun z : b = a=>nd'.1 (z ▸ hb))).mpr (sub b (mem_cons_of_mem _ hb))
  ·rw [List.length_erase_of_mem ha]
   rw [length_cons] at h
   omega
def ks (p j : Int) (m : Nat) : List Ar:=(List.range m).map fun (k : Nat)=>⟨p,j,(k : Int)⟩
def frA (p : Int) : Nat -> List Int -> List Ar
 | _,[]=>[]
 | j,x :: r=>ks p j x.toNat ++ frA p (j + 1) r
def frm (row : List Int) (p : Int) : List Ar:=frA p 0 row
theorem frA_snoc (p : Int) : ∀ (r : List Int) (j : Nat) (x : Int),frA p j (r ++ [x]) = frA p j r ++ ks p ((j + r.length : Nat) : Int) x.toNat
 | [],j,x=>by show ks p j x.toNat ++ [] = [] ++ ks p ((j + 0 : Nat) : Int) x.toNat; rw [append_nil]; rfl
 | a :: r,j,x=>by
  show ks p j a.toNat ++ frA p (j + 1) (r ++ [x]) = (ks p j a.toNat ++ frA p (j + 1) r) ++ _
  rw [frA_snoc p r (j + 1) x,append_assoc,length_cons,show j + 1 + r.length = j + (r.length + 1) by omega]
theorem mem_ks {p j : Int} {m : Nat} {a : Ar} : a ∈ ks p j m ↔ a.i = p /\ a.j = j /\ 0 <= a.k /\ a.k < m:=by
 unfold ks
 rw [mem_map]
 constructor
 ·rintro ⟨k,hk,rfl⟩
  have:=mem_range.mp hk
  exact ⟨rfl,rfl,by show (0 : Int) <= k; omega,by show (k : Int) < m; omega⟩
 ·rintro ⟨rfl,rfl,h1,h2⟩
  exact ⟨a.k.toNat,mem_range.mpr (by omega),by cases a; simp only [Ar.mk.injEq,true_and]; dsimp only at h1; omega⟩
theorem mem_frA {p : Int} {a : Ar} : ∀ {r : List Int} {j : Nat},a ∈ frA p j r ↔ a.i = p /\ ∃ n : Nat,n < r.length /\ a.j = ((j + n : Nat) : Int) /\ 0 <= a.k /\ a.k < r.getD n 0
 | [],j=>by simp [frA]
 | x :: r,j=>by
  show a ∈ ks p j x.toNat ++ frA p (j + 1) r ↔ _
  rw [mem_append,mem_ks,mem_frA]
  constructor
  ·rintro (⟨h1,h2,h3,h4⟩ | ⟨h1,n,h2,h3,h4,h5⟩)
   ·exact ⟨h1,0,by simp,by rw [h2]; rfl,h3,by show a.k < x; omega⟩
   ·exact ⟨h1,n + 1,by simp; omega,by rw [h3]; congr 1; omega,h4,h5⟩
  ·rintro ⟨h1,n,h2,h3,h4,h5⟩
   cases n with
   | zero=>exact .inl ⟨h1,h3,h4,by have h5 : a.k < x:=h5; omega⟩
   | succ n=>exact .inr ⟨h1,n,by simpa using h2,by rw [h3]; congr 1; omega,h4,h5⟩
theorem mem_frm {row : List Int} {p : Int} {a : Ar} : a ∈ frm row p ↔ a.i = p /\ 0 <= a.j /\ a.j < row.length /\ 0 <= a.k /\ a.k < row.getD a.j.toNat 0:=by
 unfold frm
 rw [mem_frA]
 constructor
 ·rintro ⟨h1,n,h2,h3,h4,h5⟩
  have e : a.j.toNat = n:=by omega
  exact ⟨h1,by omega,by omega,h4,by rw [e]; exact h5⟩
 ·rintro ⟨h1,h2,h3,h4,h5⟩
  exact ⟨h1,a.j.toNat,by omega,by omega,h4,h5⟩
theorem ks_up (p j : Int) (m : Nat) : (ks p j m).Pairwise fun a b=>key a < key b:=by
 unfold ks
 rw [List.pairwise_map]
 refine List.Pairwise.imp ?_ List.pairwise_lt_range
 intro a b h
 unfold key
 dsimp only
 omega
theorem frA_up {p : Int} : ∀ {r : List Int} {j : Nat},(∀ x ∈ r,x < 1000) -> (frA p j r).Pairwise fun a b=>key a < key b
 | [],_,_=>.nil
 | x :: r,j,h=>by
  show (ks p j x.toNat ++ frA p (j + 1) r).Pairwise _
  rw [List.pairwise_append]
  refine ⟨ks_up _ _ _,frA_up fun y hy=>h y (mem_cons_of_mem _ hy),fun a ha b hb=>?_⟩
  obtain ⟨a1,a2,a3,a4⟩:=mem_ks.mp ha
  obtain ⟨b1,n,b2,b3,b4,b5⟩:=mem_frA.mp hb
  have:=h x mem_cons_self
  unfold key
  rw [a1,a2,b1,b3]
  omega
theorem frA_len {p : Int} : ∀ {r : List Int} {j : Nat},(∀ x ∈ r,0 <= x) -> (((frA p j r).length : Nat) : Int) = r.sum
 | [],_,_=>rfl
 | x :: r,j,h=>by
  show (((ks p j x.toNat ++ frA p (j + 1) r).length : Nat) : Int) = x + r.sum
  have e:=frA_len (p:=p) (r:=r) (j:=j + 1) fun y hy=>h y (mem_cons_of_mem _ hy)
  have:=h x mem_cons_self
  have e2 : (ks p j x.toNat).length = x.toNat:=by simp [ks]
  rw [length_append,e2]
  omega
theorem frm_nodup {row : List Int} {p : Int} (h : ∀ x ∈ row,x < 1000) : (frm row p).Nodup:=by
 refine List.Pairwise.imp ?_ (frA_up h)
 intro a b h e
 rw [e] at h
 omega
theorem frm_bd {row : List Int} {p : Int} (hp : 0 <= p /\ p < 1000) (hl : row.length <= 1000) (h : ∀ x ∈ row,x < 1000) {a : Ar} (ha : a ∈ frm row p) : Bd a:=by
 obtain ⟨h1,h2,h3,h4,h5⟩:=mem_frm.mp ha
 refine ⟨by omega,by omega,h4,?_⟩
 have hm : row.getD a.j.toNat 0 ∈ row:=by
  rw [getD_eq_getElem?_getD,List.getElem?_eq_getElem (by omega)]
  exact List.getElem_mem _
 have:=h _ hm
 omega
def Good (R : List (List Int)) (p : Int) (ps : List (List Ar)) : Prop:=(0 <= p /\ p < R.length) /\ 2 <= ps.length /\ (∀ q ∈ ps,q ≠ []) /\ ps.flatten.Perm (frm (R.getD p.toNat []) p)
theorem perm_iff {row : List Int} {p : Int} {l : List Ar} (h0 : ∀ x ∈ row,0 <= x) (h : ∀ x ∈ row,x < 1000) : l.Perm (frm row p) ↔ (∀ a ∈ l,a ∈ frm row p) /\ l.Nodup /\ ((l.length : Nat) : Int) = row.sum:=by
 have e : (((frm row p).length : Nat) : Int) = row.sum:=frA_len h0
 constructor
 ·intro q
  exact ⟨fun a ha=>q.mem_iff.mp ha,q.nodup_iff.mpr (frm_nodup h),by rw [q.length_eq]; exact e⟩
 ·rintro ⟨h1,h2,h3⟩
  exact perm_of_sub h2 h1 (by omega)
def cnt (q : List Ar) (e : Int) : Int:=((q.filter fun a=>a.j == e).length : Nat)
def cs (n : Nat) (q : List Ar) : List Int:=(List.range n).map fun e=>cnt q (e : Nat)
def rowsP (R : List (List Int)) (p : Nat) (ps : List (List Ar)) : List (List Int):=R.take p ++ [cs R.length (ps.getD 0 [])] ++ R.drop (p + 1) ++ (ps.drop 1).map (cs R.length)
def madeP (R : List (List Int)) (p : Nat) (ps : List (List Ar)) : List (List Int):=(rowsP R p ps).map fun row=>row ++ List.replicate (ps.length - 1) (row.getD p 0)
theorem map_const {α β : Type} (x : β) : ∀ l : List α,l.map (fun _=>x) = List.replicate l.length x
 | []=>rfl
 | a :: l=>by show x :: l.map _ = _; rw [map_const x l]; rfl
end M50
namespace DL
open PySem PySem.Spec PyProof.Rows PySem.W L2 M50
def aD (a : Ar) : D:=.tuple [.int a.i,.int a.j,.int a.k]
end DL
local macro_rules | `(tactic| walk_at "d") => `(tactic| repeat (first | with_reducible refine DL.w_nx ?_ | with_reducible refine DL.w_rep ?_ | with_reducible refine DL.w_tryN ?_ | with_reducible refine DL.w_isX ?_ | with_reducible refine DL.w_isXT ?_ | with_reducible refine DL.w_xCl ?_ | with_reducible refine DL.w_xTp ?_ | with_reducible refine DL.w_xRt ?_ | with_reducible refine DL.w_rt ?_ | with_reducible refine DL.w_seq ?_ | with_reducible refine DL.w_set ?_ | with_reducible refine DL.w_ret ?_ | with_reducible refine DL.w_drop ?_ | with_reducible refine DL.w_next ?_ | with_reducible refine DL.w_ifS ?_ | with_reducible refine DL.w_frz ?_ | with_reducible refine DL.w_c ?_ | with_reducible refine DL.w_op ?_ | with_reducible refine DL.w_fI0 ?_ | with_reducible refine DL.w_fI ?_ | with_reducible refine DL.w_addI ?_ | with_reducible refine DL.w_addL ?_ | with_reducible refine DL.w_ixLi ?_ | with_reducible refine DL.w_ixLg ?_ | with_reducible refine DL.w_ixT ?_ | with_reducible refine DL.w_eqI ?_ | with_reducible refine DL.w_eq ?_ | with_reducible refine DL.w_is ?_ | with_reducible refine DL.w_in ?_ | with_reducible refine DL.w_inT ?_ | with_reducible refine DL.w_notV ?_ | with_reducible refine DL.w_andV ?_ | with_reducible refine DL.w_B ?_ | with_reducible refine DL.w_or ?_ | with_reducible refine DL.w_not ?_ | with_reducible refine DL.w_true ?_ | with_reducible refine DL.w_extK ?_ | with_reducible refine DL.w_app2K ?_ | with_reducible refine DL.w_putK ?_ | with_reducible refine DL.w_put1 ?_ | with_reducible refine DL.w_if ?_ | with_reducible refine DL.w_chain ?_ | with_reducible refine DL.w_nil ?_ | with_reducible refine DL.w_cons ?_ | with_reducible refine DL.w_ints ?_ | with_reducible refine DL.w_tup ?_ | with_reducible refine DL.w_lst ?_ | with_reducible refine DL.w_call0 ?_ | with_reducible refine DL.w_call ?_ | with_reducible refine DL.w_cb ?_ | with_reducible refine DL.w_len ?_ | with_reducible refine DL.w_lenI ?_ | with_reducible refine DL.w_lenG ?_ | with_reducible refine DL.w_lenS ?_ | with_reducible refine DL.w_sumI ?_ | with_reducible refine DL.w_bls ?_ | with_reducible refine DL.w_intB ?_ | with_reducible refine DL.w_listI ?_ | with_reducible refine DL.w_min2 ?_ | with_reducible refine DL.w_max2 ?_ | with_reducible refine DL.w_isi ?_ | with_reducible refine DL.w_sl ?_ | with_reducible refine DL.w_noPart ?_ | with_reducible refine DL.w_part ?_ | with_reducible refine DL.w_slI ?_ | with_reducible refine DL.w_slG ?_ | with_reducible refine DL.w_bName ?_ | with_reducible refine DL.w_bTup ?_ | with_reducible refine DL.w_bCons ?_ | with_reducible refine DL.w_bNil ?_ | with_reducible refine DL.w_for ?_ | with_reducible refine DL.w_iL ?_ | with_reducible refine DL.w_iT ?_ | with_reducible refine DL.w_onPut rfl rfl ?_ | with_reducible refine DL.w_callO ?_ | with_reducible refine DL.w_on1I ?_ | with_reducible refine DL.w_on2I ?_ | with_reducible refine DL.w_iR1 ?_ | with_reducible refine DL.w_lr ?_ | with_reducible refine DL.w_lr2 ?_ | with_reducible refine DL.w_li ?_ | with_reducible refine DL.w_unp ?_ | with_reducible refine DL.w_raise ?_ | with_reducible refine DL.w_lc ?_ | with_reducible refine DL.w_emit ?_ | with_reducible refine DL.w_bFor ?_ | with_reducible refine DL.w_ift ?_ | with_reducible refine DL.w_iff ?_ | with_reducible refine DL.w_onB ?_ | with_reducible refine DL.w_onI ?_ | with_reducible refine DL.w_onL ?_ | with_reducible refine DL.w_onLi ?_ | with_reducible refine DL.w_onLg ?_ | with_reducible refine DL.w_onT ?_ | with_reducible refine DL.w_v0 ?_ | with_reducible refine DL.w_v1 ?_ | with_reducible refine DL.w_v2 ?_ | with_reducible refine DL.w_v3 ?_ | with_reducible refine DL.w_v4 ?_ | with_reducible refine DL.w_v5 ?_ | with_reducible refine DL.w_v6 ?_ | with_reducible refine DL.w_v7 ?_ | with_reducible refine DL.w_v8 ?_ | with_reducible refine DL.w_v9 ?_ | with_reducible refine DL.w_o1 ?_ | with_reducible refine DL.w_o2 ?_ | with_reducible refine DL.w_o3 ?_ | with_reducible refine DL.w_o4 ?_ | with_reducible refine DL.w_o5 ?_ | with_reducible refine DL.w_o6 ?_ | with_reducible refine DL.w_o7 ?_ | with_reducible refine DL.w_o8 ?_ | ((with_reducible refine And.intro ?c ?_); (case c => first | exact trivial | exact Nat.le_of_ble_eq_true rfl | decide | (unfold L2.CPow; decide) | (unfold L2.CDiv; decide) | exact L2.CMul.ok (.inl ⟨by decide, by decide⟩) | exact L2.CMul.ok (.inr ⟨by decide, by decide⟩) | exact rfl | omega)) | simp only [DL.kels2_flat, DL.setK_int, DL.setK_bool, DL.setK_str, DL.setK_non, DL.setK_own, DL.setK_old, DL.setK_mix, DL.setK_ownI, DL.setK_oldI, DL.setK_mixI, DL.setK_ownG, DL.setK_ownT, DL.setK_oldT, DL.setK_mixT, DL.setK_ownK, DL.setK_oldK, DL.setK_mixK, DL.flat_dT, DL.flat_dK, DL.setK_oldG, DL.setK_mixG, DL.setK_tup, DL.rtK_int, DL.rtK_bool, DL.rtK_str, DL.rtK_non, DL.rtK_own, DL.rtK_tup, DL.kcons_flat, DL.kcons_int, DL.kcons_boo, DL.kcons_st, DL.kcons_nn, DL.one_iD, DL.two_iD, DL.kcons_own, DL.kcons_old, DL.frz_nil, DL.frz1_0, DL.frz1_s, DL.frz_some, DL.frz_none, DL.dropS_nil, DL.dropS_cons, DL.kRet_t, DL.kRet_f, DL.sub_own, DL.sub_old, DL.sub_ownc, DL.sub_mix, DL.isOld_own, DL.isOld_old, DL.isOld_mix, DL.isOld_ownc, DL.eff_int, DL.eff_bool, DL.eff_str, DL.eff_tup, DL.eff_ltc, DL.eff_iD, DL.eff_gD, DL.isOwnK_own, DL.isOwnK_old, DL.unpK_own, DL.unpK_flat, DL.setAll_cons, DL.setAll_nil, DL.app_iD, DL.app_gD, DL.list_iD, DL.list_gD, DL.flat_int, DL.flat_bool, DL.flat_str, DL.flat_non, DL.flat_list, DL.flat_tuple, DL.flats_nil, DL.flats_cons, DL.flat_iD, DL.flat_gD, List.set_cons_zero, List.set_cons_succ, append_nil, nil_append, Bool.and_true, Bool.true_and, Bool.and_self, Bool.not_true, Bool.not_false, DL.capR, DL.capOk, map_cons, List.map_nil, List.cons_append, List.getElem?_cons_zero, List.getElem?_cons_succ, Option.join_some, Option.map_some, List.all_cons, List.all_nil]))
local macro_rules | `(tactic| walk_at "sc") => `(tactic| exact ⟨rfl, rfl, rfl, by decide +kernel, rfl, by decide +kernel, by decide +kernel⟩)
namespace K52
open PySem PySem.Spec PyProof.Rows L2 DL M50
def top (i : Nat) : Stmt := PySem.Challenge.pw_foreverrows_k52_joined.main.body.getD i (.Pass ⟨0, 0, 0, 0⟩)
structure Blt (mg : Str -> Option Value) : Prop where
 len : mg "len" = none
 range : mg "range" = none
 list : mg "list" = none
 int : mg "int" = none
 isinstance : mg "isinstance" = none
 any : mg "any" = none
 all : mg "all" = none
 zip : mg "zip" = none
 sum : mg "sum" = none
 min : mg "min" = none
 max : mg "max" = none
 tuple : mg "tuple" = none
 bool : mg "bool" = none
 enumerate : mg "enumerate" = none
 set : mg "set" = none
 sorted : mg "sorted" = none
section
variable {P : Program} {w : World} {K : W.Frag} {mg : Str -> Option Value} {base : Heap}
def scr (ns : List Int) : D:=.dict [(.none,.list (ns.map .int))]
abbrev s_l_cell_at : Stmt:=top 23
theorem sc_l_cell_at : FnScope ["_law_script","_law_k"] ["_law_script","_law_k"] (defScope s_l_cell_at):=by walk_at "sc"
def sp_cell : SpD:=fun ds Q _=>∃ (ns : List Int) (k : Int),ds = [scr ns,.int k] /\ 0 <= k /\ ∀ z : Int,Q (.int z) true
theorem ok_l_cell_at {f : Addr} {fd : FuncData} (F : Fun K "_law_cell_at" "_law_cell_at" s_l_cell_at f fd) (T : Blt mg) : FnOk P w K mg base CX0 1 f fd ["_law_script","_law_k"] (SpL K sp_cell):=by
 refine ok0 F sc_l_cell_at (fun ds Q X h=>?_) (fun cdv A outer s H E hr=>?_) fun ds Qd Xd h=>h
 ·obtain ⟨ns,k,rfl,_⟩:=h; rfl
 refine ⟨_,(dpss_cons (dps_if (dpt_cmp dop_lt (dpv 1) (dpe_callB (dcl_len (by rfl)) (by rfl) (by exact T.len) (by decide +kernel) (dpa_cons (dpv 0) dpa_nil)) (nomark _)) (dpss_one (dps_ret (dpe_ix (dix (by rfl)) (dpv 0) (dpv 1) (fun _ _=>rfl)))) dpss_nil)
   (dpss_one (dps_ret dpe_int))),fun ds Qd h=>?_⟩
 obtain ⟨ns,k,rfl,hk,q⟩:=h
 show (_ : TSD) _ [some (false,.dict [(.none,.list (ns.map .int))]),some (false,.int k)] _
 walk_at "d"
 refine ite2 (fun h1=>?_) fun _=>?_
 ·walk_at "d"
  have hlt : k.toNat < ns.length:=by simp at h1; omega
  refine ⟨.int ns[k.toNat],?_,?_⟩
  ·have:=atI_nat (xs:=ns.map PyData.int) (j:=k.toNat) (v:=PyData.int ns[k.toNat]) (by simp [hlt])
   rw [show ((k.toNat : Nat) : Int) = k from Int.toNat_of_nonneg hk] at this
   exact this
  ·exact q _
 ·walk_at "d"
  exact q _
abbrev s_l_big : Stmt:=top 24
theorem sc_l_big : FnScope ["_law_script","_law_at","_law_cell","_law_primes","_law_big_here","_law_k","_law_one"] ["_law_script","_law_at"] (defScope s_l_big):=by walk_at "sc"
def sp_big : SpD:=fun ds Q _=>∃ (ns : List Int) (k : Int),ds = [scr ns,.int k] /\ 0 <= k /\ ∀ z : Int,0 <= z -> Q (.int z) true
theorem ok_l_big {f : Addr} {fd : FuncData} (F : Fun K "_law_big" "_law_big" s_l_big f fd) (T : Blt mg) (D_l_cell_at : Df P w K mg base "_law_cell_at" ["_law_script","_law_k"] 1 (SpL K sp_cell)) : FnOk P w K mg base CX0 2 f fd ["_law_script","_law_at"] (SpL K sp_big):=by
 refine ok0 F sc_l_big (fun ds Q X h=>?_) (fun cdv A outer s H E hr=>?_) fun ds Qd Xd h=>h
 ·obtain ⟨ns,k,rfl,_⟩:=h; rfl
 refine ⟨_,(dpss_cons (dpset 2 sc_l_big.nd (dpe_df (by exact D_l_cell_at) (by exact hr.mono (by omega)) (dpa_cons (dpv 0) (dpa_cons (dpv 1) dpa_nil))))
   (dpss_cons (dps_if (dpt_cmp dop_ge (dpv 2) (dpe_op dop_pow dpe_int dpe_int) (nomark _)) (dpss_one (dps_ret (dpv 2))) dpss_nil)
   (dpss_cons (dpset 3 sc_l_big.nd (dpe_tup (dpa_ints (by rfl))))
   (dpss_cons (dpset 4 sc_l_big.nd dpe_int)
   (dpss_cons (dps_for PassesOwn.never rfl (dpi_range1 (by rfl) (by exact T.range) (dpa_cons dpe_int dpa_nil)) (dpgn 5 sc_l_big.nd) (dpss_cons (dpset 6 sc_l_big.nd (dpe_op dop_add (dpe_op dop_add (dpe_op dop_mod (dpe_df (by exact D_l_cell_at) (by exact hr.mono (by omega)) (dpa_cons (dpv 0) (dpa_cons (dpe_op dop_add (dpv 1) (dpe_op dop_mod (dpv 5) dpe_int)) dpa_nil))) (dpe_op dop_pow dpe_int dpe_int)) (dpe_op dop_mul dpe_int (dpv 5))) dpe_int))
   (dpss_one (dpset 4 sc_l_big.nd (dpe_op dop_add (dpe_op dop_mul (dpv 4) dpe_int) (dpe_op dop_mod (dpe_op dop_mul (dpe_op dop_mod (dpe_op dop_add (dpe_op dop_mul (dpv 6) (dpv 6)) (dpe_op dop_mul dpe_int (dpv 5))) (dpe_ix (dix (by rfl)) (dpv 3) (dpe_op dop_mod (dpv 5) dpe_int) (fun _ _=>rfl))) (dpe_op dop_add (dpv 5) dpe_int)) dpe_int))))))
   (dpss_one (dps_ret (dpv 4)))))))),fun ds Qd h=>?_⟩
 obtain ⟨ns,k,rfl,hk,q⟩:=h
 show (_ : TSD) _ [some (false,scr ns),some (false,.int k),none,none,none,none,none] _
 walk_at "d"
 refine ⟨ns,k,rfl,hk,fun z=>?_⟩
 walk_at "d"
 refine ite2 (fun h1=>?_) fun h1=>?_
 ·walk_at "d"
  refine q z ?_
  have : (0 : Int) <= 10 ^ Int.toNat 18:=by decide
  simp at h1; omega
 walk_at "d"
 refine lp_rng (fun i ρ=>∃ (b : Int) (x y : Option (Bool × D)),ρ = [some (false,scr ns),some (false,.int k),some (false,.int z),some (false,.tuple [.int 99989,.int 99971,.int 99961,.int 99929,.int 99923,.int 99907,.int 99901,.int 99881,.int 99877]),some (false,.int b),x,y] /\ 0 <= b) ⟨0,_,_,rfl,by decide⟩ ?_ ?_
 ·rintro i ρ hi ⟨b,x,y,rfl,hb⟩
  walk_at "d"
  have h9:=Int.emod_nonneg (0 + (i : Int)) (show (9 : Int) ≠ 0 by decide)
  have h9':=Int.emod_lt_of_pos (0 + (i : Int)) (show (0 : Int) < 9 by decide)
  refine ⟨ns,_,rfl,by omega,fun c=>?_⟩
  walk_at "d"
  have c1 : (10 : Int) ^ Int.toNat 18 = 1000000000000000000:=by decide
  rw [c1]
  have hi' : i < 64:=hi
  have h0:=Int.emod_nonneg c (show (1000000000000000000 : Int) ≠ 0 by decide)
  have h1:=Int.emod_lt_of_pos c (show (0 : Int) < 1000000000000000000 by decide)
  refine ⟨CMul.ok (.inl ⟨by omega,by omega⟩),?_⟩
  walk_at "d"
  obtain ⟨m,hm,em⟩ : ∃ m : Nat,m < 9 /\ (0 + (i : Int)) % 9 = (m : Int):=⟨((0 + (i : Int)) % 9).toNat,by omega,by omega⟩
  obtain ⟨pr,hpr,hpp⟩ : ∃ pr : Int,[PyData.int 99989,.int 99971,.int 99961,.int 99929,.int 99923,.int 99907,.int 99901,.int 99881,.int 99877][m]? = some (PyData.int pr) /\ 0 < pr /\ pr < 100000:=by
   match m,hm with
   | 0,_=>exact ⟨_,rfl,by decide,by decide⟩
   | 1,_=>exact ⟨_,rfl,by decide,by decide⟩
   | 2,_=>exact ⟨_,rfl,by decide,by decide⟩
   | 3,_=>exact ⟨_,rfl,by decide,by decide⟩
   | 4,_=>exact ⟨_,rfl,by decide,by decide⟩
   | 5,_=>exact ⟨_,rfl,by decide,by decide⟩
   | 6,_=>exact ⟨_,rfl,by decide,by decide⟩
   | 7,_=>exact ⟨_,rfl,by decide,by decide⟩
   | 8,_=>exact ⟨_,rfl,by decide,by decide⟩
  refine ⟨.int pr,by rw [em]; exact atI_nat hpr,?_⟩
  walk_at "d"
  refine ⟨CMul.ok (.inr ⟨by omega,by omega⟩),?_⟩
  walk_at "d"
  refine ⟨_,_,_,rfl,?_⟩
  have:=Int.emod_nonneg (((c % 1000000000000000000 + 7 * (0 + (i : Int)) + 1) * (c % 1000000000000000000 + 7 * (0 + (i : Int)) + 1) + 31 * (0 + (i : Int))) % pr * (0 + (i : Int) + 3)) (show (8191 : Int) ≠ 0 by decide)
  omega
 ·rintro ρ ⟨b,x,y,rfl,hb⟩
  walk_at "d"
  exact q b hb
theorem map_erase {α β : Type} (f : α -> β) : ∀ (l : List α) (j : Nat),(l.map f).eraseIdx j = (l.eraseIdx j).map f
 | [],_=>rfl
 | _ :: _,0=>rfl
 | a :: l,j + 1=>by
  show f a :: (l.map f).eraseIdx j = f a :: (l.eraseIdx j).map f
  rw [map_erase f l j]
abbrev s_l_order : Stmt:=top 25
theorem sc_l_order : FnScope ["_law_many","_law_big_here","_law_rest","_law_order_here"] ["_law_many","_law_big_here"] (defScope s_l_order):=by walk_at "sc"
def sp_order : SpD:=fun ds Q _=>∃ (n : Nat) (b : Int),ds = [.int n,.int b] /\ n <= 6 /\ 0 <= b /\ ∀ os : List Int,os.length = n -> (∀ x ∈ os,0 <= x /\ x < n) -> Q (iD os) true
theorem ok_l_order {f : Addr} {fd : FuncData} (F : Fun K "_law_order" "_law_order" s_l_order f fd) (T : Blt mg) : FnOk P w K mg base CX0 1 f fd ["_law_many","_law_big_here"] (SpL K sp_order):=by
 refine ok0 F sc_l_order (fun ds Q X h=>?_) (fun cdv A outer s H E hr=>?_) fun ds Qd Xd h=>h
 ·obtain ⟨n,b,rfl,_⟩:=h; rfl
 refine ⟨_,(dpss_cons (dpset 2 sc_l_order.nd (dpe_listrange (by rfl) (by rfl) (by exact T.list) (by rfl) (by exact T.range) (dpa_cons (dpv 0) dpa_nil)))
   (dpss_cons (dpset 3 sc_l_order.nd (dpe_lst dpa_nil))
   (dpss_cons (dps_while PassesOwn.never (dpt_cmp (dop_ne (by rfl) (by exact hr.units)) (dpv 2) (dpe_lst dpa_nil) (nomark _)) (dpss_cons (dps_appPop 3 2 (by rfl) (qpv 3) (qpv 2) (dpe_op dop_mod (dpv 1) (dpe_callB (dcl_len (by rfl)) (by rfl) (by exact T.len) (by decide +kernel) (dpa_cons (dpv 2) dpa_nil))) (by rfl) (by rfl) (by rfl) (by rfl) (by rfl) (by rfl))
   (dpss_one (dpset 1 sc_l_order.nd (dpe_op dop_fdivB (dpv 1) (dpe_op dop_add (dpe_callB (dcl_len (by rfl)) (by rfl) (by exact T.len) (by decide +kernel) (dpa_cons (dpv 2) dpa_nil)) dpe_int))))))
   (dpss_one (dps_ret (dpv 3)))))),fun ds Qd h=>?_⟩
 obtain ⟨n,b,rfl,hn,hb,q⟩:=h
 show (_ : TSD) _ [some (false,.int n),some (false,.int b),none,none] _
 walk_at "d"
 refine ⟨n,rfl,by omega,?_⟩
 walk_at "d"
 refine ⟨fun m ρ=>∃ (bb : Int) (rs os : List Int),ρ = [some (false,.int n),some (false,.int bb),some (true,iD rs),some (true,iD os)] /\ m = rs.length /\ 0 <= bb /\ rs.length + os.length = n /\ (∀ x ∈ rs,0 <= x /\ x < n) /\ ∀ x ∈ os,0 <= x /\ x < n,⟨_,b,(List.range n).map fun (i : Nat)=>(i : Int),[],by unfold iD; rw [map_map]; rfl,rfl,hb,by simp,fun x hx=>?_,fun x hx=>by cases hx⟩,?_⟩
 ·obtain ⟨i,hi,rfl⟩:=mem_map.mp hx
  have:=mem_range.mp hi
  omega
 rintro m ρ ⟨bb,rs,os,rfl,rfl,hbb,h3,h4,h5⟩
 walk_at "d"
 refine ⟨⟨lay_iD rs,rfl,depth_iD rs⟩,?_⟩
 cases rs with
 | nil =>
  show onB (PyData.bool false) _
  walk_at "d"
  exact q os (by simpa using h3) h5
 | cons x rs =>
  show onB (PyData.bool true) _
  have hpos : 0 < (x :: rs).length:=Nat.succ_pos _
  revert h3 h4 hpos
  generalize x :: rs = ys
  intro h3 h4 hpos
  walk_at "d"
  have hl : (ys.map PyData.int).length = ys.length:=length_map _
  obtain ⟨j,hj,ej⟩ : ∃ j : Nat,j < ys.length /\ bb % ((ys.length : Nat) : Int) = (j : Int):=by
   have h0 : (0 : Int) < ((ys.length : Nat) : Int):=by omega
   have:=Int.emod_nonneg bb (Int.ne_of_gt h0)
   have:=Int.emod_lt_of_pos bb h0
   exact ⟨(bb % ((ys.length : Nat) : Int)).toNat,by omega,by omega⟩
  refine ⟨os.map .int,ys.map .int,rfl,by decide,rfl,by rw [hl]; omega,by rw [length_map]; omega,?_⟩
  walk_at "d"
  refine ⟨_,j,.int ys[j],rfl,?_,by rw [List.getElem?_map,List.getElem?_eq_getElem hj]; rfl,rfl,?_⟩
  ·rw [hl,ej]; unfold ixN; rw [if_pos (by omega),if_pos (by omega)]; simp
  show dSet 1 _ _ [some (false,.int n),some (false,.int bb),some (true,.list ((ys.map PyData.int).eraseIdx j)),some (true,.list (os.map PyData.int ++ [.int ys[j]]))] _
  have e1 : (ys.map PyData.int).eraseIdx j = (ys.eraseIdx j).map PyData.int:=map_erase _ _ _
  have e2 : os.map PyData.int ++ [PyData.int ys[j]] = (os ++ [ys[j]]).map PyData.int:=by rw [map_append]; rfl
  rw [e1,e2]
  have le : (ys.eraseIdx j).length = ys.length - 1:=List.length_eraseIdx_of_lt hj
  show dSet 1 _ _ [some (false,.int n),some (false,.int bb),some (true,iD (ys.eraseIdx j)),some (true,iD (os ++ [ys[j]]))] _
  walk_at "d"
  refine ⟨⟨by omega,10,by decide,by omega⟩,?_⟩
  walk_at "d"
  refine ⟨(ys.eraseIdx j).length,by omega,bb / ((ys.eraseIdx j).length + 1),ys.eraseIdx j,os ++ [ys[j]],rfl,rfl,Int.ediv_nonneg hbb (by omega),by rw [length_append]; simp; omega,fun x hx=>h4 x (List.mem_of_mem_eraseIdx hx),fun x hx=>?_⟩
  rcases mem_append.mp hx with hx | hx
  ·exact h5 x hx
  ·rw [mem_singleton.mp hx]; exact h4 _ (List.getElem_mem hj)
theorem at_any {os : List Int} {z : Int} (h : -(os.length : Int) <= z) (h' : z < os.length) : ∃ a,a ∈ os /\ atI (os.map PyData.int) z = some (.int a):=by
 have hl : (os.map PyData.int).length = os.length:=length_map _
 obtain ⟨j,hj,e⟩ : ∃ j,j < os.length /\ ixN os.length z = some j:=by
  unfold ixN
  by_cases h0 : 0 <= z
  ·exact ⟨z.toNat,by omega,by rw [if_pos h0,if_pos h']⟩
  ·exact ⟨(z + os.length).toNat,by omega,by rw [if_neg h0,if_pos h]⟩
 exact ⟨os[j],List.getElem_mem hj,atI_of (by rw [hl]; exact e) (by rw [List.getElem?_map,List.getElem?_eq_getElem hj]; rfl)⟩
abbrev Mt:=Nat -> Nat -> Int
def Sh (n m : Nat) (g : List (List Int)) : Prop:=g.length = n /\ ∀ r ∈ g,r.length = m
def mat (R : List (List Int)) : Mt:=fun i j=>(R.getD i []).getD j 0
theorem mat_get {R : List (List Int)} {i j : Nat} {r : List Int} {x : Int} (h : R[i]? = some r) (h' : r[j]? = some x) : mat R i j = x:=by
 unfold mat
 rw [getD_eq_getElem?_getD,getD_eq_getElem?_getD,h,Option.getD_some,h']; rfl
theorem Sh.row {n m : Nat} {R : List (List Int)} (h : Sh n m R) {i : Nat} (hi : i < n) : ∃ r,R[i]? = some r /\ r.length = m /\ r ∈ R:=by
 have hi' : i < R.length:=by rw [h.1]; exact hi
 exact ⟨R[i],List.getElem?_eq_getElem hi',h.2 _ (List.getElem_mem hi'),List.getElem_mem hi'⟩
theorem Sh.cell {n m : Nat} {R : List (List Int)} (h : Sh n m R) {i j : Nat} (hi : i < n) (hj : j < m) : ∃ r,R[i]? = some r /\ r[j]? = some (mat R i j) /\ r ∈ R /\ mat R i j ∈ r:=by
 obtain ⟨r,h1,h2,h3⟩:=h.row hi
 have hj' : j < r.length:=by rw [h2]; exact hj
 have h4 : r[j]? = some r[j]:=List.getElem?_eq_getElem hj'
 have h5:=mat_get h1 h4
 exact ⟨r,h1,by rw [h5]; exact h4,h3,by rw [h5]; exact List.getElem_mem hj'⟩
def tab (n m : Nat) (M : Mt) : List (List Int):=(List.range n).map fun i=>(List.range m).map fun j=>M i j
theorem tab_sh (n m : Nat) (M : Mt) : Sh n m (tab n m M):=⟨by simp [tab],fun r hr=>by
 obtain ⟨i,_,rfl⟩:=mem_map.mp hr
 simp⟩
theorem put_gD (R : List (List Int)) (row : List Int) (i k : Nat) (v : Int) : PyData.list ((R.map iD).set i (.list ((row.map PyData.int).set k (.int v)))) = gD (R.set i (row.set k v)):=by
 unfold gD
 rw [List.map_set]
 unfold iD
 rw [List.map_set]
theorem put_sh {n m : Nat} {R : List (List Int)} (sh : Sh n m R) {i k : Nat} {v : Int} {row : List Int} (h : R[i]? = some row) : Sh n m (R.set i (row.set k v)):=by
 refine ⟨by rw [length_set]; exact sh.1,fun r hr=>?_⟩
 rcases List.mem_or_eq_of_mem_set hr with h1 | h1
 ·exact sh.2 r h1
 ·rw [h1,length_set]; exact sh.2 row (mem_iff_getElem?.mpr ⟨i,h⟩)
def RS (R : List (List Int)) (s : Int) : Prop:=∀ r ∈ R,(∀ x ∈ r,0 <= x) /\ r.sum <= s
theorem sum_put : ∀ {r : List Int} {j : Nat} {x : Int} (v : Int),r[j]? = some x -> (r.set j (x + v)).sum = r.sum + v
 | [],_,_,_,h=>by cases h
 | a :: r,0,x,v,h=>by
  cases h
  show (a + v) + r.sum = (a + r.sum) + v
  omega
 | a :: r,j + 1,x,v,h=>by
  have:=sum_put (r:=r) (j:=j) v h
  show a + (r.set j (x + v)).sum = (a + r.sum) + v
  omega
def tot (R : List (List Int)) : Int:=(R.map List.sum).sum
def RT (R : List (List Int)) (s : Int) : Prop:=(∀ r ∈ R,∀ x ∈ r,0 <= x) /\ tot R <= s
theorem tot_put : ∀ {R : List (List Int)} {i j : Nat} {row : List Int} {x v : Int},R[i]? = some row -> row[j]? = some x -> tot (R.set i (row.set j (x + v))) = tot R + v
 | [],_,_,_,_,_,h,_=>by cases h
 | r :: R,0,j,row,x,v,h,hx=>by
  cases h
  show (r.set j (x + v)).sum + tot R = (r.sum + tot R) + v
  rw [sum_put v hx]; omega
 | r :: R,i + 1,j,row,x,v,h,hx=>by
  have:=tot_put (R:=R) (i:=i) (v:=v) h hx
  show r.sum + tot (R.set i (row.set j (x + v))) = (r.sum + tot R) + v
  omega
theorem RT.mono {R : List (List Int)} {s t : Int} (h : RT R s) (k : s <= t) : RT R t:=⟨h.1,Int.le_trans h.2 k⟩
theorem RT.put {R : List (List Int)} {s t x v : Int} {i j : Nat} {row : List Int} (h : RT R s) (hr : R[i]? = some row) (hx : row[j]? = some x) (h0 : 0 <= v) (k : s + v <= t) : RT (R.set i (row.set j (x + v))) t:=by
 refine ⟨fun r hr'=>?_,by rw [tot_put hr hx]; have:=h.2; omega⟩
 have hm:=h.1 row (mem_iff_getElem?.mpr ⟨i,hr⟩)
 rcases List.mem_or_eq_of_mem_set hr' with h1 | h1
 ·exact h.1 r h1
 ·subst h1
  intro y hy
  rcases List.mem_or_eq_of_mem_set hy with h2 | h2
  ·exact hm y h2
  ·have:=hm x (mem_iff_getElem?.mpr ⟨j,hx⟩); omega
theorem sum_zero : ∀ m : Nat,((List.range m).map fun _=>(0 : Int)).sum = 0
 | 0=>rfl
 | m + 1=>by rw [List.range_succ,map_append,List.sum_append,sum_zero m]; rfl
theorem RT.zero (n : Nat) : RT (tab n n fun _ _=>0) 0:=by
 refine ⟨fun r hr x hx=>?_,?_⟩
 ·obtain ⟨i,_,rfl⟩:=mem_map.mp hr
  obtain ⟨j,_,rfl⟩:=mem_map.mp hx
  show (0 : Int) <= 0
  decide
 ·unfold tot tab
  rw [map_map]
  have e : (List.sum ∘ fun (_ : Nat)=>(List.range n).map fun (_ : Nat)=>(0 : Int)) = fun _=>(0 : Int):=by
   funext _
   exact sum_zero n
  rw [e,sum_zero]; decide
theorem le_sum : ∀ {r : List Int} {x : Int},(∀ x ∈ r,0 <= x) -> x ∈ r -> x <= r.sum /\ 0 <= r.sum
 | a :: r,x,h,hx=>by
  have ha:=h a mem_cons_self
  have hr : 0 <= r.sum:=by
   cases r with
   | nil=>decide
   | cons b r=>exact (le_sum (fun y hy=>h y (mem_cons_of_mem _ hy)) (mem_cons_self (a:=b))).2
  show x <= a + r.sum /\ 0 <= a + r.sum
  rcases mem_cons.mp hx with rfl | hx
  ·omega
  ·have:=(le_sum (fun y hy=>h y (mem_cons_of_mem _ hy)) hx).1
   omega
theorem sum_nonneg {r : List Int} (h : ∀ x ∈ r,0 <= x) : 0 <= r.sum:=by
 cases r with
 | nil=>decide
 | cons a r=>exact (le_sum h (mem_cons_self (a:=a))).2
theorem tot_row : ∀ {R : List (List Int)} {r : List Int},(∀ r ∈ R,∀ x ∈ r,0 <= x) -> r ∈ R -> r.sum <= tot R
 | a :: R,r,h,hr=>by
  have ha:=sum_nonneg (h a mem_cons_self)
  have hR : 0 <= tot R:=sum_nonneg fun x hx=>by
   obtain ⟨y,hy,rfl⟩:=mem_map.mp hx
   exact sum_nonneg (h y (mem_cons_of_mem _ hy))
  show r.sum <= a.sum + tot R
  rcases mem_cons.mp hr with rfl | hr
  ·omega
  ·have:=tot_row (fun y hy=>h y (mem_cons_of_mem _ hy)) hr
   omega
theorem get_le {r : List Int} (h : ∀ x ∈ r,0 <= x) (i : Nat) : 0 <= r.getD i 0 /\ r.getD i 0 <= r.sum:=by
 rw [getD_eq_getElem?_getD]
 cases e : r[i]? with
 | none=>exact ⟨Int.le_refl _,sum_nonneg h⟩
 | some x =>
  have hx : x ∈ r:=mem_iff_getElem?.mpr ⟨i,e⟩
  exact ⟨h x hx,(le_sum h hx).1⟩
theorem col_le (i : Nat) : ∀ {R : List (List Int)},(∀ r ∈ R,∀ x ∈ r,0 <= x) -> (R.map fun r=>r.getD i 0).sum <= tot R
 | [],_=>Int.le_refl _
 | a :: R,h=>by
  have h1:=(get_le (h a mem_cons_self) i).2
  have:=col_le i fun y hy=>h y (mem_cons_of_mem _ hy)
  show a.getD i 0 + (R.map fun r=>r.getD i 0).sum <= a.sum + tot R
  omega
def trn (R : List (List Int)) : List (List Int):=(List.range R.length).map fun i=>R.map fun r=>r.getD i 0
theorem trn_sh {n : Nat} {R : List (List Int)} (sh : Sh n n R) : Sh n n (trn R):=by
 refine ⟨by unfold trn; rw [length_map,length_range]; exact sh.1,fun r hr=>?_⟩
 obtain ⟨i,_,rfl⟩:=mem_map.mp hr
 rw [length_map]; exact sh.1
abbrev s_l_entry : Stmt:=top 26
theorem sc_l_entry : FnScope ["_law_big_here","_law_way","_law_left"] ["_law_big_here","_law_way","_law_left"] (defScope s_l_entry):=by walk_at "sc"
def sp_entry : SpD:=fun ds Q _=>∃ (b y l : Int),ds = [.int b,.int y,.int l] /\ 0 <= b /\ 0 <= l /\ ∀ v b' : Int,0 <= v -> v <= l -> 0 <= b' -> Q (.tuple [.int v,.int b']) true
theorem ok_l_entry {f : Addr} {fd : FuncData} (F : Fun K "_law_entry" "_law_entry" s_l_entry f fd) (T : Blt mg) : FnOk P w K mg base CX0 1 f fd ["_law_big_here","_law_way","_law_left"] (SpL K sp_entry):=by
 refine ok0 F sc_l_entry (fun ds Q X h=>?_) (fun cdv A outer s H E hr=>?_) fun ds Qd Xd h=>h
 ·obtain ⟨b,y,l,rfl,_⟩:=h; rfl
 refine ⟨_,(dpss_cons (dps_if (dpt_cmp (dop_eq (by rfl) (by exact hr.units)) (dpv 1) dpe_int (nomark _)) (dpss_one (dps_ret (dpe_tup (dpa_cons (dpe_callB (dcl_min (by rfl) (by rfl)) (by rfl) (by exact T.min) (by decide +kernel) (dpa_cons (dpe_op dop_mod (dpv 0) dpe_int) (dpa_cons (dpv 2) dpa_nil))) (dpa_cons (dpe_op dop_fdiv (dpv 0) dpe_int) dpa_nil))))) dpss_nil)
   (dpss_cons (dps_if (dpt_cmp (dop_eq (by rfl) (by exact hr.units)) (dpv 1) dpe_int (nomark _)) (dpss_one (dps_ret (dpe_tup (dpa_cons (dpe_callB (dcl_min (by rfl) (by rfl)) (by rfl) (by exact T.min) (by decide +kernel) (dpa_cons (dpe_callTy dcl_int (by rfl) (by exact T.int) (by decide +kernel) (dpa_cons (dpe_cmp (dop_eq (by rfl) (by exact hr.units)) (dpe_op dop_mod (dpv 0) dpe_int) dpe_int (nomark _)) dpa_nil)) (dpa_cons (dpv 2) dpa_nil))) (dpa_cons (dpe_op dop_fdiv (dpv 0) dpe_int) dpa_nil))))) dpss_nil)
   (dpss_cons (dps_if (dpt_cmp (dop_eq (by rfl) (by exact hr.units)) (dpv 1) dpe_int (nomark _)) (dpss_one (dps_ret (dpe_tup (dpa_cons (dpe_callB (dcl_min (by rfl) (by rfl)) (by rfl) (by exact T.min) (by decide +kernel) (dpa_cons (dpe_ix (dix (by rfl)) (dpe_tup (dpa_ints (by rfl))) (dpe_op dop_mod (dpv 0) dpe_int) (fun _ _=>rfl)) (dpa_cons (dpv 2) dpa_nil))) (dpa_cons (dpe_op dop_fdiv (dpv 0) dpe_int) dpa_nil))))) dpss_nil)
   (dpss_one (dps_ret (dpe_tup (dpa_cons (dpe_callB (dcl_min (by rfl) (by rfl)) (by rfl) (by exact T.min) (by decide +kernel) (dpa_cons (dpe_callTy dcl_int (by rfl) (by exact T.int) (by decide +kernel) (dpa_cons (dpe_cmp (dop_eq (by rfl) (by exact hr.units)) (dpe_op dop_mod (dpv 0) dpe_int) dpe_int (nomark _)) dpa_nil)) (dpa_cons (dpv 2) dpa_nil))) (dpa_cons (dpe_op dop_fdiv (dpv 0) dpe_int) dpa_nil)))))))),fun ds Qd h=>?_⟩
 obtain ⟨b,y,l,rfl,hb,hl,q⟩:=h
 show (_ : TSD) _ [some (false,.int b),some (false,.int y),some (false,.int l)] _
 have mn : ∀ v : Int,0 <= v -> 0 <= (if l < v then l else v) /\ (if l < v then l else v) <= l:=fun v hv=>by split <;> omega
 have iv : ∀ c : Bool,(0 : Int) <= if c = true then 1 else 0:=fun c=>by split <;> decide
 walk_at "d"
 refine iteb (fun h1=>?_) fun h1=>?_
 ·walk_at "d"
  have:=mn _ (Int.emod_nonneg b (show (41 : Int) ≠ 0 by decide))
  exact q _ _ this.1 this.2 (Int.ediv_nonneg hb (by decide))
 walk_at "d"
 refine iteb (fun h1=>?_) fun h1=>?_
 ·walk_at "d"
  have:=mn _ (iv (id (b % 3 == 0)))
  exact q _ _ this.1 this.2 (Int.ediv_nonneg hb (by decide))
 walk_at "d"
 refine iteb (fun h1=>?_) fun h1=>?_
 ·walk_at "d"
  obtain ⟨v,hv,ev⟩:=at_any (os:=[0,1,0,2,0,0,1,3]) (z:=b % 8) (by have:=Int.emod_nonneg b (show (8 : Int) ≠ 0 by decide); show -(8 : Int) <= _; omega) (by have:=Int.emod_lt_of_pos b (show (0 : Int) < 8 by decide); show _ < (8 : Int); omega)
  refine ⟨_,ev,?_⟩
  walk_at "d"
  have hv0 : ∀ v ∈ ([0,1,0,2,0,0,1,3] : List Int),0 <= v:=by decide
  have:=mn _ (hv0 v hv)
  exact q _ _ this.1 this.2 (Int.ediv_nonneg hb (by decide))
 walk_at "d"
 have:=mn _ (iv (id (b % 7 == 0)))
 exact q _ _ this.1 this.2 (Int.ediv_nonneg hb (by decide))
def Tb (n : Nat) (R : List (List Int)) : Prop:=1 <= n /\ n <= 6 /\ Sh n n R /\ RS R 40
def Tt (n : Nat) (R : List (List Int)) : Prop:=1 <= n /\ n <= 6 /\ Sh n n R /\ RT R 40
theorem Tt.tb {n : Nat} {R : List (List Int)} (h : Tt n R) : Tb n R:=⟨h.1,h.2.1,h.2.2.1,fun r hr=>⟨h.2.2.2.1 r hr,Int.le_trans (tot_row h.2.2.2.1 hr) h.2.2.2.2⟩⟩
theorem Tt.turn {n : Nat} {R : List (List Int)} (h : Tt n R) : Tb n (trn R):=⟨h.1,h.2.1,trn_sh h.2.2.1,fun r hr=>by
 obtain ⟨i,_,rfl⟩:=mem_map.mp hr
 refine ⟨fun x hx=>?_,Int.le_trans (col_le i h.2.2.2.1) h.2.2.2.2⟩
 obtain ⟨y,hy,rfl⟩:=mem_map.mp hx
 exact (get_le (h.2.2.2.1 y hy) i).1⟩
abbrev s_l_table : Stmt:=top 27
theorem sc_l_table : FnScope ["_law_big_here","_law_places","_law_way","_law_left","_law_table_here","_law_order_here","_law_k","_law_i","_law_j","_law_many"] ["_law_big_here"] (defScope s_l_table):=by walk_at "sc"
def sp_table : SpD:=fun ds Q _=>∃ b : Int,ds = [.int b] /\ 0 <= b /\ ∀ (n : Nat) (R : List (List Int)),Tt n R -> Q (gD R) true
theorem ok_l_table {f : Addr} {fd : FuncData} (F : Fun K "_law_table" "_law_table" s_l_table f fd) (T : Blt mg) (D_l_order : Df P w K mg base "_law_order" ["_law_many","_law_big_here"] 1 (SpL K sp_order)) (D_l_entry : Df P w K mg base "_law_entry" ["_law_big_here","_law_way","_law_left"] 1 (SpL K sp_entry)) : FnOk P w K mg base CX0 2 f fd ["_law_big_here"] (SpL K sp_table):=by
 refine ok0 F sc_l_table (fun ds Q X h=>?_) (fun cdv A outer s H E hr=>?_) fun ds Qd Xd h=>h
 ·obtain ⟨b,rfl,_⟩:=h; rfl
 refine ⟨_,(dpss_cons (dpset 1 sc_l_table.nd (dpe_op dop_add dpe_int (dpe_op dop_mod (dpv 0) dpe_int)))
   (dpss_cons (dpset 2 sc_l_table.nd (dpe_op dop_mod (dpe_op dop_fdiv (dpv 0) dpe_int) dpe_int))
   (dpss_cons (dpset 0 sc_l_table.nd (dpe_op dop_fdiv (dpv 0) dpe_int))
   (dpss_cons (dpset 3 sc_l_table.nd dpe_int)
   (dpss_cons (dps_setlc (i:=4) (hN:=sc_l_table.nd) (hyi:=rfl) (hy:=rfl) (hc:=rfl) (own:=["_law_i"]) (cap:=[("_law_places",1)]) (L:=LcScope.of (by kernel_rfl)) (hi:=(dpi_range1 (by rfl) (by exact T.range) (dpa_cons (dpv 1) dpa_nil))) (hin:=(fun _ _ _ _=>⟨(dpgn 0 (nd_of (by kernel_rfl))),dpts_nil,(dpb_emit (by rfl) (by rfl) (dpe_lc ["_law_j"] [] rfl (LcScope.of (by kernel_rfl)) (dpi_range1 (by rfl) (by exact T.range) (dpa_cons (dpv 1) dpa_nil)) (fun _ _ _ _=>⟨(dpgn 0 (nd_of (by kernel_rfl))),dpts_nil,(dpb_emit (by rfl) (by rfl) dpe_int)⟩)))⟩)))
   (dpss_cons (dps_jn (dps_if (dpt_cmp (dop_eq (by rfl) (by exact hr.units)) (dpv 2) dpe_int (nomark _)) (dpss_cons (dpset 5 sc_l_table.nd (dpe_df (by exact D_l_order) (by exact hr.mono (by omega)) (dpa_cons (dpv 1) (dpa_cons (dpv 0) dpa_nil))))
   (dpss_cons (dpset 0 sc_l_table.nd (dpe_op dop_fdiv (dpv 0) dpe_int))
   (dpss_cons (dps_for PassesOwn.never rfl (dpi_range1 (by rfl) (by exact T.range) (dpa_cons (dpv 1) dpa_nil)) (dpgn 6 sc_l_table.nd) (dpss_one (dps_aug2 4 (by rfl) (qpv 4) (dpe_ix (dix (by rfl)) (dpv 5) (dpe_op dop_sub (dpv 6) dpe_int) (fun _ _=>rfl)) (dpe_ix (dix (by rfl)) (dpv 5) (dpv 6) (fun _ _=>rfl)) dpe_int ip_add (fun _ _=>rfl))))
   (dpss_one (dpset 3 sc_l_table.nd (dpe_op dop_sub (dpv 3) (dpv 1))))))) dpss_nil))
   (dpss_cons (dps_for PassesOwn.never rfl (dpi_range1 (by rfl) (by exact T.range) (dpa_cons (dpv 1) dpa_nil)) (dpgn 7 sc_l_table.nd) (dpss_one (dps_for PassesOwn.never rfl (dpi_range1 (by rfl) (by exact T.range) (dpa_cons (dpv 1) dpa_nil)) (dpgn 8 sc_l_table.nd) (dpss_cons (dps_unp [9,0] 2 rfl (by rfl) (by rfl) (qpgs_cons (qpgn 9 sc_l_table.nd) (qpgs_cons (qpgn 0 sc_l_table.nd) qpgs_nil)) (by rfl) (by rfl) (dpe_df (by exact D_l_entry) (by exact hr.mono (by omega)) (dpa_cons (dpv 0) (dpa_cons (dpv 2) (dpa_cons (dpv 3) dpa_nil)))))
   (dpss_cons (dps_aug2 4 (by rfl) (qpv 4) (dpv 7) (dpv 8) (dpv 9) ip_add (fun _ _=>rfl))
   (dpss_one (dpset 3 sc_l_table.nd (dpe_op dop_sub (dpv 3) (dpv 9)))))))))
   (dpss_one (dps_ret (dpv 4)))))))))),fun ds Qd h=>?_⟩
 obtain ⟨b,rfl,hb,q⟩:=h
 show (_ : TSD) _ [some (false,.int b),none,none,none,none,none,none,none,none,none] _
 walk_at "d"
 obtain ⟨n,hn1,hn6,en⟩ : ∃ n : Nat,1 <= n /\ n <= 6 /\ 1 + b % 6 = (n : Int):=⟨(1 + b % 6).toNat,by omega,by omega,by omega⟩
 rw [en]
 refine lc_mapA (L:=List.range ((n : Int)).toNat) (fun x : Nat=>.int (0 + (x : Int))) (fun i=>iD ((List.range n).map fun j=>(0 : Int))) (fun i hi es Q' hl q'=>?_) (by rw [length_range]; omega) ?_
 ·walk_at "d"
  refine lc_mapA (L:=List.range ((n : Int)).toNat) (fun x : Nat=>.int (0 + (x : Int))) (fun j=>.int 0) (fun j hj es Q' hl q'=>?_) (by rw [length_range]; omega) ?_
  ·walk_at "d"
   exact q'
  ·have e : PyData.list ((List.range ((n : Int)).toNat).map fun j=>PyData.int 0) = iD ((List.range n).map fun j=>(0 : Int)):=by
    unfold iD; rw [map_map,Int.toNat_natCast]; rfl
   rw [e]
   walk_at "d"
   exact q'
 have e : PyData.list ((List.range ((n : Int)).toNat).map fun i=>iD ((List.range n).map fun j=>(0 : Int))) = gD (tab n n fun _ _=>0):=by
  unfold gD tab; rw [map_map,Int.toNat_natCast]; rfl
 rw [e]
 walk_at "d"
 have hb24 : 0 <= b / 24:=Int.ediv_nonneg hb (by decide)
 revert hb24
 generalize b / 24 = b2
 generalize b / 6 % 4 = wy
 intro hb2
 have nat_of : ∀ {z : Int},0 <= z -> z < n -> ∃ i : Nat,i < n /\ z = (i : Int):=fun {z} h1 h2=>⟨z.toNat,by omega,by omega⟩
 refine w_jn (fun ρ=>∃ (R : List (List Int)) (b l : Int) (x5 x6 : Option (Bool × D)),ρ = [some (false,.int b),some (false,.int n),some (false,.int wy),some (false,.int l),some (true,gD R),x5,x6,none,none,none] /\ 0 <= b /\ 0 <= l /\ l <= 40 /\ Sh n n R /\ RT R (40 - l)) (fun N hN=>?_) ?_
 ·walk_at "d"
  refine iteb (fun h1=>?_) fun h1=>?_
  ·walk_at "d"
   refine ⟨n,b2,rfl,hn6,hb2,fun os hol hos=>?_⟩
   walk_at "d"
   refine lp_rng (fun k ρ=>∃ (R : List (List Int)) (x6 : Option (Bool × D)),ρ = [some (false,.int (b2 / 720)),some (false,.int n),some (false,.int wy),some (false,.int 40),some (true,gD R),some (true,iD os),x6,none,none,none] /\ Sh n n R /\ RT R k) ⟨_,_,rfl,tab_sh _ _ _,RT.zero n⟩ ?_ ?_
   ·rintro k ρ hk ⟨R,x6,rfl,shR,hR⟩
    rw [Int.toNat_natCast] at hk
    obtain ⟨u,hu,eu⟩:=at_any (os:=os) (z:=0 + (k : Int) - 1) (by omega) (by omega)
    obtain ⟨v,hv,ev⟩:=at_any (os:=os) (z:=0 + (k : Int)) (by omega) (by omega)
    obtain ⟨i,hi,rfl⟩:=nat_of (hos u hu).1 (hos u hu).2
    obtain ⟨j,hj,rfl⟩:=nat_of (hos v hv).1 (hos v hv).2
    obtain ⟨r0,a1,a2,a3,a4⟩:=shR.cell hi hj
    walk_at "d"
    refine ⟨R.map iD,rfl,?_⟩
    walk_at "d"
    refine ⟨_,eu,?_⟩
    walk_at "d"
    refine ⟨_,i,r0.map .int,rfl,ixN_nat (by rw [length_map,shR.1]; exact hi),by rw [List.getElem?_map,a1]; rfl,?_⟩
    walk_at "d"
    refine ⟨_,ev,?_⟩
    walk_at "d"
    refine ⟨j,mat R i j,rfl,by rw [List.getElem?_map,a2]; rfl,?_⟩
    walk_at "d"
    refine ⟨1,rfl,?_⟩
    walk_at "d"
    rw [put_gD]
    exact ⟨_,_,rfl,put_sh shR a1,hR.put a1 a2 (by omega) (by omega)⟩
   ·rintro ρ ⟨R,x6,rfl,shR,hR⟩
    rw [Int.toNat_natCast] at hR
    walk_at "d"
    exact hN _ ⟨R,_,_,_,_,rfl,Int.ediv_nonneg hb2 (by decide),by omega,by omega,shR,hR.mono (by omega)⟩
  ·walk_at "d"
   exact hN _ ⟨_,_,_,_,_,rfl,hb2,by decide,by decide,tab_sh _ _ _,(RT.zero n).mono (by decide)⟩
 rintro ρ ⟨R,b,l,x5,x6,rfl,hb,hl0,hl40,shR,hR⟩
 walk_at "d"
 refine lp_rng (fun k ρ=>∃ (R : List (List Int)) (b l : Int) (x7 x8 x9 : Option (Bool × D)),ρ = [some (false,.int b),some (false,.int n),some (false,.int wy),some (false,.int l),some (true,gD R),x5,x6,x7,x8,x9] /\ 0 <= b /\ 0 <= l /\ l <= 40 /\ Sh n n R /\ RT R (40 - l)) ⟨R,b,l,_,_,_,rfl,hb,hl0,hl40,shR,hR⟩ ?_ ?_
 ·rintro i ρ hi ⟨R,b,l,x7,x8,x9,rfl,hb,hl0,hl40,shR,hR⟩
  rw [Int.toNat_natCast] at hi
  walk_at "d"
  refine lp_rng (fun k ρ=>∃ (R : List (List Int)) (b l : Int) (x8 x9 : Option (Bool × D)),ρ = [some (false,.int b),some (false,.int n),some (false,.int wy),some (false,.int l),some (true,gD R),x5,x6,some (false,.int (0 + (i : Int))),x8,x9] /\ 0 <= b /\ 0 <= l /\ l <= 40 /\ Sh n n R /\ RT R (40 - l)) ⟨R,b,l,_,_,rfl,hb,hl0,hl40,shR,hR⟩ ?_ ?_
  ·rintro j ρ hj ⟨R,b,l,x8,x9,rfl,hb,hl0,hl40,shR,hR⟩
   rw [Int.toNat_natCast] at hj
   obtain ⟨r0,a1,a2,a3,a4⟩:=shR.cell hi hj
   walk_at "d"
   refine ⟨b,wy,l,rfl,hb,hl0,fun v b' hv0 hvl hb'=>?_⟩
   walk_at "d"
   refine ⟨R.map iD,rfl,?_⟩
   walk_at "d"
   rw [Int.zero_add,Int.zero_add]
   refine ⟨_,i,r0.map .int,rfl,ixN_nat (by rw [length_map,shR.1]; exact hi),by rw [List.getElem?_map,a1]; rfl,?_⟩
   walk_at "d"
   refine ⟨j,mat R i j,rfl,by rw [List.getElem?_map,a2]; rfl,?_⟩
   walk_at "d"
   refine ⟨v,rfl,?_⟩
   walk_at "d"
   rw [put_gD]
   exact ⟨_,_,_,_,_,rfl,hb',by omega,by omega,put_sh shR a1,hR.put a1 a2 (by omega) (by omega)⟩
  ·rintro ρ ⟨R,b,l,x8,x9,rfl,hb,hl0,hl40,shR,hR⟩
   walk_at "d"
   exact ⟨_,_,_,_,_,_,rfl,hb,hl0,hl40,shR,hR⟩
 ·rintro ρ ⟨R,b,l,x7,x8,x9,rfl,hb,hl0,hl40,shR,hR⟩
  walk_at "d"
  exact q n R ⟨hn1,hn6,shR,hR.mono (by omega)⟩
def pD (q : List Ar) : D:=.list (q.map aD)
theorem flats_a : ∀ q : List Ar,flats (q.map aD) = true
 | []=>rfl
 | a :: q=>by rw [map_cons,flats,flats_a q]; rfl
theorem lays_a : ∀ q : List Ar,PyData.canLayAll0 (q.map aD) = true
 | []=>rfl
 | a :: q=>by
  show ((aD a).canLay0 && PyData.canLayAll0 (q.map aD)) = true
  rw [lays_a q]; rfl
theorem lay_p (q : List Ar) : (pD q).canLay0 = true:=lays_a q
theorem deps_a : ∀ q : List Ar,PyData.depthAll (q.map aD) <= 1
 | []=>Nat.zero_le _
 | a :: q=>by
  show max (aD a).depth (PyData.depthAll (q.map aD)) <= 1
  have:=deps_a q
  have h : (aD a).depth <= 1:=Nat.le_refl 1
  omega
theorem dep_p (q : List Ar) : (pD q).depth <= 2:=by
 show PyData.depthAll _ + 1 <= 2
 have:=deps_a q
 omega
abbrev s_l_copy : Stmt:=top 28
theorem sc_l_copy : FnScope ["_law_grid"] ["_law_grid"] (defScope s_l_copy):=by walk_at "sc"
def sp_copy : SpD:=fun ds Q _=>∃ (g : List (List Int)),ds = [gD g] /\ g.length <= 1000 /\ Q (gD g) true
theorem ok_l_copy {f : Addr} {fd : FuncData} (F : Fun K "_law_copy" "_law_copy" s_l_copy f fd) (T : Blt mg) : FnOk P w K mg base CX0 1 f fd ["_law_grid"] (SpL K sp_copy):=by
 refine ok0 F sc_l_copy (fun ds Q X h=>?_) (fun cdv A outer s H E hr=>?_) fun ds Qd Xd h=>h
 ·obtain ⟨b,rfl,_⟩:=h; rfl
 refine ⟨_,(dpss_one (dps_ret (dpe_lc ["_law_row"] [] rfl (LcScope.of (by kernel_rfl)) (dpi_list (by rfl) (dpv 0)) (fun _ _ _ _=>⟨(dpgn 0 (nd_of (by kernel_rfl))),dpts_nil,(dpb_emit (by rfl) (by rfl) (dpe_callTy (dcl_list (by rfl)) (by rfl) (by exact T.list) (by decide +kernel) (dpa_cons (dpv 0) dpa_nil)))⟩)))),fun ds Qd h=>?_⟩
 obtain ⟨g,rfl,hg,q⟩:=h
 show (_ : TSD) _ [some (false,gD g)] _
 walk_at "d"
 refine lc_map id (fun d hd es Q' hl q'=>?_) (by rw [length_map]; omega) ?_
 ·obtain ⟨r,hr',rfl⟩:=mem_map.mp hd
  walk_at "d"
  exact q'
 ·rw [List.map_id]
  walk_at "d"
  exact q
abbrev s_l_whole : Stmt:=top 29
theorem sc_l_whole : FnScope ["_law_found"] ["_law_found"] (defScope s_l_whole):=by walk_at "sc"
def sp_whole : SpD:=fun ds Q _=>∃ (n : Int),ds = [.int n] /\ Q (.bool true) true
theorem ok_l_whole {f : Addr} {fd : FuncData} (F : Fun K "_law_whole" "_law_whole" s_l_whole f fd) (T : Blt mg) : FnOk P w K mg base CX0 1 f fd ["_law_found"] (SpL K sp_whole):=by
 refine ok0 F sc_l_whole (fun ds Q X h=>?_) (fun cdv A outer s H E hr=>?_) fun ds Qd Xd h=>h
 ·obtain ⟨b,rfl,_⟩:=h; rfl
 refine ⟨_,(dpss_one (dps_ret (dpe_and (dpe_isi (by rfl) kit_int (by rfl) (by exact T.isinstance) (dpv 0) (by rfl) (by exact T.int) (by decide +kernel)) (dpe_one (dpe_not (dpe_isi (by rfl) kit_bool (by rfl) (by exact T.isinstance) (dpv 0) (by rfl) (by exact T.bool) (by decide +kernel))))))),fun ds Qd h=>?_⟩
 obtain ⟨n,rfl,q⟩:=h
 show (_ : TSD) _ [some (false,.int n)] _
 walk_at "d"
 rw [if_pos (by rfl)]
 walk_at "d"
 exact q
theorem Tb.row {n : Nat} {R : List (List Int)} (h : Tb n R) {p : Nat} (hp : p < n) : ∃ r,R[p]? = some r /\ R.getD p [] = r /\ r.length = n /\ r ∈ R /\ (∀ x ∈ r,0 <= x) /\ r.sum <= 40:=by
 obtain ⟨r,h1,h2,h3⟩:=h.2.2.1.row hp
 exact ⟨r,h1,by rw [getD_eq_getElem?_getD,h1]; rfl,h2,h3,h.2.2.2 r h3⟩
theorem frA_few {p : Int} {r : List Int} (h : ∀ x ∈ r,0 <= x) (h40 : r.sum <= 40) (j : Nat) : (frA p 0 (r.take j)).length <= 40:=by
 have e:=frA_len (p:=p) (r:=r.take j) (j:=0) fun x hx=>h x (mem_of_mem_take hx)
 have e2 : r.sum = (r.take j).sum + (r.drop j).sum:=by rw [<- List.sum_append,List.take_append_drop]
 have:=sum_nonneg fun x hx=>h x (List.mem_of_mem_drop (i:=j) hx)
 omega
theorem take_snoc {α : Type} {r : List α} {j : Nat} (h : j < r.length) : r.take (j + 1) = r.take j ++ [r[j]]:=by
 rw [List.take_succ,List.getElem?_eq_getElem h]; rfl
abbrev s_l_from : Stmt:=top 30
theorem sc_l_from : FnScope ["_law_table_here","_law_p","_law_found","_law_j"] ["_law_table_here","_law_p"] (defScope s_l_from):=by walk_at "sc"
def sp_from : SpD:=fun ds Q _=>∃ (n p : Nat) (R : List (List Int)),ds = [gD R,.int p] /\ Tb n R /\ p < n /\ Q (pD (frm (R.getD p []) p)) true
theorem ok_l_from {f : Addr} {fd : FuncData} (F : Fun K "_law_from" "_law_from" s_l_from f fd) (T : Blt mg) : FnOk P w K mg base CX0 1 f fd ["_law_table_here","_law_p"] (SpL K sp_from):=by
 refine ok0 F sc_l_from (fun ds Q X h=>?_) (fun cdv A outer s H E hr=>?_) fun ds Qd Xd h=>h
 ·obtain ⟨n,p,R,rfl,_⟩:=h; rfl
 refine ⟨_,(dpss_cons (dpset 2 sc_l_from.nd (dpe_lst dpa_nil))
   (dpss_cons (dps_for PassesOwn.never rfl (dpi_range1 (by rfl) (by exact T.range) (dpa_cons (dpe_callB (dcl_len (by rfl)) (by rfl) (by exact T.len) (by decide +kernel) (dpa_cons (dpv 0) dpa_nil)) dpa_nil)) (dpgn 3 sc_l_from.nd) (dpss_one (dps_extend 2 (by rfl) (qpv 2) (dpe_lc ["_law_k"] [("_law_p",1),("_law_j",3)] rfl (LcScope.of (by kernel_rfl)) (dpi_range1 (by rfl) (by exact T.range) (dpa_cons (dpe_ix (dix (by rfl)) (dpe_ix (dix (by rfl)) (dpv 0) (dpv 1) (fun _ _=>rfl)) (dpv 3) (fun _ _=>rfl)) dpa_nil)) (fun _ _ _ _=>⟨(dpgn 0 (nd_of (by kernel_rfl))),dpts_nil,(dpb_emit (by rfl) (by rfl) (dpe_tup (dpa_cons (dpv 1) (dpa_cons (dpv 2) (dpa_cons (dpv 0) dpa_nil)))))⟩)) (by rfl) (by rfl) (by rfl))))
   (dpss_one (dps_ret (dpv 2))))),fun ds Qd h=>?_⟩
 obtain ⟨n,p,R,rfl,hT,hp,q⟩:=h
 obtain ⟨r,hr,er,hrl,hrm,hr0,hr40⟩:=hT.row hp
 rw [er] at q
 have hn:=hT.2.2.1.1
 have h6:=hT.2.1
 show (_ : TSD) _ [some (false,gD R),some (false,.int p),none,none] _
 walk_at "d"
 refine lp_rng (fun j ρ=>∃ x3 : Option (Bool × D),ρ = [some (false,gD R),some (false,.int p),some (true,.list ((frA p 0 (r.take j)).map aD)),x3]) ⟨_,rfl⟩ ?_ ?_
 ·rintro j ρ hj ⟨x3,rfl⟩
  have hj : j < n:=by omega
  have hjr : j < r.length:=by omega
  have hrj : r[j]? = some r[j]:=List.getElem?_eq_getElem hjr
  have b1:=hr0 _ (List.getElem_mem hjr)
  have b2:=(le_sum hr0 (List.getElem_mem hjr)).1
  walk_at "d"
  refine ⟨_,rfl,?_⟩
  walk_at "d"
  refine ⟨_,atI_nat (j:=p) (by rw [List.getElem?_map,hr]; rfl),?_⟩
  walk_at "d"
  refine ⟨_,by rw [Int.zero_add]; exact atI_nat (j:=j) (by rw [List.getElem?_map,hrj]; rfl),?_⟩
  walk_at "d"
  refine lc_mapA (L:=List.range r[j].toNat) (fun x : Nat=>.int (0 + (x : Int))) (fun x : Nat=>aD ⟨p,j,x⟩) (fun x hx es Q' hl q'=>?_) (by rw [length_range]; omega) ?_
  ·walk_at "d"
   rw [Int.zero_add,Int.zero_add]
   exact q'
  have ek : (List.range r[j].toNat).map (fun x : Nat=>aD ⟨p,j,x⟩) = (ks p j r[j].toNat).map aD:=by unfold ks; rw [map_map]; rfl
  rw [ek]
  have ef : frA p 0 (r.take (j + 1)) = frA p 0 (r.take j) ++ ks p j r[j].toNat:=by
   rw [take_snoc hjr,frA_snoc,length_take]
   congr 2
   omega
  have hk40:=frA_few (p:=p) hr0 hr40 j
  have hk41:=frA_few (p:=p) hr0 hr40 (j + 1)
  rw [ef,length_append] at hk41
  walk_at "d"
  refine ⟨by rw [length_map,length_map]; omega,?_⟩
  rw [if_pos (flats_a _)]
  walk_at "d"
  exact ⟨_,by rw [ef,map_append]⟩
 ·rintro ρ ⟨x3,rfl⟩
  walk_at "d"
  rw [hn,show ((n : Nat) : Int).toNat = r.length by omega,take_length]
  exact q
abbrev s_l_is_table : Stmt:=top 35
theorem sc_l_is_table : FnScope ["_law_told_here","_law_row"] ["_law_told_here"] (defScope s_l_is_table):=by walk_at "sc"
def sp_ist : SpD:=fun ds Q _=>∃ g : List (List Int),ds = [gD g] /\ (∀ r ∈ g,r.length <= 1000) /\ Q (.bool true) true
theorem ok_l_is_table {f : Addr} {fd : FuncData} (F : Fun K "_law_is_table" "_law_is_table" s_l_is_table f fd) (T : Blt mg) (D_l_whole : Df P w K mg base "_law_whole" ["_law_found"] 1 (SpL K sp_whole)) : FnOk P w K mg base CX0 2 f fd ["_law_told_here"] (SpL K sp_ist):=by
 refine ok0 F sc_l_is_table (fun ds Q X h=>?_) (fun cdv A outer s H E hr=>?_) fun ds Qd Xd h=>h
 ·obtain ⟨g,rfl,_⟩:=h; rfl
 refine ⟨_,(dpss_cons (dps_if (dpt_not (dpt_val (dpe_isi (by rfl) kit_list (by rfl) (by exact T.isinstance) (dpv 0) (by rfl) (by exact T.list) (by decide +kernel)))) (dpss_one (dps_ret dpe_bl)) dpss_nil)
   (dpss_cons (dps_frz 0 (dps_for PassesOwn.never rfl (dpi_list (by rfl) (dpv 0)) (dpgn 1 sc_l_is_table.nd) (dpss_one (dps_if (dPWpt (dpw_or (dpt_not (dpt_val (dpe_isi (by rfl) kit_list (by rfl) (by exact T.isinstance) (dpv 1) (by rfl) (by exact T.list) (by decide +kernel)))) (dpw_or1 (dpt_not (dpt_val (dpe_callB (dcl_all (by rfl) (by rfl)) (by rfl) (by exact T.all) (by decide +kernel) (dpa_cons (dpe_lc ["_law_number"] [] rfl (LcScope.of (by kernel_rfl)) (dpi_list (by rfl) (dpv 1)) (fun _ _ _ _=>⟨(dpgn 0 (nd_of (by kernel_rfl))),dpts_nil,(dpb_emit (by rfl) (by rfl) (dpe_df (by exact D_l_whole) (by exact hr.mono (by omega)) (dpa_cons (dpv 0) dpa_nil)))⟩)) dpa_nil))))))) (dpss_one (dps_ret dpe_bl)) dpss_nil))))
   (dpss_one (dps_ret dpe_bl)))),fun ds Qd h=>?_⟩
 obtain ⟨g,rfl,hg,q⟩:=h
 show (_ : TSD) _ [some (false,gD g),none] _
 walk_at "d"
 rw [if_neg (fun z=>by cases z)]
 walk_at "d"
 refine lp_list (fun k ρ=>∃ x1 : Option (Bool × D),ρ = [some (false,gD g),x1]) ⟨_,rfl⟩ ?_ ?_
 ·rintro k d ρ hd ⟨x1,rfl⟩
  obtain ⟨r,hr',rfl⟩ : ∃ r,r ∈ g /\ d = iD r:=by
   obtain ⟨r,h1,h2⟩:=mem_map.mp (mem_iff_getElem?.mpr ⟨k,hd⟩)
   exact ⟨r,h1,h2.symm⟩
  walk_at "d"
  rw [if_neg (fun z=>by cases z)]
  walk_at "d"
  refine lc_mapA (L:=r) PyData.int (fun _=>.bool true) (fun x hx es Q' hl q'=>?_) (by have:=hg r hr'; omega) ?_
  ·walk_at "d"
   exact ⟨x,rfl,by walk_at "d"; exact q'⟩
  walk_at "d"
  refine ⟨r.map fun _=>true,bools_map (fun _=>true) r,?_⟩
  rw [show (r.map fun _=>true).all id = true from all_eq_true.mpr fun x hx=>by obtain ⟨_,_,rfl⟩:=mem_map.mp hx; rfl]
  walk_at "d"
  exact ⟨_,rfl⟩
 ·rintro ρ ⟨x1,rfl⟩
  walk_at "d"
  exact q
def fullP (ps : List (List Ar)) : List (List Ar):=if (ps.filter fun q=>q ≠ []).length = 1 /\ 1 < ((ps.filter fun q=>q ≠ []).getD 0 []).length then [((ps.filter fun q=>q ≠ []).getD 0 []).take 1,((ps.filter fun q=>q ≠ []).getD 0 []).drop 1] else ps.filter fun q=>q ≠ []
theorem eqv_nil (a : List Ar) : PyData.eqv (pD a) (.list []) = decide (a = []):=by cases a <;> rfl
abbrev s_l_full : Stmt:=top 34
theorem sc_l_full : FnScope ["_law_pieces","_law_full_here"] ["_law_pieces"] (defScope s_l_full):=by walk_at "sc"
theorem range_getD {α β : Type} (f : α -> β) (d : α) (R : List α) : (List.range R.length).map (fun j=>f (R.getD j d)) = R.map f:=by
 refine List.ext_getElem? fun i=>?_
 by_cases hi : i < R.length
 ·rw [List.getElem?_map,List.getElem?_range hi,List.getElem?_map,List.getElem?_eq_getElem hi]
  show some (f (R.getD i d)) = some (f R[i])
  rw [getD_eq_getElem?_getD,List.getElem?_eq_getElem hi]; rfl
 ·rw [List.getElem?_eq_none (by simp; omega),List.getElem?_eq_none (by simp; omega)]
abbrev s_l_turned : Stmt:=top 31
theorem sc_l_turned : FnScope ["_law_table_here"] ["_law_table_here"] (defScope s_l_turned):=by walk_at "sc"
def sp_trn : SpD:=fun ds Q _=>∃ (m : Nat) (R : List (List Int)),ds = [gD R] /\ Sh m m R /\ 1 <= m /\ m <= 200 /\ Q (gD (trn R)) true
theorem ok_l_turned {f : Addr} {fd : FuncData} (F : Fun K "_law_turned" "_law_turned" s_l_turned f fd) (T : Blt mg) : FnOk P w K mg base CX0 1 f fd ["_law_table_here"] (SpL K sp_trn):=by
 refine ok0 F sc_l_turned (fun ds Q X h=>?_) (fun cdv A outer s H E hr=>?_) fun ds Qd Xd h=>h
 ·obtain ⟨m,R,rfl,_⟩:=h; rfl
 refine ⟨_,(dpss_one (dps_ret (dpe_lc ["_law_i"] [("_law_table_here",0)] rfl (LcScope.of (by kernel_rfl)) (dpi_range1 (by rfl) (by exact T.range) (dpa_cons (dpe_callB (dcl_len (by rfl)) (by rfl) (by exact T.len) (by decide +kernel) (dpa_cons (dpv 0) dpa_nil)) dpa_nil)) (fun _ _ _ _=>⟨(dpgn 0 (nd_of (by kernel_rfl))),dpts_nil,(dpb_emit (by rfl) (by rfl) (dpe_lc ["_law_j"] [("_law_table_here",1),("_law_i",0)] rfl (LcScope.of (by kernel_rfl)) (dpi_range1 (by rfl) (by exact T.range) (dpa_cons (dpe_callB (dcl_len (by rfl)) (by rfl) (by exact T.len) (by decide +kernel) (dpa_cons (dpv 1) dpa_nil)) dpa_nil)) (fun _ _ _ _=>⟨(dpgn 0 (nd_of (by kernel_rfl))),dpts_nil,(dpb_emit (by rfl) (by rfl) (dpe_ix (dix (by rfl)) (dpe_ix (dix (by rfl)) (dpv 1) (dpv 0) (fun _ _=>rfl)) (dpv 2) (fun _ _=>rfl)))⟩)))⟩)))),fun ds Qd h=>?_⟩
 obtain ⟨m,R,rfl,sh,hm1,hm,q⟩:=h
 have hn:=sh.1
 show (_ : TSD) _ [some (false,gD R)] _
 walk_at "d"
 rw [hn,Int.toNat_natCast]
 refine lc_mapA (L:=List.range m) (fun x : Nat=>.int (0 + (x : Int))) (fun i=>iD (R.map fun r=>r.getD i 0)) (fun i hi es Q' hl q'=>?_) (by rw [length_range]; omega) ?_
 ·have hi':=mem_range.mp hi
  walk_at "d"
  rw [hn,Int.toNat_natCast]
  refine lc_mapA (L:=List.range m) (fun x : Nat=>.int (0 + (x : Int))) (fun j=>.int ((R.getD j []).getD i 0)) (fun j hj es Q' hl q'=>?_) (by rw [length_range]; omega) ?_
  ·have hj':=mem_range.mp hj
   obtain ⟨r,r1,r2,r3⟩:=sh.cell hj' hi'
   walk_at "d"
   refine ⟨iD r,by rw [Int.zero_add]; exact atI_nat (j:=j) (by rw [List.getElem?_map,r1]; rfl),?_⟩
   walk_at "d"
   refine ⟨.int (mat R j i),by rw [Int.zero_add]; exact atI_nat (j:=i) (by rw [List.getElem?_map,r2]; rfl),?_⟩
   walk_at "d"
   exact q'
  ·rw [show PyData.list ((List.range m).map fun j=>PyData.int ((R.getD j []).getD i 0)) = iD (R.map fun r=>r.getD i 0) from by
    unfold iD
    rw [map_map,<- hn]
    exact congrArg PyData.list (range_getD (fun r=>PyData.int (r.getD i 0)) [] R)]
   walk_at "d"
   exact q'
 ·rw [show PyData.list ((List.range m).map fun i=>iD (R.map fun r=>r.getD i 0)) = gD (trn R) from by unfold gD trn; rw [map_map,hn]; rfl]
  walk_at "d"
  exact q
def tA (a : Ar) : Ar:=⟨a.j,a.i,a.k⟩
abbrev s_l_turned_arrows : Stmt:=top 32
theorem sc_l_turned_arrows : FnScope ["_law_arrows"] ["_law_arrows"] (defScope s_l_turned_arrows):=by walk_at "sc"
def sp_ta : SpD:=fun ds Q _=>∃ (y : List Ar),ds = [pD y] /\ y.length <= 1000 /\ Q (pD (y.map tA)) true
theorem ok_l_turned_arrows {f : Addr} {fd : FuncData} (F : Fun K "_law_turned_arrows" "_law_turned_arrows" s_l_turned_arrows f fd) (T : Blt mg) : FnOk P w K mg base CX0 1 f fd ["_law_arrows"] (SpL K sp_ta):=by
 refine ok0 F sc_l_turned_arrows (fun ds Q X h=>?_) (fun cdv A outer s H E hr=>?_) fun ds Qd Xd h=>h
 ·obtain ⟨y,rfl,_⟩:=h; rfl
 refine ⟨_,(dpss_one (dps_ret (dpe_lc ["_law_start","_law_end","_law_number"] [] rfl (LcScope.of (by kernel_rfl)) (dpi_list (by rfl) (dpv 0)) (fun _ _ _ _=>⟨(dpg_tup 3 (by rfl) (by rfl) (dpgs_cons (dpgn 0 (nd_of (by kernel_rfl))) (dpgs_cons (dpgn 1 (nd_of (by kernel_rfl))) (dpgs_cons (dpgn 2 (nd_of (by kernel_rfl))) dpgs_nil))) (by rfl) (by rfl)),dpts_nil,(dpb_emit (by rfl) (by rfl) (dpe_tup (dpa_cons (dpv 1) (dpa_cons (dpv 0) (dpa_cons (dpv 2) dpa_nil)))))⟩)))),fun ds Qd h=>?_⟩
 obtain ⟨y,rfl,hy,q⟩:=h
 show (_ : TSD) _ [some (false,.list (y.map aD))] _
 walk_at "d"
 refine lc_mapA (L:=y) aD (fun a=>aD (tA a)) (fun a ha es Q' hl q'=>?_) (by omega) ?_
 ·rw [show aD a = .tuple [.int a.i,.int a.j,.int a.k] from rfl]
  walk_at "d"
  first | exact q' | exact ⟨hl,rfl,q'⟩
 ·rw [show PyData.list (y.map fun a=>aD (tA a)) = pD (y.map tA) from by unfold pD; rw [map_map]; rfl]
  exact q
def dn3 (b : Int) : Nat -> Int
 | 0=>b
 | k + 1=>dn3 b k / 3
theorem dn3_s (b : Int) : ∀ k,dn3 b (k + 1) = dn3 (b / 3) k
 | 0=>rfl
 | k + 1=>by show dn3 b (k + 1) / 3 = dn3 (b / 3) k / 3; rw [dn3_s b k]
def rvs (b : Int) : List (List Ar) -> List (List Ar)
 | []=>[]
 | q :: r=>(if (b % 3 == 0) = true then q.reverse else q) :: rvs (b / 3) r
theorem rvs_len : ∀ (b : Int) (ps : List (List Ar)),(rvs b ps).length = ps.length
 | _,[]=>rfl
 | b,q :: r=>by show (rvs (b / 3) r).length + 1 = r.length + 1; rw [rvs_len]
theorem rvs_get : ∀ (b : Int) (ps : List (List Ar)) (k : Nat) (q : List Ar),ps[k]? = some q -> (rvs b ps)[k]? = some (if (dn3 b k % 3 == 0) = true then q.reverse else q)
 | _,[],_,_,h=>by cases h
 | b,q :: r,0,_,h=>by cases h; rfl
 | b,q :: r,k + 1,x,h=>by
  show (rvs (b / 3) r)[k]? = _
  rw [rvs_get (b / 3) r k x h,dn3_s]
theorem rvs_pm : ∀ {b : Int} {ps : List (List Ar)},(rvs b ps).flatten.Perm ps.flatten
 | _,[]=>.nil
 | b,q :: r=>by
  show ((if (b % 3 == 0) = true then q.reverse else q) :: rvs (b / 3) r).flatten.Perm (q :: r).flatten
  rw [flatten_cons,flatten_cons]
  refine List.Perm.append ?_ rvs_pm
  split
  ·exact List.reverse_perm q
  ·exact .refl _
theorem put_pm : ∀ {ps : List (List Ar)} {j : Nat} {q : List Ar} {a : Ar},ps[j]? = some q -> (ps.set j (q ++ [a])).flatten.Perm (ps.flatten ++ [a])
 | [],_,_,_,h=>by cases h
 | x :: ps,0,q,a,h=>by
  cases h
  show ((x ++ [a]) :: ps).flatten.Perm ((x :: ps).flatten ++ [a])
  rw [flatten_cons,flatten_cons,append_assoc,append_assoc]
  exact List.Perm.append_left x List.perm_append_comm
 | x :: ps,j + 1,q,a,h=>by
  show (x :: ps.set j (q ++ [a])).flatten.Perm ((x :: ps).flatten ++ [a])
  rw [flatten_cons,flatten_cons,append_assoc]
  exact List.Perm.append_left x (put_pm h)
abbrev s_l_parted : Stmt:=top 33
theorem sc_l_parted : FnScope ["_law_arrows","_law_big_here","_law_many","_law_pieces","_law_arrow","_law_piece"] ["_law_arrows","_law_big_here"] (defScope s_l_parted):=by walk_at "sc"
def sp_parted : SpD:=fun ds Q _=>∃ (l : List Ar) (b : Int),ds = [pD l,.int b] /\ l.length <= 60 /\ 0 <= b /\ ∀ ps : List (List Ar),ps.flatten.Perm l -> ps.length <= 5 -> Q (.list (ps.map pD)) true
theorem ok_l_parted {f : Addr} {fd : FuncData} (F : Fun K "_law_parted" "_law_parted" s_l_parted f fd) (T : Blt mg) : FnOk P w K mg base CX0 1 f fd ["_law_arrows","_law_big_here"] (SpL K sp_parted):=by
 refine ok0 F sc_l_parted (fun ds Q X h=>?_) (fun cdv A outer s H E hr=>?_) fun ds Qd Xd h=>h
 ·obtain ⟨l,b,rfl,_⟩:=h; rfl
 refine ⟨_,(dpss_cons (dpset 2 sc_l_parted.nd (dpe_op dop_add dpe_int (dpe_op dop_mod (dpv 1) dpe_int)))
   (dpss_cons (dps_setlc (i:=3) (hN:=sc_l_parted.nd) (hyi:=rfl) (hy:=rfl) (hc:=rfl) (own:=["_law_k"]) (cap:=[]) (L:=LcScope.of (by kernel_rfl)) (hi:=(dpi_range1 (by rfl) (by exact T.range) (dpa_cons (dpv 2) dpa_nil))) (hin:=(fun _ _ _ _=>⟨(dpgn 0 (nd_of (by kernel_rfl))),dpts_nil,(dpb_emit (by rfl) (by rfl) (dpe_lst dpa_nil))⟩)))
   (dpss_cons (dpset 1 sc_l_parted.nd (dpe_op dop_fdiv (dpv 1) dpe_int))
   (dpss_cons (dps_frz 0 (dps_for PassesOwn.never rfl (dpi_list (by rfl) (dpv 0)) (dpgn 4 sc_l_parted.nd) (dpss_cons (dps_app2 3 (by rfl) (qpv 3) (dpe_op dop_mod (dpv 1) (dpv 2)) (dpv 4) (fun _ _=>rfl) (by rfl) (by rfl) (by rfl))
   (dpss_one (dpset 1 sc_l_parted.nd (dpe_op dop_fdiv (dpv 1) (dpv 2)))))))
   (dpss_cons (dps_forrev 3 5 1 PassesOwn.never rfl (by rfl) sc_l_parted.nd (qpv 3) (qpv 5) (qpgn 5 sc_l_parted.nd) (dpt_cmp (dop_eq (by rfl) (by exact hr.units)) (dpe_op dop_mod (dpv 1) dpe_int) dpe_int (nomark _)) (dpe_op dop_fdiv (dpv 1) dpe_int) (by rfl) (by rfl))
   (dpss_one (dps_ret (dpv 3)))))))),fun ds Qd h=>?_⟩
 obtain ⟨l,b,rfl,hl60,hb,q⟩:=h
 show (_ : TSD) _ [some (false,.list (l.map aD)),some (false,.int b),none,none,none,none] _
 walk_at "d"
 obtain ⟨m,hm2,hm5,em⟩ : ∃ m : Nat,2 <= m /\ m <= 5 /\ 2 + b % 4 = (m : Int):=⟨(2 + b % 4).toNat,by omega,by omega,by omega⟩
 rw [em]
 refine lc_mapA (L:=List.range ((m : Int)).toNat) (fun x : Nat=>.int (0 + (x : Int))) (fun _=>pD []) (fun i hi es Q' hl q'=>?_) (by rw [length_range]; omega) ?_
 ·walk_at "d"
  exact q'
 have e : (List.range ((m : Int)).toNat).map (fun _=>pD []) = (List.replicate m []).map pD:=by rw [M50.map_const,length_range,Int.toNat_natCast,List.map_replicate]
 rw [e]
 walk_at "d"
 refine lp_list (fun k ρ=>∃ (ps : List (List Ar)) (b : Int) (x4 : Option (Bool × D)),ρ = [some (false,.list (l.map aD)),some (false,.int b),some (false,.int m),some (true,.list (ps.map pD)),x4,none] /\ 0 <= b /\ ps.length = m /\ ps.flatten.Perm (l.take k)) ⟨List.replicate m [],b / 4,_,rfl,Int.ediv_nonneg hb (by decide),by simp,by simp⟩ ?_ ?_
 ·rintro k d ρ hd ⟨ps,b,x4,rfl,hb,hpl,hpb⟩
  obtain ⟨a,ha,rfl⟩ : ∃ a,l[k]? = some a /\ d = aD a:=by
   rw [List.getElem?_map] at hd
   cases e : l[k]? with
   | none=>rw [e] at hd; cases hd
   | some r=>rw [e] at hd; cases hd; exact ⟨r,rfl,rfl⟩
  walk_at "d"
  refine ⟨_,rfl,?_⟩
  walk_at "d"
  obtain ⟨j,hj,ej⟩ : ∃ j : Nat,j < m /\ b % (m : Int) = (j : Int):=by
   have:=Int.emod_nonneg b (show (m : Int) ≠ 0 by omega)
   have:=Int.emod_lt_of_pos b (show (0 : Int) < m by omega)
   exact ⟨(b % (m : Int)).toNat,by omega,by omega⟩
  rw [ej]
  have hj' : j < ps.length:=by omega
  have hq : ps[j]? = some ps[j]:=List.getElem?_eq_getElem hj'
  have hk:=(List.getElem?_eq_some_iff.mp hd).1
  rw [length_map] at hk
  have hsz : ps[j].length <= ps.flatten.length:=by
   have : ps[j].Sublist ps.flatten:=List.sublist_flatten_of_mem (List.getElem_mem hj')
   exact this.length_le
  refine ⟨j,ps[j].map aD,ixN_nat (by rw [length_map]; exact hj'),by rw [List.getElem?_map,hq]; rfl,by rw [length_map]; have:=hpb.length_eq; rw [length_take] at this; omega,?_⟩
  walk_at "d"
  refine w_app2K (s:=[]) ⟨by simp,?_⟩
  have e5 : (ps.map pD).set j (.list (ps[j].map aD ++ [aD a])) = (ps.set j (ps[j] ++ [a])).map pD:=by
   rw [List.map_set]; unfold pD; rw [map_append]; rfl
  walk_at "d"
  rw [e5]
  refine ⟨⟨by omega,by omega⟩,?_⟩
  walk_at "d"
  exact ⟨_,_,_,rfl,Int.ediv_nonneg hb (by omega),by rw [length_set]; exact hpl,by rw [List.take_succ,ha]; exact (put_pm hq).trans (hpb.append_right _)⟩
 ·rintro ρ ⟨ps,b,x4,rfl,hb,hpl,hpb⟩
  rw [length_map,take_length] at hpb
  walk_at "d"
  refine ⟨⟨by decide,by decide,by decide,Nat.le_of_ble_eq_true rfl,Nat.le_of_ble_eq_true rfl⟩,ps.map pD,(rvs b ps).map pD,dn3 b,rfl,rfl,by rw [length_map,length_map,rvs_len],fun k row hrow=>?_,?_⟩
  ·obtain ⟨y,hy,rfl⟩ : ∃ y,ps[k]? = some y /\ row = pD y:=by
    rw [List.getElem?_map] at hrow
    cases e : ps[k]? with
    | none=>rw [e] at hrow; cases hrow
    | some r=>rw [e] at hrow; cases hrow; exact ⟨r,rfl,rfl⟩
   walk_at "d"
   refine ⟨⟨y.map aD,rfl,?_⟩,?_⟩
   ·rw [List.getElem?_map,rvs_get b ps k y hy,id_eq]
    show some (pD _) = _
    unfold pD
    split
    ·rw [List.map_reverse]
    ·rfl
   ·walk_at "d"
    rfl
  ·walk_at "d"
   exact q _ (rvs_pm.trans hpb) (by rw [rvs_len]; omega)
theorem flats_i {α : Type} (f : α -> Int) : ∀ l : List α,flats (l.map fun a=>PyData.int (f a)) = true
 | []=>rfl
 | a :: l=>by rw [map_cons,flats,flats_i f l]; rfl
end
end K52
local macro_rules | `(tactic| walk_at "rd") => `(tactic| simp only [L2.tFor_eq, L2.tSeq, L2.tNext, L2.tIfS, L2.tRet, L2.tRetN, L2.tDrop, L2.tAsg, L2.gName, L2.gTup, L2.gCons, L2.gNil, L2.gSub, L2.tVar, L2.tC, L2.tOp, L2.tUn, L2.tTest, L2.tB, L2.tCB, L2.tCall, L2.tCons, L2.tNil, L2.tTup, L2.tLst, L2.tIf, L2.tAnd, L2.tOr, L2.tNot, L2.tAndV, L2.tOrV, L2.tNotV, L2.tAug, L2.tAugS, L2.ipI, L2.tLC, L2.tIfB, L2.tEmit, L2.tLR,
 L2.rI,L2.rI0,L2.rU,L2.rEq,L2.rNe,L2.scal,L2.iRng1,L2.iRng2,L2.iList,L2.iTup,L2.iEnum,L2.tChain,L2.rInsert,L2.tSl,L2.tPart,L2.tNoPart,L2.rSlL,L2.rIn,L2.tRaise,L2.tTry0,L2.tTryN,L2.rIsX,L2.rIsXT,L2.xE,L2.xCall,L2.xTup2,L2.xIsT,L2.xS,L2.xRet,L2.xSet,L2.xDrop,L2.xIf,L2.xNext,L2.xSeq,L2.iZip,L2.rLen,L2.rAll,L2.rAny,L2.rSum,L2.rIsi,L2.rListOf,L2.rIxL,L2.rIxT,L2.rGetL,L2.rSetL,L2.rEqD,L2.rAppend,L2.rPopAt,L2.rReverse,L2.rCat,L2.tBM,L2.tBM0,L2.capS,L2.capN,id,
 map_cons,List.map_nil,append_nil,nil_append,List.cons_append,List.getElem?_cons_zero,List.getElem?_cons_succ,List.set_cons_zero,List.set_cons_succ,Option.some.injEq,L2.V.int.injEq,L2.V.ref.injEq,L2.V.bl.injEq,L2.V.str.injEq,List.cons.injEq,and_true,true_and,exists_eq_left',exists_eq_left,exists_and_left,decide_eq_true_eq,Option.join_some,if_true,if_false])
namespace K52
open PySem PySem.Spec PyProof.Rows L2 DL M50
section
variable {P : Program} {w : World} {K : W.Frag} {mg : Str -> Option Value} {base : Heap}
theorem ows_flt {H : Hp} (p : V × List Ar -> Bool) : ∀ {L : List (V × List Ar)} {ms : List Addr},Ows K H (L.map (·.1)) (L.map fun x=>pD x.2) ms -> ∃ ms2,Ows K H ((L.filter p).map (·.1)) ((L.filter p).map fun x=>pD x.2) ms2 /\ ms2.Sublist ms
 | [],ms,h=>by cases h; exact ⟨[],.nil,.refl _⟩
 | x :: L,_,.cons (ns:=ns) (ms:=ms) h r=>by
  obtain ⟨ms2,h2,s2⟩:=ows_flt p (L:=L) r
  by_cases e : p x = true
  ·rw [List.filter_cons,if_pos e]
   exact ⟨ns ++ ms2,.cons h h2,s2.append_left ns⟩
  ·rw [List.filter_cons,if_neg e]
   exact ⟨ms2,h2,s2.trans (List.sublist_append_right ns ms)⟩
def sd_fullO : SpD:=fun ds Q _=>∃ ps : List (List Ar),ds = [.list (ps.map pD)] /\ ps.length <= 100 /\ (∀ q ∈ ps,q.length <= 1000) /\ Q (.list ((fullP ps).map pD)) true
theorem ok_l_fullO {f : Addr} {fd : FuncData} (F : Fun K "_law_full" "_law_full" s_l_full f fd) (T : Blt mg) : FnOk P w K mg base CX0 1 f fd ["_law_pieces"] (SpLO K sd_fullO):=by
 refine F.ok sc_l_full (fun vs H Q E h=>?_) (fun cdv A outer st H vs Q E hr h=>?_)
 ·obtain ⟨ds,ms,Qd,Xd,h1,_,⟨ps,rfl,_⟩,_⟩:=h
  rw [h1.den.length]; rfl
 obtain ⟨ds,ms,Qd,Xd,h1,nd,⟨ps,rfl,hp100,hq1000,qq⟩,hQ,_⟩:=h
 cases h1 with
 | cons h1 h2 =>
 cases h2
 rename_i v ns
 rw [append_nil] at nd hQ
 cases h1 with
 | lst ha hu =>
 rename_i a us ms
 refine qmk (qpss_cons (qps_setlc (i:=1) (hN:=sc_l_full.nd) (hyi:=rfl) (hy:=rfl) (hc:=rfl) (own:=["_law_piece"]) (cap:=[]) (L:=LcScope.of (by kernel_rfl)) (hi:=(qpi_listK K (by rfl) (qpv 0))) (hin:=(fun _ _ _ _=>⟨(qpgn 0 (nd_of (by kernel_rfl))),(qpts_one (qpt_cmpR (op_neK K (by rfl) (by exact hr.units)) (qpv 0) (qpe_lst qpa_nil) (nomark _))),(qpb_emit (by rfl) (by rfl) (qpv 0))⟩)))
   (qpss_cons (qps_if (qPWpt (qpw_and (qpt_cmpR op_eq (qpe_callB (call_lenK K (by rfl)) (by rfl) (by exact T.len) (by decide +kernel) (qpa_cons (qpv 1) qpa_nil)) qpe_int (nomark _)) (qpw_and1 (qpt_cmpR op_gt (qpe_callB (call_lenK K (by rfl)) (by rfl) (by exact T.len) (by decide +kernel) (qpa_cons (qpe_ix (ix_listK K (by rfl)) (qpv 1) qpe_int (fun _ _=>rfl)) qpa_nil)) qpe_int (nomark _))))) (qpss_one (qps_ret (qpe_lst (qpa_cons (qpe_slice (sl_listK K (by rfl)) (qpe_ix (ix_listK K (by rfl)) (qpv 1) qpe_int (fun _ _=>rfl)) qpo_none (qpo_some qpe_int)) (qpa_cons (qpe_slice (sl_listK K (by rfl)) (qpe_ix (ix_listK K (by rfl)) (qpv 1) qpe_int (fun _ _=>rfl)) (qpo_some qpe_int) qpo_none) qpa_nil))))) qpss_nil)
   (qpss_one (qps_ret (qpv 1))))) ?_
 show (_ : TS) _ [some (.ref a),none] H
 have hul : us.length = ps.length:=by have:=hu.den.length; rw [length_map] at this; exact this
 obtain ⟨L,eu,ep⟩ : ∃ L : List (V × List Ar),us = L.map (·.1) /\ ps = L.map (·.2):=⟨us.zip ps,by rw [List.map_fst_zip (by omega)],by rw [List.map_snd_zip (by omega)]⟩
 subst eu ep
 rw [map_map] at hu
 have hu : Ows K H (L.map (·.1)) (L.map fun x=>pD x.2) ms:=hu
 have hdn:=hu.den
 walk_at "rd"
 refine ⟨⟨_,SqL.of ha⟩,fun acc hacc=>?_⟩
 have hne : a ≠ acc:=fun e=>by rw [e,hacc] at ha; cases ha
 refine loop_list (L.map (·.1)) (fun i σ H1=>∃ x0 : Option V,σ = [x0] /\ Same H H1 /\ H1 acc = some (.lst (((L.take i).filter fun x=>decide (x.2 ≠ [])).map (·.1)))) ⟨_,rfl,Same.new hacc,upd_same⟩ (fun i σ H1 _ h=>?_) ?_ ?_
 ·obtain ⟨x0,rfl,sm,_⟩:=h
  exact SqL.of (sm _ _ ha)
 ·rintro i x σ H1 hx ⟨x0,rfl,sm,hA⟩
  walk_at "rd"
  obtain ⟨y,hy,rfl⟩ : ∃ y,L[i]? = some y /\ x = y.1:=by
   rw [List.getElem?_map] at hx
   cases e : L[i]? with
   | none=>rw [e] at hx; cases hx
   | some r=>rw [e] at hx; cases hx; exact ⟨r,rfl,rfl⟩
  have hym : y ∈ L:=mem_iff_getElem?.mpr ⟨i,hy⟩
  obtain ⟨u,u1,u2⟩:=hdn.get (i:=i) (d:=pD y.2) (by rw [List.getElem?_map,hy]; rfl)
  obtain rfl : u = y.1:=by rw [List.getElem?_map,hy] at u1; injection u1 with u1; exact u1.symm
  refine ⟨by decide,fun p hp=>?_⟩
  have s1 : Same H1 (upd H1 p (.lst [])):=Same.new hp
  have hpa : acc ≠ p:=fun e=>by rw [<- e,hA] at hp; cases hp
  refine ⟨pD y.2,(Dn.same (sm.trans s1) u2).deep (lay_p y.2),.list [],.lst (SqL.of upd_same) .nil,lay_p y.2,rfl,Nat.le_trans (dep_p y.2) (by decide),?_⟩
  rw [eqv_nil]
  have hi:=(List.getElem?_eq_some_iff.mp hy).1
  rw [length_map] at hp100
  cases e : y.2 with
  | nil =>
   refine iteF ⟨sm.trans s1,?_⟩
   rw [s1 _ _ hA,List.take_succ,hy,List.filter_append]
   show some (HO.lst _) = some (HO.lst (((_ : List _) ++ List.filter _ [y]).map _))
   rw [List.filter_cons,if_neg (by rw [e]; simp),List.filter_nil,append_nil]
  | cons c r =>
   refine iteT ⟨_,s1 _ _ hA,?_,(sm.trans s1).put hacc,?_⟩
   ·rw [length_map]
    have:=List.length_filter_le (fun x : V × List Ar=>decide (x.2 ≠ [])) (L.take i)
    rw [length_take] at this
    exact Nat.lt_of_le_of_lt (show _ <= 100 by omega) (by decide)
   ·rw [upd_same,List.take_succ,hy,List.filter_append]
    show some (HO.lst _) = some (HO.lst (((_ : List _) ++ List.filter _ [y]).map _))
    rw [List.filter_cons,if_pos (by rw [e]; simp),List.filter_nil,map_append]; rfl
 ·rintro σ H1 ⟨x0,rfl,sm,hA⟩
  rw [length_map,take_length] at hA
  obtain ⟨ms2,o2,sl⟩:=ows_flt (fun x=>decide (x.2 ≠ [])) hu
  have ef : (L.map (·.2)).filter (fun q=>q ≠ []) = (L.filter fun x=>decide (x.2 ≠ [])).map (·.2):=by rw [List.filter_map]; rfl
  have hms : ∀ b ∈ ms2,b ∈ a :: ms:=fun b hb=>mem_cons_of_mem _ (sl.subset hb)
  have hfl : (L.filter fun x=>decide (x.2 ≠ [])).length <= 100:=by
   have:=List.length_filter_le (fun x : V × List Ar=>decide (x.2 ≠ [])) L
   rw [length_map] at hp100
   omega
  unfold fullP at qq
  rw [ef] at qq
  have hq2 : ∀ x ∈ (L.filter fun x=>decide (x.2 ≠ [])),x.2.length <= 1000:=fun x hx=>hq1000 x.2 (mem_map.mpr ⟨x,(List.mem_filter.mp hx).1,rfl⟩)
  revert hA o2 qq hfl hq2
  generalize (L.filter fun x=>decide (x.2 ≠ [])) = fs
  intro qq hA o2 hfl hq2
  have own : Qd (.list ((fs.map (·.2)).map pD)) true -> Q (.ref acc) H1:=fun g=>by
   refine hQ _ true _ _ g (hid_same.trans sm) ⟨acc :: ms2,.lst hA (by rw [map_map]; exact Ows.same sm o2),nodup_cons.mpr ⟨fun z=>?_,(nodup_cons.mp nd).2.sublist sl⟩,fun b hb=>?_⟩
   ·obtain ⟨us,h⟩:=o2.there acc z
    rw [hacc] at h; cases h
   ·rcases mem_cons.mp hb with rfl | hb
    ·show hid (fun z=>z ∈ a :: ms) H b = none
     unfold hid
     split
     ·rfl
     ·exact hacc
    ·show hid (fun z=>z ∈ a :: ms) H b = none
     unfold hid
     exact if_pos (hms b hb)
  refine ⟨_,.inl (SqL.of hA),?_⟩
  rw [length_map]
  refine ite2 (fun h1=>?_) fun h1=>?_
  rotate_left
  ·refine iteF (own ?_)
   rw [if_neg (fun z=>h1 (by have:=z.1; rw [length_map] at this; omega))] at qq
   exact qq
  match fs,hA,o2,qq,h1,own,hq2 with
  | [y],hA,o2,qq,h1,own,hq2 =>
   cases o2 with
   | cons b1 b2 =>
    cases b2
    have b1':=(b1.same sm)
    obtain ⟨yp,yq⟩:=y
    cases b1' with
    | lst c1 c2 =>
     rename_i b ws ns
     have hwl : ws.length = yq.length:=by have:=c2.den.length; rw [length_map] at this; exact this
     have hy1000:=hq2 _ mem_cons_self
     refine ⟨_,SqL.of hA,_,atI_nat (j:=0) rfl,b,rfl,ws,.inl (SqL.of c1),?_⟩
     refine ite2 (fun h2=>?_) fun h2=>?_
     rotate_left
     ·refine own ?_
      rw [if_neg (fun z=>h2 (by have:=z.2; simp at this; omega))] at qq
      exact qq
     rw [if_pos ⟨rfl,by simp; omega⟩] at qq
     refine ⟨_,SqL.of hA,_,atI_nat (j:=0) rfl,b,rfl,ws,SqL.of c1,fun p hp=>?_⟩
     have s1 : Same H1 (upd H1 p (.lst (cutV ws none (some 1)))):=Same.new hp
     refine ⟨_,SqL.of (s1 _ _ hA),_,atI_nat (j:=0) rfl,b,rfl,ws,SqL.of (s1 _ _ c1),fun p1 hp1=>?_⟩
     have s2:=s1.trans (Same.new (o:=.lst (cutV ws (some 1) none)) hp1)
     refine ⟨by show 2 <= sizeLine; decide,fun p2 hp2=>?_⟩
     have s3:=s2.trans (Same.new (o:=.lst [.ref p,.ref p1]) hp2)
     have cut1 : cutV ws none (some 1) = ws.take 1:=by
      unfold cutV
      rw [show (some (1 : Int)) = some ((1 : Nat) : Int) from rfl,HT.sIx_nat,HT.sIx_none,List.drop_zero,Nat.sub_zero,Nat.min_eq_left (by omega)]
     have cut2 : cutV ws (some 1) none = ws.drop 1:=by
      unfold cutV
      rw [show (some (1 : Int)) = some ((1 : Nat) : Int) from rfl,HT.sIx_nat,HT.sIx_none,Nat.min_eq_left (by omega)]
      exact List.take_of_length_le (by rw [length_drop]; exact Nat.le_refl _)
     rw [cut1,cut2] at s3 hp2 ⊢
     rw [cut1] at hp1
     have hpp : p ≠ p1:=fun e=>by rw [<- e,upd_same] at hp1; cases hp1
     have hp2' : p2 ≠ p1 /\ p2 ≠ p /\ H1 p2 = none:=by
      have e1 : p2 ≠ p1:=fun e=>by rw [e,upd_same] at hp2; cases hp2
      rw [upd_ne e1] at hp2
      have e2 : p2 ≠ p:=fun e=>by rw [e,upd_same] at hp2; cases hp2
      rw [upd_ne e2] at hp2
      exact ⟨e1,e2,hp2⟩
     have hp1' : H1 p1 = none:=by rw [upd_ne hpp.symm] at hp1; exact hp1
     have dn3:=Dns.same s3 c2.den
     have fl1 : Ows K _ (ws.take 1) ((yq.take 1).map aD) []:=ows_flat (by rw [map_take]; exact Dns.take 1 dn3) (flats_a _)
     have fl2 : Ows K _ (ws.drop 1) ((yq.drop 1).map aD) []:=ows_flat (by rw [List.map_drop]; exact Dns.drop 1 dn3) (flats_a _)
     refine hQ _ true _ _ qq (hid_same.trans (sm.trans s3)) ⟨[p2,p,p1],?_,by simp [hp2'.1,hp2'.2.1,hpp],fun b hb=>?_⟩
     ·refine .lst upd_same (.cons (ns:=[p]) (ms:=[p1]) (.lst ?_ fl1) (.cons (ns:=[p1]) (ms:=[]) (.lst ?_ fl2) .nil))
      ·rw [upd_ne hp2'.2.1.symm,upd_ne hpp]; exact upd_same
      ·rw [upd_ne hp2'.1.symm]; exact upd_same
     ·have hbn : H b = none:=by
       rcases mem_cons.mp hb with rfl | hb
       ·exact sm.gone hp2'.2.2
       rcases mem_cons.mp hb with rfl | hb
       ·exact sm.gone hp
       ·rw [mem_singleton.mp hb]; exact sm.gone hp1'
      show hid (fun z=>z ∈ a :: ms) H b = none
      unfold hid
      split
      ·rfl
      ·exact hbn
abbrev s_require_place : Stmt:=top 14
theorem sc_require_place : FnScope ["table","place"] ["table","place"] (defScope s_require_place):=by walk_at "sc"
def sp_rp (cM : Addr) : SpD:=fun ds Q X=>∃ (g : List (List Int)) (i : Int),ds = [gD g,.int i] /\ ((0 <= i /\ i < g.length) -> Q .none true) /\ (¬ (0 <= i /\ i < g.length) -> X cM)
theorem ok_require_place {f cM : Addr} {fd : FuncData} (F : Fun K "require_place" "require_place" s_require_place f fd) (T : Blt mg) (C_NoMove : ExC K mg "NoMove" cM) : FnOk P w K mg base (CXE P w base) 1 f fd ["table","place"] (SpL K (sp_rp cM)):=by
 refine okE F sc_require_place (fun ds Q X h=>?_) (fun cdv A outer s H E hr=>?_)
 ·obtain ⟨g,i,rfl,_⟩:=h; rfl
 refine ⟨_,(dpss_one (dps_if (dnT (dpt_not (dpt_chain op_le op_lt dpe_int (dpv 1) (dpe_callB (dcl_len (by rfl)) (by rfl) (by exact T.len) (by decide +kernel) (dpa_cons (dpv 0) dpa_nil))))) (dpss_one (dps_raise raiseOk_cx (by rfl) (by exact C_NoMove) (by rfl) (dpa_cons dpe_str dpa_nil))) dpss_nil)),fun ds Qd Xd h=>?_⟩
 obtain ⟨g,i,rfl,q,x⟩:=h
 show (_ : TSD) _ [some (false,gD g),some (false,.int i)] _
 walk_at "d"
 refine iteb (fun h1=>?_) fun h1=>?_
 rotate_left
 ·walk_at "d"
  rw [if_pos trivial]
  walk_at "d"
  exact x fun c=>by simp at h1; have:=c.1; omega
 walk_at "d"
 refine iteb (fun h2=>?_) fun h2=>?_
 ·walk_at "d"
  exact x fun c=>by simp at h2; have:=c.2; omega
 walk_at "d"
 refine q ?_
 simp at h1 h2
 omega
def kA (a : Ar) : List Key:=[.inl a.i,.inl a.j,.inl a.k]
theorem kA_inj {a b : Ar} (h : kA a = kA b) : a = b:=by
 cases a; cases b
 unfold kA at h
 injection h with h1 h2
 injection h2 with h2 h3
 injection h3 with h3 _
 cases h1; cases h2; cases h3
 rfl
theorem kA_nodup {l : List Ar} : (l.map kA).Nodup ↔ l.Nodup:=by
 unfold List.Nodup
 rw [List.pairwise_map]
 exact ⟨fun h=>h.imp fun z e=>z (by rw [e]),fun h=>h.imp fun z e=>z (kA_inj e)⟩
theorem map_flat : ∀ ps : List (List Ar),ps.flatten.map aD = ps.flatMap fun y=>y.map aD
 | []=>rfl
 | y :: ps=>by rw [flatten_cons,map_append,map_flat ps,List.flatMap_cons]
abbrev s_require_pieces : Stmt:=top 15
theorem sc_require_pieces : FnScope ["table","p","pieces","arrows","i","j","k"] ["table","p","pieces"] (defScope s_require_pieces):=by walk_at "sc"
def sp_rs (cM : Addr) : SpD:=fun ds Q X=>∃ (n p : Nat) (R : List (List Int)) (ps : List (List Ar)),ds = [gD R,.int p,.list (ps.map pD)] /\ Tb n R /\ p < n /\ ps.length <= 100 /\ ps.flatten.length < 64 /\ (M50.Good R p ps -> Q .none true) /\ (¬ M50.Good R p ps -> X cM)
theorem ok_require_pieces {f cM : Addr} {fd : FuncData} (F : Fun K "require_pieces" "require_pieces" s_require_pieces f fd) (T : Blt mg) (C_NoMove : ExC K mg "NoMove" cM) : FnOk P w K mg base (CXE P w base) 1 f fd ["table","p","pieces"] (SpL K (sp_rs cM)):=by
 refine okE F sc_require_pieces (fun ds Q X h=>?_) (fun cdv A outer s H E hr=>?_)
 ·obtain ⟨n,p,R,ps,rfl,_⟩:=h; rfl
 refine ⟨_,(dpss_cons (dps_if (dnT (dPWpt (dpw_or (dpt_cmp dop_lt (dpe_callB (dcl_len (by rfl)) (by rfl) (by exact T.len) (by decide +kernel) (dpa_cons (dpv 2) dpa_nil)) dpe_int (nomark _)) (dpw_or1 (dpt_val (dpe_callB (dcl_any (by rfl) (by rfl)) (by rfl) (by exact T.any) (by decide +kernel) (dpa_cons (dpe_lc ["piece"] [] rfl (LcScope.of (by kernel_rfl)) (dpi_list (by rfl) (dpv 2)) (fun _ _ _ _=>⟨(dpgn 0 (nd_of (by kernel_rfl))),dpts_nil,(dpb_emit (by rfl) (by rfl) (dpe_cmp (dop_eq (by rfl) (by exact hr.units)) (dpe_callB (dcl_len (by rfl)) (by rfl) (by exact T.len) (by decide +kernel) (dpa_cons (dpv 0) dpa_nil)) dpe_int (nomark _)))⟩)) dpa_nil))))))) (dpss_one (dps_raise raiseOk_cx (by rfl) (by exact C_NoMove) (by rfl) (dpa_cons dpe_str dpa_nil))) dpss_nil)
   (dpss_cons (dnS (dps_setlc (i:=3) (hN:=sc_require_pieces.nd) (hyi:=rfl) (hy:=rfl) (hc:=rfl) (own:=["piece","arrow"]) (cap:=[]) (L:=LcScope.of (by kernel_rfl)) (hi:=(dpi_list (by rfl) (dpv 2))) (hin:=(fun _ _ _ _=>⟨(dpgn 0 (nd_of (by kernel_rfl))),dpts_nil,(dpb_for (by rfl) (by rfl) (by rfl) (by exact fun _=>rfl) (dpi_list (by rfl) (dpv 0)) (dpgn 1 (nd_of (by kernel_rfl))) dpts_nil (dpb_emit (by rfl) (by rfl) (dpv 1)))⟩))))
   (dpss_cons (dps_frz 3 (dps_for PassesOwn.leaving rfl (dpi_list (by rfl) (dpv 3)) (dpg_tup 3 (by rfl) (by rfl) (dpgs_cons (dpgn 4 sc_require_pieces.nd) (dpgs_cons (dpgn 5 sc_require_pieces.nd) (dpgs_cons (dpgn 6 sc_require_pieces.nd) dpgs_nil))) (by rfl) (by rfl)) (dpss_one (dps_if (dnT (dPWpt (dpw_or (dpt_cmp (dop_ne (by rfl) (by exact hr.units)) (dpv 4) (dpv 1) (nomark _)) (dpw_or (dpt_not (dpt_chain op_le op_lt dpe_int (dpv 5) (dpe_callB (dcl_len (by rfl)) (by rfl) (by exact T.len) (by decide +kernel) (dpa_cons (dpv 0) dpa_nil)))) (dpw_or1 (dpt_not (dpt_chain op_le op_lt dpe_int (dpv 6) (dpe_ix (dix (by rfl)) (dpe_ix (dix (by rfl)) (dpv 0) (dpv 1) (fun _ _=>rfl)) (dpv 5) (fun _ _=>rfl))))))))) (dpss_one (dps_raise raiseOk_cx (by rfl) (by exact C_NoMove) (by rfl) (dpa_cons dpe_str dpa_nil))) dpss_nil))))
   (dpss_one (dps_if (dnT (dPWpt (dpw_or (dpt_cmp (dop_ne (by rfl) (by exact hr.units)) (dpe_lenset (by rfl) (by rfl) (by exact hr.units) (by rfl) (by exact T.len) (by decide +kernel) (by rfl) (by exact T.set) (by decide +kernel) (dpv 3)) (dpe_callB (dcl_len (by rfl)) (by rfl) (by exact T.len) (by decide +kernel) (dpa_cons (dpv 3) dpa_nil)) (nomark _)) (dpw_or1 (dpt_cmp (dop_ne (by rfl) (by exact hr.units)) (dpe_callB (dcl_len (by rfl)) (by rfl) (by exact T.len) (by decide +kernel) (dpa_cons (dpv 3) dpa_nil)) (dpe_callB (dcl_sum (by rfl) (by rfl)) (by rfl) (by exact T.sum) (by decide +kernel) (dpa_cons (dpe_ix (dix (by rfl)) (dpv 0) (dpv 1) (fun _ _=>rfl)) dpa_nil)) (nomark _)))))) (dpss_one (dps_raise raiseOk_cx (by rfl) (by exact C_NoMove) (by rfl) (dpa_cons dpe_str dpa_nil))) dpss_nil))))),fun ds Qd Xd h=>?_⟩
 obtain ⟨n,p,R,ps,rfl,hT,hp,hps,hfl,q,x⟩:=h
 have hn:=hT.2.2.1.1
 have h6:=hT.2.1
 obtain ⟨r,hr,er,hrl,hrm,hr0,hr40⟩:=hT.row hp
 show (_ : TSD) _ [some (false,gD R),some (false,.int p),some (false,.list (ps.map pD)),none,none,none,none] _
 walk_at "d"
 rw [length_map]
 refine iteb (fun h1=>?_) fun h1=>?_
 ·rw [if_pos trivial]
  walk_at "d"
  exact x fun c=>by simp at h1; have:=c.2.1; omega
 have h1 : 2 <= ps.length:=by simp at h1; omega
 walk_at "d"
 refine lc_mapA (L:=ps) pD (fun y=>.bool (id (((y.length : Nat) : Int) == 0))) (fun y hy es Q' hl q'=>?_) (by omega) ?_
 ·rw [show pD y = .list (y.map aD) from rfl]
  walk_at "d"
  rw [length_map]
  first | exact q' | exact ⟨hl,rfl,q'⟩
 walk_at "d"
 refine ⟨ps.map fun y=>(id (((y.length : Nat) : Int) == 0)),bools_map _ ps,?_⟩
 walk_at "d"
 refine iteb (fun h2=>?_) fun h2=>?_
 ·walk_at "d"
  refine x fun c=>?_
  obtain ⟨b,hb,e⟩:=any_eq_true.mp h2
  obtain ⟨y,hy,rfl⟩:=mem_map.mp hb
  have : y = []:=by simp at e; exact e
  exact c.2.2.1 y hy this
 have h2 : ∀ y ∈ ps,y ≠ []:=fun y hy e=>by
  have : (ps.map fun y=>(id (((y.length : Nat) : Int) == 0))).any id = true:=any_eq_true.mpr ⟨true,mem_map.mpr ⟨y,hy,by rw [e]; rfl⟩,rfl⟩
  rw [this] at h2
  cases h2
 walk_at "d"
 refine lc_flatA (L:=ps) pD (fun y=>y.map aD) (fun y hy es Q' hl q'=>?_) (by rw [<- map_flat,length_map]; omega) ?_
 ·rw [show pD y = .list (y.map aD) from rfl]
  walk_at "d"
  rw [length_map] at hl
  refine go_mapA aD aD y es (fun a ha es Q' hl q'=>?_) (by omega) (by exact q')
  walk_at "d"
  first | exact q' | exact ⟨hl,rfl,q'⟩
 rw [<- map_flat]
 walk_at "d"
 have hlt : ∀ x ∈ r,x < 1000:=fun y hy=>by have:=(le_sum hr0 hy).1; omega
 have hGd : M50.Good R p ps ↔ (∀ a ∈ ps.flatten,a ∈ frm r p) /\ ps.flatten.Nodup /\ ((ps.flatten.length : Nat) : Int) = r.sum:=by
  rw [<- perm_iff hr0 hlt]
  unfold M50.Good
  rw [Int.toNat_natCast,er]
  exact ⟨fun z=>z.2.2.2,fun z=>⟨⟨by omega,by omega⟩,h1,h2,z⟩⟩
 rw [hGd] at q x
 revert q x hfl
 generalize ps.flatten = fl
 intro hfl x q
 refine lp_list (fun k ρ=>∃ x4 x5 x6 : Option (Bool × D),ρ = [some (false,gD R),some (false,.int p),some (false,.list (ps.map pD)),some (false,.list (fl.map aD)),x4,x5,x6] /\ ∀ a ∈ fl.take k,a ∈ frm r p) ⟨_,_,_,rfl,fun _ z=>by cases z⟩ ?_ ?_
 ·rintro k d ρ hd ⟨x4,x5,x6,rfl,hk⟩
  obtain ⟨a,ha,rfl⟩ : ∃ a,fl[k]? = some a /\ d = aD a:=by
   rw [List.getElem?_map] at hd
   cases e : fl[k]? with
   | none=>rw [e] at hd; cases hd
   | some r=>rw [e] at hd; cases hd; exact ⟨r,rfl,rfl⟩
  have ham : a ∈ fl:=mem_iff_getElem?.mpr ⟨k,ha⟩
  have bad : ¬ a ∈ frm r p -> ¬ ((∀ a ∈ fl,a ∈ frm r p) /\ fl.Nodup /\ ((fl.length : Nat) : Int) = r.sum):=fun z c=>z (c.1 a ham)
  rw [mem_frm,hrl] at bad
  rw [show aD a = .tuple [.int a.i,.int a.j,.int a.k] from rfl]
  walk_at "d"
  refine iteb (fun e=>?_) fun e=>?_
  ·rw [if_pos trivial]
   walk_at "d"
   exact x (bad fun c=>by simp at e; exact e c.1)
  have ei : a.i = p:=by simpa using e
  walk_at "d"
  refine iteb (fun h3=>?_) fun h3=>?_
  rotate_left
  ·walk_at "d"
   rw [if_pos trivial,if_pos trivial]
   walk_at "d"
   exact x (bad fun c=>by simp at h3; have:=c.2.1; omega)
  have h3 : 0 <= a.j:=by simpa using h3
  walk_at "d"
  refine iteb (fun h4=>?_) fun h4=>?_
  ·rw [if_pos trivial]
   walk_at "d"
   exact x (bad fun c=>by simp at h4; have:=c.2.2.1; omega)
  have h4 : a.j < n:=by simp at h4; omega
  walk_at "d"
  refine iteb (fun h5=>?_) fun h5=>?_
  rotate_left
  ·walk_at "d"
   rw [if_pos trivial]
   walk_at "d"
   exact x (bad fun c=>by simp at h5; have:=c.2.2.2.1; omega)
  have h5 : 0 <= a.k:=by simpa using h5
  obtain ⟨j,hj,ej⟩ : ∃ j : Nat,j < n /\ a.j = (j : Int):=⟨a.j.toNat,by omega,by omega⟩
  have hjr : j < r.length:=by omega
  walk_at "d"
  refine ⟨iD r,atI_nat (j:=p) (by rw [List.getElem?_map,hr]; rfl),?_⟩
  walk_at "d"
  refine ⟨.int r[j],by rw [ej]; exact atI_nat (j:=j) (by rw [List.getElem?_map,List.getElem?_eq_getElem hjr]; rfl),?_⟩
  have erj : r.getD a.j.toNat 0 = r[j]:=by rw [ej,Int.toNat_natCast,getD_eq_getElem?_getD,List.getElem?_eq_getElem hjr]; rfl
  rw [erj] at bad
  walk_at "d"
  refine iteb (fun h6=>?_) fun h6=>?_
  ·walk_at "d"
   exact x (bad fun c=>by simp at h6; have:=c.2.2.2.2; omega)
  walk_at "d"
  refine ⟨_,_,_,rfl,fun b hb=>?_⟩
  rw [List.take_succ,ha] at hb
  rcases mem_append.mp hb with hb | hb
  ·exact hk b hb
  ·rw [mem_singleton.mp hb,mem_frm,erj]
   exact ⟨ei,h3,by omega,h5,by simp at h6; exact h6⟩
 ·rintro ρ ⟨x4,x5,x6,rfl,hk⟩
  rw [length_map,take_length] at hk
  walk_at "d"
  unfold dLS
  walk_at "d"
  refine ⟨fl.map kA,by rw [map_map]; rfl,by rw [length_map]; omega,fun m hm=>?_⟩
  have hm:=oneEach_nodup hm
  rw [length_map,kA_nodup] at hm
  walk_at "d"
  rw [length_map]
  refine iteb (fun h7=>?_) fun h7=>?_
  ·rw [if_pos trivial]
   walk_at "d"
   exact x fun c=>by have:=hm.mpr c.2.1; simp at h7; omega
  have h7 : fl.Nodup:=hm.mp (by simp at h7; omega)
  walk_at "d"
  refine ⟨iD r,atI_nat (j:=p) (by rw [List.getElem?_map,hr]; rfl),?_⟩
  walk_at "d"
  rw [length_map]
  refine iteb (fun h8=>?_) fun h8=>?_
  ·walk_at "d"
   exact x fun c=>by have:=c.2.2; simp at h8; omega
  walk_at "d"
  exact q ⟨hk,h7,by simp at h8; exact h8⟩
theorem flats_app : ∀ a b : List D,flats (a ++ b) = (flats a && flats b)
 | [],b=>rfl
 | x :: a,b=>by rw [List.cons_append,flats,flats,flats_app a b,Bool.and_assoc]
theorem kels2_r {ds es : List D} {k : Kd} (h : flats es = false) : kels2 ds k es .mix = .mix:=by
 unfold kels2
 rw [h,Bool.and_false,if_neg Bool.false_ne_true]
 rw [show Kd.isOld .mix = false from rfl,Bool.and_false,if_neg Bool.false_ne_true]
theorem kels2_l {ds es : List D} {k : Kd} (h : flats ds = false) : kels2 ds .mix es k = .mix:=by
 unfold kels2
 rw [h,Bool.false_and,if_neg Bool.false_ne_true]
 rw [show Kd.isOld .mix = false from rfl,Bool.false_and,if_neg Bool.false_ne_true]
theorem rep_flat (x : Int) : ∀ k : Nat,(List.replicate k [PyData.int x]).flatten = (List.replicate k x).map PyData.int
 | 0=>rfl
 | k + 1=>by rw [replicate_succ,flatten_cons,rep_flat x k]; rfl
abbrev s_split_out : Stmt:=top 19
theorem sc_split_out : FnScope ["table","p","pieces","many","counts","rows"] ["table","p","pieces"] (defScope s_split_out):=by walk_at "sc"
def sp_so : SpD:=fun ds Q _=>∃ (n p : Nat) (R : List (List Int)) (ps : List (List Ar)),ds = [gD R,.int p,.list (ps.map pD)] /\ Tb n R /\ p < n /\ 1 <= ps.length /\ ps.length <= 100 /\ (∀ q ∈ ps,q.length <= 1000) /\ Q (gD (madeP R p ps)) true
theorem ok_split_out {f : Addr} {fd : FuncData} (F : Fun K "split_out" "split_out" s_split_out f fd) (T : Blt mg) : FnOk P w K mg base CX0 1 f fd ["table","p","pieces"] (SpL K sp_so):=by
 refine ok0 F sc_split_out (fun ds Q X h=>?_) (fun cdv A outer s H E hr=>?_) fun ds Qd Xd h=>h
 ·obtain ⟨n,p,R,ps,rfl,_⟩:=h; rfl
 refine ⟨_,(dpss_cons (dpset 3 sc_split_out.nd (dpe_callB (dcl_len (by rfl)) (by rfl) (by exact T.len) (by decide +kernel) (dpa_cons (dpv 0) dpa_nil)))
   (dpss_cons (dps_setlc (i:=4) (hN:=sc_split_out.nd) (hyi:=rfl) (hy:=rfl) (hc:=rfl) (own:=["piece"]) (cap:=[("many",3)]) (L:=LcScope.of (by kernel_rfl)) (hi:=(dpi_list (by rfl) (dpv 2))) (hin:=(fun _ _ _ _=>⟨(dpgn 0 (nd_of (by kernel_rfl))),dpts_nil,(dpb_emit (by rfl) (by rfl) (dpe_lc ["end"] [("piece",0)] rfl (LcScope.of (by kernel_rfl)) (dpi_range1 (by rfl) (by exact T.range) (dpa_cons (dpv 1) dpa_nil)) (fun _ _ _ _=>⟨(dpgn 0 (nd_of (by kernel_rfl))),dpts_nil,(dpb_emit (by rfl) (by rfl) (dpe_callB (dcl_len (by rfl)) (by rfl) (by exact T.len) (by decide +kernel) (dpa_cons (dpe_lc ["i","j","k"] [("end",0)] rfl (LcScope.of (by kernel_rfl)) (dpi_list (by rfl) (dpv 1)) (fun _ _ _ _=>⟨(dpg_tup 3 (by rfl) (by rfl) (dpgs_cons (dpgn 0 (nd_of (by kernel_rfl))) (dpgs_cons (dpgn 1 (nd_of (by kernel_rfl))) (dpgs_cons (dpgn 2 (nd_of (by kernel_rfl))) dpgs_nil))) (by rfl) (by rfl)),(dpts_one (dpt_cmp (dop_eq (by rfl) (by exact hr.units)) (dpv 1) (dpv 3) (nomark _))),(dpb_emit (by rfl) (by rfl) dpe_int)⟩)) dpa_nil)))⟩)))⟩)))
   (dpss_cons (dpset 5 sc_split_out.nd (dpe_op dop_add (dpe_op dop_add (dpe_op dop_add (dpe_slice (by rfl) (dpv 0) dpo_none (dpo_some (dpv 1))) (dpe_lst (dpa_cons (dpe_ix (dix (by rfl)) (dpv 4) dpe_int (fun _ _=>rfl)) dpa_nil))) (dpe_slice (by rfl) (dpv 0) (dpo_some (dpe_op dop_add (dpv 1) dpe_int)) dpo_none)) (dpe_slice (by rfl) (dpv 4) (dpo_some dpe_int) dpo_none)))
   (dpss_one (dps_ret (dpe_lc ["row"] [("p",1),("pieces",2)] rfl (LcScope.of (by kernel_rfl)) (dpi_list (by rfl) (dpv 5)) (fun _ _ _ _=>⟨(dpgn 0 (nd_of (by kernel_rfl))),dpts_nil,(dpb_emit (by rfl) (by rfl) (dpe_op dop_add (dpv 0) (dpe_op dop_rep (dpe_lst (dpa_cons (dpe_ix (dix (by rfl)) (dpv 0) (dpv 1) (fun _ _=>rfl)) dpa_nil)) (dpe_op dop_sub (dpe_callB (dcl_len (by rfl)) (by rfl) (by exact T.len) (by decide +kernel) (dpa_cons (dpv 2) dpa_nil)) dpe_int))))⟩))))))),fun ds Qd h=>?_⟩
 obtain ⟨n,p,R,ps,rfl,hT,hp,hp1,hps,hpq,q⟩:=h
 have hn:=hT.2.2.1.1
 have h6:=hT.2.1
 show (_ : TSD) _ [some (false,gD R),some (false,.int p),some (false,.list (ps.map pD)),none,none,none] _
 walk_at "d"
 refine lc_mapA (L:=ps) pD (fun q=>iD (cs n q)) (fun y hy es Q' hl q'=>?_) (by omega) ?_
 ·walk_at "d"
  rw [hn,Int.toNat_natCast,show pD y = .list (y.map aD) from rfl]
  have hyl:=hpq y hy
  refine lc_mapA (L:=List.range n) (fun x : Nat=>.int (0 + (x : Int))) (fun x : Nat=>.int (M50.cnt y x)) (fun x hx es Q' hl q'=>?_) (by rw [length_range]; omega) ?_
  ·walk_at "d"
   refine lc_fltA (L:=y) aD (fun _=>.int 1) (fun a=>a.j == x) (fun a ha es Q' hl q'=>?_) (by omega) ?_
   ·rw [show aD a = .tuple [.int a.i,.int a.j,.int a.k] from rfl]
    walk_at "d"
    rw [Int.zero_add]
    cases e : (a.j == (x : Int)) with
    | true =>
     rw [e] at q'
     show dEmit (dC (PyData.int 1)) [_,_,_,_] es Q'
     walk_at "d"
     exact q'
    | false =>
     rw [e] at q'
     exact q'
   ·walk_at "d"
    rw [length_map]
    exact q'
  rw [show PyData.list ((List.range n).map fun x : Nat=>PyData.int (M50.cnt y x)) = iD (cs n y) from by unfold iD cs; rw [map_map]; rfl]
  walk_at "d"
  exact q'
 ·rw [show PyData.list (ps.map fun q=>iD (cs n q)) = gD (ps.map (cs n)) from by unfold gD; rw [map_map]; rfl]
  walk_at "d"
  obtain ⟨y,hy⟩ : ∃ y,ps[0]? = some y:=⟨_,List.getElem?_eq_getElem hp1⟩
  have ey : ps.getD 0 [] = y:=by rw [getD_eq_getElem?_getD,hy]; rfl
  refine ⟨iD (cs n y),atI_nat (j:=0) (by rw [List.getElem?_map,List.getElem?_map,hy]; rfl),?_⟩
  walk_at "d"
  have c1 : DL.cutD (R.map iD) none (some (p : Int)) = (R.take p).map iD:=by rw [cut_to (j:=p) rfl,map_take]
  have c2 : DL.cutD (R.map iD) (some ((p : Int) + 1)) none = (R.drop (p + 1)).map iD:=by rw [cut_from (j:=p + 1) (by omega),List.map_drop]
  have c3 : DL.cutD ((ps.map (cs n)).map iD) (some 1) none = ((ps.drop 1).map (cs n)).map iD:=by rw [cut_from (z:=1) (j:=1) rfl,List.map_drop,List.map_drop]
  rw [c1]
  refine ⟨by rw [length_map,length_take]; simp; omega,?_⟩
  have k1 : kels2 ((R.take p).map iD) (kels ((R.take p).map iD) .old) [iD (cs n y)] (kcons (iD (cs n y)) .mix (.own [])) = .mix:=kels2_r rfl
  rw [k1]
  walk_at "d"
  rw [c2]
  refine ⟨by rw [length_append,length_map,length_map,length_take,length_drop]; simp; omega,?_⟩
  have f1 : flats ((R.take p).map iD ++ [iD (cs n y)]) = false:=by rw [flats_app]; exact Bool.and_false _
  rw [kels2_l f1]
  walk_at "d"
  rw [c3]
  refine ⟨by rw [length_append,length_append,length_map,length_map,length_map,length_map,length_take,length_drop,length_drop]; simp; omega,?_⟩
  rw [kels2_l (by rw [flats_app,f1]; rfl)]
  have er : PyData.list ((R.take p).map iD ++ [iD (cs n y)] ++ (R.drop (p + 1)).map iD ++ ((ps.drop 1).map (cs n)).map iD) = gD (rowsP R p ps):=by
   unfold gD rowsP
   rw [map_append,map_append,map_append,ey,hn]; rfl
  rw [er]
  have hlen : ∀ row ∈ rowsP R p ps,row.length = n:=fun row hrow=>by
   have hc : ∀ z,(cs n z).length = n:=fun z=>by simp [cs]
   unfold rowsP at hrow
   rw [hn] at hrow
   rcases mem_append.mp hrow with hrow | hrow
   ·rcases mem_append.mp hrow with hrow | hrow
    ·rcases mem_append.mp hrow with hrow | hrow
     ·exact hT.2.2.1.2 row (mem_of_mem_take hrow)
     ·rw [mem_singleton.mp hrow]; exact hc _
    ·exact hT.2.2.1.2 row (List.mem_of_mem_drop hrow)
   ·obtain ⟨z,_,rfl⟩:=mem_map.mp hrow
    exact hc z
  have hrl : (rowsP R p ps).length <= 1000:=by
   unfold rowsP
   rw [length_append,length_append,length_append,length_take,length_drop,length_map,length_drop]; simp; omega
  walk_at "d"
  refine lc_mapA (L:=rowsP R p ps) iD (fun row=>iD (row ++ List.replicate (ps.length - 1) (row.getD p 0))) (fun row hrow es Q' hl q'=>?_) (by omega) ?_
  ·have hpl:=hlen row hrow
   have hpr : p < row.length:=by omega
   have eg : row.getD p 0 = row[p]:=by rw [getD_eq_getElem?_getD,List.getElem?_eq_getElem hpr]; rfl
   walk_at "d"
   refine ⟨.int row[p],atI_nat (j:=p) (by rw [List.getElem?_map,List.getElem?_eq_getElem hpr]; rfl),?_⟩
   walk_at "d"
   rw [length_map,show (((ps.length : Nat) : Int) - 1).toNat = ps.length - 1 by omega]
   refine ⟨⟨by omega,by simp; omega,by omega⟩,?_⟩
   rw [rep_flat,<- eg,show PyData.list ((List.replicate (ps.length - 1) (row.getD p 0)).map PyData.int) = iD (List.replicate (ps.length - 1) (row.getD p 0)) from rfl]
   walk_at "d"
   refine ⟨by rw [length_map,length_map,List.length_replicate]; omega,?_⟩
   have ek : kels2 (row.map PyData.int) .old ((List.replicate (ps.length - 1) (row.getD p 0)).map PyData.int) (.own []) = .own []:=by
    unfold kels2
    rw [show flats (row.map PyData.int) = true from flats_i (fun a=>a) row,show flats ((List.replicate (ps.length - 1) (row.getD p 0)).map PyData.int) = true from flats_i (fun a=>a) _]; rfl
   rw [ek,<- map_append]
   exact ⟨hl,rfl,q'⟩
  ·rw [show PyData.list ((rowsP R p ps).map fun row=>iD (row ++ List.replicate (ps.length - 1) (row.getD p 0))) = gD (madeP R p ps) from by unfold gD madeP; rw [map_map]; rfl]
   walk_at "d"
   exact q
abbrev s_flipped : Stmt:=top 7
theorem sc_flipped : FnScope ["grid"] ["grid"] (defScope s_flipped):=by walk_at "sc"
theorem ok_flipped {f : Addr} {fd : FuncData} (F : Fun K "flipped" "flipped" s_flipped f fd) (T : Blt mg) : FnOk P w K mg base CX0 1 f fd ["grid"] (SpL K sp_trn):=by
 refine ok0 F sc_flipped (fun ds Q X h=>?_) (fun cdv A outer s H E hr=>?_) fun ds Qd Xd h=>h
 ·obtain ⟨m,R,rfl,_⟩:=h; rfl
 refine ⟨_,(dpss_one (dps_ret (dpe_lc ["at"] [("grid",0)] rfl (LcScope.of (by kernel_rfl)) (dpi_range1 (by rfl) (by exact T.range) (dpa_cons (dpe_callB (dcl_len (by rfl)) (by rfl) (by exact T.len) (by decide +kernel) (dpa_cons (dpe_ix (dix (by rfl)) (dpv 0) dpe_int (fun _ _=>rfl)) dpa_nil)) dpa_nil)) (fun _ _ _ _=>⟨(dpgn 0 (nd_of (by kernel_rfl))),dpts_nil,(dpb_emit (by rfl) (by rfl) (dpe_lc ["row"] [("at",0)] rfl (LcScope.of (by kernel_rfl)) (dpi_list (by rfl) (dpv 1)) (fun _ _ _ _=>⟨(dpgn 0 (nd_of (by kernel_rfl))),dpts_nil,(dpb_emit (by rfl) (by rfl) (dpe_ix (dix (by rfl)) (dpv 0) (dpv 1) (fun _ _=>rfl)))⟩)))⟩)))),fun ds Qd h=>?_⟩
 obtain ⟨m,R,rfl,sh,hm1,hm,q⟩:=h
 have hn:=sh.1
 obtain ⟨r0,r1,r2,r3⟩:=sh.row (i:=0) (by omega)
 show (_ : TSD) _ [some (false,gD R)] _
 walk_at "d"
 refine ⟨iD r0,atI_nat (j:=0) (by rw [List.getElem?_map,r1]; rfl),?_⟩
 walk_at "d"
 rw [r2,Int.toNat_natCast]
 refine lc_mapA (L:=List.range m) (fun x : Nat=>.int (0 + (x : Int))) (fun i=>iD (R.map fun r=>r.getD i 0)) (fun i hi es Q' hl q'=>?_) (by rw [length_range]; omega) ?_
 ·have hi':=mem_range.mp hi
  walk_at "d"
  refine lc_mapA (L:=R) iD (fun r=>.int (r.getD i 0)) (fun r hr es Q' hl q'=>?_) (by omega) ?_
  ·have hir : i < r.length:=by rw [sh.2 r hr]; exact hi'
   have eg : r.getD i 0 = r[i]:=by rw [getD_eq_getElem?_getD,List.getElem?_eq_getElem hir]; rfl
   walk_at "d"
   refine ⟨.int (r.getD i 0),by rw [Int.zero_add,eg]; exact atI_nat (j:=i) (by rw [List.getElem?_map,List.getElem?_eq_getElem hir]; rfl),?_⟩
   walk_at "d"
   exact q'
  ·rw [show PyData.list (R.map fun r=>PyData.int (r.getD i 0)) = iD (R.map fun r=>r.getD i 0) from by unfold iD; rw [map_map]; rfl]
   walk_at "d"
   exact q'
 ·rw [show PyData.list ((List.range m).map fun i=>iD (R.map fun r=>r.getD i 0)) = gD (trn R) from by unfold gD trn; rw [map_map,hn]; rfl]
  walk_at "d"
  exact q
def TW : List (Str × Str):=[("out","in"),("in","out"),("join out","join in"),("join in","join out")]
def inD' (z : Int) (ps : List (List Ar)) : D:=.tuple [.str "in",.int z,.list (ps.map pD)]
def jO (z m : Int) : D:=.tuple [.str "join out",.int z,.int m]
def jI (z m : Int) : D:=.tuple [.str "join in",.int z,.int m]
theorem unp_in {z : Int} {xs : List D} : unpK [some (false,.tuple [.str (Str.ofString "in"),.int z,.list xs]),none,none,none] [1,2,3] [.str (Str.ofString "in"),.int z,.list xs] .old = [some (false,.tuple [.str (Str.ofString "in"),.int z,.list xs]),some (false,.str (Str.ofString "in")),some (false,.int z),some (false,.list xs)]:=rfl
abbrev s_move_turned : Stmt:=top 12
theorem sc_move_turned : FnScope ["move","word","p","further"] ["move"] (defScope s_move_turned):=by walk_at "sc"
def sp_mt : SpD:=fun ds Q _=>(∃ (z : Int) (ps : List (List Ar)),ds = [inD' z ps] /\ ps.length <= 100 /\ (∀ q ∈ ps,q.length <= 1000) /\ Q (.tuple [.str "out",.int z,.list ((ps.map fun q=>q.map tA).map pD)]) true) \/ (∃ z m : Int,ds = [jI z m] /\ Q (jO z m) true)
theorem ok_move_turned {f : Addr} {fd : FuncData} (F : Fun K "move_turned" "move_turned" s_move_turned f fd) (T : Blt mg) (G_TURNED_WORDS : GDcS w.params K mg "TURNED_WORDS" TW) : FnOk P w K mg base CX0 1 f fd ["move"] (SpL K sp_mt):=by
 refine ok0 F sc_move_turned (fun ds Q X h=>?_) (fun cdv A outer s H E hr=>?_) fun ds Qd Xd h=>h
 ·rcases h with ⟨z,ps,rfl,_⟩ | ⟨z,m,rfl,_⟩ <;> rfl
 refine ⟨_,(dpss_cons (dps_unp [1,2,3] 3 rfl (by rfl) (by rfl) (qpgs_cons (qpgn 1 sc_move_turned.nd) (qpgs_cons (qpgn 2 sc_move_turned.nd) (qpgs_cons (qpgn 3 sc_move_turned.nd) qpgs_nil))) (by rfl) (by rfl) (dpv 0))
   (dpss_cons (dps_if (dpt_cmp (dop_in (by rfl)) (dpv 1) (dpe_tup (dpa_cons dpe_str (dpa_cons dpe_str dpa_nil))) rfl) (dpss_one (dps_setlc (i:=3) (hN:=sc_move_turned.nd) (hyi:=rfl) (hy:=rfl) (hc:=rfl) (own:=["piece"]) (cap:=[]) (L:=LcScope.of (by kernel_rfl)) (hi:=(dpi_list (by rfl) (dpv 3))) (hin:=(fun _ _ _ _=>⟨(dpgn 0 (nd_of (by kernel_rfl))),dpts_nil,(dpb_emit (by rfl) (by rfl) (dpe_lc ["i","j","k"] [] rfl (LcScope.of (by kernel_rfl)) (dpi_list (by rfl) (dpv 0)) (fun _ _ _ _=>⟨(dpg_tup 3 (by rfl) (by rfl) (dpgs_cons (dpgn 0 (nd_of (by kernel_rfl))) (dpgs_cons (dpgn 1 (nd_of (by kernel_rfl))) (dpgs_cons (dpgn 2 (nd_of (by kernel_rfl))) dpgs_nil))) (by rfl) (by rfl)),dpts_nil,(dpb_emit (by rfl) (by rfl) (dpe_tup (dpa_cons (dpv 1) (dpa_cons (dpv 0) (dpa_cons (dpv 2) dpa_nil)))))⟩)))⟩)))) dpss_nil)
   (dpss_one (dps_ret (dpe_tup (dpa_cons (dpe_gits 1 (by rfl) (by exact G_TURNED_WORDS) (by rfl) (fun _ _=>rfl)) (dpa_cons (dpv 2) (dpa_cons (dpv 3) dpa_nil)))))))),fun ds Qd h=>?_⟩
 rcases h with ⟨z,ps,rfl,hps,hpq,q⟩ | ⟨z,m,rfl,q⟩
 ·show (_ : TSD) _ [some (false,.tuple [.str "in",.int z,.list (ps.map pD)]),none,none,none] _
  walk_at "d"
  rw [unp_in]
  walk_at "d"
  rw [show (inD (PyData.str (Str.ofString "in")) [PyData.str (Str.ofString "out"),PyData.str (Str.ofString "in")]) = true from by decide +kernel]
  try rw [if_pos (by rfl)]
  walk_at "d"
  refine lc_mapA (L:=ps) pD (fun y=>pD (y.map tA)) (fun y hy es Q' hl q'=>?_) (by omega) ?_
  ·have hyl:=hpq y hy
   rw [show pD y = .list (y.map aD) from rfl]
   walk_at "d"
   refine lc_mapA (L:=y) aD (fun a=>aD (tA a)) (fun a ha es Q' hl q'=>?_) (by omega) ?_
   ·rw [show aD a = .tuple [.int a.i,.int a.j,.int a.k] from rfl]
    walk_at "d"
    first | exact q' | exact ⟨hl,rfl,q'⟩
   ·rw [show PyData.list (y.map fun a=>aD (tA a)) = pD (y.map tA) from by unfold pD; rw [map_map]; rfl]
    first | exact ⟨hl,rfl,q'⟩ | (walk_at "d"; exact q')
  rw [show PyData.list (ps.map fun y=>pD (y.map tA)) = .list ((ps.map fun q=>q.map tA).map pD) from by rw [map_map]; rfl]
  walk_at "d"
  refine w_gits (i:=Str.ofString "out") rfl (by decide +kernel) ?_
  walk_at "d"
  exact q
 ·show (_ : TSD) _ [some (false,.tuple [.str "join in",.int z,.int m]),none,none,none] _
  walk_at "d"
  rw [show (inD (PyData.str (Str.ofString "join in")) [PyData.str (Str.ofString "out"),PyData.str (Str.ofString "in")]) = false from by decide +kernel]
  try rw [if_neg (by exact Bool.false_ne_true)]
  walk_at "d"
  refine w_gits (i:=Str.ofString "join out") rfl (by decide +kernel) ?_
  walk_at "d"
  exact q
def pl (n p k : Nat) : List Nat:=p :: (List.range k).map fun i=>n - k + i
def pz (n p k : Nat) : List Int:=(pl n p k).map fun (c : Nat)=>(c : Int)
theorem pl_lt {n p k c : Nat} (h : p + k < n) (hc : c ∈ pl n p k) : c < n:=by
 rcases mem_cons.mp hc with rfl | hc
 ·omega
 ·obtain ⟨i,hi,rfl⟩:=mem_map.mp hc
  have:=mem_range.mp hi
  omega
theorem pl_len (n p k : Nat) : (pl n p k).length = k + 1:=by simp [pl]
def JOk (R : List (List Int)) (z m : Int) : Prop:=∃ p k : Nat,z = p /\ m = k /\ 1 <= k /\ p + k < R.length /\ (∀ r ∈ R,∀ c ∈ pl R.length p k,r.getD c 0 = r.getD p 0) /\ ∀ c ∈ pl R.length p k,(R.getD c []).sum ≠ 0
def jn (R : List (List Int)) (p k : Nat) : List (List Int):=((R.take (R.length - k)).map fun r=>r.take (R.length - k)).set p ((List.range (R.length - k)).map fun e=>((pl R.length p k).map fun c=>mat R c e).sum)
theorem jn_sh {n p k : Nat} {R : List (List Int)} (sh : Sh n n R) : Sh (n - k) (n - k) (jn R p k):=by
 have hn:=sh.1
 refine ⟨by unfold jn; rw [length_set,length_map,length_take]; omega,fun r hr=>?_⟩
 unfold jn at hr
 rcases List.mem_or_eq_of_mem_set hr with hr | rfl
 ·obtain ⟨y,hy,rfl⟩:=mem_map.mp hr
  have:=sh.2 y (mem_of_mem_take hy)
  rw [length_take]; omega
 ·rw [length_map,length_range]; omega
theorem mem_pz {n p k : Nat} {x : Int} (h : x ∈ pz n p k) : ∃ c,c ∈ pl n p k /\ x = (c : Int):=by
 obtain ⟨c,h1,h2⟩:=mem_map.mp h
 exact ⟨c,h1,h2.symm⟩
theorem pz_len (n p k : Nat) : (pz n p k).length = k + 1:=by unfold pz; rw [length_map,pl_len]
theorem pl_is (n p k : Nat) (hk : k <= n) : PyData.list (PyData.int (p : Int) :: (List.range (((n : Int)) - ((n : Int) - (k : Int))).toNat).map fun (i : Nat)=>PyData.int ((n : Int) - (k : Int) + (i : Int))) = iD (pz n p k):=by
 unfold iD pz pl
 rw [map_cons,map_map,map_cons,map_map,show ((n : Int) - ((n : Int) - (k : Int))).toNat = k by omega]
 congr 2
 refine List.map_congr_left fun i hi=>?_
 have:=mem_range.mp hi
 show PyData.int ((n : Int) - (k : Int) + (i : Int)) = PyData.int (((n - k + i : Nat)) : Int)
 congr 1
 omega
abbrev s_joined_places : Stmt:=top 17
theorem sc_joined_places : FnScope ["table","p","many"] ["table","p","many"] (defScope s_joined_places):=by walk_at "sc"
def sp_jp : SpD:=fun ds Q _=>∃ (p k : Nat) (R : List (List Int)),ds = [gD R,.int p,.int k] /\ R.length <= 200 /\ p + k < R.length /\ Q (iD (pz R.length p k)) true
theorem ok_joined_places {f : Addr} {fd : FuncData} (F : Fun K "joined_places" "joined_places" s_joined_places f fd) (T : Blt mg) : FnOk P w K mg base CX0 1 f fd ["table","p","many"] (SpL K sp_jp):=by
 refine ok0 F sc_joined_places (fun ds Q X h=>?_) (fun cdv A outer s H E hr=>?_) fun ds Qd Xd h=>h
 ·obtain ⟨p,k,R,rfl,_⟩:=h; rfl
 refine ⟨_,(dpss_one (dps_ret (dpe_op dop_add (dpe_lst (dpa_cons (dpv 1) dpa_nil)) (dpe_listrange2 (by rfl) (by rfl) (by exact T.list) (by rfl) (by exact T.range) (dpa_cons (dpe_op dop_sub (dpe_callB (dcl_len (by rfl)) (by rfl) (by exact T.len) (by decide +kernel) (dpa_cons (dpv 0) dpa_nil)) (dpv 2)) (dpa_cons (dpe_callB (dcl_len (by rfl)) (by rfl) (by exact T.len) (by decide +kernel) (dpa_cons (dpv 0) dpa_nil)) dpa_nil)))))),fun ds Qd h=>?_⟩
 obtain ⟨p,k,R,rfl,h200,hpk,q⟩:=h
 show (_ : TSD) _ [some (false,gD R),some (false,.int p),some (false,.int k)] _
 walk_at "d"
 try refine ⟨⟨by omega,by omega,by omega⟩,?_⟩
 walk_at "d"
 refine ⟨by rw [length_map,length_range]; show 1 + _ <= _; omega,?_⟩
 have ek : kels2 [PyData.int (p : Int)] (.own []) ((List.range ((R.length : Int) - ((R.length : Int) - (k : Int))).toNat).map fun (i : Nat)=>PyData.int ((R.length : Int) - (k : Int) + (i : Int))) (.own []) = .own []:=by
  unfold kels2
  rw [show flats [PyData.int (p : Int)] = true from rfl,flats_i]; rfl
 rw [ek,pl_is _ _ _ (by omega)]
 exact q
theorem flat_le {α β : Type} {f : α -> List β} {m : Nat} (h : ∀ a,(f a).length <= m) : ∀ L : List α,(L.flatMap f).length <= L.length * m
 | []=>Nat.zero_le _
 | a :: L=>by
  rw [List.flatMap_cons,length_append,length_cons,Nat.succ_mul]
  have:=flat_le h L
  have:=h a
  omega
abbrev s_require_joined : Stmt:=top 16
theorem sc_require_joined : FnScope ["table","p","many","joined"] ["table","p","many"] (defScope s_require_joined):=by walk_at "sc"
def sp_rj (cM : Addr) : SpD:=fun ds Q X=>∃ (n p : Nat) (m : Int) (R : List (List Int)),ds = [gD R,.int p,.int m] /\ Sh n n R /\ n <= 200 /\ p < n /\ (JOk R p m -> Q .none true) /\ (¬ JOk R p m -> X cM)
theorem ok_require_joined {f cM : Addr} {fd : FuncData} (F : Fun K "require_joined" "require_joined" s_require_joined f fd) (T : Blt mg) (C_NoMove : ExC K mg "NoMove" cM) (D_joined_places : Df P w K mg base "joined_places" ["table","p","many"] 1 (SpL K sp_jp)) : FnOk P w K mg base (CXE P w base) 2 f fd ["table","p","many"] (SpL K (sp_rj cM)):=by
 refine okE F sc_require_joined (fun ds Q X h=>?_) (fun cdv A outer s H E hr=>?_)
 ·obtain ⟨n,p,m,R,rfl,_⟩:=h; rfl
 refine ⟨_,(dpss_cons (dps_if (dnT (dpt_not (dpt_chain op_le op_lt dpe_int (dpv 2) (dpe_op dop_sub (dpe_callB (dcl_len (by rfl)) (by rfl) (by exact T.len) (by decide +kernel) (dpa_cons (dpv 0) dpa_nil)) (dpv 1))))) (dpss_one (dps_raise raiseOk_cx (by rfl) (by exact C_NoMove) (by rfl) (dpa_cons dpe_str dpa_nil))) dpss_nil)
   (dpss_cons (dnS (dpset 3 sc_require_joined.nd (dpe_df (by exact D_joined_places) (by exact hr.mono (by omega)) (dpa_cons (dpv 0) (dpa_cons (dpv 1) (dpa_cons (dpv 2) dpa_nil))))))
   (dpss_cons (dps_if (dnT (dpt_val (dpe_callB (dcl_any (by rfl) (by rfl)) (by rfl) (by exact T.any) (by decide +kernel) (dpa_cons (dpe_lc ["row","place"] [("joined",3),("p",1)] rfl (LcScope.of (by kernel_rfl)) (dpi_list (by rfl) (dpv 0)) (fun _ _ _ _=>⟨(dpgn 0 (nd_of (by kernel_rfl))),dpts_nil,(dpb_for (by rfl) (by rfl) (by rfl) (by exact fun _=>rfl) (dpi_list (by rfl) (dpv 2)) (dpgn 1 (nd_of (by kernel_rfl))) dpts_nil (dpb_emit (by rfl) (by rfl) (dpe_cmp (dop_ne (by rfl) (by exact hr.units)) (dpe_ix (dix (by rfl)) (dpv 0) (dpv 1) (fun _ _=>rfl)) (dpe_ix (dix (by rfl)) (dpv 0) (dpv 3) (fun _ _=>rfl)) (nomark _))))⟩)) dpa_nil)))) (dpss_one (dps_raise raiseOk_cx (by rfl) (by exact C_NoMove) (by rfl) (dpa_cons dpe_str dpa_nil))) dpss_nil)
   (dpss_one (dps_if (dnT (dpt_val (dpe_callB (dcl_any (by rfl) (by rfl)) (by rfl) (by exact T.any) (by decide +kernel) (dpa_cons (dpe_lc ["place"] [("table",0)] rfl (LcScope.of (by kernel_rfl)) (dpi_list (by rfl) (dpv 3)) (fun _ _ _ _=>⟨(dpgn 0 (nd_of (by kernel_rfl))),dpts_nil,(dpb_emit (by rfl) (by rfl) (dpe_cmp (dop_eq (by rfl) (by exact hr.units)) (dpe_callB (dcl_sum (by rfl) (by rfl)) (by rfl) (by exact T.sum) (by decide +kernel) (dpa_cons (dpe_ix (dix (by rfl)) (dpv 1) (dpv 0) (fun _ _=>rfl)) dpa_nil)) dpe_int (nomark _)))⟩)) dpa_nil)))) (dpss_one (dps_raise raiseOk_cx (by rfl) (by exact C_NoMove) (by rfl) (dpa_cons dpe_str dpa_nil))) dpss_nil))))),fun ds Qd Xd h=>?_⟩
 obtain ⟨n,p,m,R,rfl,sh,h200,hp,q,x⟩:=h
 have hn:=sh.1
 show (_ : TSD) _ [some (false,gD R),some (false,.int p),some (false,.int m),none] _
 walk_at "d"
 refine iteb (fun h1=>?_) fun h1=>?_
 rotate_left
 ·walk_at "d"
  rw [if_pos trivial]
  walk_at "d"
  exact x fun ⟨p',k,e1,e2,e3,_⟩=>by simp at h1; omega
 walk_at "d"
 refine iteb (fun h2=>?_) fun h2=>?_
 ·walk_at "d"
  exact x fun ⟨p',k,e1,e2,e3,e4,_⟩=>by simp at h2; omega
 obtain ⟨k,hk1,rfl⟩ : ∃ k : Nat,1 <= k /\ m = (k : Int):=⟨m.toNat,by simp at h1; omega,by simp at h1; omega⟩
 have hpk : p + k < R.length:=by simp at h2; omega
 walk_at "d"
 refine ⟨p,k,R,rfl,by omega,hpk,?_⟩
 walk_at "d"
 refine lc_flatA (L:=R) iD (fun r=>(pz R.length p k).map fun c=>.bool (not (r.getD c.toNat 0 == r.getD p 0))) (fun r hr es Q' hl q'=>?_) (Nat.le_trans (flat_le (m:=300) (fun r=>by rw [length_map,pz_len]; omega) R) (by omega)) ?_
 ·walk_at "d"
  rw [length_map,pz_len] at hl
  have hrl:=sh.2 r hr
  have hg : ∀ c : Nat,c < n -> r[c]? = some (r.getD c 0):=fun c hc=>by rw [getD_eq_getElem?_getD,List.getElem?_eq_getElem (by omega)]; rfl
  refine go_mapA PyData.int _ (pz R.length p k) es (fun c hc es Q' hl q'=>?_) (by rw [pz_len]; omega) (by exact q')
  obtain ⟨c,hcl,rfl⟩:=mem_pz hc
  have hcn:=pl_lt (by omega) hcl
  walk_at "d"
  refine ⟨.int (r.getD c 0),atI_nat (j:=c) (by rw [List.getElem?_map,hg c (by omega)]; rfl),?_⟩
  walk_at "d"
  refine ⟨.int (r.getD p 0),atI_nat (j:=p) (by rw [List.getElem?_map,hg p hp]; rfl),?_⟩
  walk_at "d"
  first | exact q' | exact ⟨hl,rfl,q'⟩
 walk_at "d"
 have eb : (R.flatMap fun r=>(pz R.length p k).map fun c=>PyData.bool (not (r.getD c.toNat 0 == r.getD p 0))) = (R.flatMap fun r=>(pz R.length p k).map fun c=>(not (r.getD c.toNat 0 == r.getD p 0))).map fun b=>PyData.bool b:=by
  rw [List.map_flatMap]
  congr 1
  funext r
  rw [map_map]; rfl
 rw [eb]
 refine ⟨_,bools_map (fun b=>b) _,?_⟩
 rw [show ((R.flatMap fun r=>(pz R.length p k).map fun c=>(not (r.getD c.toNat 0 == r.getD p 0))).map fun b=>b) = (R.flatMap fun r=>(pz R.length p k).map fun c=>(not (r.getD c.toNat 0 == r.getD p 0))) from List.map_id _]
 walk_at "d"
 refine iteb (fun h3=>?_) fun h3=>?_
 ·walk_at "d"
  refine x fun ⟨p',k',e1,e2,e3,e4,e5,e6⟩=>?_
  obtain ⟨b,hb,eb⟩:=any_eq_true.mp h3
  obtain ⟨r,hr,hb⟩:=List.mem_flatMap.mp hb
  obtain ⟨c,hc,rfl⟩:=mem_map.mp hb
  obtain ⟨c,hcl,rfl⟩:=mem_pz hc
  obtain rfl : p = p':=by omega
  obtain rfl : k = k':=by omega
  have:=e5 r hr c hcl
  simp at eb
  exact eb this
 have h3 : ∀ r ∈ R,∀ c ∈ pl R.length p k,r.getD c 0 = r.getD p 0:=fun r hr c hc=>by
  by_cases e : r.getD c 0 = r.getD p 0
  ·exact e
  ·exfalso
   have : (R.flatMap fun r=>(pz R.length p k).map fun c=>(not (r.getD c.toNat 0 == r.getD p 0))).any id = true:=any_eq_true.mpr ⟨true,List.mem_flatMap.mpr ⟨r,hr,mem_map.mpr ⟨(c : Int),mem_map.mpr ⟨c,hc,rfl⟩,by simpa using e⟩⟩,rfl⟩
   rw [this] at h3
   cases h3
 walk_at "d"
 refine lc_mapA (L:=pz R.length p k) PyData.int (fun c=>.bool (id ((R.getD c.toNat []).sum == 0))) (fun c hc es Q' hl q'=>?_) (by rw [pz_len]; omega) ?_
 ·obtain ⟨c,hcl,rfl⟩:=mem_pz hc
  have hcn:=pl_lt (by omega) hcl
  have hR : R[c]? = some (R.getD c []):=by rw [getD_eq_getElem?_getD,List.getElem?_eq_getElem hcn]; rfl
  walk_at "d"
  refine ⟨iD (R.getD c []),atI_nat (j:=c) (by rw [List.getElem?_map,hR]; rfl),?_⟩
  walk_at "d"
  first | exact q' | exact ⟨hl,rfl,q'⟩
 walk_at "d"
 refine ⟨_,bools_map (fun c : Int=>id ((R.getD c.toNat []).sum == 0)) _,?_⟩
 walk_at "d"
 refine iteb (fun h4=>?_) fun h4=>?_
 ·walk_at "d"
  refine x fun ⟨p',k',e1,e2,e3,e4,e5,e6⟩=>?_
  obtain ⟨b,hb,eb⟩:=any_eq_true.mp h4
  obtain ⟨c,hc,rfl⟩:=mem_map.mp hb
  obtain ⟨c,hcl,rfl⟩:=mem_pz hc
  obtain rfl : p = p':=by omega
  obtain rfl : k = k':=by omega
  have:=e6 c hcl
  simp at eb
  exact this (by simpa using eb)
 walk_at "d"
 refine q ⟨p,k,rfl,rfl,hk1,hpk,h3,fun c hc e=>?_⟩
 have : ((pz R.length p k).map fun c : Int=>id ((R.getD c.toNat []).sum == 0)).any id = true:=any_eq_true.mpr ⟨true,mem_map.mpr ⟨(c : Int),mem_map.mpr ⟨c,hc,rfl⟩,by simpa using e⟩,rfl⟩
 rw [this] at h4
 cases h4
abbrev s_joined_out : Stmt:=top 20
theorem sc_joined_out : FnScope ["table","p","many","left","joined","made"] ["table","p","many"] (defScope s_joined_out):=by walk_at "sc"
def sp_jo : SpD:=fun ds Q _=>∃ (n p k : Nat) (R : List (List Int)),ds = [gD R,.int p,.int k] /\ Sh n n R /\ n <= 200 /\ p + k < n /\ Q (gD (jn R p k)) true
theorem ok_joined_out {f : Addr} {fd : FuncData} (F : Fun K "joined_out" "joined_out" s_joined_out f fd) (T : Blt mg) (D_joined_places : Df P w K mg base "joined_places" ["table","p","many"] 1 (SpL K sp_jp)) : FnOk P w K mg base CX0 2 f fd ["table","p","many"] (SpL K sp_jo):=by
 refine ok0 F sc_joined_out (fun ds Q X h=>?_) (fun cdv A outer s H E hr=>?_) fun ds Qd Xd h=>h
 ·obtain ⟨n,p,k,R,rfl,_⟩:=h; rfl
 refine ⟨_,(dpss_cons (dpset 3 sc_joined_out.nd (dpe_op dop_sub (dpe_callB (dcl_len (by rfl)) (by rfl) (by exact T.len) (by decide +kernel) (dpa_cons (dpv 0) dpa_nil)) (dpv 2)))
   (dpss_cons (dpset 4 sc_joined_out.nd (dpe_df (by exact D_joined_places) (by exact hr.mono (by omega)) (dpa_cons (dpv 0) (dpa_cons (dpv 1) (dpa_cons (dpv 2) dpa_nil)))))
   (dpss_cons (dps_setlc (i:=5) (hN:=sc_joined_out.nd) (hyi:=rfl) (hy:=rfl) (hc:=rfl) (own:=["row"]) (cap:=[("left",3)]) (L:=LcScope.of (by kernel_rfl)) (hi:=(dpi_list (by rfl) (dpe_slice (by rfl) (dpv 0) dpo_none (dpo_some (dpv 3))))) (hin:=(fun _ _ _ _=>⟨(dpgn 0 (nd_of (by kernel_rfl))),dpts_nil,(dpb_emit (by rfl) (by rfl) (dpe_slice (by rfl) (dpv 0) dpo_none (dpo_some (dpv 1))))⟩)))
   (dpss_cons (dps_put1 5 (qpv 5) (dpv 1) (dpe_lc ["end"] [("joined",4),("table",0)] rfl (LcScope.of (by kernel_rfl)) (dpi_range1 (by rfl) (by exact T.range) (dpa_cons (dpv 3) dpa_nil)) (fun _ _ _ _=>⟨(dpgn 0 (nd_of (by kernel_rfl))),dpts_nil,(dpb_emit (by rfl) (by rfl) (dpe_callB (dcl_sum (by rfl) (by rfl)) (by rfl) (by exact T.sum) (by decide +kernel) (dpa_cons (dpe_lc ["place"] [("table",2),("end",0)] rfl (LcScope.of (by kernel_rfl)) (dpi_list (by rfl) (dpv 1)) (fun _ _ _ _=>⟨(dpgn 0 (nd_of (by kernel_rfl))),dpts_nil,(dpb_emit (by rfl) (by rfl) (dpe_ix (dix (by rfl)) (dpe_ix (dix (by rfl)) (dpv 1) (dpv 0) (fun _ _=>rfl)) (dpv 2) (fun _ _=>rfl)))⟩)) dpa_nil)))⟩)))
   (dpss_one (dps_ret (dpv 5))))))),fun ds Qd h=>?_⟩
 obtain ⟨n,p,k,R,rfl,sh,h200,hpk,q⟩:=h
 have hn:=sh.1
 show (_ : TSD) _ [some (false,gD R),some (false,.int p),some (false,.int k),none,none,none] _
 walk_at "d"
 refine ⟨p,k,R,rfl,by omega,by omega,?_⟩
 have hle : ((R.length : Int) - (k : Int)) = ((R.length - k : Nat) : Int):=by omega
 rw [hle]
 walk_at "d"
 rw [cut_to (j:=R.length - k) rfl,<- map_take]
 refine lc_mapA (L:=R.take (R.length - k)) iD (fun r=>iD (r.take (R.length - k))) (fun r hr es Q' hl q'=>?_) (by rw [length_take]; omega) ?_
 ·walk_at "d"
  rw [cut_to (j:=R.length - k) rfl,<- map_take]
  rw [show kels (List.map PyData.int (List.take (R.length - k) r)) Kd.old = .own [] from by unfold kels; rw [show flats (List.map PyData.int (List.take (R.length - k) r)) = true from flats_i (fun a=>a) _]; rfl]
  exact ⟨rfl,q'⟩
 rw [show PyData.list ((R.take (R.length - k)).map fun r=>iD (r.take (R.length - k))) = gD ((R.take (R.length - k)).map fun r=>r.take (R.length - k)) from by unfold gD; rw [map_map]; rfl]
 walk_at "d"
 rw [Int.toNat_natCast]
 refine lc_mapA (L:=List.range (R.length - k)) (fun x : Nat=>.int (0 + (x : Int))) (fun e=>.int (((pl R.length p k).map fun c=>mat R c e).sum)) (fun e he es Q' hl q'=>?_) (by rw [length_range]; omega) ?_
 ·have he':=mem_range.mp he
  walk_at "d"
  refine lc_mapA (L:=pz R.length p k) PyData.int (fun c=>.int (mat R c.toNat e)) (fun c hc es Q' hl q'=>?_) (by rw [pz_len]; omega) ?_
  ·obtain ⟨c,hcl,rfl⟩:=mem_pz hc
   have hcn:=pl_lt (by omega) hcl
   obtain ⟨r,r1,r2,r3⟩:=sh.cell (show c < n by omega) (show e < n by omega)
   walk_at "d"
   refine ⟨iD r,atI_nat (j:=c) (by rw [List.getElem?_map,r1]; rfl),?_⟩
   walk_at "d"
   refine ⟨.int (mat R c e),by rw [Int.zero_add]; exact atI_nat (j:=e) (by rw [List.getElem?_map,r2]; rfl),?_⟩
   walk_at "d"
   exact q'
  rw [show PyData.list ((pz R.length p k).map fun c : Int=>PyData.int (mat R c.toNat e)) = iD ((pl R.length p k).map fun c=>mat R c e) from by unfold iD pz; rw [map_map,map_map]; rfl]
  walk_at "d"
  first | exact q' | exact ⟨hl,rfl,q'⟩
 rw [show PyData.list ((List.range (R.length - k)).map fun e=>PyData.int (((pl R.length p k).map fun c=>mat R c e).sum)) = iD ((List.range (R.length - k)).map fun e=>((pl R.length p k).map fun c=>mat R c e).sum) from by unfold iD; rw [map_map]; rfl]
 refine ⟨_,rfl,?_⟩
 walk_at "d"
 refine ⟨p,ixN_nat (by rw [length_map,length_map,length_take]; omega),?_⟩
 rw [show PyData.list ((List.map iD (List.map (fun r=>List.take (R.length - k) r) (List.take (R.length - k) R))).set p (iD (List.map (fun e=>(List.map (fun c=>mat R c e) (pl R.length p k)).sum) (List.range (R.length - k))))) = gD (jn R p k) from by unfold gD jn; rw [List.map_set]]
 walk_at "d"
 exact q
def mvD (z : Int) (ps : List (List Ar)) : D:=.tuple [.str "out",.int z,.list (ps.map pD)]
def PA (ps : List (List Ar)) : Prop:=(∀ q ∈ ps,∀ a ∈ q,Bd a) /\ ps.flatten.length < 64 /\ ps.length <= 100
theorem PA.len {ps : List (List Ar)} (h : PA ps) : ∀ q ∈ ps,q.length <= 1000:=fun q hq=>by
 have : q.Sublist ps.flatten:=List.sublist_flatten_of_mem hq
 have:=this.length_le
 have:=h.2.1
 omega
theorem unp_old {R : List (List Int)} {z : Int} {xs : List D} : unpK [some (false,gD R),some (false,.tuple [.str (Str.ofString "out"),.int z,.list xs]),none,none,none] [2,3,4] [.str (Str.ofString "out"),.int z,.list xs] .old = [some (false,gD R),some (false,.tuple [.str (Str.ofString "out"),.int z,.list xs]),some (false,.str (Str.ofString "out")),some (false,.int z),some (false,.list xs)]:=rfl
theorem unp_mix {R : List (List Int)} {z : Int} {xs : List D} : unpK [some (false,gD R),some (false,.tuple [.str (Str.ofString "out"),.int z,.list xs]),none,none,none] [2,3,4] [.str (Str.ofString "out"),.int z,.list xs] .mix = [some (false,gD R),some (false,.tuple [.str (Str.ofString "out"),.int z,.list xs]),some (false,.str (Str.ofString "out")),some (false,.int z),some (false,.list xs)]:=rfl
def tps (ps : List (List Ar)) : List (List Ar):=ps.map fun q=>q.map tA
theorem PA.turn {ps : List (List Ar)} (h : PA ps) : PA (tps ps):=by
 refine ⟨fun q hq a ha=>?_,?_,by unfold tps; rw [length_map]; exact h.2.2⟩
 ·obtain ⟨y,hy,rfl⟩:=mem_map.mp hq
  obtain ⟨b,hb,rfl⟩:=mem_map.mp ha
  have:=h.1 y hy b hb
  exact ⟨this.2.1,this.1,this.2.2⟩
 ·have : (tps ps).flatten = ps.flatten.map tA:=by unfold tps; rw [List.map_flatten]
  rw [this,length_map]; exact h.2.1
def wdD : Bool -> Str
 | false=>"join out"
 | true=>"join in"
def mvJ (b : Bool) (z m : Int) : D:=.tuple [.str (wdD b),.int z,.int m]
def tR : Bool -> List (List Int) -> List (List Int)
 | false,R=>R
 | true,R=>trn R
def JK (b : Bool) (R : List (List Int)) (z m : Int) : Prop:=JOk (tR b R) z m
def rJ (b : Bool) (R : List (List Int)) (z m : Int) : List (List Int):=tR b (jn (tR b R) z.toNat m.toNat)
theorem tR_sh {n : Nat} {b : Bool} {R : List (List Int)} (sh : Sh n n R) : Sh n n (tR b R):=by
 cases b
 ·exact sh
 ·exact trn_sh sh
theorem rJ_sh {n : Nat} {b : Bool} {R : List (List Int)} {z m : Int} (sh : Sh n n R) : Sh (n - m.toNat) (n - m.toNat) (rJ b R z m):=tR_sh (jn_sh (tR_sh sh))
abbrev s_vetted : Stmt:=top 13
theorem sc_vetted : FnScope ["table","move","word","p","further"] ["table","move"] (defScope s_vetted):=by walk_at "sc"
def sp_vt (cM : Addr) : SpD:=fun ds Q X=>∃ (n : Nat) (R : List (List Int)) (m : D),ds = [gD R,m] /\
 ((∃ z ps,m = mvD z ps /\ Tb n R /\ PA ps /\ (M50.Good R z ps -> Q (mvD z ps) false) /\ (¬ M50.Good R z ps -> X cM)) \/
  (∃ z k,m = jO z k /\ Sh n n R /\ n <= 200 /\ (JOk R z k -> Q (jO z k) true) /\ (¬ JOk R z k -> X cM)))
theorem ok_vetted {f cM : Addr} {fd : FuncData} (F : Fun K "vetted" "vetted" s_vetted f fd) (T : Blt mg) (C_NoMove : ExC K mg "NoMove" cM) (D_require_place : DfE P w K mg base "require_place" ["table","place"] 1 (SpL K (sp_rp cM))) (D_require_pieces : DfE P w K mg base "require_pieces" ["table","p","pieces"] 1 (SpL K (sp_rs cM))) (D_require_joined : DfE P w K mg base "require_joined" ["table","p","many"] 2 (SpL K (sp_rj cM))) : FnOk P w K mg base (CXE P w base) 3 f fd ["table","move"] (SpL K (sp_vt cM)):=by
 refine okE F sc_vetted (fun ds Q X h=>?_) (fun cdv A outer s H E hr=>?_)
 ·obtain ⟨n,R,m,rfl,_⟩:=h; rfl
 refine ⟨_,(dpss_cons (dps_if (dnT (dpt_cmp (dop_notin (by rfl)) (dpe_ix (dix (by rfl)) (dpv 1) dpe_int (fun _ _=>rfl)) (dpe_tup (dpa_cons dpe_str (dpa_cons dpe_str (dpa_cons dpe_str dpa_nil)))) rfl)) (dpss_one (dps_raise raiseOk_cx (by rfl) (by exact C_NoMove) (by rfl) (dpa_cons dpe_str dpa_nil))) dpss_nil)
   (dpss_cons (dnS (dps_unp [2,3,4] 3 rfl (by rfl) (by rfl) (qpgs_cons (qpgn 2 sc_vetted.nd) (qpgs_cons (qpgn 3 sc_vetted.nd) (qpgs_cons (qpgn 4 sc_vetted.nd) qpgs_nil))) (by rfl) (by rfl) (dpv 1)))
   (dpss_cons (dps_expr (dpe_dfE (by exact D_require_place) passE (by exact hr.mono (by omega)) (dpa_cons (dpv 0) (dpa_cons (dpv 3) dpa_nil))))
   (dpss_cons (dps_if (dnT (dpt_cmp (dop_eq (by rfl) (by exact hr.units)) (dpv 2) dpe_str (nomark _))) dpss_dead dpss_nil)
   (dpss_cons (dps_if (dnT (dpt_cmp (dop_eq (by rfl) (by exact hr.units)) (dpv 2) dpe_str (nomark _))) (dpss_one (dps_expr (dpe_dfE (by exact D_require_pieces) passE (by exact hr.mono (by omega)) (dpa_cons (dpv 0) (dpa_cons (dpv 3) (dpa_cons (dpv 4) dpa_nil)))))) dpss_nil)
   (dpss_cons (dps_if (dnT (dpt_cmp (dop_eq (by rfl) (by exact hr.units)) (dpv 2) dpe_str (nomark _))) (dpss_one (dps_expr (dpe_dfE (by exact D_require_joined) passE (by exact hr.mono (by omega)) (dpa_cons (dpv 0) (dpa_cons (dpv 3) (dpa_cons (dpv 4) dpa_nil)))))) dpss_nil)
   (dpss_one (dnS (dps_ret (dpv 1)))))))))),fun ds Qd Xd h=>?_⟩
 obtain ⟨n,R,m,rfl,h⟩:=h
 rcases h with ⟨z,ps,rfl,hT,hps,q,x⟩ | ⟨z,k,rfl,sh,h200,q,x⟩
 ·have hn:=hT.2.2.1.1
  show (_ : TSD) _ [some (false,gD R),some (false,.tuple [.str "out",.int z,.list (ps.map pD)]),none,none,none] _
  walk_at "d"
  refine ⟨_,atI_nat (j:=0) rfl,?_⟩
  walk_at "d"
  rw [show (!inD (PyData.str (Str.ofString "out")) [PyData.str (Str.ofString "swap"),PyData.str (Str.ofString "out"),PyData.str (Str.ofString "join out")]) = false from by decide +kernel]
  rw [if_neg (by exact Bool.false_ne_true)]
  walk_at "d"
  rw [unp_old]
  walk_at "d"
  refine ⟨R,z,rfl,fun hz=>?_,fun hz=>?_⟩
  rotate_left
  ·walk_at "d"
   exact x fun c=>hz c.1
  walk_at "d"
  refine ⟨⟨by decide +kernel,by decide +kernel,Nat.zero_le _⟩,?_⟩
  rw [show (PyData.str (Str.ofString "out")).eqv (PyData.str (Str.ofString "swap")) = false from by decide +kernel]
  walk_at "d"
  rw [if_neg (by exact Bool.false_ne_true)]
  walk_at "d"
  refine ⟨⟨by decide +kernel,by decide +kernel,Nat.zero_le _⟩,?_⟩
  rw [show (PyData.str (Str.ofString "out")).eqv (PyData.str (Str.ofString "out")) = true from by decide +kernel]
  walk_at "d"
  rw [if_pos (by rfl)]
  walk_at "d"
  obtain ⟨p,rfl⟩ : ∃ p : Nat,z = (p : Int):=⟨z.toNat,by omega⟩
  refine ⟨n,p,R,ps,rfl,hT,by omega,hps.2.2,hps.2.1,fun hg=>?_,fun hg=>?_⟩
  rotate_left
  ·walk_at "d"
   exact x hg
  walk_at "d"
  refine ⟨⟨by decide +kernel,by decide +kernel,Nat.zero_le _⟩,?_⟩
  rw [show (PyData.str (Str.ofString "out")).eqv (PyData.str (Str.ofString "join out")) = false from by decide +kernel]
  walk_at "d"
  rw [if_neg (by exact Bool.false_ne_true)]
  walk_at "d"
  exact q hg
 ·have hn:=sh.1
  show (_ : TSD) _ [some (false,gD R),some (false,.tuple [.str "join out",.int z,.int k]),none,none,none] _
  walk_at "d"
  refine ⟨_,atI_nat (j:=0) rfl,?_⟩
  walk_at "d"
  rw [show (!inD (PyData.str (Str.ofString "join out")) [PyData.str (Str.ofString "swap"),PyData.str (Str.ofString "out"),PyData.str (Str.ofString "join out")]) = false from by decide +kernel]
  rw [if_neg (by exact Bool.false_ne_true)]
  walk_at "d"
  refine ⟨R,z,rfl,fun hz=>?_,fun hz=>?_⟩
  rotate_left
  ·walk_at "d"
   exact x fun ⟨p,k',e1,e2,e3,e4,_⟩=>hz ⟨by omega,by omega⟩
  walk_at "d"
  refine ⟨⟨by decide +kernel,by decide +kernel,Nat.zero_le _⟩,?_⟩
  rw [show (PyData.str (Str.ofString "join out")).eqv (PyData.str (Str.ofString "swap")) = false from by decide +kernel]
  walk_at "d"
  rw [if_neg (by exact Bool.false_ne_true)]
  walk_at "d"
  refine ⟨⟨by decide +kernel,by decide +kernel,Nat.zero_le _⟩,?_⟩
  rw [show (PyData.str (Str.ofString "join out")).eqv (PyData.str (Str.ofString "out")) = false from by decide +kernel]
  walk_at "d"
  rw [if_neg (by exact Bool.false_ne_true)]
  walk_at "d"
  refine ⟨⟨by decide +kernel,by decide +kernel,Nat.zero_le _⟩,?_⟩
  rw [show (PyData.str (Str.ofString "join out")).eqv (PyData.str (Str.ofString "join out")) = true from by decide +kernel]
  walk_at "d"
  rw [if_pos (by rfl)]
  walk_at "d"
  obtain ⟨p,rfl⟩ : ∃ p : Nat,z = (p : Int):=⟨z.toNat,by omega⟩
  refine ⟨n,p,k,R,rfl,sh,h200,by omega,fun hg=>?_,fun hg=>?_⟩
  rotate_left
  ·walk_at "d"
   exact x hg
  walk_at "d"
  exact q hg
theorem madeP_sh {n p : Nat} {R : List (List Int)} {ps : List (List Ar)} (hT : Tb n R) (hp : p < n) (h1 : 1 <= ps.length) : Sh (n + (ps.length - 1)) (n + (ps.length - 1)) (madeP R p ps):=by
 have hn:=hT.2.2.1.1
 have hc : ∀ z,(cs R.length z).length = n:=fun z=>by simp [cs,hn]
 refine ⟨?_,fun r hr=>?_⟩
 ·unfold madeP rowsP
  rw [length_map,length_append,length_append,length_append,length_take,length_drop,length_map,length_drop,List.length_singleton]; omega
 ·obtain ⟨row,hrow,rfl⟩:=mem_map.mp hr
  rw [length_append,List.length_replicate]
  have : row.length = n:=by
   unfold rowsP at hrow
   rcases mem_append.mp hrow with hrow | hrow
   ·rcases mem_append.mp hrow with hrow | hrow
    ·rcases mem_append.mp hrow with hrow | hrow
     ·exact hT.2.2.1.2 row (mem_of_mem_take hrow)
     ·rw [mem_singleton.mp hrow]; exact hc _
    ·exact hT.2.2.1.2 row (List.mem_of_mem_drop hrow)
   ·obtain ⟨z,_,rfl⟩:=mem_map.mp hrow
    exact hc z
  omega
abbrev s_split_done : Stmt:=top 10
theorem sc_split_done : FnScope ["table","move","word","p","further"] ["table","move"] (defScope s_split_done):=by walk_at "sc"
def sp_sdn (cM : Addr) (d : Nat) : SpD:=fun ds Q X=>∃ (n : Nat) (R : List (List Int)) (m : D),ds = [gD R,m] /\ 1 <= d /\
 ((∃ z ps,m = mvD z ps /\ Tb n R /\ PA ps /\ (M50.Good R z ps -> Q (gD (madeP R z.toNat ps)) true) /\ (¬ M50.Good R z ps -> X cM)) \/
  (∃ z ps,m = inD' z ps /\ Tt n R /\ PA ps /\ 2 <= d /\ (M50.Good (trn R) z (tps ps) -> Q (gD (trn (madeP (trn R) z.toNat (tps ps)))) true) /\ (¬ M50.Good (trn R) z (tps ps) -> X cM)) \/
  (∃ z k,m = jO z k /\ Sh n n R /\ n <= 200 /\ (JOk R z k -> Q (gD (jn R z.toNat k.toNat)) true) /\ (¬ JOk R z k -> X cM)) \/
  (∃ z k,m = jI z k /\ Sh n n R /\ 1 <= n /\ n <= 200 /\ 2 <= d /\ (JOk (trn R) z k -> Q (gD (trn (jn (trn R) z.toNat k.toNat))) true) /\ (¬ JOk (trn R) z k -> X cM)))
theorem ok_sd_step {f cM : Addr} {fd : FuncData} {d : Nat} (F : Fun K "split_done" "split_done" s_split_done f fd) (T : Blt mg) (D_vetted : DfE P w K mg base "vetted" ["table","move"] 3 (SpL K (sp_vt cM))) (D_split_out : Df P w K mg base "split_out" ["table","p","pieces"] 1 (SpL K sp_so)) (D_joined_out : Df P w K mg base "joined_out" ["table","p","many"] 2 (SpL K sp_jo)) (D_flipped : Df P w K mg base "flipped" ["grid"] 1 (SpL K sp_trn)) (D_move_turned : Df P w K mg base "move_turned" ["move"] 1 (SpL K sp_mt)) (D_split_done : DfE P w K mg base "split_done" ["table","move"] (d + 3) (SpL K (sp_sdn cM d))) : FnOk P w K mg base (CXE P w base) (d + 4) f fd ["table","move"] (SpL K (sp_sdn cM (d + 1))):=by
 refine okE F sc_split_done (fun ds Q X h=>?_) (fun cdv A outer s H E hr=>?_)
 ·obtain ⟨n,R,m,rfl,_⟩:=h; rfl
 refine ⟨_,(dpss_cons (dps_if (dnT (dpt_cmp (dop_in (by rfl)) (dpe_ix (dix (by rfl)) (dpv 1) dpe_int (fun _ _=>rfl)) (dpe_tup (dpa_cons dpe_str (dpa_cons dpe_str dpa_nil))) rfl)) (dpss_one (dps_ret (dpe_df (by exact D_flipped) (by exact hr.mono (by omega)) (dpa_cons (dpe_dfE (by exact D_split_done) passE (by exact hr.mono (by omega)) (dpa_cons (dpe_df (by exact D_flipped) (by exact hr.mono (by omega)) (dpa_cons (dpv 0) dpa_nil)) (dpa_cons (dpe_df (by exact D_move_turned) (by exact hr.mono (by omega)) (dpa_cons (dpv 1) dpa_nil)) dpa_nil))) dpa_nil)))) dpss_nil)
   (dpss_cons (dps_unp [2,3,4] 3 rfl (by rfl) (by rfl) (qpgs_cons (qpgn 2 sc_split_done.nd) (qpgs_cons (qpgn 3 sc_split_done.nd) (qpgs_cons (qpgn 4 sc_split_done.nd) qpgs_nil))) (by rfl) (by rfl) (dpe_dfE (by exact D_vetted) passE (by exact hr.mono (by omega)) (dpa_cons (dpv 0) (dpa_cons (dpv 1) dpa_nil))))
   (dpss_cons (dps_if (dnT (dpt_cmp (dop_eq (by rfl) (by exact hr.units)) (dpv 2) dpe_str (nomark _))) dpss_dead dpss_nil)
   (dpss_cons (dnS (dps_if (dpt_cmp (dop_eq (by rfl) (by exact hr.units)) (dpv 2) dpe_str (nomark _)) (dpss_one (dps_ret (dpe_df (by exact D_split_out) (by exact hr.mono (by omega)) (dpa_cons (dpv 0) (dpa_cons (dpv 3) (dpa_cons (dpv 4) dpa_nil)))))) dpss_nil))
   (dpss_one (dnS (dps_ret (dpe_df (by exact D_joined_out) (by exact hr.mono (by omega)) (dpa_cons (dpv 0) (dpa_cons (dpv 3) (dpa_cons (dpv 4) dpa_nil))))))))))),fun ds Qd Xd h=>?_⟩
 obtain ⟨n,R,m,rfl,_,h⟩:=h
 rcases h with ⟨z,ps,rfl,hT,hps,q,x⟩ | ⟨z,ps,rfl,hT,hps,hd,q,x⟩ | ⟨z,k,rfl,sh,h200,q,x⟩ | ⟨z,k,rfl,sh,hn1,h200,hd,q,x⟩
 ·have hn:=hT.2.2.1.1
  show (_ : TSD) _ [some (false,gD R),some (false,.tuple [.str "out",.int z,.list (ps.map pD)]),none,none,none] _
  walk_at "d"
  refine ⟨_,atI_nat (j:=0) rfl,?_⟩
  walk_at "d"
  rw [show (inD (PyData.str (Str.ofString "out")) [PyData.str (Str.ofString "in"),PyData.str (Str.ofString "join in")]) = false from by decide +kernel]
  rw [if_neg (by exact Bool.false_ne_true)]
  walk_at "d"
  refine ⟨n,R,_,rfl,.inl ⟨z,ps,rfl,hT,hps,fun hg=>?_,fun hg=>?_⟩⟩
  rotate_left
  ·walk_at "d"
   exact x hg
  rw [show mvD z ps = .tuple [.str "out",.int z,.list (ps.map pD)] from rfl]
  walk_at "d"
  rw [unp_mix]
  walk_at "d"
  refine ⟨⟨by decide +kernel,by decide +kernel,Nat.zero_le _⟩,?_⟩
  rw [show (PyData.str (Str.ofString "out")).eqv (PyData.str (Str.ofString "swap")) = false from by decide +kernel]
  walk_at "d"
  rw [if_neg (by exact Bool.false_ne_true)]
  walk_at "d"
  refine ⟨⟨by decide +kernel,by decide +kernel,Nat.zero_le _⟩,?_⟩
  rw [show (PyData.str (Str.ofString "out")).eqv (PyData.str (Str.ofString "out")) = true from by decide +kernel]
  walk_at "d"
  rw [if_pos (by rfl)]
  walk_at "d"
  have hz:=hg.1
  obtain ⟨p,rfl⟩ : ∃ p : Nat,z = (p : Int):=⟨z.toNat,by omega⟩
  refine ⟨n,p,R,ps,rfl,hT,by omega,by have:=hg.2.1; omega,hps.2.2,hps.len,?_⟩
  walk_at "d"
  exact q hg
 ·have hn:=hT.2.2.1.1
  have h6:=hT.2.1
  show (_ : TSD) _ [some (false,gD R),some (false,.tuple [.str "in",.int z,.list (ps.map pD)]),none,none,none] _
  walk_at "d"
  refine ⟨_,atI_nat (j:=0) rfl,?_⟩
  walk_at "d"
  rw [show (inD (PyData.str (Str.ofString "in")) [PyData.str (Str.ofString "in"),PyData.str (Str.ofString "join in")]) = true from by decide +kernel]
  rw [if_pos (by rfl)]
  walk_at "d"
  refine ⟨n,R,rfl,hT.2.2.1,hT.1,by omega,?_⟩
  walk_at "d"
  refine .inl ⟨z,ps,rfl,hps.2.2,hps.len,?_⟩
  walk_at "d"
  refine ⟨n,trn R,_,rfl,by omega,.inl ⟨z,tps ps,rfl,hT.turn,hps.turn,fun hg=>?_,fun hg=>?_⟩⟩
  rotate_left
  ·walk_at "d"
   exact x hg
  walk_at "d"
  have hz:=hg.1
  have hn':=hT.turn.2.2.1.1
  have h1:=hg.2.1
  have h2:=hps.turn.2.2
  refine ⟨_,_,rfl,madeP_sh hT.turn (by omega) (by omega),by have:=hT.1; omega,by omega,?_⟩
  walk_at "d"
  exact q hg
 ·have hn:=sh.1
  show (_ : TSD) _ [some (false,gD R),some (false,.tuple [.str "join out",.int z,.int k]),none,none,none] _
  walk_at "d"
  refine ⟨_,atI_nat (j:=0) rfl,?_⟩
  walk_at "d"
  rw [show (inD (PyData.str (Str.ofString "join out")) [PyData.str (Str.ofString "in"),PyData.str (Str.ofString "join in")]) = false from by decide +kernel]
  rw [if_neg (by exact Bool.false_ne_true)]
  walk_at "d"
  refine ⟨n,R,_,rfl,.inr ⟨z,k,rfl,sh,h200,fun hg=>?_,fun hg=>?_⟩⟩
  rotate_left
  ·walk_at "d"
   exact x hg
  rw [show jO z k = .tuple [.str "join out",.int z,.int k] from rfl]
  walk_at "d"
  refine ⟨⟨by decide +kernel,by decide +kernel,Nat.zero_le _⟩,?_⟩
  rw [show (PyData.str (Str.ofString "join out")).eqv (PyData.str (Str.ofString "swap")) = false from by decide +kernel]
  walk_at "d"
  rw [if_neg (by exact Bool.false_ne_true)]
  walk_at "d"
  refine ⟨⟨by decide +kernel,by decide +kernel,Nat.zero_le _⟩,?_⟩
  rw [show (PyData.str (Str.ofString "join out")).eqv (PyData.str (Str.ofString "out")) = false from by decide +kernel]
  walk_at "d"
  rw [if_neg (by exact Bool.false_ne_true)]
  walk_at "d"
  have hg':=hg
  obtain ⟨p,k',rfl,rfl,h1,h2,_⟩:=hg'
  refine ⟨n,p,k',R,rfl,sh,h200,by omega,?_⟩
  walk_at "d"
  exact q hg
 ·have hn:=sh.1
  show (_ : TSD) _ [some (false,gD R),some (false,.tuple [.str "join in",.int z,.int k]),none,none,none] _
  walk_at "d"
  refine ⟨_,atI_nat (j:=0) rfl,?_⟩
  walk_at "d"
  rw [show (inD (PyData.str (Str.ofString "join in")) [PyData.str (Str.ofString "in"),PyData.str (Str.ofString "join in")]) = true from by decide +kernel]
  rw [if_pos (by rfl)]
  walk_at "d"
  refine ⟨n,R,rfl,sh,hn1,by omega,?_⟩
  walk_at "d"
  refine .inr ⟨z,k,rfl,?_⟩
  walk_at "d"
  refine ⟨n,trn R,_,rfl,by omega,.inr (.inr (.inl ⟨z,k,rfl,trn_sh sh,h200,fun hg=>?_,fun hg=>?_⟩))⟩
  rotate_left
  ·walk_at "d"
   exact x hg
  walk_at "d"
  have hg':=hg
  obtain ⟨p,k',rfl,rfl,h1,h2,_⟩:=hg'
  have hn':=(trn_sh sh).1
  refine ⟨_,_,rfl,jn_sh (trn_sh sh),by rw [Int.toNat_natCast]; omega,by omega,?_⟩
  walk_at "d"
  exact q hg
theorem ok_sd_rec {f cM : Addr} {fd : FuncData} (F : Fun K "split_done" "split_done" s_split_done f fd) (T : Blt mg) (D_vetted : DfE P w K mg base "vetted" ["table","move"] 3 (SpL K (sp_vt cM))) (D_split_out : Df P w K mg base "split_out" ["table","p","pieces"] 1 (SpL K sp_so)) (D_joined_out : Df P w K mg base "joined_out" ["table","p","many"] 2 (SpL K sp_jo)) (D_flipped : Df P w K mg base "flipped" ["grid"] 1 (SpL K sp_trn)) (D_move_turned : Df P w K mg base "move_turned" ["move"] 1 (SpL K sp_mt)) (hm : mg "split_done" = some (.ref f)) (hk : PySem.W.keepIn K (.ref f) = true) (hb : Binds K fd ["table","move"] []) : ∀ d,FnOk P w K mg base (CXE P w base) (d + 3) f fd ["table","move"] (SpL K (sp_sdn cM d))
 | 0=>⟨fun vs H Q E h=>by obtain ⟨_,_,_,_,⟨_,_,_,_,h,_⟩,_⟩:=h; exact absurd h (by omega),fun A outer s H args us vs Q E _ _ _ _ h=>by obtain ⟨_,_,_,_,⟨_,_,_,_,h,_⟩,_⟩:=h; exact absurd h (by omega)⟩
 | d + 1=>ok_sd_step F T D_vetted D_split_out D_joined_out D_flipped D_move_turned ⟨f,fd,ok_sd_rec F T D_vetted D_split_out D_joined_out D_flipped D_move_turned hm hk hb d,hm,hk,hb⟩
theorem ok_split_done {f cM : Addr} {fd : FuncData} (F : Fun K "split_done" "split_done" s_split_done f fd) (T : Blt mg) (D_vetted : DfE P w K mg base "vetted" ["table","move"] 3 (SpL K (sp_vt cM))) (D_split_out : Df P w K mg base "split_out" ["table","p","pieces"] 1 (SpL K sp_so)) (D_joined_out : Df P w K mg base "joined_out" ["table","p","many"] 2 (SpL K sp_jo)) (D_flipped : Df P w K mg base "flipped" ["grid"] 1 (SpL K sp_trn)) (D_move_turned : Df P w K mg base "move_turned" ["move"] 1 (SpL K sp_mt)) (hm : mg "split_done" = some (.ref f)) (hk : PySem.W.keepIn K (.ref f) = true) (hb : Binds K fd ["table","move"] []) : FnOk P w K mg base (CXE P w base) 5 f fd ["table","move"] (SpL K (sp_sdn cM 2)):=ok_sd_rec F T D_vetted D_split_out D_joined_out D_flipped D_move_turned hm hk hb 2
abbrev s_split_back : Stmt:=top 11
theorem sc_split_back : FnScope ["table","move","word","p","further"] ["table","move"] (defScope s_split_back):=by walk_at "sc"
def sp_sbn (cM : Addr) (d : Nat) : SpD:=fun ds Q X=>∃ (n : Nat) (R : List (List Int)) (m : D),ds = [gD R,m] /\ 1 <= d /\
 ((∃ z k,m = jO z k /\ Sh n n R /\ n <= 200 /\ ¬ JOk R z k /\ X cM) \/
  (∃ z k,m = jI z k /\ Sh n n R /\ 1 <= n /\ n <= 200 /\ 2 <= d /\ ¬ JOk (trn R) z k /\ X cM))
theorem ok_sb_step {f cM : Addr} {fd : FuncData} {d : Nat} (F : Fun K "split_back" "split_back" s_split_back f fd) (T : Blt mg) (D_vetted : DfE P w K mg base "vetted" ["table","move"] 3 (SpL K (sp_vt cM))) (D_flipped : Df P w K mg base "flipped" ["grid"] 1 (SpL K sp_trn)) (D_move_turned : Df P w K mg base "move_turned" ["move"] 1 (SpL K sp_mt)) (D_split_back : DfE P w K mg base "split_back" ["table","move"] (d + 3) (SpL K (sp_sbn cM d))) : FnOk P w K mg base (CXE P w base) (d + 4) f fd ["table","move"] (SpL K (sp_sbn cM (d + 1))):=by
 refine okE F sc_split_back (fun ds Q X h=>?_) (fun cdv A outer s H E hr=>?_)
 ·obtain ⟨n,R,m,rfl,_⟩:=h; rfl
 refine ⟨_,(dpss_cons (dps_if (dnT (dpt_cmp (dop_in (by rfl)) (dpe_ix (dix (by rfl)) (dpv 1) dpe_int (fun _ _=>rfl)) (dpe_tup (dpa_cons dpe_str (dpa_cons dpe_str dpa_nil))) rfl)) (dpss_one (dps_ret (dpe_df (by exact D_move_turned) (by exact hr.mono (by omega)) (dpa_cons (dpe_dfE (by exact D_split_back) passE (by exact hr.mono (by omega)) (dpa_cons (dpe_df (by exact D_flipped) (by exact hr.mono (by omega)) (dpa_cons (dpv 0) dpa_nil)) (dpa_cons (dpe_df (by exact D_move_turned) (by exact hr.mono (by omega)) (dpa_cons (dpv 1) dpa_nil)) dpa_nil))) dpa_nil)))) dpss_nil)
   (dpss_cons (dps_unp [2,3,4] 3 rfl (by rfl) (by rfl) (qpgs_cons (qpgn 2 sc_split_back.nd) (qpgs_cons (qpgn 3 sc_split_back.nd) (qpgs_cons (qpgn 4 sc_split_back.nd) qpgs_nil))) (by rfl) (by rfl) (dpe_dfE (by exact D_vetted) passE (by exact hr.mono (by omega)) (dpa_cons (dpv 0) (dpa_cons (dpv 1) dpa_nil))))
   (dpss_cons dps_dead
   (dpss_cons dps_dead
   (dpss_one dps_dead))))),fun ds Qd Xd h=>?_⟩
 obtain ⟨n,R,m,rfl,_,h⟩:=h
 rcases h with ⟨z,k,rfl,sh,h200,hg,x⟩ | ⟨z,k,rfl,sh,hn1,h200,hd,hg,x⟩
 ·show (_ : TSD) _ [some (false,gD R),some (false,.tuple [.str "join out",.int z,.int k]),none,none,none] _
  walk_at "d"
  refine ⟨_,atI_nat (j:=0) rfl,?_⟩
  walk_at "d"
  rw [show (inD (PyData.str (Str.ofString "join out")) [PyData.str (Str.ofString "in"),PyData.str (Str.ofString "join in")]) = false from by decide +kernel]
  rw [if_neg (by exact Bool.false_ne_true)]
  walk_at "d"
  refine ⟨n,R,_,rfl,.inr ⟨z,k,rfl,sh,h200,fun h=>absurd h hg,fun _=>?_⟩⟩
  walk_at "d"
  exact x
 ·show (_ : TSD) _ [some (false,gD R),some (false,.tuple [.str "join in",.int z,.int k]),none,none,none] _
  walk_at "d"
  refine ⟨_,atI_nat (j:=0) rfl,?_⟩
  walk_at "d"
  rw [show (inD (PyData.str (Str.ofString "join in")) [PyData.str (Str.ofString "in"),PyData.str (Str.ofString "join in")]) = true from by decide +kernel]
  rw [if_pos (by rfl)]
  walk_at "d"
  refine ⟨n,R,rfl,sh,hn1,by omega,?_⟩
  walk_at "d"
  refine .inr ⟨z,k,rfl,?_⟩
  walk_at "d"
  refine ⟨n,trn R,_,rfl,by omega,.inl ⟨z,k,rfl,trn_sh sh,h200,hg,?_⟩⟩
  walk_at "d"
  exact x
theorem ok_sb_rec {f cM : Addr} {fd : FuncData} (F : Fun K "split_back" "split_back" s_split_back f fd) (T : Blt mg) (D_vetted : DfE P w K mg base "vetted" ["table","move"] 3 (SpL K (sp_vt cM))) (D_flipped : Df P w K mg base "flipped" ["grid"] 1 (SpL K sp_trn)) (D_move_turned : Df P w K mg base "move_turned" ["move"] 1 (SpL K sp_mt)) (hm : mg "split_back" = some (.ref f)) (hk : PySem.W.keepIn K (.ref f) = true) (hb : Binds K fd ["table","move"] []) : ∀ d,FnOk P w K mg base (CXE P w base) (d + 3) f fd ["table","move"] (SpL K (sp_sbn cM d))
 | 0=>⟨fun vs H Q E h=>by obtain ⟨_,_,_,_,⟨_,_,_,_,h,_⟩,_⟩:=h; exact absurd h (by omega),fun A outer s H args us vs Q E _ _ _ _ h=>by obtain ⟨_,_,_,_,⟨_,_,_,_,h,_⟩,_⟩:=h; exact absurd h (by omega)⟩
 | d + 1=>ok_sb_step F T D_vetted D_flipped D_move_turned ⟨f,fd,ok_sb_rec F T D_vetted D_flipped D_move_turned hm hk hb d,hm,hk,hb⟩
theorem ok_split_back {f cM : Addr} {fd : FuncData} (F : Fun K "split_back" "split_back" s_split_back f fd) (T : Blt mg) (D_vetted : DfE P w K mg base "vetted" ["table","move"] 3 (SpL K (sp_vt cM))) (D_flipped : Df P w K mg base "flipped" ["grid"] 1 (SpL K sp_trn)) (D_move_turned : Df P w K mg base "move_turned" ["move"] 1 (SpL K sp_mt)) (hm : mg "split_back" = some (.ref f)) (hk : PySem.W.keepIn K (.ref f) = true) (hb : Binds K fd ["table","move"] []) : FnOk P w K mg base (CXE P w base) 5 f fd ["table","move"] (SpL K (sp_sbn cM 2)):=ok_sb_rec F T D_vetted D_flipped D_move_turned hm hk hb 2
abbrev s_l_told : Stmt:=top 38
theorem sc_l_told : FnScope ["_law_table_here","_law_move","e"] ["_law_table_here","_law_move"] (defScope s_l_told):=by walk_at "sc"
def sp_told : SpD:=fun ds Q _=>∃ (n : Nat) (b : Bool) (z k : Int) (R : List (List Int)),ds = [gD R,mvJ b z k] /\ Sh n n R /\ 1 <= n /\ n <= 200 /\ (JK b R z k -> Q (.tuple [.str "told",gD (rJ b R z k)]) true) /\ (¬ JK b R z k -> Q (.tuple [.str "refused",.bool true]) true)
theorem ok_l_told {f cM cT cW cS cE0 : Addr} {fd : FuncData} (F : Fun K "_law_told" "_law_told" s_l_told f fd) (T : Blt mg) (C_RowError : ExC K mg "RowError" cE0) (C_NoMove : ExC K mg "NoMove" cM) (C_NoTable : ExC K mg "NoTable" cT) (C_NoStep : ExC K mg "NoStep" cS) (C_NoWhole : ExC K mg "NoWhole" cW) (fitM : Fits K cM cE0) (exkM : ExK K cM)
  (i_a : PySem.W.kitOne K (.ref cM) (.ref cM) = some true) (i_b : PySem.W.kitAny K (.ref cM) [.ref cT,.ref cS,.ref cW] = some false)
  (D_split_done : DfE P w K mg base "split_done" ["table","move"] 5 (SpL K (sp_sdn cM 2))) : FnOk P w K mg base CX0 6 f fd ["_law_table_here","_law_move"] (SpL K sp_told):=by
 refine ok0 F sc_l_told (fun ds Q X h=>?_) (fun cdv A outer s H E hr=>?_) fun ds Qd Xd h=>h
 ·obtain ⟨n,b,z,k,R,rfl,_⟩:=h; rfl
 refine ⟨_,(dpss_one (dps_tryN 2 (by rfl) (by rfl) ⟨rfl,rfl,rfl⟩ sc_l_told.nd (by rfl) (by exact C_RowError.mgx) (dsxs_one (dsx_ret (dex_tup2 dpe_str (dex_call (by exact D_split_done) ⟨rfl,rfl,rfl⟩ (by exact hr.mono (by omega)) (dpa_cons (dpv 0) (dpa_cons (dpv 1) dpa_nil)))))) (fun ea oe cE yE hoe hCE hKE=>(dpss_one (dps_ret (dpe_tup (dpa_cons dpe_str (dpa_cons (dpe_and (dpe_isX (by rfl) (by exact mem_append_right _ mem_cons_self) (by exact hoe) (by exact hCE) (by exact hKE) (by rfl) (by exact T.isinstance) (dpv 2) (by rfl) (by exact C_NoMove.mgx)) (dpe_one (dpe_not (dpe_isXT [cT,cS,cW] (by rfl) (by exact mem_append_right _ mem_cons_self) (by exact hoe) (by exact hCE) (by exact hKE) (by rfl) (by exact T.isinstance) (dpv 2) (by exact (qpa_cons (qpe_cls (by rfl) (by exact C_NoTable.mgx)) (qpa_cons (qpe_cls (by rfl) (by exact C_NoStep.mgx)) (qpa_cons (qpe_cls (by rfl) (by exact C_NoWhole.mgx)) qpa_nil)))) (by exact Nat.le_of_ble_eq_true rfl))))) dpa_nil)))))))),fun ds Qd h=>?_⟩
 obtain ⟨n,b,z,k,R,rfl,sh,hn1,h200,q1,q2⟩:=h
 show (_ : TSD) _ [some (false,gD R),some (false,mvJ b z k),none] _
 walk_at "d"
 refine ⟨n,R,mvJ b z k,rfl,by omega,?_⟩
 cases b with
 | false =>
  refine .inr (.inr (.inl ⟨z,k,rfl,sh,h200,fun t=>?_,fun t=>?_⟩))
  ·walk_at "d"
   exact q1 t
  refine ⟨fitM,⟨_,C_NoMove⟩,exkM,fun ea=>?_⟩
  walk_at "d"
  refine ⟨_,i_a,?_⟩
  walk_at "d"
  refine ⟨_,i_b,?_⟩
  exact ⟨by decide,q2 t⟩
 | true =>
  refine .inr (.inr (.inr ⟨z,k,rfl,sh,hn1,h200,by omega,fun t=>?_,fun t=>?_⟩))
  ·walk_at "d"
   exact q1 t
  refine ⟨fitM,⟨_,C_NoMove⟩,exkM,fun ea=>?_⟩
  walk_at "d"
  refine ⟨_,i_a,?_⟩
  walk_at "d"
  refine ⟨_,i_b,?_⟩
  exact ⟨by decide,q2 t⟩
abbrev s_l_told_back : Stmt:=top 39
theorem sc_l_told_back : FnScope ["_law_table_here","_law_move","e"] ["_law_table_here","_law_move"] (defScope s_l_told_back):=by walk_at "sc"
def sp_tb : SpD:=fun ds Q _=>∃ (n : Nat) (b : Bool) (z k : Int) (R : List (List Int)),ds = [gD R,mvJ b z k] /\ Sh n n R /\ 1 <= n /\ n <= 200 /\ ¬ JK b R z k /\ Q (.tuple [.str "refused",.bool true]) true
theorem ok_l_told_back {f cM cT cW cS cE0 : Addr} {fd : FuncData} (F : Fun K "_law_told_back" "_law_told_back" s_l_told_back f fd) (T : Blt mg) (C_RowError : ExC K mg "RowError" cE0) (C_NoMove : ExC K mg "NoMove" cM) (C_NoTable : ExC K mg "NoTable" cT) (C_NoStep : ExC K mg "NoStep" cS) (C_NoWhole : ExC K mg "NoWhole" cW) (fitM : Fits K cM cE0) (exkM : ExK K cM)
  (i_a : PySem.W.kitOne K (.ref cM) (.ref cM) = some true) (i_b : PySem.W.kitAny K (.ref cM) [.ref cT,.ref cS,.ref cW] = some false)
  (D_split_back : DfE P w K mg base "split_back" ["table","move"] 5 (SpL K (sp_sbn cM 2))) : FnOk P w K mg base CX0 6 f fd ["_law_table_here","_law_move"] (SpL K sp_tb):=by
 refine ok0 F sc_l_told_back (fun ds Q X h=>?_) (fun cdv A outer s H E hr=>?_) fun ds Qd Xd h=>h
 ·obtain ⟨n,b,z,k,R,rfl,_⟩:=h; rfl
 refine ⟨_,(dpss_one (dps_tryN 2 (by rfl) (by rfl) ⟨rfl,rfl,rfl⟩ sc_l_told_back.nd (by rfl) (by exact C_RowError.mgx) (dsxs_one (dsx_ret (dex_tup2 dpe_str (dex_call (by exact D_split_back) ⟨rfl,rfl,rfl⟩ (by exact hr.mono (by omega)) (dpa_cons (dpv 0) (dpa_cons (dpv 1) dpa_nil)))))) (fun ea oe cE yE hoe hCE hKE=>(dpss_one (dps_ret (dpe_tup (dpa_cons dpe_str (dpa_cons (dpe_and (dpe_isX (by rfl) (by exact mem_append_right _ mem_cons_self) (by exact hoe) (by exact hCE) (by exact hKE) (by rfl) (by exact T.isinstance) (dpv 2) (by rfl) (by exact C_NoMove.mgx)) (dpe_one (dpe_not (dpe_isXT [cT,cS,cW] (by rfl) (by exact mem_append_right _ mem_cons_self) (by exact hoe) (by exact hCE) (by exact hKE) (by rfl) (by exact T.isinstance) (dpv 2) (by exact (qpa_cons (qpe_cls (by rfl) (by exact C_NoTable.mgx)) (qpa_cons (qpe_cls (by rfl) (by exact C_NoStep.mgx)) (qpa_cons (qpe_cls (by rfl) (by exact C_NoWhole.mgx)) qpa_nil)))) (by exact Nat.le_of_ble_eq_true rfl))))) dpa_nil)))))))),fun ds Qd h=>?_⟩
 obtain ⟨n,b,z,k,R,rfl,sh,hn1,h200,hg,q2⟩:=h
 show (_ : TSD) _ [some (false,gD R),some (false,mvJ b z k),none] _
 walk_at "d"
 refine ⟨n,R,mvJ b z k,rfl,by omega,?_⟩
 cases b with
 | false =>
  refine .inl ⟨z,k,rfl,sh,h200,hg,?_⟩
  refine ⟨fitM,⟨_,C_NoMove⟩,exkM,fun ea=>?_⟩
  walk_at "d"
  refine ⟨_,i_a,?_⟩
  walk_at "d"
  refine ⟨_,i_b,?_⟩
  exact ⟨by decide,q2⟩
 | true =>
  refine .inr ⟨z,k,rfl,sh,hn1,h200,by omega,hg,?_⟩
  refine ⟨fitM,⟨_,C_NoMove⟩,exkM,fun ea=>?_⟩
  walk_at "d"
  refine ⟨_,i_a,?_⟩
  walk_at "d"
  refine ⟨_,i_b,?_⟩
  exact ⟨by decide,q2⟩
theorem eqv_g (g : List (List Int)) : (gD g).eqv (gD g) = true:=SeqAt.eqv_refl _ (lay_gD g)
theorem setK_tg {ρ : Ren} {i : Nat} {wd : Str} {g : List (List Int)} : setK ρ i (.tuple [.str wd,gD g]) (.own []) = ρ.set i (some (true,.tuple [.str wd,gD g])):=rfl
theorem lay_rf : (PyData.tuple [.str "refused",.bool true]).canLay0 = true:=by decide +kernel
theorem dep_rf : (PyData.tuple [.str "refused",.bool true]).depth <= 32:=by decide +kernel
theorem lay_td : (PyData.str "told").canLay0 = true:=by decide +kernel
theorem dep_td : (PyData.str "told").depth <= 32:=by decide +kernel
theorem scal_ints (f : Int -> Int) : ∀ l : List Int,(l.map fun c=>PyData.int (f c)).all scalD = true
 | []=>rfl
 | a :: l=>by rw [map_cons,List.all_cons,scal_ints f l]; rfl
theorem in_zero (f : Int -> Int) (l : List Int) : inD (.int 0) (l.map fun c=>PyData.int (f c)) = l.any fun c=>f c == 0:=by
 unfold inD
 rw [List.any_map]
 congr 1
abbrev s_l_joined_places : Stmt:=top 36
theorem sc_l_joined_places : FnScope ["_law_table_here","_law_p","_law_m","_law_many","_law_places","_law_row"] ["_law_table_here","_law_p","_law_m"] (defScope s_l_joined_places):=by walk_at "sc"
def sp_ljp : SpD:=fun ds Q _=>∃ (n : Nat) (z m : Int) (R : List (List Int)),ds = [gD R,.int z,.int m] /\ Sh n n R /\ n <= 200 /\ (∀ p k : Nat,z = p -> m = k -> JOk R z m -> Q (iD (pz R.length p k)) true) /\ (¬ JOk R z m -> Q .none true)
theorem ok_l_joined_places {f : Addr} {fd : FuncData} (F : Fun K "_law_joined_places" "_law_joined_places" s_l_joined_places f fd) (T : Blt mg) : FnOk P w K mg base CX0 1 f fd ["_law_table_here","_law_p","_law_m"] (SpL K sp_ljp):=by
 refine ok0 F sc_l_joined_places (fun ds Q X h=>?_) (fun cdv A outer s H E hr=>?_) fun ds Qd Xd h=>h
 ·obtain ⟨n,z,m,R,rfl,_⟩:=h; rfl
 refine ⟨_,(dpss_cons (dpset 3 sc_l_joined_places.nd (dpe_callB (dcl_len (by rfl)) (by rfl) (by exact T.len) (by decide +kernel) (dpa_cons (dpv 0) dpa_nil)))
   (dpss_cons (dps_if (dPWpt (dpw_or (dpt_cmp dop_lt (dpv 2) dpe_int (nomark _)) (dpw_or1 (dpt_not (dpt_chain op_le op_lt dpe_int (dpv 1) (dpe_op dop_sub (dpv 3) (dpv 2))))))) (dpss_one (dps_ret dpe_non)) dpss_nil)
   (dpss_cons (dpset 4 sc_l_joined_places.nd (dpe_op dop_add (dpe_lst (dpa_cons (dpv 1) dpa_nil)) (dpe_listrange2 (by rfl) (by rfl) (by exact T.list) (by rfl) (by exact T.range) (dpa_cons (dpe_op dop_sub (dpv 3) (dpv 2)) (dpa_cons (dpv 3) dpa_nil)))))
   (dpss_cons (dps_frz 0 (dps_for PassesOwn.never rfl (dpi_list (by rfl) (dpv 0)) (dpgn 5 sc_l_joined_places.nd) (dpss_one (dps_if (dpt_cmp dop_gt (dpe_lensetI (by rfl) (by rfl) (by exact hr.units) (by rfl) (by exact T.len) (by decide +kernel) (by rfl) (by exact T.set) (by decide +kernel) (dpe_lc ["_law_place"] [("_law_row",5)] rfl (LcScope.of (by kernel_rfl)) (dpi_list (by rfl) (dpv 4)) (fun _ _ _ _=>⟨(dpgn 0 (nd_of (by kernel_rfl))),dpts_nil,(dpb_emit (by rfl) (by rfl) (dpe_ix (dix (by rfl)) (dpv 1) (dpv 0) (fun _ _=>rfl)))⟩))) dpe_int (nomark _)) (dpss_one (dps_ret dpe_non)) dpss_nil))))
   (dpss_cons (dps_if (dpt_cmp (dop_in (by rfl)) dpe_int (dpe_lc ["_law_place"] [("_law_table_here",0)] rfl (LcScope.of (by kernel_rfl)) (dpi_list (by rfl) (dpv 4)) (fun _ _ _ _=>⟨(dpgn 0 (nd_of (by kernel_rfl))),dpts_nil,(dpb_emit (by rfl) (by rfl) (dpe_callB (dcl_sum (by rfl) (by rfl)) (by rfl) (by exact T.sum) (by decide +kernel) (dpa_cons (dpe_ix (dix (by rfl)) (dpv 1) (dpv 0) (fun _ _=>rfl)) dpa_nil)))⟩)) rfl) (dpss_one (dps_ret dpe_non)) dpss_nil)
   (dpss_one (dps_ret (dpv 4)))))))),fun ds Qd h=>?_⟩
 obtain ⟨n,z,m,R,rfl,sh,h200,q,x⟩:=h
 have hn:=sh.1
 show (_ : TSD) _ [some (false,gD R),some (false,.int z),some (false,.int m),none,none,none] _
 walk_at "d"
 refine iteb (fun h1=>?_) fun h1=>?_
 ·rw [if_pos trivial]
  walk_at "d"
  exact x fun ⟨p,k,e1,e2,e3,_⟩=>by simp at h1; omega
 walk_at "d"
 refine iteb (fun h2=>?_) fun h2=>?_
 rotate_left
 ·walk_at "d"
  rw [if_pos trivial]
  walk_at "d"
  exact x fun ⟨p,k,e1,e2,e3,_⟩=>by simp at h2; omega
 walk_at "d"
 refine iteb (fun h3=>?_) fun h3=>?_
 ·walk_at "d"
  exact x fun ⟨p,k,e1,e2,e3,e4,_⟩=>by simp at h3; omega
 simp at h1 h2 h3
 obtain ⟨p,rfl⟩ : ∃ p : Nat,z = (p : Int):=⟨z.toNat,by omega⟩
 obtain ⟨k,rfl⟩ : ∃ k : Nat,m = (k : Int):=⟨m.toNat,by omega⟩
 have hpk : p + k < R.length:=by omega
 walk_at "d"
 refine ⟨by rw [length_map,length_range]; show 1 + _ <= _; omega,?_⟩
 have ek : kels2 [PyData.int (p : Int)] (.own []) ((List.range ((R.length : Int) - ((R.length : Int) - (k : Int))).toNat).map fun (i : Nat)=>PyData.int ((R.length : Int) - (k : Int) + (i : Int))) (.own []) = .own []:=by
  unfold kels2
  rw [show flats [PyData.int (p : Int)] = true from rfl,flats_i]; rfl
 rw [ek,pl_is _ _ _ (by omega)]
 walk_at "d"
 have hpp : p ∈ pl R.length p k:=mem_cons_self
 refine lp_list (fun i ρ=>∃ x5 : Option (Bool × D),ρ = [some (false,gD R),some (false,.int p),some (false,.int k),some (false,.int R.length),some (true,iD (pz R.length p k)),x5] /\ ∀ r ∈ R.take i,∀ c ∈ pl R.length p k,r.getD c 0 = r.getD p 0) ⟨_,rfl,fun _ z=>by cases z⟩ ?_ ?_
 ·rintro i d ρ hd ⟨x5,rfl,hi⟩
  obtain ⟨r,hr,rfl⟩ : ∃ r,R[i]? = some r /\ d = iD r:=by
   rw [List.getElem?_map] at hd
   cases e : R[i]? with
   | none=>rw [e] at hd; cases hd
   | some r=>rw [e] at hd; cases hd; exact ⟨r,rfl,rfl⟩
  have hrm : r ∈ R:=mem_iff_getElem?.mpr ⟨i,hr⟩
  have hrl:=sh.2 r hrm
  have hg : ∀ c : Nat,c < n -> r[c]? = some (r.getD c 0):=fun c hc=>by rw [getD_eq_getElem?_getD,List.getElem?_eq_getElem (by omega)]; rfl
  walk_at "d"
  refine lc_mapA (L:=pz R.length p k) PyData.int (fun c=>.int (r.getD c.toNat 0)) (fun c hc es Q' hl q'=>?_) (by rw [pz_len]; omega) ?_
  ·obtain ⟨c,hcl,rfl⟩:=mem_pz hc
   have hcn:=pl_lt (by omega) hcl
   walk_at "d"
   refine ⟨.int (r.getD c 0),atI_nat (j:=c) (by rw [List.getElem?_map,hg c (by omega)]; rfl),?_⟩
   walk_at "d"
   exact q'
  rw [show PyData.list ((pz R.length p k).map fun c : Int=>PyData.int (r.getD c.toNat 0)) = iD ((pl R.length p k).map fun c=>r.getD c 0) from by unfold iD pz; rw [map_map,map_map]; rfl]
  refine ⟨_,rfl,by rw [length_map,pl_len]; omega,?_⟩
  have hdd:=ddN_one (ns:=(pl R.length p k).map fun c=>r.getD c 0) (fun z=>by cases z)
  revert hdd
  generalize ddN ((pl R.length p k).map fun c=>r.getD c 0) = dd
  intro hdd
  walk_at "d"
  refine iteb (fun h4=>?_) fun h4=>?_
  ·walk_at "d"
   refine x fun ⟨p',k',e1,e2,e3,e4,e5,e6⟩=>?_
   obtain rfl : p = p':=by omega
   obtain rfl : k = k':=by omega
   obtain ⟨u,hu,v,hv,ne⟩:=hdd.mp (by simp at h4; omega)
   obtain ⟨c,hc,rfl⟩:=mem_map.mp hu
   obtain ⟨c',hc',rfl⟩:=mem_map.mp hv
   exact ne ((e5 r hrm c hc).trans (e5 r hrm c' hc').symm)
  ·walk_at "d"
   refine ⟨_,rfl,fun y hy c hc=>?_⟩
   rw [List.take_succ,hr] at hy
   rcases mem_append.mp hy with hy | hy
   ·exact hi y hy c hc
   ·rw [show y = r from by simpa using hy]
    by_cases e : r.getD c 0 = r.getD p 0
    ·exact e
    ·exfalso
     have:=hdd.mpr ⟨_,mem_map.mpr ⟨c,hc,rfl⟩,_,mem_map.mpr ⟨p,hpp,rfl⟩,e⟩
     simp at h4
     omega
 rintro ρ ⟨x5,rfl,hi⟩
 rw [length_map,take_length] at hi
 walk_at "d"
 refine lc_mapA (L:=pz R.length p k) PyData.int (fun c=>.int ((R.getD c.toNat []).sum)) (fun c hc es Q' hl q'=>?_) (by rw [pz_len]; omega) ?_
 ·obtain ⟨c,hcl,rfl⟩:=mem_pz hc
  have hcn:=pl_lt (by omega) hcl
  have hR : R[c]? = some (R.getD c []):=by rw [getD_eq_getElem?_getD,List.getElem?_eq_getElem hcn]; rfl
  walk_at "d"
  refine ⟨iD (R.getD c []),atI_nat (j:=c) (by rw [List.getElem?_map,hR]; rfl),?_⟩
  walk_at "d"
  first | exact q' | exact ⟨hl,rfl,q'⟩
 walk_at "d"
 refine ⟨⟨rfl,scal_ints _ _⟩,?_⟩
 rw [in_zero]
 walk_at "d"
 refine iteb (fun h4=>?_) fun h4=>?_
 ·walk_at "d"
  refine x fun ⟨p',k',e1,e2,e3,e4,e5,e6⟩=>?_
  obtain rfl : p = p':=by omega
  obtain rfl : k = k':=by omega
  obtain ⟨c,hc,e⟩:=any_eq_true.mp h4
  obtain ⟨c,hcl,rfl⟩:=mem_pz hc
  exact e6 c hcl (by simpa using e)
 ·walk_at "d"
  refine q p k rfl rfl ⟨p,k,rfl,rfl,by omega,hpk,hi,fun c hc e=>?_⟩
  have : (pz R.length p k).any (fun c : Int=>(R.getD c.toNat []).sum == 0) = true:=any_eq_true.mpr ⟨(c : Int),mem_map.mpr ⟨c,hc,rfl⟩,by simpa using e⟩
  rw [id_eq,this] at h4
  cases h4
abbrev s_l_join : Stmt:=top 37
theorem sc_l_join : FnScope ["_law_table_here","_law_p","_law_m","_law_places","_law_left","_law_made"] ["_law_table_here","_law_p","_law_m"] (defScope s_l_join):=by walk_at "sc"
def sp_lj : SpD:=fun ds Q _=>∃ (n : Nat) (z m : Int) (R : List (List Int)),ds = [gD R,.int z,.int m] /\ Sh n n R /\ n <= 200 /\ (JOk R z m -> Q (gD (jn R z.toNat m.toNat)) true) /\ (¬ JOk R z m -> Q .none true)
theorem ok_l_join {f : Addr} {fd : FuncData} (F : Fun K "_law_join" "_law_join" s_l_join f fd) (T : Blt mg) (D_l_joined_places : Df P w K mg base "_law_joined_places" ["_law_table_here","_law_p","_law_m"] 1 (SpL K sp_ljp)) : FnOk P w K mg base CX0 2 f fd ["_law_table_here","_law_p","_law_m"] (SpL K sp_lj):=by
 refine ok0 F sc_l_join (fun ds Q X h=>?_) (fun cdv A outer s H E hr=>?_) fun ds Qd Xd h=>h
 ·obtain ⟨n,z,m,R,rfl,_⟩:=h; rfl
 refine ⟨_,(dpss_cons (dpset 3 sc_l_join.nd (dpe_df (by exact D_l_joined_places) (by exact hr.mono (by omega)) (dpa_cons (dpv 0) (dpa_cons (dpv 1) (dpa_cons (dpv 2) dpa_nil)))))
   (dpss_cons (dps_if (dpt_cmp dop_is (dpv 3) dpe_non (nomark _)) (dpss_one (dps_ret dpe_non)) dpss_nil)
   (dpss_cons (dpset 4 sc_l_join.nd (dpe_op dop_sub (dpe_callB (dcl_len (by rfl)) (by rfl) (by exact T.len) (by decide +kernel) (dpa_cons (dpv 0) dpa_nil)) (dpv 2)))
   (dpss_cons (dps_setlc (i:=5) (hN:=sc_l_join.nd) (hyi:=rfl) (hy:=rfl) (hc:=rfl) (own:=["_law_row"]) (cap:=[("_law_left",4)]) (L:=LcScope.of (by kernel_rfl)) (hi:=(dpi_list (by rfl) (dpe_slice (by rfl) (dpv 0) dpo_none (dpo_some (dpv 4))))) (hin:=(fun _ _ _ _=>⟨(dpgn 0 (nd_of (by kernel_rfl))),dpts_nil,(dpb_emit (by rfl) (by rfl) (dpe_slice (by rfl) (dpv 0) dpo_none (dpo_some (dpv 1))))⟩)))
   (dpss_cons (dps_put1 5 (qpv 5) (dpv 1) (dpe_lc ["_law_j"] [("_law_places",3),("_law_table_here",0)] rfl (LcScope.of (by kernel_rfl)) (dpi_range1 (by rfl) (by exact T.range) (dpa_cons (dpv 4) dpa_nil)) (fun _ _ _ _=>⟨(dpgn 0 (nd_of (by kernel_rfl))),dpts_nil,(dpb_emit (by rfl) (by rfl) (dpe_callB (dcl_sum (by rfl) (by rfl)) (by rfl) (by exact T.sum) (by decide +kernel) (dpa_cons (dpe_lc ["_law_place"] [("_law_table_here",2),("_law_j",0)] rfl (LcScope.of (by kernel_rfl)) (dpi_list (by rfl) (dpv 1)) (fun _ _ _ _=>⟨(dpgn 0 (nd_of (by kernel_rfl))),dpts_nil,(dpb_emit (by rfl) (by rfl) (dpe_ix (dix (by rfl)) (dpe_ix (dix (by rfl)) (dpv 1) (dpv 0) (fun _ _=>rfl)) (dpv 2) (fun _ _=>rfl)))⟩)) dpa_nil)))⟩)))
   (dpss_one (dps_ret (dpv 5)))))))),fun ds Qd h=>?_⟩
 obtain ⟨n,z,m,R,rfl,sh,h200,q,x⟩:=h
 have hn:=sh.1
 show (_ : TSD) _ [some (false,gD R),some (false,.int z),some (false,.int m),none,none,none] _
 walk_at "d"
 refine ⟨n,z,m,R,rfl,sh,h200,fun p k ep ek hg=>?_,fun hg=>?_⟩
 rotate_left
 ·walk_at "d"
  rw [if_pos (by rfl)]
  walk_at "d"
  exact x hg
 subst ep ek
 have hg':=hg
 obtain ⟨p',k',e1,e2,e3,hpk,_⟩:=hg'
 obtain rfl : p = p':=by omega
 obtain rfl : k = k':=by omega
 rw [Int.toNat_natCast,Int.toNat_natCast] at q
 walk_at "d"
 rw [if_neg (by exact fun z=>by cases z)]
 walk_at "d"
 have hle : ((R.length : Int) - (k : Int)) = ((R.length - k : Nat) : Int):=by omega
 rw [hle]
 walk_at "d"
 rw [cut_to (j:=R.length - k) rfl,<- map_take]
 refine lc_mapA (L:=R.take (R.length - k)) iD (fun r=>iD (r.take (R.length - k))) (fun r hr es Q' hl q'=>?_) (by rw [length_take]; omega) ?_
 ·walk_at "d"
  rw [cut_to (j:=R.length - k) rfl,<- map_take]
  rw [show kels (List.map PyData.int (List.take (R.length - k) r)) Kd.old = .own [] from by unfold kels; rw [show flats (List.map PyData.int (List.take (R.length - k) r)) = true from flats_i (fun a=>a) _]; rfl]
  exact ⟨rfl,q'⟩
 rw [show PyData.list ((R.take (R.length - k)).map fun r=>iD (r.take (R.length - k))) = gD ((R.take (R.length - k)).map fun r=>r.take (R.length - k)) from by unfold gD; rw [map_map]; rfl]
 walk_at "d"
 rw [Int.toNat_natCast]
 refine lc_mapA (L:=List.range (R.length - k)) (fun x : Nat=>.int (0 + (x : Int))) (fun e=>.int (((pl R.length p k).map fun c=>mat R c e).sum)) (fun e he es Q' hl q'=>?_) (by rw [length_range]; omega) ?_
 ·have he':=mem_range.mp he
  walk_at "d"
  refine lc_mapA (L:=pz R.length p k) PyData.int (fun c=>.int (mat R c.toNat e)) (fun c hc es Q' hl q'=>?_) (by rw [pz_len]; omega) ?_
  ·obtain ⟨c,hcl,rfl⟩:=mem_pz hc
   have hcn:=pl_lt (by omega) hcl
   obtain ⟨r,r1,r2,r3⟩:=sh.cell (show c < n by omega) (show e < n by omega)
   walk_at "d"
   refine ⟨iD r,atI_nat (j:=c) (by rw [List.getElem?_map,r1]; rfl),?_⟩
   walk_at "d"
   refine ⟨.int (mat R c e),by rw [Int.zero_add]; exact atI_nat (j:=e) (by rw [List.getElem?_map,r2]; rfl),?_⟩
   walk_at "d"
   exact q'
  rw [show PyData.list ((pz R.length p k).map fun c : Int=>PyData.int (mat R c.toNat e)) = iD ((pl R.length p k).map fun c=>mat R c e) from by unfold iD pz; rw [map_map,map_map]; rfl]
  walk_at "d"
  first | exact q' | exact ⟨hl,rfl,q'⟩
 rw [show PyData.list ((List.range (R.length - k)).map fun e=>PyData.int (((pl R.length p k).map fun c=>mat R c e).sum)) = iD ((List.range (R.length - k)).map fun e=>((pl R.length p k).map fun c=>mat R c e).sum) from by unfold iD; rw [map_map]; rfl]
 refine ⟨_,rfl,?_⟩
 walk_at "d"
 refine ⟨p,ixN_nat (by rw [length_map,length_map,length_take]; omega),?_⟩
 rw [show PyData.list ((List.map iD (List.map (fun r=>List.take (R.length - k) r) (List.take (R.length - k) R))).set p (iD (List.map (fun e=>(List.map (fun c=>mat R c e) (pl R.length p k)).sum) (List.range (R.length - k))))) = gD (jn R p k) from by unfold gD jn; rw [List.map_set]]
 walk_at "d"
 exact q hg
open Classical in
noncomputable def dueD (b : Bool) (R : List (List Int)) (z m : Int) : D:=if JK b R z m then gD (rJ b R z m) else .none
abbrev s_l_due : Stmt:=top 40
theorem sc_l_due : FnScope ["_law_table_here","_law_word","_law_p","_law_m","_law_due_here"] ["_law_table_here","_law_word","_law_p","_law_m"] (defScope s_l_due):=by walk_at "sc"
def sp_due : SpD:=fun ds Q _=>∃ (n : Nat) (b : Bool) (z m : Int) (R : List (List Int)),ds = [gD R,.str (wdD b),.int z,.int m] /\ Sh n n R /\ 1 <= n /\ n <= 200 /\ Q (dueD b R z m) true
theorem ok_l_due {f : Addr} {fd : FuncData} (F : Fun K "_law_due" "_law_due" s_l_due f fd) (T : Blt mg) (D_l_turned : Df P w K mg base "_law_turned" ["_law_table_here"] 1 (SpL K sp_trn)) (D_l_join : Df P w K mg base "_law_join" ["_law_table_here","_law_p","_law_m"] 2 (SpL K sp_lj)) : FnOk P w K mg base CX0 3 f fd ["_law_table_here","_law_word","_law_p","_law_m"] (SpL K sp_due):=by
 refine ok0 F sc_l_due (fun ds Q X h=>?_) (fun cdv A outer s H E hr=>?_) fun ds Qd Xd h=>h
 ·obtain ⟨n,b,z,m,R,rfl,_⟩:=h; rfl
 refine ⟨_,(dpss_cons (dps_if (dpt_cmp (dop_eq (by rfl) (by exact hr.units)) (dpv 1) dpe_str (nomark _)) (dpss_one (dps_ret (dpe_df (by exact D_l_join) (by exact hr.mono (by omega)) (dpa_cons (dpv 0) (dpa_cons (dpv 2) (dpa_cons (dpv 3) dpa_nil)))))) dpss_nil)
   (dpss_cons (dpset 4 sc_l_due.nd (dpe_df (by exact D_l_join) (by exact hr.mono (by omega)) (dpa_cons (dpe_df (by exact D_l_turned) (by exact hr.mono (by omega)) (dpa_cons (dpv 0) dpa_nil)) (dpa_cons (dpv 2) (dpa_cons (dpv 3) dpa_nil)))))
   (dpss_one (dps_ret (dpe_ifExp (dpt_cmp dop_is (dpv 4) dpe_non (nomark _)) dpe_non (dpe_df (by exact D_l_turned) (by exact hr.mono (by omega)) (dpa_cons (dpv 4) dpa_nil))))))),fun ds Qd h=>?_⟩
 obtain ⟨n,b,z,m,R,rfl,sh,hn1,h200,q⟩:=h
 cases b with
 | false =>
  show (_ : TSD) _ [some (false,gD R),some (false,.str "join out"),some (false,.int z),some (false,.int m),none] _
  walk_at "d"
  refine ⟨⟨by decide +kernel,by decide +kernel,Nat.zero_le _⟩,?_⟩
  rw [show (PyData.str (Str.ofString "join out")).eqv (PyData.str (Str.ofString "join out")) = true from by decide +kernel]
  walk_at "d"
  rw [if_pos (by rfl)]
  walk_at "d"
  refine ⟨n,z,m,R,rfl,sh,h200,fun hg=>?_,fun hg=>?_⟩
  ·walk_at "d"
   have e : dueD false R z m = gD (jn R z.toNat m.toNat):=if_pos hg
   rw [e] at q
   exact q
  ·walk_at "d"
   have e : dueD false R z m = .none:=if_neg hg
   rw [e] at q
   exact q
 | true =>
  show (_ : TSD) _ [some (false,gD R),some (false,.str "join in"),some (false,.int z),some (false,.int m),none] _
  walk_at "d"
  refine ⟨⟨by decide +kernel,by decide +kernel,Nat.zero_le _⟩,?_⟩
  rw [show (PyData.str (Str.ofString "join in")).eqv (PyData.str (Str.ofString "join out")) = false from by decide +kernel]
  walk_at "d"
  rw [if_neg (by exact Bool.false_ne_true)]
  walk_at "d"
  refine ⟨n,R,rfl,sh,hn1,by omega,?_⟩
  walk_at "d"
  refine ⟨n,z,m,trn R,rfl,trn_sh sh,h200,fun hg=>?_,fun hg=>?_⟩
  ·have hg':=hg
   obtain ⟨p',k',rfl,rfl,e3,hpk,_⟩:=hg'
   have hn':=(trn_sh sh).1
   walk_at "d"
   rw [if_neg (by exact fun z=>by cases z)]
   walk_at "d"
   refine ⟨_,_,rfl,jn_sh (trn_sh sh),by rw [Int.toNat_natCast]; omega,by omega,?_⟩
   walk_at "d"
   have e : dueD true R p' k' = gD (trn (jn (trn R) ((p' : Int)).toNat ((k' : Int)).toNat)):=if_pos hg
   rw [e] at q
   exact q
  ·walk_at "d"
   rw [if_pos (by rfl)]
   walk_at "d"
   have e : dueD true R z m = .none:=if_neg hg
   rw [e] at q
   exact q
abbrev s_l_good : Stmt:=top 41
theorem sc_l_good : FnScope ["_law_table_here","_law_word","_law_p","_law_m","_law_handed","_law_move","_law_due_here","_law_turn","_law_told_here","_law_row"] ["_law_table_here","_law_word","_law_p","_law_m"] (defScope s_l_good):=by walk_at "sc"
def sp_good : SpD:=fun ds Q _=>∃ (n : Nat) (b : Bool) (z m : Int) (R : List (List Int)),ds = [gD R,.str (wdD b),.int z,.int m] /\ Sh n n R /\ 1 <= n /\ n <= 200 /\ Q (.bool true) true
theorem ok_l_good {f : Addr} {fd : FuncData} (F : Fun K "_law_good" "_law_good" s_l_good f fd) (T : Blt mg) (D_l_copy : Df P w K mg base "_law_copy" ["_law_grid"] 1 (SpL K sp_copy)) (D_l_is_table : Df P w K mg base "_law_is_table" ["_law_told_here"] 2 (SpL K sp_ist)) (D_l_told : Df P w K mg base "_law_told" ["_law_table_here","_law_move"] 6 (SpL K sp_told)) (D_l_told_back : Df P w K mg base "_law_told_back" ["_law_table_here","_law_move"] 6 (SpL K sp_tb)) (D_l_due : Df P w K mg base "_law_due" ["_law_table_here","_law_word","_law_p","_law_m"] 3 (SpL K sp_due)) : FnOk P w K mg base CX0 7 f fd ["_law_table_here","_law_word","_law_p","_law_m"] (SpL K sp_good):=by
 refine ok0 F sc_l_good (fun ds Q X h=>?_) (fun cdv A outer s H E hr=>?_) fun ds Qd Xd h=>h
 ·obtain ⟨n,b,z,m,R,rfl,_⟩:=h; rfl
 refine ⟨_,(dpss_cons (dpset 4 sc_l_good.nd (dpe_df (by exact D_l_copy) (by exact hr.mono (by omega)) (dpa_cons (dpv 0) dpa_nil)))
   (dpss_cons (dpset 5 sc_l_good.nd (dpe_tup (dpa_cons (dpv 1) (dpa_cons (dpv 2) (dpa_cons (dpv 3) dpa_nil)))))
   (dpss_cons (dpset 6 sc_l_good.nd (dpe_df (by exact D_l_due) (by exact hr.mono (by omega)) (dpa_cons (dpv 0) (dpa_cons (dpv 1) (dpa_cons (dpv 2) (dpa_cons (dpv 3) dpa_nil))))))
   (dpss_cons (dps_for PassesOwn.never rfl (dpi_range1 (by rfl) (by exact T.range) (dpa_cons dpe_int dpa_nil)) (dpgn 7 sc_l_good.nd) (dpss_cons (dpset 8 sc_l_good.nd (dpe_df (by exact D_l_told) (by exact hr.mono (by omega)) (dpa_cons (dpv 4) (dpa_cons (dpv 5) dpa_nil))))
   (dpss_cons (dps_if (dpt_cmp (dop_ne (by rfl) (by exact hr.units)) (dpv 4) (dpv 0) (nomark _)) (dpss_one (dps_ret dpe_bl)) dpss_nil)
   (dpss_one (dps_if (dpt_cmp dop_is (dpv 6) dpe_non (nomark _)) (dpss_one (dps_if (dPWpt (dpw_or (dpt_cmp (dop_ne (by rfl) (by exact hr.units)) (dpv 8) (dpe_tup (dpa_cons dpe_str (dpa_cons dpe_bl dpa_nil))) (nomark _)) (dpw_or1 (dpt_cmp (dop_ne (by rfl) (by exact hr.units)) (dpe_df (by exact D_l_told_back) (by exact hr.mono (by omega)) (dpa_cons (dpv 4) (dpa_cons (dpv 5) dpa_nil))) (dpe_tup (dpa_cons dpe_str (dpa_cons dpe_bl dpa_nil))) (nomark _))))) (dpss_one (dps_ret dpe_bl)) dpss_nil)) (dpss_cons (dps_if (dPWpt (dpw_or (dpt_cmp (dop_ne (by rfl) (by exact hr.units)) (dpe_ix (dix (by rfl)) (dpv 8) dpe_int (fun _ _=>rfl)) dpe_str (nomark _)) (dpw_or (dpt_not (dpt_val (dpe_df (by exact D_l_is_table) (by exact hr.mono (by omega)) (dpa_cons (dpe_ix (dix (by rfl)) (dpv 8) dpe_int (fun _ _=>rfl)) dpa_nil)))) (dpw_or1 (dpt_cmp (dop_ne (by rfl) (by exact hr.units)) (dpe_ix (dix (by rfl)) (dpv 8) dpe_int (fun _ _=>rfl)) (dpv 6) (nomark _)))))) (dpss_one (dps_ret dpe_bl)) dpss_nil)
   (dmutn_of (qpss_cons (qps_for PassesOwn.never rfl (qpi_listK K (by rfl) (qpe_ix (ix_tupK K (by rfl)) (qpv 8) qpe_int (fun _ _=>rfl))) (qpgn 9 sc_l_good.nd) (qpss_one (qps_expr (qpm_appendK K (by rfl) (qpv 9) qpe_int (by rfl) (by rfl) (by rfl))))) (qpss_one (qps_expr (qpm_appendK K (by rfl) (qpe_ix (ix_tupK K (by rfl)) (qpv 8) qpe_int (fun _ _=>rfl)) (qpe_lst qpa_nil) (by rfl) (by rfl) (by rfl))))))))))))
   (dpss_one (dps_ret dpe_bl)))))),fun ds Qd h=>?_⟩
 obtain ⟨n,b,z,m,R,rfl,sh,hn1,h200,q⟩:=h
 have hn:=sh.1
 show (_ : TSD) _ [some (false,gD R),some (false,.str (wdD b)),some (false,.int z),some (false,.int m),none,none,none,none,none,none] _
 walk_at "d"
 refine ⟨R,rfl,by omega,?_⟩
 walk_at "d"
 refine ⟨n,b,z,m,R,rfl,sh,hn1,h200,?_⟩
 by_cases hG : JK b R z m
 rotate_left
 ·have ed : dueD b R z m = .none:=if_neg hG
  rw [ed]
  walk_at "d"
  refine lp_rng (fun i ρ=>∃ x7 x8 x9 : Option (Bool × D),ρ = [some (false,gD R),some (false,.str (wdD b)),some (false,.int z),some (false,.int m),some (true,gD R),some (false,mvJ b z m),some (false,.none),x7,x8,x9]) ⟨_,_,_,rfl⟩ ?_ ?_
  rotate_left
  ·rintro ρ ⟨x5,x6,x7,rfl⟩
   walk_at "d"
   exact q
  rintro i ρ hi ⟨x5,x6,x7,rfl⟩
  walk_at "d"
  refine ⟨n,b,z,m,R,rfl,sh,hn1,h200,fun h=>absurd h hG,fun _=>?_⟩
  walk_at "d"
  refine ⟨⟨lay_gD _,lay_gD _,depth_gD _⟩,?_⟩
  rw [eqv_g]
  walk_at "d"
  try rw [if_neg (by exact Bool.false_ne_true)]
  walk_at "d"
  try rw [if_pos (by rfl)]
  walk_at "d"
  refine ⟨⟨lay_rf,lay_rf,dep_rf⟩,?_⟩
  rw [SeqAt.eqv_refl _ lay_rf]
  walk_at "d"
  refine ⟨n,b,z,m,R,rfl,sh,hn1,h200,hG,?_⟩
  walk_at "d"
  refine ⟨⟨lay_rf,lay_rf,dep_rf⟩,?_⟩
  rw [SeqAt.eqv_refl _ lay_rf]
  walk_at "d"
  exact ⟨_,_,_,rfl⟩
 have ed : dueD b R z m = gD (rJ b R z m):=if_pos hG
 rw [ed]
 have hm:=rJ_sh (b:=b) (z:=z) (m:=m) sh
 walk_at "d"
 refine lp_rng (fun i ρ=>∃ x7 x8 x9 : Option (Bool × D),ρ = [some (false,gD R),some (false,.str (wdD b)),some (false,.int z),some (false,.int m),some (true,gD R),some (false,mvJ b z m),some (true,gD (rJ b R z m)),x7,x8,x9]) ⟨_,_,_,rfl⟩ ?_ ?_
 rotate_left
 ·rintro ρ ⟨x5,x6,x7,rfl⟩
  walk_at "d"
  exact q
 rintro i ρ hi ⟨x5,x6,x7,rfl⟩
 walk_at "d"
 refine ⟨n,b,z,m,R,rfl,sh,hn1,h200,fun _=>?_,fun h=>absurd hG h⟩
 walk_at "d"
 rw [setK_tg]
 walk_at "d"
 refine ⟨⟨lay_gD _,lay_gD _,depth_gD _⟩,?_⟩
 rw [eqv_g]
 walk_at "d"
 try rw [if_neg (fun z=>by cases z)]
 walk_at "d"
 refine ⟨_,atI_nat (j:=0) rfl,?_⟩
 walk_at "d"
 refine ⟨⟨lay_td,lay_td,dep_td⟩,?_⟩
 rw [SeqAt.eqv_refl _ lay_td]
 walk_at "d"
 refine ⟨_,atI_nat (j:=1) rfl,?_⟩
 walk_at "d"
 have hrows : ∀ r ∈ rJ b R z m,r.length <= 1000:=fun r hr=>by have:=hm.2 r hr; omega
 have hcols : (rJ b R z m).length <= 1000:=by have:=hm.1; omega
 refine ⟨_,rfl,hrows,?_⟩
 walk_at "d"
 refine ⟨_,atI_nat (j:=1) rfl,?_⟩
 walk_at "d"
 refine ⟨⟨lay_gD _,lay_gD _,depth_gD _⟩,?_⟩
 rw [eqv_g]
 walk_at "d"
 refine w_mutl ⟨by decide,Nat.le_of_ble_eq_true rfl,_,_,rfl,fun d hd=>?_,by rw [length_map]; omega,?_⟩
 ·obtain ⟨v,hv,rfl⟩:=mem_map.mp hd
  exact ⟨v.map .int,rfl,by rw [length_map]; have:=hrows v hv; omega⟩
 ·exact ⟨_,_,_,rfl⟩
theorem fl_ne : ∀ ps : List (List Ar),(ps.filter fun q=>q ≠ []).flatten = ps.flatten
 | []=>rfl
 | [] :: ps=>by
  rw [List.filter_cons,if_neg (by simp),fl_ne ps]; rfl
 | (a :: q) :: ps=>by
  rw [List.filter_cons,if_pos (by simp),flatten_cons,flatten_cons,fl_ne ps]
theorem full_ne (ps : List (List Ar)) : ∀ q ∈ fullP ps,q ≠ []:=fun q hq=>by
 unfold fullP at hq
 split at hq
 ·rename_i h
  rcases mem_cons.mp hq with e | hq
  ·intro z
   rw [z] at e
   have:=congrArg List.length e
   rw [length_take] at this
   simp only [List.length_nil] at this
   omega
  ·intro z
   rw [mem_singleton.mp hq] at z
   have:=congrArg List.length z
   rw [length_drop] at this
   simp only [List.length_nil] at this
   omega
 ·have:=(List.mem_filter.mp hq).2
  simpa using this
theorem full_len (ps : List (List Ar)) : (fullP ps).length <= ps.length + 2:=by
 unfold fullP
 split
 ·show 2 <= _; omega
 ·exact Nat.le_trans (List.length_filter_le _ _) (by omega)
theorem full_fl (ps : List (List Ar)) : (fullP ps).flatten = ps.flatten:=by
 have hf:=fl_ne ps
 unfold fullP
 revert hf
 generalize (ps.filter fun q=>q ≠ []) = fs
 intro hf
 split
 ·rename_i hc
  match fs,hc,hf with
  | [y],hc,hf =>
   show ([y.take 1,y.drop 1] : List (List Ar)).flatten = _
   rw [flatten_cons,flatten_cons,List.flatten_nil,append_nil,List.take_append_drop,<- hf,flatten_cons,List.flatten_nil,append_nil]
 ·exact hf
theorem good_of {n p : Nat} {R : List (List Int)} {ps : List (List Ar)} {r : List Int} (hn : R.length = n) (hp : p < n) (er : R.getD p [] = r) (h : ps.flatten.Perm (frm r p)) (h2 : 1 < (fullP ps).length) : M50.Good R p (fullP ps) :=
 ⟨⟨by omega,by omega⟩,h2,full_ne ps,by rw [full_fl,Int.toNat_natCast,er]; exact h⟩
theorem tps_tps (ps : List (List Ar)) : tps (tps ps) = ps:=by
 unfold tps
 rw [map_map]
 have : ((fun q : List Ar=>q.map tA) ∘ fun q=>q.map tA) = id:=by
  funext q
  show (q.map tA).map tA = q
  rw [map_map,show tA ∘ tA = id from rfl,List.map_id]
 rw [this,List.map_id]
theorem pa_of {n p : Nat} {ps : List (List Ar)} {r : List Int} (hp : p < n) (hn : n <= 6) (hr : r.length = n) (hr0 : ∀ x ∈ r,0 <= x) (hr40 : r.sum <= 40) (h : ps.flatten.Perm (frm r p)) (h5 : ps.length <= 5) : PA (fullP ps):=by
 have hlt : ∀ x ∈ r,x < 1000:=fun y hy=>by have:=(le_sum hr0 hy).1; omega
 have hl : (frm r p).length <= 40:=by
  have:=frA_few (p:=(p : Int)) hr0 hr40 r.length
  rw [take_length] at this
  exact this
 refine ⟨fun q hq a ha=>?_,by rw [full_fl,h.length_eq]; omega,by have:=full_len ps; omega⟩
 have : a ∈ (fullP ps).flatten:=List.mem_flatten.mpr ⟨q,hq,ha⟩
 rw [full_fl] at this
 exact frm_bd ⟨by omega,by omega⟩ (by omega) hlt (h.mem_iff.mp this)
structure It4 where
 n : Nat
 g : List (List Int)
 b : Bool
 m : Int
def itD (x : It4) : D:=.tuple [gD x.g,.str (wdD x.b),.int x.m]
def ItOk4 (x : It4) : Prop:=Sh x.n x.n x.g /\ 1 <= x.n /\ x.n <= 200
abbrev s_l_split_ones : Stmt:=top 42
theorem sc_l_split_ones : FnScope ["_law_table_here","_law_p","_law_big_here","_law_found","_law_around","_law_out","_law_about","_law_pieces"] ["_law_table_here","_law_p","_law_big_here"] (defScope s_l_split_ones):=by walk_at "sc"
def sp_so1 : SpD:=fun ds Q _=>∃ (n p : Nat) (b : Int) (R : List (List Int)),ds = [gD R,.int p,.int b] /\ Tt n R /\ p < n /\ 0 <= b /\ ∀ L : List It4,(∀ x ∈ L,ItOk4 x) -> Q (.list (L.map itD)) true
theorem ok_l_split_ones {f cM : Addr} {fd : FuncData} (F : Fun K "_law_split_ones" "_law_split_ones" s_l_split_ones f fd) (T : Blt mg) (D_split_done : DfE P w K mg base "split_done" ["table","move"] 5 (SpL K (sp_sdn cM 2))) (D_l_copy : Df P w K mg base "_law_copy" ["_law_grid"] 1 (SpL K sp_copy)) (D_l_from : Df P w K mg base "_law_from" ["_law_table_here","_law_p"] 1 (SpL K sp_from)) (D_l_turned : Df P w K mg base "_law_turned" ["_law_table_here"] 1 (SpL K sp_trn)) (D_l_turned_arrows : Df P w K mg base "_law_turned_arrows" ["_law_arrows"] 1 (SpL K sp_ta)) (D_l_parted : Df P w K mg base "_law_parted" ["_law_arrows","_law_big_here"] 1 (SpL K sp_parted)) (D_l_full : Df P w K mg base "_law_full" ["_law_pieces"] 1 (SpLO K sd_fullO)) : FnOk P w K mg base CX0 6 f fd ["_law_table_here","_law_p","_law_big_here"] (SpL K sp_so1):=by
 refine ok0 F sc_l_split_ones (fun ds Q X h=>?_) (fun cdv A outer s H E hr=>?_) fun ds Qd Xd h=>h
 ·obtain ⟨n,p,b,R,rfl,_⟩:=h; rfl
 refine ⟨_,(dpss_cons (dpset 3 sc_l_split_ones.nd (dpe_lst dpa_nil))
   (dpss_cons (dpset 4 sc_l_split_ones.nd (dpe_df (by exact D_l_turned) (by exact hr.mono (by omega)) (dpa_cons (dpv 0) dpa_nil)))
   (dpss_cons (dpset 5 sc_l_split_ones.nd (dpe_dfO (by exact D_l_full) (by exact hr.mono (by omega)) (dpa_cons (dpe_df (by exact D_l_parted) (by exact hr.mono (by omega)) (dpa_cons (dpe_df (by exact D_l_from) (by exact hr.mono (by omega)) (dpa_cons (dpv 0) (dpa_cons (dpv 1) dpa_nil))) (dpa_cons (dpv 2) dpa_nil))) dpa_nil)))
   (dpss_cons (dpset 6 sc_l_split_ones.nd (dpe_dfO (by exact D_l_full) (by exact hr.mono (by omega)) (dpa_cons (dpe_df (by exact D_l_parted) (by exact hr.mono (by omega)) (dpa_cons (dpe_df (by exact D_l_from) (by exact hr.mono (by omega)) (dpa_cons (dpv 4) (dpa_cons (dpv 1) dpa_nil))) (dpa_cons (dpe_op dop_fdiv (dpv 2) (dpe_op dop_pow dpe_int dpe_int)) dpa_nil))) dpa_nil)))
   (dpss_cons (dps_jn (dps_if (dpt_cmp dop_gt (dpe_callB (dcl_len (by rfl)) (by rfl) (by exact T.len) (by decide +kernel) (dpa_cons (dpv 5) dpa_nil)) dpe_int (nomark _)) (dpss_one (dps_append 3 (by rfl) (qpv 3) (dpe_tup (dpa_cons (dpe_dfE (by exact D_split_done) passF (by exact hr.mono (by omega)) (dpa_cons (dpe_df (by exact D_l_copy) (by exact hr.mono (by omega)) (dpa_cons (dpv 0) dpa_nil)) (dpa_cons (dpe_tup (dpa_cons dpe_str (dpa_cons (dpv 1) (dpa_cons (dpv 5) dpa_nil)))) dpa_nil))) (dpa_cons dpe_str (dpa_cons (dpe_op dop_sub (dpe_callB (dcl_len (by rfl)) (by rfl) (by exact T.len) (by decide +kernel) (dpa_cons (dpv 5) dpa_nil)) dpe_int) dpa_nil)))) (by rfl) (by rfl) (by rfl))) dpss_nil))
   (dpss_cons (dps_if (dpt_cmp dop_gt (dpe_callB (dcl_len (by rfl)) (by rfl) (by exact T.len) (by decide +kernel) (dpa_cons (dpv 6) dpa_nil)) dpe_int (nomark _)) (dpss_cons (dps_frz 6 (dps_setlc (i:=7) (hN:=sc_l_split_ones.nd) (hyi:=rfl) (hy:=rfl) (hc:=rfl) (own:=["_law_piece"]) (cap:=[]) (L:=LcScope.of (by kernel_rfl)) (hi:=(dpi_list (by rfl) (dpv 6))) (hin:=(fun _ _ _ _=>⟨(dpgn 0 (nd_of (by kernel_rfl))),dpts_nil,(dpb_emit (by rfl) (by rfl) (dpe_df (by exact D_l_turned_arrows) (by exact hr.mono (by omega)) (dpa_cons (dpv 0) dpa_nil)))⟩))))
   (dpss_one (dps_append 3 (by rfl) (qpv 3) (dpe_tup (dpa_cons (dpe_dfE (by exact D_split_done) passF (by exact hr.mono (by omega)) (dpa_cons (dpe_df (by exact D_l_copy) (by exact hr.mono (by omega)) (dpa_cons (dpv 0) dpa_nil)) (dpa_cons (dpe_tup (dpa_cons dpe_str (dpa_cons (dpv 1) (dpa_cons (dpv 7) dpa_nil)))) dpa_nil))) (dpa_cons dpe_str (dpa_cons (dpe_op dop_sub (dpe_callB (dcl_len (by rfl)) (by rfl) (by exact T.len) (by decide +kernel) (dpa_cons (dpv 6) dpa_nil)) dpe_int) dpa_nil)))) (by rfl) (by rfl) (by rfl)))) dpss_nil)
   (dpss_one (dps_ret (dpv 3))))))))),fun ds Qd h=>?_⟩
 obtain ⟨n,p,b,R,rfl,hT,hp,hb,q⟩:=h
 have hn:=hT.2.2.1.1
 have hn1:=hT.1
 have h6:=hT.2.1
 have hT':=hT.turn
 have hn':=hT'.2.2.1.1
 obtain ⟨r,hr,er,hrl,hrm,hr0,hr40⟩:=hT.tb.row hp
 obtain ⟨r',hr',er',hrl',hrm',hr0',hr40'⟩:=hT'.row hp
 have hf40 : (frm r p).length <= 40:=by
  have:=frA_few (p:=(p : Int)) hr0 hr40 r.length
  rw [take_length] at this
  exact this
 have hf40' : (frm r' p).length <= 40:=by
  have:=frA_few (p:=(p : Int)) hr0' hr40' r'.length
  rw [take_length] at this
  exact this
 show (_ : TSD) _ [some (false,gD R),some (false,.int p),some (false,.int b),none,none,none,none,none] _
 walk_at "d"
 refine ⟨n,R,rfl,hT.2.2.1,hn1,by omega,?_⟩
 walk_at "d"
 refine ⟨n,p,R,rfl,hT.tb,hp,?_⟩
 rw [er]
 walk_at "d"
 refine ⟨_,_,rfl,by omega,hb,fun ps hpm hp5=>?_⟩
 walk_at "d"
 have hq1000 : ∀ q ∈ ps,q.length <= 1000:=fun q hq=>by
  have : q.Sublist ps.flatten:=List.sublist_flatten_of_mem hq
  have:=this.length_le
  have:=hpm.length_eq
  omega
 have go1:=pa_of hp h6 hrl hr0 hr40 hpm hp5
 refine ⟨rfl,ps,rfl,by omega,hq1000,?_⟩
 walk_at "d"
 refine ⟨n,p,trn R,rfl,hT',hp,?_⟩
 rw [er']
 walk_at "d"
 refine ⟨_,_,rfl,by omega,Int.ediv_nonneg hb (by decide),fun ps' hpm' hp5'=>?_⟩
 walk_at "d"
 have hq1000' : ∀ q ∈ ps',q.length <= 1000:=fun q hq=>by
  have : q.Sublist ps'.flatten:=List.sublist_flatten_of_mem hq
  have:=this.length_le
  have:=hpm'.length_eq
  omega
 have go2:=pa_of hp h6 hrl' hr0' hr40' hpm' hp5'
 refine ⟨rfl,ps',rfl,by omega,hq1000',?_⟩
 walk_at "d"
 refine w_jn (fun ρ=>∃ L : List It4,(∀ x ∈ L,ItOk4 x) /\ L.length <= 1 /\ ρ = [some (false,gD R),some (false,.int p),some (false,.int b),some (true,.list (L.map itD)),some (true,gD (trn R)),some (true,.list ((fullP ps).map pD)),some (true,.list ((fullP ps').map pD)),none]) (fun N hN=>?_) ?_
 ·walk_at "d"
  rw [length_map]
  refine iteb (fun h1=>?_) fun h1=>?_
  rotate_left
  ·walk_at "d"
   exact hN _ ⟨[],⟨(fun _ z=>by cases z),by decide,rfl⟩⟩
  have h1 : 1 < (fullP ps).length:=by simp at h1; omega
  have hG:=good_of hn hp er hpm h1
  have msh:=madeP_sh (ps:=fullP ps) hT.tb hp (by omega)
  walk_at "d"
  refine ⟨_,rfl,by decide,?_⟩
  walk_at "d"
  refine ⟨R,rfl,by omega,?_⟩
  walk_at "d"
  refine ⟨n,R,_,rfl,by decide,.inl ⟨p,fullP ps,rfl,hT.tb,go1,fun _=>?_,fun z=>absurd hG z⟩⟩
  walk_at "d"
  rw [show eff (.tuple [gD (madeP R ((p : Int)).toNat (fullP ps)),.str (Str.ofString "join out"),.int (((((fullP ps).map pD).length : Nat) : Int) - 1)]) (kcons (gD (madeP R ((p : Int)).toNat (fullP ps))) (.own []) (.own [])) = .own [] from rfl]
  refine ⟨by simp,?_⟩
  exact hN _ ⟨[⟨n + ((fullP ps).length - 1),madeP R p (fullP ps),false,((((fullP ps).map pD).length : Nat) : Int) - 1⟩],⟨fun x hx=>by
   rw [mem_singleton.mp hx]
   have:=go1.2.2
   exact ⟨msh,by show 1 <= n + _; omega,by show n + _ <= 200; omega⟩,Nat.le_refl 1,rfl⟩⟩
 ·rintro ρ ⟨L,hL,hL1,rfl⟩
  walk_at "d"
  rw [length_map]
  refine iteb (fun h2=>?_) fun h2=>?_
  rotate_left
  ·walk_at "d"
   exact q L hL
  have h2 : 1 < (fullP ps').length:=by simp at h2; omega
  have hG:=good_of hn' hp er' hpm' h2
  have msh:=trn_sh (madeP_sh (ps:=fullP ps') hT' hp (by omega))
  have h100:=go2.2.2
  walk_at "d"
  refine lc_mapA (L:=fullP ps') pD (fun y=>pD (y.map tA)) (fun y hy es Q' hl q'=>?_) (by omega) ?_
  ·walk_at "d"
   refine ⟨y,rfl,go2.len y hy,?_⟩
   walk_at "d"
   first | exact q' | exact ⟨hl,rfl,q'⟩
  rw [show PyData.list ((fullP ps').map fun y=>pD (y.map tA)) = .list ((tps (fullP ps')).map pD) from by unfold tps; rw [map_map]; rfl]
  walk_at "d"
  refine ⟨_,rfl,by rw [length_map]; omega,?_⟩
  walk_at "d"
  refine ⟨R,rfl,by omega,?_⟩
  walk_at "d"
  refine ⟨n,R,_,rfl,by decide,.inr (.inl ⟨p,tps (fullP ps'),rfl,hT,go2.turn,by decide,fun _=>?_,fun z=>absurd (by rw [tps_tps]; exact hG) z⟩)⟩
  rw [tps_tps]
  walk_at "d"
  rw [show eff (.tuple [gD (trn (madeP (trn R) ((p : Int)).toNat (fullP ps'))),.str (Str.ofString "join in"),.int (((((fullP ps').map pD).length : Nat) : Int) - 1)]) (kcons (gD (trn (madeP (trn R) ((p : Int)).toNat (fullP ps')))) (.own []) (.own [])) = .own [] from rfl]
  refine ⟨by simp,?_⟩
  have e9 : (L.map itD ++ [PyData.tuple [gD (trn (madeP (trn R) ((p : Int)).toNat (fullP ps'))),.str (Str.ofString "join in"),.int (((((fullP ps').map pD).length : Nat) : Int) - 1)]]) = (L ++ [(⟨n + ((fullP ps').length - 1),trn (madeP (trn R) p (fullP ps')),true,((((fullP ps').map pD).length : Nat) : Int) - 1⟩ : It4)]).map itD:=by rw [map_append]; rfl
  rw [e9]
  walk_at "d"
  refine q _ fun x hx=>?_
  rcases mem_append.mp hx with hx | hx
  ·exact hL x hx
  ·rw [mem_singleton.mp hx]
   exact ⟨msh,by show 1 <= n + _; omega,by show n + _ <= 200; omega⟩
def sp_lawD : SpD:=fun ds Q _=>∃ ns,ds = [scr ns] /\ ∀ o,Q (.bool true) o
abbrev s_law : Stmt:=top 43
theorem sc_law : FnScope ["_law_script","_law_table_here","_law_big_here","_law_p","_law_any_ones","_law_q","_law_m","_law_word","_law_split","_law_number"] ["_law_script"] (defScope s_law):=by walk_at "sc"
theorem ok_lawD {f : Addr} {fd : FuncData} (F : Fun K "law" "law" s_law f fd) (T : Blt mg) (D_l_big : Df P w K mg base "_law_big" ["_law_script","_law_at"] 2 (SpL K sp_big)) (D_l_table : Df P w K mg base "_law_table" ["_law_big_here"] 2 (SpL K sp_table)) (D_l_is_table : Df P w K mg base "_law_is_table" ["_law_told_here"] 2 (SpL K sp_ist)) (D_l_good : Df P w K mg base "_law_good" ["_law_table_here","_law_word","_law_p","_law_m"] 7 (SpL K sp_good)) (D_l_split_ones : Df P w K mg base "_law_split_ones" ["_law_table_here","_law_p","_law_big_here"] 6 (SpL K sp_so1)) : FnOk P w K mg base CX0 8 f fd ["_law_script"] (SpL K sp_lawD):=by
 refine ok0 F sc_law (fun ds Q X h=>?_) (fun cdv A outer s H E hr=>?_) fun ds Qd Xd h=>h
 ·obtain ⟨ns,rfl,_⟩:=h; rfl
 refine ⟨_,(dpss_cons (dpset 1 sc_law.nd (dpe_df (by exact D_l_table) (by exact hr.mono (by omega)) (dpa_cons (dpe_df (by exact D_l_big) (by exact hr.mono (by omega)) (dpa_cons (dpv 0) (dpa_cons dpe_int dpa_nil))) dpa_nil)))
   (dpss_cons (dpset 2 sc_law.nd (dpe_df (by exact D_l_big) (by exact hr.mono (by omega)) (dpa_cons (dpv 0) (dpa_cons dpe_int dpa_nil))))
   (dpss_cons (dpset 3 sc_law.nd (dpe_op dop_mod (dpv 2) (dpe_callB (dcl_len (by rfl)) (by rfl) (by exact T.len) (by decide +kernel) (dpa_cons (dpv 1) dpa_nil))))
   (dpss_cons (dpset 4 sc_law.nd (dpe_df (by exact D_l_big) (by exact hr.mono (by omega)) (dpa_cons (dpv 0) (dpa_cons dpe_int dpa_nil))))
   (dpss_cons (dpset 5 sc_law.nd (dpe_op dop_sub (dpe_op dop_mod (dpv 4) (dpe_op dop_add (dpe_callB (dcl_len (by rfl)) (by rfl) (by exact T.len) (by decide +kernel) (dpa_cons (dpv 1) dpa_nil)) dpe_int)) dpe_int))
   (dpss_cons (dpset 6 sc_law.nd (dpe_op dop_sub (dpe_op dop_mod (dpe_op dop_fdiv (dpv 4) dpe_int) dpe_int) dpe_int))
   (dpss_cons (dps_for PassesOwn.never rfl (dpi_tup (by rfl) (dpe_tup (dpa_cons dpe_str (dpa_cons dpe_str dpa_nil)))) (dpgn 7 sc_law.nd) (dpss_one (dps_if (dPWpt (dpw_or (dpt_not (dpt_val (dpe_df (by exact D_l_good) (by exact hr.mono (by omega)) (dpa_cons (dpv 1) (dpa_cons (dpv 7) (dpa_cons (dpv 5) (dpa_cons (dpv 6) dpa_nil))))))) (dpw_or1 (dpt_not (dpt_val (dpe_df (by exact D_l_good) (by exact hr.mono (by omega)) (dpa_cons (dpv 1) (dpa_cons (dpv 7) (dpa_cons dpe_int (dpa_cons dpe_int dpa_nil)))))))))) (dpss_one (dps_ret dpe_bl)) dpss_nil)))
   (dpss_cons (dps_for PassesOwn.never rfl (dpi_list (by rfl) (dpe_df (by exact D_l_split_ones) (by exact hr.mono (by omega)) (dpa_cons (dpv 1) (dpa_cons (dpv 3) (dpa_cons (dpe_op dop_fdiv (dpv 2) dpe_int) dpa_nil))))) (dpg_tup 3 (by rfl) (by rfl) (dpgs_cons (dpgn 8 sc_law.nd) (dpgs_cons (dpgn 7 sc_law.nd) (dpgs_cons (dpgn 9 sc_law.nd) dpgs_nil))) (by rfl) (by rfl)) (dpss_cons (dps_if (dPWpt (dpw_or (dpt_not (dpt_val (dpe_df (by exact D_l_is_table) (by exact hr.mono (by omega)) (dpa_cons (dpv 8) dpa_nil)))) (dpw_or1 (dpt_not (dpt_val (dpe_df (by exact D_l_good) (by exact hr.mono (by omega)) (dpa_cons (dpv 8) (dpa_cons (dpv 7) (dpa_cons (dpv 3) (dpa_cons (dpv 9) dpa_nil)))))))))) (dpss_one (dps_ret dpe_bl)) dpss_nil)
   (dpss_one (dps_if (dPWpt (dpw_or (dpt_not (dpt_val (dpe_df (by exact D_l_good) (by exact hr.mono (by omega)) (dpa_cons (dpv 8) (dpa_cons (dpv 7) (dpa_cons (dpv 3) (dpa_cons (dpe_op dop_add (dpv 9) dpe_int) dpa_nil))))))) (dpw_or1 (dpt_not (dpt_val (dpe_df (by exact D_l_good) (by exact hr.mono (by omega)) (dpa_cons (dpv 8) (dpa_cons (dpv 7) (dpa_cons (dpv 5) (dpa_cons (dpe_callB (dcl_max (by rfl) (by rfl)) (by rfl) (by exact T.max) (by decide +kernel) (dpa_cons dpe_int (dpa_cons (dpe_op dop_sub (dpv 9) dpe_int) dpa_nil))) dpa_nil)))))))))) (dpss_one (dps_ret dpe_bl)) dpss_nil))))
   (dpss_one (dps_ret dpe_bl)))))))))),fun ds Qd h=>?_⟩
 obtain ⟨ns,rfl,q⟩:=h
 show (_ : TSD) _ [some (false,scr ns),none,none,none,none,none,none,none,none,none] _
 walk_at "d"
 refine ⟨ns,0,rfl,by omega,fun z hz=>?_⟩
 walk_at "d"
 refine ⟨z,rfl,hz,fun n R hT=>?_⟩
 have hn:=hT.2.2.1.1
 have hn1:=hT.1
 have h6:=hT.2.1
 walk_at "d"
 refine ⟨ns,1,rfl,by omega,fun z1 hz1=>?_⟩
 walk_at "d"
 rw [hn]
 refine ⟨by omega,?_⟩
 obtain ⟨p,hp,ep⟩ : ∃ p : Nat,p < n /\ z1 % (n : Int) = (p : Int):=by
  have:=Int.emod_nonneg z1 (show (n : Int) ≠ 0 by omega)
  have:=Int.emod_lt_of_pos z1 (show (0 : Int) < n by omega)
  exact ⟨(z1 % (n : Int)).toNat,by omega,by omega⟩
 rw [ep]
 walk_at "d"
 refine ⟨2,rfl,by omega,fun z2 hz2=>?_⟩
 walk_at "d"
 try rw [hn]
 try refine ⟨by omega,?_⟩
 walk_at "d"
 generalize z2 % ((n : Int) + 2) - 1 = zq
 generalize z2 / 8 % 8 - 1 = zm
 refine lp_list (fun i ρ=>∃ x7 : Option (Bool × D),ρ = [some (false,scr ns),some (true,gD R),some (false,.int z1),some (false,.int p),some (false,.int z2),some (false,.int zq),some (false,.int zm),x7,none,none]) ⟨_,rfl⟩ ?_ ?_
 ·rintro i d ρ hd ⟨x7,rfl⟩
  obtain ⟨b,rfl⟩ : ∃ b,d = .str (wdD b):=by
   match i,hd with
   | 0,hd=>cases hd; exact ⟨false,rfl⟩
   | 1,hd=>cases hd; exact ⟨true,rfl⟩
   | _ + 2,hd=>simp at hd
  walk_at "d"
  refine ⟨n,b,zq,zm,R,rfl,hT.2.2.1,hn1,by omega,?_⟩
  walk_at "d"
  try rw [if_neg (fun z=>by cases z)]
  walk_at "d"
  refine ⟨n,b,0,1,R,rfl,hT.2.2.1,hn1,by omega,?_⟩
  walk_at "d"
  exact ⟨_,rfl⟩
 rintro ρ ⟨x7,rfl⟩
 walk_at "d"
 refine ⟨n,p,z1 / 6,R,rfl,hT,hp,Int.ediv_nonneg hz1 (by decide),fun L hL=>?_⟩
 walk_at "d"
 refine lp_list (fun i ρ=>∃ x7 x8 x9 : Option (Bool × D),ρ = [some (false,scr ns),some (true,gD R),some (false,.int z1),some (false,.int p),some (false,.int z2),some (false,.int zq),some (false,.int zm),x7,x8,x9]) ⟨_,_,_,rfl⟩ ?_ ?_
 ·rintro i d ρ hd ⟨x7,x8,x9,rfl⟩
  obtain ⟨y,hy,rfl⟩ : ∃ y,y ∈ L /\ d = itD y:=by
   obtain ⟨y,h1,h2⟩:=mem_map.mp (mem_iff_getElem?.mpr ⟨i,hd⟩)
   exact ⟨y,h1,h2.symm⟩
  obtain ⟨ysh,y1,y2⟩:=hL y hy
  rw [show itD y = .tuple [gD y.g,.str (wdD y.b),.int y.m] from rfl]
  walk_at "d"
  refine ⟨_,rfl,fun r hr=>by have:=ysh.2 r hr; omega,?_⟩
  walk_at "d"
  try rw [if_neg (fun z=>by cases z)]
  walk_at "d"
  refine ⟨y.n,y.b,p,y.m,y.g,rfl,ysh,y1,y2,?_⟩
  walk_at "d"
  refine ⟨y.n,y.b,p,y.m + 1,y.g,rfl,ysh,y1,y2,?_⟩
  walk_at "d"
  try rw [if_neg (fun z=>by cases z)]
  walk_at "d"
  refine ⟨y.n,y.b,zq,_,y.g,rfl,ysh,y1,y2,?_⟩
  walk_at "d"
  exact ⟨_,_,_,rfl⟩
 rintro ρ ⟨x7,x8,x9,rfl⟩
 walk_at "d"
 exact q _
def sp_lawH (K : W.Frag) : Sp:=fun vs H Q _=>∃ (a : Addr) (ns : List Int),vs = [.ref a] /\ SqL K H a (ns.map V.int) /\ ∀ H',Q (.bl true) H'
theorem law_of {vs : List V} {H : Hp} {Q : VK} {E : XK} (h : sp_lawH K vs H Q E) : SpL K sp_lawD vs H Q E:=by
 obtain ⟨a,ns,rfl,hS,q⟩:=h
 refine ⟨[scr ns],fun d _=>d = .bool true,Xf,.cons (.scr ns hS) .nil,⟨ns,rfl,fun _=>rfl⟩,fun d o v H' e _ r=>?_,fun _ _ z _=>z.elim⟩
 subst e
 have hv : Dn K H' v (.bool true):=by
  cases o with
  | true=>obtain ⟨ms,h1,_⟩:=r; exact h1.den
  | false=>exact r
 cases hv
 exact q H'
theorem ok_law {f : Addr} {fd : FuncData} (F : Fun K "law" "law" s_law f fd) (T : Blt mg) (D_l_big : Df P w K mg base "_law_big" ["_law_script","_law_at"] 2 (SpL K sp_big)) (D_l_table : Df P w K mg base "_law_table" ["_law_big_here"] 2 (SpL K sp_table)) (D_l_is_table : Df P w K mg base "_law_is_table" ["_law_told_here"] 2 (SpL K sp_ist)) (D_l_good : Df P w K mg base "_law_good" ["_law_table_here","_law_word","_law_p","_law_m"] 7 (SpL K sp_good)) (D_l_split_ones : Df P w K mg base "_law_split_ones" ["_law_table_here","_law_p","_law_big_here"] 6 (SpL K sp_so1)) : FnOk P w K mg base CX0 8 f fd ["_law_script"] (sp_lawH K):=(ok_lawD F T D_l_big D_l_table D_l_is_table D_l_good D_l_split_ones).imp fun _ _ _ _ h=>law_of h
end
theorem len0 (us : List Value) (h : us.length = 0) : us = []:=List.eq_nil_of_length_eq_zero h
theorem len1 (us : List Value) (h : us.length = 1) : ∃ a0,us = [a0]:=by
 cases us with
 | nil=>exact absurd h.symm (Nat.succ_ne_zero _)
 | cons a r =>
  have e:=len0 r (Nat.succ.inj h)
  subst e
  exact ⟨a,rfl⟩
theorem len2 (us : List Value) (h : us.length = 2) : ∃ a0 a1,us = [a0,a1]:=by
 cases us with
 | nil=>exact absurd h.symm (Nat.succ_ne_zero _)
 | cons a r =>
  obtain ⟨a1,e⟩:=len1 r (Nat.succ.inj h)
  subst e
  exact ⟨a,a1,rfl⟩
theorem len3 (us : List Value) (h : us.length = 3) : ∃ a0 a1 a2,us = [a0,a1,a2]:=by
 cases us with
 | nil=>exact absurd h.symm (Nat.succ_ne_zero _)
 | cons a r =>
  obtain ⟨a1,a2,e⟩:=len2 r (Nat.succ.inj h)
  subst e
  exact ⟨a,a1,a2,rfl⟩
theorem len4 (us : List Value) (h : us.length = 4) : ∃ a0 a1 a2 a3,us = [a0,a1,a2,a3]:=by
 cases us with
 | nil=>exact absurd h.symm (Nat.succ_ne_zero _)
 | cons a r =>
  obtain ⟨a1,a2,a3,e⟩:=len3 r (Nat.succ.inj h)
  subst e
  exact ⟨a,a1,a2,a3,rfl⟩
theorem all_mk {l : PySem.W.OpenLaw} {w : World} {K : W.Frag} {h : Heap} {mg : Str -> Option Value} {fa : Addr} (X : K.In h) (G : h.Ns mainGlobals mg) (hfa : mg "law" = some (.ref fa))
  {od1 an1 : Option Addr} {sl1 : Array (Option Value)} {oc1 kV1 dc1 pm1 cd1 ct1 : Value} {f1 : Addr}
  {od2 an2 : Option Addr} {sl2 : Array (Option Value)} {oc2 kV2 dc2 pm2 cd2 ct2 : Value} {f2 : Addr}
  {od3 an3 : Option Addr} {sl3 : Array (Option Value)} {oc3 kV3 dc3 pm3 cd3 ct3 : Value} {f3 : Addr}
  {od4 an4 : Option Addr} {sl4 : Array (Option Value)} {oc4 kV4 dc4 pm4 cd4 ct4 : Value} {f4 : Addr}
  {od5 an5 : Option Addr} {sl5 : Array (Option Value)} {oc5 kV5 dc5 pm5 cd5 ct5 : Value} {f5 : Addr}
  {od6 an6 : Option Addr} {sl6 : Array (Option Value)} {oc6 kV6 dc6 pm6 cd6 ct6 : Value} {f6 : Addr}
  {od7 an7 : Option Addr} {sl7 : Array (Option Value)} {oc7 kV7 dc7 pm7 cd7 ct7 : Value} {f7 : Addr}
  {od8 an8 : Option Addr} {sl8 : Array (Option Value)} {oc8 kV8 dc8 pm8 cd8 ct8 : Value} {f8 : Addr}
  {od9 an9 : Option Addr} {sl9 : Array (Option Value)} {oc9 kV9 dc9 pm9 cd9 ct9 : Value} {f9 : Addr}
  {od10 an10 : Option Addr} {sl10 : Array (Option Value)} {oc10 kV10 dc10 pm10 cd10 ct10 : Value} {f10 : Addr}
  {od11 an11 : Option Addr} {sl11 : Array (Option Value)} {oc11 kV11 dc11 pm11 cd11 ct11 : Value} {f11 : Addr}
  {od12 an12 : Option Addr} {sl12 : Array (Option Value)} {oc12 kV12 dc12 pm12 cd12 ct12 : Value} {f12 : Addr}
  {od13 an13 : Option Addr} {sl13 : Array (Option Value)} {oc13 kV13 dc13 pm13 cd13 ct13 : Value} {f13 : Addr}
  {od14 an14 : Option Addr} {sl14 : Array (Option Value)} {oc14 kV14 dc14 pm14 cd14 ct14 : Value} {f14 : Addr}
  {od15 an15 : Option Addr} {sl15 : Array (Option Value)} {oc15 kV15 dc15 pm15 cd15 ct15 : Value} {f15 : Addr}
  {od16 an16 : Option Addr} {sl16 : Array (Option Value)} {oc16 kV16 dc16 pm16 cd16 ct16 : Value} {f16 : Addr}
  {od17 an17 : Option Addr} {sl17 : Array (Option Value)} {oc17 kV17 dc17 pm17 cd17 ct17 : Value} {f17 : Addr}
  {od18 an18 : Option Addr} {sl18 : Array (Option Value)} {oc18 kV18 dc18 pm18 cd18 ct18 : Value} {f18 : Addr}
  {od19 an19 : Option Addr} {sl19 : Array (Option Value)} {oc19 kV19 dc19 pm19 cd19 ct19 : Value} {f19 : Addr}
  {od20 an20 : Option Addr} {sl20 : Array (Option Value)} {oc20 kV20 dc20 pm20 cd20 ct20 : Value} {f20 : Addr}
  {od21 an21 : Option Addr} {sl21 : Array (Option Value)} {oc21 kV21 dc21 pm21 cd21 ct21 : Value} {f21 : Addr}
  {od22 an22 : Option Addr} {sl22 : Array (Option Value)} {oc22 kV22 dc22 pm22 cd22 ct22 : Value} {f22 : Addr}
  {od23 an23 : Option Addr} {sl23 : Array (Option Value)} {oc23 kV23 dc23 pm23 cd23 ct23 : Value} {f23 : Addr}
  {od24 an24 : Option Addr} {sl24 : Array (Option Value)} {oc24 kV24 dc24 pm24 cd24 ct24 : Value} {f24 : Addr}
  {od25 an25 : Option Addr} {sl25 : Array (Option Value)} {oc25 kV25 dc25 pm25 cd25 ct25 : Value} {f25 : Addr}
  {od26 an26 : Option Addr} {sl26 : Array (Option Value)} {oc26 kV26 dc26 pm26 cd26 ct26 : Value} {f26 : Addr}
  {od27 an27 : Option Addr} {sl27 : Array (Option Value)} {oc27 kV27 dc27 pm27 cd27 ct27 : Value} {f27 : Addr}
  {od28 an28 : Option Addr} {sl28 : Array (Option Value)} {oc28 kV28 dc28 pm28 cd28 ct28 : Value} {f28 : Addr}
  {od29 an29 : Option Addr} {sl29 : Array (Option Value)} {oc29 kV29 dc29 pm29 cd29 ct29 : Value} {f29 : Addr}
  {od30 an30 : Option Addr} {sl30 : Array (Option Value)} {oc30 kV30 dc30 pm30 cd30 ct30 : Value} {f30 : Addr}
  {od31 an31 : Option Addr} {sl31 : Array (Option Value)} {oc31 kV31 dc31 pm31 cd31 ct31 : Value} {f31 : Addr}
  {od32 an32 : Option Addr} {sl32 : Array (Option Value)} {oc32 kV32 dc32 pm32 cd32 ct32 : Value} {f32 : Addr}
  (a1 : PySem.W.nsIn K mainGlobals "require_place" = some (some (.ref f1))) (l1 : K.lookup f1 = some ⟨oc1,od1,.func (PySem.W.fnOf "require_place" "require_place" (defArgs s_require_place) (defBody s_require_place) (defScope s_require_place) .none kV1 dc1 pm1 an1 cd1 ct1),sl1⟩) (c1 : PySem.W.codeIn K cd1 "require_place" = true) (k1 : PySem.W.keepIn K (.ref f1) = true)
  (a2 : PySem.W.nsIn K mainGlobals "require_pieces" = some (some (.ref f2))) (l2 : K.lookup f2 = some ⟨oc2,od2,.func (PySem.W.fnOf "require_pieces" "require_pieces" (defArgs s_require_pieces) (defBody s_require_pieces) (defScope s_require_pieces) .none kV2 dc2 pm2 an2 cd2 ct2),sl2⟩) (c2 : PySem.W.codeIn K cd2 "require_pieces" = true) (k2 : PySem.W.keepIn K (.ref f2) = true)
  (a3 : PySem.W.nsIn K mainGlobals "joined_places" = some (some (.ref f3))) (l3 : K.lookup f3 = some ⟨oc3,od3,.func (PySem.W.fnOf "joined_places" "joined_places" (defArgs s_joined_places) (defBody s_joined_places) (defScope s_joined_places) .none kV3 dc3 pm3 an3 cd3 ct3),sl3⟩) (c3 : PySem.W.codeIn K cd3 "joined_places" = true) (k3 : PySem.W.keepIn K (.ref f3) = true)
  (a4 : PySem.W.nsIn K mainGlobals "require_joined" = some (some (.ref f4))) (l4 : K.lookup f4 = some ⟨oc4,od4,.func (PySem.W.fnOf "require_joined" "require_joined" (defArgs s_require_joined) (defBody s_require_joined) (defScope s_require_joined) .none kV4 dc4 pm4 an4 cd4 ct4),sl4⟩) (c4 : PySem.W.codeIn K cd4 "require_joined" = true) (k4 : PySem.W.keepIn K (.ref f4) = true)
  (a5 : PySem.W.nsIn K mainGlobals "vetted" = some (some (.ref f5))) (l5 : K.lookup f5 = some ⟨oc5,od5,.func (PySem.W.fnOf "vetted" "vetted" (defArgs s_vetted) (defBody s_vetted) (defScope s_vetted) .none kV5 dc5 pm5 an5 cd5 ct5),sl5⟩) (c5 : PySem.W.codeIn K cd5 "vetted" = true) (k5 : PySem.W.keepIn K (.ref f5) = true)
  (a6 : PySem.W.nsIn K mainGlobals "split_out" = some (some (.ref f6))) (l6 : K.lookup f6 = some ⟨oc6,od6,.func (PySem.W.fnOf "split_out" "split_out" (defArgs s_split_out) (defBody s_split_out) (defScope s_split_out) .none kV6 dc6 pm6 an6 cd6 ct6),sl6⟩) (c6 : PySem.W.codeIn K cd6 "split_out" = true) (k6 : PySem.W.keepIn K (.ref f6) = true)
  (a7 : PySem.W.nsIn K mainGlobals "joined_out" = some (some (.ref f7))) (l7 : K.lookup f7 = some ⟨oc7,od7,.func (PySem.W.fnOf "joined_out" "joined_out" (defArgs s_joined_out) (defBody s_joined_out) (defScope s_joined_out) .none kV7 dc7 pm7 an7 cd7 ct7),sl7⟩) (c7 : PySem.W.codeIn K cd7 "joined_out" = true) (k7 : PySem.W.keepIn K (.ref f7) = true)
  (a8 : PySem.W.nsIn K mainGlobals "flipped" = some (some (.ref f8))) (l8 : K.lookup f8 = some ⟨oc8,od8,.func (PySem.W.fnOf "flipped" "flipped" (defArgs s_flipped) (defBody s_flipped) (defScope s_flipped) .none kV8 dc8 pm8 an8 cd8 ct8),sl8⟩) (c8 : PySem.W.codeIn K cd8 "flipped" = true) (k8 : PySem.W.keepIn K (.ref f8) = true)
  (a9 : PySem.W.nsIn K mainGlobals "move_turned" = some (some (.ref f9))) (l9 : K.lookup f9 = some ⟨oc9,od9,.func (PySem.W.fnOf "move_turned" "move_turned" (defArgs s_move_turned) (defBody s_move_turned) (defScope s_move_turned) .none kV9 dc9 pm9 an9 cd9 ct9),sl9⟩) (c9 : PySem.W.codeIn K cd9 "move_turned" = true) (k9 : PySem.W.keepIn K (.ref f9) = true)
  (a10 : PySem.W.nsIn K mainGlobals "split_done" = some (some (.ref f10))) (l10 : K.lookup f10 = some ⟨oc10,od10,.func (PySem.W.fnOf "split_done" "split_done" (defArgs s_split_done) (defBody s_split_done) (defScope s_split_done) .none kV10 dc10 pm10 an10 cd10 ct10),sl10⟩) (c10 : PySem.W.codeIn K cd10 "split_done" = true) (k10 : PySem.W.keepIn K (.ref f10) = true)
  (a11 : PySem.W.nsIn K mainGlobals "split_back" = some (some (.ref f11))) (l11 : K.lookup f11 = some ⟨oc11,od11,.func (PySem.W.fnOf "split_back" "split_back" (defArgs s_split_back) (defBody s_split_back) (defScope s_split_back) .none kV11 dc11 pm11 an11 cd11 ct11),sl11⟩) (c11 : PySem.W.codeIn K cd11 "split_back" = true) (k11 : PySem.W.keepIn K (.ref f11) = true)
  (a12 : PySem.W.nsIn K mainGlobals "_law_cell_at" = some (some (.ref f12))) (l12 : K.lookup f12 = some ⟨oc12,od12,.func (PySem.W.fnOf "_law_cell_at" "_law_cell_at" (defArgs s_l_cell_at) (defBody s_l_cell_at) (defScope s_l_cell_at) .none kV12 dc12 pm12 an12 cd12 ct12),sl12⟩) (c12 : PySem.W.codeIn K cd12 "_law_cell_at" = true) (k12 : PySem.W.keepIn K (.ref f12) = true)
  (a13 : PySem.W.nsIn K mainGlobals "_law_big" = some (some (.ref f13))) (l13 : K.lookup f13 = some ⟨oc13,od13,.func (PySem.W.fnOf "_law_big" "_law_big" (defArgs s_l_big) (defBody s_l_big) (defScope s_l_big) .none kV13 dc13 pm13 an13 cd13 ct13),sl13⟩) (c13 : PySem.W.codeIn K cd13 "_law_big" = true) (k13 : PySem.W.keepIn K (.ref f13) = true)
  (a14 : PySem.W.nsIn K mainGlobals "_law_order" = some (some (.ref f14))) (l14 : K.lookup f14 = some ⟨oc14,od14,.func (PySem.W.fnOf "_law_order" "_law_order" (defArgs s_l_order) (defBody s_l_order) (defScope s_l_order) .none kV14 dc14 pm14 an14 cd14 ct14),sl14⟩) (c14 : PySem.W.codeIn K cd14 "_law_order" = true) (k14 : PySem.W.keepIn K (.ref f14) = true)
  (a15 : PySem.W.nsIn K mainGlobals "_law_entry" = some (some (.ref f15))) (l15 : K.lookup f15 = some ⟨oc15,od15,.func (PySem.W.fnOf "_law_entry" "_law_entry" (defArgs s_l_entry) (defBody s_l_entry) (defScope s_l_entry) .none kV15 dc15 pm15 an15 cd15 ct15),sl15⟩) (c15 : PySem.W.codeIn K cd15 "_law_entry" = true) (k15 : PySem.W.keepIn K (.ref f15) = true)
  (a16 : PySem.W.nsIn K mainGlobals "_law_table" = some (some (.ref f16))) (l16 : K.lookup f16 = some ⟨oc16,od16,.func (PySem.W.fnOf "_law_table" "_law_table" (defArgs s_l_table) (defBody s_l_table) (defScope s_l_table) .none kV16 dc16 pm16 an16 cd16 ct16),sl16⟩) (c16 : PySem.W.codeIn K cd16 "_law_table" = true) (k16 : PySem.W.keepIn K (.ref f16) = true)
  (a17 : PySem.W.nsIn K mainGlobals "_law_copy" = some (some (.ref f17))) (l17 : K.lookup f17 = some ⟨oc17,od17,.func (PySem.W.fnOf "_law_copy" "_law_copy" (defArgs s_l_copy) (defBody s_l_copy) (defScope s_l_copy) .none kV17 dc17 pm17 an17 cd17 ct17),sl17⟩) (c17 : PySem.W.codeIn K cd17 "_law_copy" = true) (k17 : PySem.W.keepIn K (.ref f17) = true)
  (a18 : PySem.W.nsIn K mainGlobals "_law_whole" = some (some (.ref f18))) (l18 : K.lookup f18 = some ⟨oc18,od18,.func (PySem.W.fnOf "_law_whole" "_law_whole" (defArgs s_l_whole) (defBody s_l_whole) (defScope s_l_whole) .none kV18 dc18 pm18 an18 cd18 ct18),sl18⟩) (c18 : PySem.W.codeIn K cd18 "_law_whole" = true) (k18 : PySem.W.keepIn K (.ref f18) = true)
  (a19 : PySem.W.nsIn K mainGlobals "_law_from" = some (some (.ref f19))) (l19 : K.lookup f19 = some ⟨oc19,od19,.func (PySem.W.fnOf "_law_from" "_law_from" (defArgs s_l_from) (defBody s_l_from) (defScope s_l_from) .none kV19 dc19 pm19 an19 cd19 ct19),sl19⟩) (c19 : PySem.W.codeIn K cd19 "_law_from" = true) (k19 : PySem.W.keepIn K (.ref f19) = true)
  (a20 : PySem.W.nsIn K mainGlobals "_law_turned" = some (some (.ref f20))) (l20 : K.lookup f20 = some ⟨oc20,od20,.func (PySem.W.fnOf "_law_turned" "_law_turned" (defArgs s_l_turned) (defBody s_l_turned) (defScope s_l_turned) .none kV20 dc20 pm20 an20 cd20 ct20),sl20⟩) (c20 : PySem.W.codeIn K cd20 "_law_turned" = true) (k20 : PySem.W.keepIn K (.ref f20) = true)
  (a21 : PySem.W.nsIn K mainGlobals "_law_turned_arrows" = some (some (.ref f21))) (l21 : K.lookup f21 = some ⟨oc21,od21,.func (PySem.W.fnOf "_law_turned_arrows" "_law_turned_arrows" (defArgs s_l_turned_arrows) (defBody s_l_turned_arrows) (defScope s_l_turned_arrows) .none kV21 dc21 pm21 an21 cd21 ct21),sl21⟩) (c21 : PySem.W.codeIn K cd21 "_law_turned_arrows" = true) (k21 : PySem.W.keepIn K (.ref f21) = true)
  (a22 : PySem.W.nsIn K mainGlobals "_law_parted" = some (some (.ref f22))) (l22 : K.lookup f22 = some ⟨oc22,od22,.func (PySem.W.fnOf "_law_parted" "_law_parted" (defArgs s_l_parted) (defBody s_l_parted) (defScope s_l_parted) .none kV22 dc22 pm22 an22 cd22 ct22),sl22⟩) (c22 : PySem.W.codeIn K cd22 "_law_parted" = true) (k22 : PySem.W.keepIn K (.ref f22) = true)
  (a23 : PySem.W.nsIn K mainGlobals "_law_full" = some (some (.ref f23))) (l23 : K.lookup f23 = some ⟨oc23,od23,.func (PySem.W.fnOf "_law_full" "_law_full" (defArgs s_l_full) (defBody s_l_full) (defScope s_l_full) .none kV23 dc23 pm23 an23 cd23 ct23),sl23⟩) (c23 : PySem.W.codeIn K cd23 "_law_full" = true) (k23 : PySem.W.keepIn K (.ref f23) = true)
  (a24 : PySem.W.nsIn K mainGlobals "_law_is_table" = some (some (.ref f24))) (l24 : K.lookup f24 = some ⟨oc24,od24,.func (PySem.W.fnOf "_law_is_table" "_law_is_table" (defArgs s_l_is_table) (defBody s_l_is_table) (defScope s_l_is_table) .none kV24 dc24 pm24 an24 cd24 ct24),sl24⟩) (c24 : PySem.W.codeIn K cd24 "_law_is_table" = true) (k24 : PySem.W.keepIn K (.ref f24) = true)
  (a25 : PySem.W.nsIn K mainGlobals "_law_joined_places" = some (some (.ref f25))) (l25 : K.lookup f25 = some ⟨oc25,od25,.func (PySem.W.fnOf "_law_joined_places" "_law_joined_places" (defArgs s_l_joined_places) (defBody s_l_joined_places) (defScope s_l_joined_places) .none kV25 dc25 pm25 an25 cd25 ct25),sl25⟩) (c25 : PySem.W.codeIn K cd25 "_law_joined_places" = true) (k25 : PySem.W.keepIn K (.ref f25) = true)
  (a26 : PySem.W.nsIn K mainGlobals "_law_join" = some (some (.ref f26))) (l26 : K.lookup f26 = some ⟨oc26,od26,.func (PySem.W.fnOf "_law_join" "_law_join" (defArgs s_l_join) (defBody s_l_join) (defScope s_l_join) .none kV26 dc26 pm26 an26 cd26 ct26),sl26⟩) (c26 : PySem.W.codeIn K cd26 "_law_join" = true) (k26 : PySem.W.keepIn K (.ref f26) = true)
  (a27 : PySem.W.nsIn K mainGlobals "_law_told" = some (some (.ref f27))) (l27 : K.lookup f27 = some ⟨oc27,od27,.func (PySem.W.fnOf "_law_told" "_law_told" (defArgs s_l_told) (defBody s_l_told) (defScope s_l_told) .none kV27 dc27 pm27 an27 cd27 ct27),sl27⟩) (c27 : PySem.W.codeIn K cd27 "_law_told" = true) (k27 : PySem.W.keepIn K (.ref f27) = true)
  (a28 : PySem.W.nsIn K mainGlobals "_law_told_back" = some (some (.ref f28))) (l28 : K.lookup f28 = some ⟨oc28,od28,.func (PySem.W.fnOf "_law_told_back" "_law_told_back" (defArgs s_l_told_back) (defBody s_l_told_back) (defScope s_l_told_back) .none kV28 dc28 pm28 an28 cd28 ct28),sl28⟩) (c28 : PySem.W.codeIn K cd28 "_law_told_back" = true) (k28 : PySem.W.keepIn K (.ref f28) = true)
  (a29 : PySem.W.nsIn K mainGlobals "_law_due" = some (some (.ref f29))) (l29 : K.lookup f29 = some ⟨oc29,od29,.func (PySem.W.fnOf "_law_due" "_law_due" (defArgs s_l_due) (defBody s_l_due) (defScope s_l_due) .none kV29 dc29 pm29 an29 cd29 ct29),sl29⟩) (c29 : PySem.W.codeIn K cd29 "_law_due" = true) (k29 : PySem.W.keepIn K (.ref f29) = true)
  (a30 : PySem.W.nsIn K mainGlobals "_law_good" = some (some (.ref f30))) (l30 : K.lookup f30 = some ⟨oc30,od30,.func (PySem.W.fnOf "_law_good" "_law_good" (defArgs s_l_good) (defBody s_l_good) (defScope s_l_good) .none kV30 dc30 pm30 an30 cd30 ct30),sl30⟩) (c30 : PySem.W.codeIn K cd30 "_law_good" = true) (k30 : PySem.W.keepIn K (.ref f30) = true)
  (a31 : PySem.W.nsIn K mainGlobals "_law_split_ones" = some (some (.ref f31))) (l31 : K.lookup f31 = some ⟨oc31,od31,.func (PySem.W.fnOf "_law_split_ones" "_law_split_ones" (defArgs s_l_split_ones) (defBody s_l_split_ones) (defScope s_l_split_ones) .none kV31 dc31 pm31 an31 cd31 ct31),sl31⟩) (c31 : PySem.W.codeIn K cd31 "_law_split_ones" = true) (k31 : PySem.W.keepIn K (.ref f31) = true)
  (a32 : PySem.W.nsIn K mainGlobals "law" = some (some (.ref f32))) (l32 : K.lookup f32 = some ⟨oc32,od32,.func (PySem.W.fnOf "law" "law" (defArgs s_law) (defBody s_law) (defScope s_law) .none kV32 dc32 pm32 an32 cd32 ct32),sl32⟩) (c32 : PySem.W.codeIn K cd32 "law" = true) (k32 : PySem.W.keepIn K (.ref f32) = true)
  {cE0 cM cT cS cW : Addr} {a_TURNED_WORDS n_TURNED_WORDS : Nat} {es_TURNED_WORDS : Array DictEntry}
  (x_RowError : PySem.W.nsIn K mainGlobals "RowError" = some (some (.ref cE0))) (y_RowError : PySem.W.excIn K cE0 bmV "ValueError.__new__" = true) (x_NoMove : PySem.W.nsIn K mainGlobals "NoMove" = some (some (.ref cM))) (y_NoMove : PySem.W.excIn K cM bmV "ValueError.__new__" = true) (x_NoTable : PySem.W.nsIn K mainGlobals "NoTable" = some (some (.ref cT))) (y_NoTable : PySem.W.excIn K cT bmV "ValueError.__new__" = true) (x_NoStep : PySem.W.nsIn K mainGlobals "NoStep" = some (some (.ref cS))) (y_NoStep : PySem.W.excIn K cS bmV "ValueError.__new__" = true) (x_NoWhole : PySem.W.nsIn K mainGlobals "NoWhole" = some (some (.ref cW))) (y_NoWhole : PySem.W.excIn K cW bmV "ValueError.__new__" = true) (u_fitM : PySem.W.kitCls K (.ref cM) (.ref cE0) = some true) (v_fitM : PySem.W.subIn K (.ref cE0) (.type "BaseException") = some true) (i_b : PySem.W.kitAny K (.ref cM) [.ref cT,.ref cS,.ref cW] = some false) (i_gaNoMove : PySem.W.findIn K (.ref cM) "__getattribute__" = some (some (.builtin "BaseException.__getattribute__"))) (i_clNoMove : PySem.W.findIn K (.ref cM) "__class__" = some (some (.builtin "object.__class__"))) (i_ggNoMove : PySem.W.findIn K (.ref cM) "__getattr__" = some none) (i_obNoMove : PySem.W.subIn K (.ref cM) (.type "object") = some true) (i_beNoMove : PySem.W.subIn K (.ref cM) (.type "BaseException") = some true) (i_seNoMove : PySem.W.kitCls K (.ref cM) (.ref cM) = some true) (i_a : PySem.W.kitOne K (.ref cM) (.ref cM) = some true) (g_TURNED_WORDS : PySem.W.nsIn K mainGlobals "TURNED_WORDS" = some (some (.ref a_TURNED_WORDS))) (lk_TURNED_WORDS : K.lookup a_TURNED_WORDS = some ⟨.type "dict",none,.dict es_TURNED_WORDS n_TURNED_WORDS,#[]⟩) (i_sTURNED_WORDS : (a_TURNED_WORDS == sysModules) = false) (hk_TURNED_WORDS : PySem.W.KeysLit w.params es_TURNED_WORDS.toList) (i_rTURNED_WORDS : L2.rowsS es_TURNED_WORDS.toList [("out","in"),("in","out"),("join out","join in"),("join in","join out")] = true)
  (z_len : PySem.W.nsIn K mainGlobals "len" = some none) (z_range : PySem.W.nsIn K mainGlobals "range" = some none) (z_list : PySem.W.nsIn K mainGlobals "list" = some none) (z_int : PySem.W.nsIn K mainGlobals "int" = some none) (z_isinstance : PySem.W.nsIn K mainGlobals "isinstance" = some none) (z_any : PySem.W.nsIn K mainGlobals "any" = some none) (z_all : PySem.W.nsIn K mainGlobals "all" = some none) (z_zip : PySem.W.nsIn K mainGlobals "zip" = some none) (z_sum : PySem.W.nsIn K mainGlobals "sum" = some none) (z_min : PySem.W.nsIn K mainGlobals "min" = some none) (z_max : PySem.W.nsIn K mainGlobals "max" = some none) (z_tuple : PySem.W.nsIn K mainGlobals "tuple" = some none) (z_bool : PySem.W.nsIn K mainGlobals "bool" = some none) (z_enumerate : PySem.W.nsIn K mainGlobals "enumerate" = some none) (z_set : PySem.W.nsIn K mainGlobals "set" = some none) (z_sorted : PySem.W.nsIn K mainGlobals "sorted" = some none) :
  ∃ fd : FuncData,(∀ (s : Shared) (v : Value),BindsTo s fd ⟨[v],[]⟩ [("_law_script",v)]) /\ ∀ base : Heap,K.In base -> base.Ns mainGlobals mg -> FnOk l.prog w K mg base CX0 8 fa fd ["_law_script"] (sp_lawH K):=by
 have e:=hfa.symm.trans (PySem.W.mg_of X G a32)
 cases e
 have T : Blt mg:=⟨PySem.W.mg_none_of X G z_len,PySem.W.mg_none_of X G z_range,PySem.W.mg_none_of X G z_list,PySem.W.mg_none_of X G z_int,PySem.W.mg_none_of X G z_isinstance,PySem.W.mg_none_of X G z_any,PySem.W.mg_none_of X G z_all,PySem.W.mg_none_of X G z_zip,PySem.W.mg_none_of X G z_sum,PySem.W.mg_none_of X G z_min,PySem.W.mg_none_of X G z_max,PySem.W.mg_none_of X G z_tuple,PySem.W.mg_none_of X G z_bool,PySem.W.mg_none_of X G z_enumerate,PySem.W.mg_none_of X G z_set,PySem.W.mg_none_of X G z_sorted⟩
 have F1:=fun_mk (st:=s_require_place) l1 c1 k1
 have b1:=F1.binds (ps:=["table","place"]) fun _ _ _ _ _ _ us hl=>by obtain ⟨_,_,e⟩:=len2 us hl; subst e; rfl
 have F2:=fun_mk (st:=s_require_pieces) l2 c2 k2
 have b2:=F2.binds (ps:=["table","p","pieces"]) fun _ _ _ _ _ _ us hl=>by obtain ⟨_,_,_,e⟩:=len3 us hl; subst e; rfl
 have F3:=fun_mk (st:=s_joined_places) l3 c3 k3
 have b3:=F3.binds (ps:=["table","p","many"]) fun _ _ _ _ _ _ us hl=>by obtain ⟨_,_,_,e⟩:=len3 us hl; subst e; rfl
 have F4:=fun_mk (st:=s_require_joined) l4 c4 k4
 have b4:=F4.binds (ps:=["table","p","many"]) fun _ _ _ _ _ _ us hl=>by obtain ⟨_,_,_,e⟩:=len3 us hl; subst e; rfl
 have F5:=fun_mk (st:=s_vetted) l5 c5 k5
 have b5:=F5.binds (ps:=["table","move"]) fun _ _ _ _ _ _ us hl=>by obtain ⟨_,_,e⟩:=len2 us hl; subst e; rfl
 have F6:=fun_mk (st:=s_split_out) l6 c6 k6
 have b6:=F6.binds (ps:=["table","p","pieces"]) fun _ _ _ _ _ _ us hl=>by obtain ⟨_,_,_,e⟩:=len3 us hl; subst e; rfl
 have F7:=fun_mk (st:=s_joined_out) l7 c7 k7
 have b7:=F7.binds (ps:=["table","p","many"]) fun _ _ _ _ _ _ us hl=>by obtain ⟨_,_,_,e⟩:=len3 us hl; subst e; rfl
 have F8:=fun_mk (st:=s_flipped) l8 c8 k8
 have b8:=F8.binds (ps:=["grid"]) fun _ _ _ _ _ _ us hl=>by obtain ⟨_,e⟩:=len1 us hl; subst e; rfl
 have F9:=fun_mk (st:=s_move_turned) l9 c9 k9
 have b9:=F9.binds (ps:=["move"]) fun _ _ _ _ _ _ us hl=>by obtain ⟨_,e⟩:=len1 us hl; subst e; rfl
 have F10:=fun_mk (st:=s_split_done) l10 c10 k10
 have b10:=F10.binds (ps:=["table","move"]) fun _ _ _ _ _ _ us hl=>by obtain ⟨_,_,e⟩:=len2 us hl; subst e; rfl
 have F11:=fun_mk (st:=s_split_back) l11 c11 k11
 have b11:=F11.binds (ps:=["table","move"]) fun _ _ _ _ _ _ us hl=>by obtain ⟨_,_,e⟩:=len2 us hl; subst e; rfl
 have F12:=fun_mk (st:=s_l_cell_at) l12 c12 k12
 have b12:=F12.binds (ps:=["_law_script","_law_k"]) fun _ _ _ _ _ _ us hl=>by obtain ⟨_,_,e⟩:=len2 us hl; subst e; rfl
 have F13:=fun_mk (st:=s_l_big) l13 c13 k13
 have b13:=F13.binds (ps:=["_law_script","_law_at"]) fun _ _ _ _ _ _ us hl=>by obtain ⟨_,_,e⟩:=len2 us hl; subst e; rfl
 have F14:=fun_mk (st:=s_l_order) l14 c14 k14
 have b14:=F14.binds (ps:=["_law_many","_law_big_here"]) fun _ _ _ _ _ _ us hl=>by obtain ⟨_,_,e⟩:=len2 us hl; subst e; rfl
 have F15:=fun_mk (st:=s_l_entry) l15 c15 k15
 have b15:=F15.binds (ps:=["_law_big_here","_law_way","_law_left"]) fun _ _ _ _ _ _ us hl=>by obtain ⟨_,_,_,e⟩:=len3 us hl; subst e; rfl
 have F16:=fun_mk (st:=s_l_table) l16 c16 k16
 have b16:=F16.binds (ps:=["_law_big_here"]) fun _ _ _ _ _ _ us hl=>by obtain ⟨_,e⟩:=len1 us hl; subst e; rfl
 have F17:=fun_mk (st:=s_l_copy) l17 c17 k17
 have b17:=F17.binds (ps:=["_law_grid"]) fun _ _ _ _ _ _ us hl=>by obtain ⟨_,e⟩:=len1 us hl; subst e; rfl
 have F18:=fun_mk (st:=s_l_whole) l18 c18 k18
 have b18:=F18.binds (ps:=["_law_found"]) fun _ _ _ _ _ _ us hl=>by obtain ⟨_,e⟩:=len1 us hl; subst e; rfl
 have F19:=fun_mk (st:=s_l_from) l19 c19 k19
 have b19:=F19.binds (ps:=["_law_table_here","_law_p"]) fun _ _ _ _ _ _ us hl=>by obtain ⟨_,_,e⟩:=len2 us hl; subst e; rfl
 have F20:=fun_mk (st:=s_l_turned) l20 c20 k20
 have b20:=F20.binds (ps:=["_law_table_here"]) fun _ _ _ _ _ _ us hl=>by obtain ⟨_,e⟩:=len1 us hl; subst e; rfl
 have F21:=fun_mk (st:=s_l_turned_arrows) l21 c21 k21
 have b21:=F21.binds (ps:=["_law_arrows"]) fun _ _ _ _ _ _ us hl=>by obtain ⟨_,e⟩:=len1 us hl; subst e; rfl
 have F22:=fun_mk (st:=s_l_parted) l22 c22 k22
 have b22:=F22.binds (ps:=["_law_arrows","_law_big_here"]) fun _ _ _ _ _ _ us hl=>by obtain ⟨_,_,e⟩:=len2 us hl; subst e; rfl
 have F23:=fun_mk (st:=s_l_full) l23 c23 k23
 have b23:=F23.binds (ps:=["_law_pieces"]) fun _ _ _ _ _ _ us hl=>by obtain ⟨_,e⟩:=len1 us hl; subst e; rfl
 have F24:=fun_mk (st:=s_l_is_table) l24 c24 k24
 have b24:=F24.binds (ps:=["_law_told_here"]) fun _ _ _ _ _ _ us hl=>by obtain ⟨_,e⟩:=len1 us hl; subst e; rfl
 have F25:=fun_mk (st:=s_l_joined_places) l25 c25 k25
 have b25:=F25.binds (ps:=["_law_table_here","_law_p","_law_m"]) fun _ _ _ _ _ _ us hl=>by obtain ⟨_,_,_,e⟩:=len3 us hl; subst e; rfl
 have F26:=fun_mk (st:=s_l_join) l26 c26 k26
 have b26:=F26.binds (ps:=["_law_table_here","_law_p","_law_m"]) fun _ _ _ _ _ _ us hl=>by obtain ⟨_,_,_,e⟩:=len3 us hl; subst e; rfl
 have F27:=fun_mk (st:=s_l_told) l27 c27 k27
 have b27:=F27.binds (ps:=["_law_table_here","_law_move"]) fun _ _ _ _ _ _ us hl=>by obtain ⟨_,_,e⟩:=len2 us hl; subst e; rfl
 have F28:=fun_mk (st:=s_l_told_back) l28 c28 k28
 have b28:=F28.binds (ps:=["_law_table_here","_law_move"]) fun _ _ _ _ _ _ us hl=>by obtain ⟨_,_,e⟩:=len2 us hl; subst e; rfl
 have F29:=fun_mk (st:=s_l_due) l29 c29 k29
 have b29:=F29.binds (ps:=["_law_table_here","_law_word","_law_p","_law_m"]) fun _ _ _ _ _ _ us hl=>by obtain ⟨_,_,_,_,e⟩:=len4 us hl; subst e; rfl
 have F30:=fun_mk (st:=s_l_good) l30 c30 k30
 have b30:=F30.binds (ps:=["_law_table_here","_law_word","_law_p","_law_m"]) fun _ _ _ _ _ _ us hl=>by obtain ⟨_,_,_,_,e⟩:=len4 us hl; subst e; rfl
 have F31:=fun_mk (st:=s_l_split_ones) l31 c31 k31
 have b31:=F31.binds (ps:=["_law_table_here","_law_p","_law_big_here"]) fun _ _ _ _ _ _ us hl=>by obtain ⟨_,_,_,e⟩:=len3 us hl; subst e; rfl
 have F32:=fun_mk (st:=s_law) l32 c32 k32
 refine ⟨PySem.W.fnOf "law" "law" (defArgs s_law) (defBody s_law) (defScope s_law) .none kV32 dc32 pm32 an32 cd32 ct32,fun s v=>.of_eq rfl,fun base _ _=>?_⟩
 have C_RowError : ExC K mg "RowError" cE0:=⟨PySem.W.mg_of X G x_RowError,y_RowError⟩
 have C_NoMove : ExC K mg "NoMove" cM:=⟨PySem.W.mg_of X G x_NoMove,y_NoMove⟩
 have C_NoTable : ExC K mg "NoTable" cT:=⟨PySem.W.mg_of X G x_NoTable,y_NoTable⟩
 have C_NoStep : ExC K mg "NoStep" cS:=⟨PySem.W.mg_of X G x_NoStep,y_NoStep⟩
 have C_NoWhole : ExC K mg "NoWhole" cW:=⟨PySem.W.mg_of X G x_NoWhole,y_NoWhole⟩
 have fitM : Fits K cM cE0:=⟨u_fitM,v_fitM⟩
 have fitK_NoMove : ExK K cM:=⟨i_gaNoMove,i_clNoMove,i_ggNoMove,i_obNoMove,i_beNoMove,i_seNoMove⟩
 have G_TURNED_WORDS : L2.GDcS w.params K mg "TURNED_WORDS" [("out","in"),("in","out"),("join out","join in"),("join in","join out")]:=⟨a_TURNED_WORDS,es_TURNED_WORDS,n_TURNED_WORDS,PySem.W.mg_of X G g_TURNED_WORDS,i_sTURNED_WORDS,lk_TURNED_WORDS,hk_TURNED_WORDS,i_rTURNED_WORDS⟩
 have D_require_place : DfE l.prog w K mg base "require_place" ["table","place"] 1 (DL.SpL K (sp_rp cM)):=⟨_,_,ok_require_place F1 T C_NoMove,PySem.W.mg_of X G a1,k1,b1⟩
 have D_require_pieces : DfE l.prog w K mg base "require_pieces" ["table","p","pieces"] 1 (DL.SpL K (sp_rs cM)):=⟨_,_,ok_require_pieces F2 T C_NoMove,PySem.W.mg_of X G a2,k2,b2⟩
 have D_joined_places : Df l.prog w K mg base "joined_places" ["table","p","many"] 1 (DL.SpL K sp_jp):=⟨_,_,ok_joined_places F3 T ,PySem.W.mg_of X G a3,k3,b3⟩
 have D_require_joined : DfE l.prog w K mg base "require_joined" ["table","p","many"] 2 (DL.SpL K (sp_rj cM)):=⟨_,_,ok_require_joined F4 T C_NoMove D_joined_places,PySem.W.mg_of X G a4,k4,b4⟩
 have D_vetted : DfE l.prog w K mg base "vetted" ["table","move"] 3 (DL.SpL K (sp_vt cM)):=⟨_,_,ok_vetted F5 T C_NoMove D_require_place D_require_pieces D_require_joined,PySem.W.mg_of X G a5,k5,b5⟩
 have D_split_out : Df l.prog w K mg base "split_out" ["table","p","pieces"] 1 (DL.SpL K sp_so):=⟨_,_,ok_split_out F6 T ,PySem.W.mg_of X G a6,k6,b6⟩
 have D_joined_out : Df l.prog w K mg base "joined_out" ["table","p","many"] 2 (DL.SpL K sp_jo):=⟨_,_,ok_joined_out F7 T D_joined_places,PySem.W.mg_of X G a7,k7,b7⟩
 have D_flipped : Df l.prog w K mg base "flipped" ["grid"] 1 (DL.SpL K sp_trn):=⟨_,_,ok_flipped F8 T ,PySem.W.mg_of X G a8,k8,b8⟩
 have D_move_turned : Df l.prog w K mg base "move_turned" ["move"] 1 (DL.SpL K sp_mt):=⟨_,_,ok_move_turned F9 T G_TURNED_WORDS,PySem.W.mg_of X G a9,k9,b9⟩
 have D_split_done : DfE l.prog w K mg base "split_done" ["table","move"] 5 (DL.SpL K (sp_sdn cM 2)):=⟨_,_,ok_split_done F10 T D_vetted D_split_out D_joined_out D_flipped D_move_turned (PySem.W.mg_of X G a10) k10 b10,PySem.W.mg_of X G a10,k10,b10⟩
 have D_split_back : DfE l.prog w K mg base "split_back" ["table","move"] 5 (DL.SpL K (sp_sbn cM 2)):=⟨_,_,ok_split_back F11 T D_vetted D_flipped D_move_turned (PySem.W.mg_of X G a11) k11 b11,PySem.W.mg_of X G a11,k11,b11⟩
 have D_l_cell_at : Df l.prog w K mg base "_law_cell_at" ["_law_script","_law_k"] 1 (DL.SpL K sp_cell):=⟨_,_,ok_l_cell_at F12 T ,PySem.W.mg_of X G a12,k12,b12⟩
 have D_l_big : Df l.prog w K mg base "_law_big" ["_law_script","_law_at"] 2 (DL.SpL K sp_big):=⟨_,_,ok_l_big F13 T D_l_cell_at,PySem.W.mg_of X G a13,k13,b13⟩
 have D_l_order : Df l.prog w K mg base "_law_order" ["_law_many","_law_big_here"] 1 (DL.SpL K sp_order):=⟨_,_,ok_l_order F14 T ,PySem.W.mg_of X G a14,k14,b14⟩
 have D_l_entry : Df l.prog w K mg base "_law_entry" ["_law_big_here","_law_way","_law_left"] 1 (DL.SpL K sp_entry):=⟨_,_,ok_l_entry F15 T ,PySem.W.mg_of X G a15,k15,b15⟩
 have D_l_table : Df l.prog w K mg base "_law_table" ["_law_big_here"] 2 (DL.SpL K sp_table):=⟨_,_,ok_l_table F16 T D_l_order D_l_entry,PySem.W.mg_of X G a16,k16,b16⟩
 have D_l_copy : Df l.prog w K mg base "_law_copy" ["_law_grid"] 1 (DL.SpL K sp_copy):=⟨_,_,ok_l_copy F17 T ,PySem.W.mg_of X G a17,k17,b17⟩
 have D_l_whole : Df l.prog w K mg base "_law_whole" ["_law_found"] 1 (DL.SpL K sp_whole):=⟨_,_,ok_l_whole F18 T ,PySem.W.mg_of X G a18,k18,b18⟩
 have D_l_from : Df l.prog w K mg base "_law_from" ["_law_table_here","_law_p"] 1 (DL.SpL K sp_from):=⟨_,_,ok_l_from F19 T ,PySem.W.mg_of X G a19,k19,b19⟩
 have D_l_turned : Df l.prog w K mg base "_law_turned" ["_law_table_here"] 1 (DL.SpL K sp_trn):=⟨_,_,ok_l_turned F20 T ,PySem.W.mg_of X G a20,k20,b20⟩
 have D_l_turned_arrows : Df l.prog w K mg base "_law_turned_arrows" ["_law_arrows"] 1 (DL.SpL K sp_ta):=⟨_,_,ok_l_turned_arrows F21 T ,PySem.W.mg_of X G a21,k21,b21⟩
 have D_l_parted : Df l.prog w K mg base "_law_parted" ["_law_arrows","_law_big_here"] 1 (DL.SpL K sp_parted):=⟨_,_,ok_l_parted F22 T ,PySem.W.mg_of X G a22,k22,b22⟩
 have D_l_full : Df l.prog w K mg base "_law_full" ["_law_pieces"] 1 (DL.SpLO K sd_fullO):=⟨_,_,ok_l_fullO F23 T ,PySem.W.mg_of X G a23,k23,b23⟩
 have D_l_is_table : Df l.prog w K mg base "_law_is_table" ["_law_told_here"] 2 (DL.SpL K sp_ist):=⟨_,_,ok_l_is_table F24 T D_l_whole,PySem.W.mg_of X G a24,k24,b24⟩
 have D_l_joined_places : Df l.prog w K mg base "_law_joined_places" ["_law_table_here","_law_p","_law_m"] 1 (DL.SpL K sp_ljp):=⟨_,_,ok_l_joined_places F25 T ,PySem.W.mg_of X G a25,k25,b25⟩
 have D_l_join : Df l.prog w K mg base "_law_join" ["_law_table_here","_law_p","_law_m"] 2 (DL.SpL K sp_lj):=⟨_,_,ok_l_join F26 T D_l_joined_places,PySem.W.mg_of X G a26,k26,b26⟩
 have D_l_told : Df l.prog w K mg base "_law_told" ["_law_table_here","_law_move"] 6 (DL.SpL K sp_told):=⟨_,_,ok_l_told F27 T C_RowError C_NoMove C_NoTable C_NoStep C_NoWhole fitM fitK_NoMove i_a i_b D_split_done,PySem.W.mg_of X G a27,k27,b27⟩
 have D_l_told_back : Df l.prog w K mg base "_law_told_back" ["_law_table_here","_law_move"] 6 (DL.SpL K sp_tb):=⟨_,_,ok_l_told_back F28 T C_RowError C_NoMove C_NoTable C_NoStep C_NoWhole fitM fitK_NoMove i_a i_b D_split_back,PySem.W.mg_of X G a28,k28,b28⟩
 have D_l_due : Df l.prog w K mg base "_law_due" ["_law_table_here","_law_word","_law_p","_law_m"] 3 (DL.SpL K sp_due):=⟨_,_,ok_l_due F29 T D_l_turned D_l_join,PySem.W.mg_of X G a29,k29,b29⟩
 have D_l_good : Df l.prog w K mg base "_law_good" ["_law_table_here","_law_word","_law_p","_law_m"] 7 (DL.SpL K sp_good):=⟨_,_,ok_l_good F30 T D_l_copy D_l_is_table D_l_told D_l_told_back D_l_due,PySem.W.mg_of X G a30,k30,b30⟩
 have D_l_split_ones : Df l.prog w K mg base "_law_split_ones" ["_law_table_here","_law_p","_law_big_here"] 6 (DL.SpL K sp_so1):=⟨_,_,ok_l_split_ones F31 T D_split_done D_l_copy D_l_from D_l_turned D_l_turned_arrows D_l_parted D_l_full,PySem.W.mg_of X G a31,k31,b31⟩
 exact ok_law F32 T D_l_big D_l_table D_l_is_table D_l_good D_l_split_ones
theorem walk {l : PySem.W.OpenLaw} {q : Program} {loose : List Str} {XP : (Str -> Option Value) -> Heap -> Prop} {YP : World -> Heap -> Prop} {d : DefRec} {K : Params -> W.Frag} (hn : l.most = some 63) (hdf : d.params.defaults = []) (hi : importsNone q = true)
  (hY : ∀ (w : World) (h : Heap),YP w h -> (K w.params).In h)
  (F : ∀ (w : World) (mg : Str -> Option Value) (fa : Addr) (h : Heap),(K w.params).In h -> h.Ns mainGlobals mg -> mg d.name = some (.ref fa) ->
   ∃ fd : FuncData,(∀ (s : Shared) (u : Value),BindsTo s fd ⟨[u],[]⟩ [("_law_script",u)]) /\ ∀ base : Heap,(K w.params).In base -> base.Ns mainGlobals mg -> FnOk l.prog w (K w.params) mg base CX0 8 fa fd ["_law_script"] (sp_lawH (K w.params))) :
  PySem.W.WalkO q loose XP YP l.row.toRowW d [] (fun f vs=>PySem.call f vs) :=
 L2.walk_of (n:=63) (k:=8) (x:="_law_script") (CX:=fun _=>CX0) (sp:=fun w=>sp_lawH (K w.params)) hn (by decide) hdf ⟨rfl,by decide,by decide,rfl⟩ hi hY F (fun _ _ a ns hl _ hS=>⟨a,ns,rfl,hS,fun _=>rfl⟩) fun _ _ _ _ _ z=>z
end K52
namespace PySem.W.Fast
def tw14634348674465012240:=()
def tw12487211240534594367:=()
def tw14917956054746199851:=()
def tw2806539722250564504:=()
def tw2012070692712077890:=()
def tw7866966591939624134:=()
def tw2818416555651818050:=()
def tw7428356214841895232:=()
def tw14586390336708486686:=()
def tw6802083007886926783:=()
def tw3440933470360360522:=()
def tw18210041203215412298:=()
def tw15402629352760486907:=()
def tw5627741296596468795:=()
def tw8214379089630175987:=()
def tw16716822882267708482:=()
def tw2911317163437275704:=()
def tw5513663870937067249:=()
def tw12186369231513619116:=()
def tw5781621675040029666:=()
def tw13404281985061251548:=()
def tw16830993422052265079:=()
def tw7998489005174402980:=()
def tw11291583439370100340:=()
def tw2804589548864138080:=()
def tw4561481148788913009:=()
def tw18180254014081649075:=()
def tw6613907776670485162:=()
def tw7331202545451777445:=()
def tw4609562402619485430:=()
def tw11488144384131830133:=()
def tw12316417125144591339:=()
def tw8674036564538803967:=()
def tw7434731834757967563:=()
def tw1803201257269026721:=()
def tw11646118714505449869:=()
def tw16371497938502484307:=()
def tw13479540221971999499:=()
def tw10813445569504564989:=()
def tw18420123111657978944:=()
def tw296298224906517550:=()
def tw3187319993137734613:=()
def tw7658604233763235776:=()
def tw13791988579904360480:=()
def tw2313953384783257650:=()
def tw11026115754059627598:=()
def tw3667703583958505781:=()
def tw1407778389854261700:=()
def tw14193272002557514827:=()
def tw2219305439629673700:=()
def tw8723005186712188787:=()
def tw12971798637792399769:=()
def tw7132516947555768218:=()
def tw10339271242188151176:=()
def tw16619367364062092597:=()
def tw3382427914449564476:=()
def tw7441458903814979410:=()
def tw18304810069160025875:=()
def tw6514783744744410016:=()
def tw9869759591555780838:=()
def tw14406133355824971284:=()
def tw11595713221383536094:=()
def tw15414389702521282249:=()
def tw4984986559682603443:=()
def tw13418078293726878309:=()
def tw16730448895242237698:=()
def tw10755268677685080424:=()
def tw95127241678066010:=()
def tw4614199715789774372:=()
def tw9552085401572648108:=()
def tw7214560463930152237:=()
def tw17111521573899204276:=()
def tw4048452338589601337:=()
def tw2398668338421693563:=()
def tw16278279763339301537:=()
def tw8684463575775533601:=()
def tw14568304349828579013:=()
def tw11298071395779135050:=()
def tw13840233732324075518:=()
def tw12800638916067337108:=()
def tw13987418828151800165:=()
def tw650250840276784040:=()
def tw2158832849810768787:=()
def tw8750526405935689510:=()
def tw6251848894855007530:=()
def tw11602842480138201376:=()
def tw11581976718977125878:=()
def tw3560934271500493878:=()
def tw3483253831311432191:=()
def tw17879561430810957323:=()
def tw5279609155376626474:=()
def tw791471989563968837:=()
def tw16551534986242628210:=()
def tw5980510950989336569:=()
def tw5441522636289471939:=()
def tw10448835921050044636:=()
def tw15871784763781388058:=()
def tw3059174172543581342:=()
def tw7143999273656924222:=()
def tw16878767620562827134:=()
def tw8734278205251099407:=()
def tw3071134782931687929:=()
def tw3043206013836027852:=()
def tw5772798831676583035:=()
def tw12806579379858810419:=()
def tw10597148417584941944:=()
def tw1952962371786442661:=()
def tw13877894396850679016:=()
def tw2825856127975545234:=()
def tw13057460468000827573:=()
def tw14505254378841849359:=()
def tw18025009457895525915:=()
def tw12593060315389147547:=()
def tw2658128046714743364:=()
def tw5427498277293936415:=()
def tw16770559694323877225:=()
def tw11156989814148450524:=()
def tw1884366264814282706:=()
def tw14883350031096198197:=()
def tw8677395912055850015:=()
def tw11605075808414561022:=()
def tw814393133843032411:=()
def tw12056007604210382986:=()
def tw12406566073473906469:=()
def tw3926865880857127433:=()
def tw14992871694340664033:=()
def tw15937021447711438579:=()
def tw17566572476485241018:=()
def tw2167435650935995142:=()
def tw12226821042011042049:=()
def tw1603304967580712168:=()
def tw16482424084072133004:=()
def tw11464998133166745024:=()
def tw7732759742713399406:=()
def tw7569268130993751527:=()
def tw1480943139096910318:=()
def tw13538902997807440132:=()
def tw9867760041794276242:=()
def tw3040749715810500452:=()
def tw5196996710694156307:=()
def tw15828449765366873032:=()
def tw7180655157630083764:=()
def tw5978519485012472717:=()
def tw11049683610800917091:=()
def tw3830270382460115706:=()
def tw9787217859662082961:=()
def tw1422666862726785806:=()
def tw3347178354339521602:=()
def tw6414583361569542319:=()
def tw341416682451706171:=()
def tw14847749172090131436:=()
def tw14036948823491274558:=()
def tw17810161852534605057:=()
def tw14773810786370800555:=()
def tw16843411171612734989:=()
def tw11450707472486441666:=()
def tw9903189279438320835:=()
def tw7289636843882873872:=()
def tw3202131499552333744:=()
def tw755880816775592946:=()
def tw13211657245873005188:=()
def tw7296626939116155288:=()
def tw2253926046180233226:=()
def tw10685625653701385216:=()
def tw2831946273850680357:=()
def tw7242381325809628834:=()
def tw4242344201897159100:=()
def tw10527632532999148358:=()
def tw1564583075491317269:=()
def tw6573756454999259432:=()
def tw2171974931354174566:=()
def tw182018048348854985:=()
def tw17053102164232690737:=()
def tw12891774125900395517:=()
def tw3413498312088513718:=()
def tw11776452308869512478:=()
def tw16166254268852057460:=()
def tw7053240246551484482:=()
def tw7304703452544966592:=()
def tw7462844826768287552:=()
def tw15717233664444867587:=()
def tw307011898241730143:=()
def tw12114723919356133770:=()
def tw6458420300663343698:=()
def tw3202079270185742227:=()
def tw17410429542479161004:=()
def tw11070912732407786259:=()
def tw12172704133375319238:=()
def tw17440288086144771850:=()
def tw10409520572978639615:=()
def tw11515361406617105792:=()
def tw17412049592679415822:=()
def tw14230883692998521079:=()
def tw10874237709868829221:=()
def tw1303298413822495952:=()
def tw13722413809455295567:=()
def tw5623542474574137416:=()
def tw6704918046963917373:=()
def tw8737386570012990194:=()
def tw17786761854808946994:=()
def tw16289396663116267519:=()
def tw2222262590843944953:=()
def tw3480203968177128540:=()
def tw1483823384865899566:=()
def tw5026830188981632941:=()
def tw3399816803120736776:=()
def tw12623106092697065029:=()
def tw15094606945756714897:=()
def tw17980316773988472773:=()
def tw6125823028312629345:=()
def tw8489038326638389242:=()
def tw8341234494541124659:=()
def tw5592280968037058042:=()
def tw14147394239090981395:=()
def tw3377598500222160327:=()
def tw16191552605870145831:=()
def tw4495380088912852144:=()
def tw6470883402525361482:=()
def tw15589882708160971371:=()
def tw15718340089007700861:=()
def tw1972438645280941943:=()
def tw6512423632693044718:=()
def tw11433026100672102813:=()
def tw8470847112459784435:=()
def tw17176639882026390442:=()
def tw6863822468717938191:=()
def tw12854880820817749219:=()
def tw2345839265634695963:=()
def tw575874888246012614:=()
def tw10144929516935175141:=()
def tw4222254893726210577:=()
def tw12514504143756991475:=()
def tw4416242357389149932:=()
def tw4736249985454295043:=()
def tw8052489434582690547:=()
def tw3052634801368100868:=()
def tw11834763892389196750:=()
def tw14929811253659249954:=()
def tw14328768892408778357:=()
def tw11551564171677275421:=()
def tw3957243150093599147:=()
def tw6692114564642124569:=()
def tw14870596643189644153:=()
def tw9949401732454516142:=()
def tw11422448883901400189:=()
def tw13020054415665305805:=()
def tw12563935855078890811:=()
def tw4946606747887190635:=()
def tw11293139055456737704:=()
def tw10225222975829218407:=()
def tw11333324448527910757:=()
def tw3379975626556063145:=()
def tw10487563510493853005:=()
def tw11058186920937632261:=()
def tw17253150420945832672:=()
def tw435100503562682750:=()
def tw18188739861943808657:=()
def tw14944688310722651982:=()
def tw9041416142682551152:=()
def tw6832201542519737326:=()
def tw1753464292632818251:=()
def tw15063726454487959828:=()
end PySem.W.Fast
open PySem PySem.W PyProof.Rows
set_option maxRecDepth 100000 in
set_option maxHeartbeats 0 in
theorem PySem.Challenge.cw_foreverrows_k52_joined_holds : PySem.Challenge.rw_foreverrows_k52_joined.Holds := by
 w_on; o_law; k_head; (case hw=>w_witness2)
 k_fill
 refine K52.walk (l := PySem.Challenge.rw_foreverrows_k52_joined) rfl rfl (by decide +kernel) (fun w h Y => PySem.W.kIn_of Y) ?F
 case F =>
  intro w mg fa h KX G hmg
  refine' K52.all_mk KX G hmg ?a1 ?l1 ?c1 ?k1 ?a2 ?l2 ?c2 ?k2 ?a3 ?l3 ?c3 ?k3 ?a4 ?l4 ?c4 ?k4 ?a5 ?l5 ?c5 ?k5 ?a6 ?l6 ?c6 ?k6 ?a7 ?l7 ?c7 ?k7 ?a8 ?l8 ?c8 ?k8 ?a9 ?l9 ?c9 ?k9 ?a10 ?l10 ?c10 ?k10 ?a11 ?l11 ?c11 ?k11 ?a12 ?l12 ?c12 ?k12 ?a13 ?l13 ?c13 ?k13 ?a14 ?l14 ?c14 ?k14 ?a15 ?l15 ?c15 ?k15 ?a16 ?l16 ?c16 ?k16 ?a17 ?l17 ?c17 ?k17 ?a18 ?l18 ?c18 ?k18 ?a19 ?l19 ?c19 ?k19 ?a20 ?l20 ?c20 ?k20 ?a21 ?l21 ?c21 ?k21 ?a22 ?l22 ?c22 ?k22 ?a23 ?l23 ?c23 ?k23 ?a24 ?l24 ?c24 ?k24 ?a25 ?l25 ?c25 ?k25 ?a26 ?l26 ?c26 ?k26 ?a27 ?l27 ?c27 ?k27 ?a28 ?l28 ?c28 ?k28 ?a29 ?l29 ?c29 ?k29 ?a30 ?l30 ?c30 ?k30 ?a31 ?l31 ?c31 ?k31 ?a32 ?l32 ?c32 ?k32 ?x_RowError ?y_RowError ?x_NoMove ?y_NoMove ?x_NoTable ?y_NoTable ?x_NoStep ?y_NoStep ?x_NoWhole ?y_NoWhole ?u_fitM ?v_fitM ?i_b ?i_gaNoMove ?i_clNoMove ?i_ggNoMove ?i_obNoMove ?i_beNoMove ?i_seNoMove ?i_a ?g_TURNED_WORDS ?lk_TURNED_WORDS ?i_sTURNED_WORDS ?hk_TURNED_WORDS ?i_rTURNED_WORDS ?z_len ?z_range ?z_list ?z_int ?z_isinstance ?z_any ?z_all ?z_zip ?z_sum ?z_min ?z_max ?z_tuple ?z_bool ?z_enumerate ?z_set ?z_sorted
  (case a1=>k_is)
  (case l1=>k_is)
  (case c1=>k_is)
  (case k1=>k_is)
  (case a2=>k_is)
  (case l2=>k_is)
  (case c2=>k_is)
  (case k2=>k_is)
  (case a3=>k_is)
  (case l3=>k_is)
  (case c3=>k_is)
  (case k3=>k_is)
  (case a4=>k_is)
  (case l4=>k_is)
  (case c4=>k_is)
  (case k4=>k_is)
  (case a5=>k_is)
  (case l5=>k_is)
  (case c5=>k_is)
  (case k5=>k_is)
  (case a6=>k_is)
  (case l6=>k_is)
  (case c6=>k_is)
  (case k6=>k_is)
  (case a7=>k_is)
  (case l7=>k_is)
  (case c7=>k_is)
  (case k7=>k_is)
  (case a8=>k_is)
  (case l8=>k_is)
  (case c8=>k_is)
  (case k8=>k_is)
  (case a9=>k_is)
  (case l9=>k_is)
  (case c9=>k_is)
  (case k9=>k_is)
  (case a10=>k_is)
  (case l10=>k_is)
  (case c10=>k_is)
  (case k10=>k_is)
  (case a11=>k_is)
  (case l11=>k_is)
  (case c11=>k_is)
  (case k11=>k_is)
  (case a12=>k_is)
  (case l12=>k_is)
  (case c12=>k_is)
  (case k12=>k_is)
  (case a13=>k_is)
  (case l13=>k_is)
  (case c13=>k_is)
  (case k13=>k_is)
  (case a14=>k_is)
  (case l14=>k_is)
  (case c14=>k_is)
  (case k14=>k_is)
  (case a15=>k_is)
  (case l15=>k_is)
  (case c15=>k_is)
  (case k15=>k_is)
  (case a16=>k_is)
  (case l16=>k_is)
  (case c16=>k_is)
  (case k16=>k_is)
  (case a17=>k_is)
  (case l17=>k_is)
  (case c17=>k_is)
  (case k17=>k_is)
  (case a18=>k_is)
  (case l18=>k_is)
  (case c18=>k_is)
  (case k18=>k_is)
  (case a19=>k_is)
  (case l19=>k_is)
  (case c19=>k_is)
  (case k19=>k_is)
  (case a20=>k_is)
  (case l20=>k_is)
  (case c20=>k_is)
  (case k20=>k_is)
  (case a21=>k_is)
  (case l21=>k_is)
  (case c21=>k_is)
  (case k21=>k_is)
  (case a22=>k_is)
  (case l22=>k_is)
  (case c22=>k_is)
  (case k22=>k_is)
  (case a23=>k_is)
  (case l23=>k_is)
  (case c23=>k_is)
  (case k23=>k_is)
  (case a24=>k_is)
  (case l24=>k_is)
  (case c24=>k_is)
  (case k24=>k_is)
  (case a25=>k_is)
  (case l25=>k_is)
  (case c25=>k_is)
  (case k25=>k_is)
  (case a26=>k_is)
  (case l26=>k_is)
  (case c26=>k_is)
  (case k26=>k_is)
  (case a27=>k_is)
  (case l27=>k_is)
  (case c27=>k_is)
  (case k27=>k_is)
  (case a28=>k_is)
  (case l28=>k_is)
  (case c28=>k_is)
  (case k28=>k_is)
  (case a29=>k_is)
  (case l29=>k_is)
  (case c29=>k_is)
  (case k29=>k_is)
  (case a30=>k_is)
  (case l30=>k_is)
  (case c30=>k_is)
  (case k30=>k_is)
  (case a31=>k_is)
  (case l31=>k_is)
  (case c31=>k_is)
  (case k31=>k_is)
  (case a32=>k_is)
  (case l32=>k_is)
  (case c32=>k_is)
  (case k32=>k_is)
  (case z_len=>k_is)
  (case z_range=>k_is)
  (case z_list=>k_is)
  (case z_int=>k_is)
  (case z_isinstance=>k_is)
  (case z_any=>k_is)
  (case z_all=>k_is)
  (case z_zip=>k_is)
  (case z_sum=>k_is)
  (case z_min=>k_is)
  (case z_max=>k_is)
  (case z_tuple=>k_is)
  (case z_bool=>k_is)
  (case z_enumerate=>k_is)
  (case z_set=>k_is)
  (case z_sorted=>k_is)
  (case x_RowError=>k_is)
  (case y_RowError=>first | k_exc | k_is | kernel_rfl)
  (case x_NoMove=>k_is)
  (case y_NoMove=>first | k_exc | k_is | kernel_rfl)
  (case x_NoTable=>k_is)
  (case y_NoTable=>first | k_exc | k_is | kernel_rfl)
  (case x_NoStep=>k_is)
  (case y_NoStep=>first | k_exc | k_is | kernel_rfl)
  (case x_NoWhole=>k_is)
  (case y_NoWhole=>first | k_exc | k_is | kernel_rfl)
  (case u_fitM=>first | k_exc | k_is | kernel_rfl)
  (case v_fitM=>first | k_exc | k_is | kernel_rfl)
  (case i_b=>first | k_exc | k_is | kernel_rfl)
  (case i_gaNoMove=>first | k_exc | k_is | kernel_rfl)
  (case i_clNoMove=>first | k_exc | k_is | kernel_rfl)
  (case i_ggNoMove=>first | k_exc | k_is | kernel_rfl)
  (case i_obNoMove=>first | k_exc | k_is | kernel_rfl)
  (case i_beNoMove=>first | k_exc | k_is | kernel_rfl)
  (case i_seNoMove=>first | k_exc | k_is | kernel_rfl)
  (case i_a=>first | k_exc | k_is | kernel_rfl)
  (case g_TURNED_WORDS=>k_is)
  (case lk_TURNED_WORDS=>k_is)
  (case i_sTURNED_WORDS=>first | k_exc | k_is | kernel_rfl)
  (case hk_TURNED_WORDS=>exact ⟨⟨_,_,rfl,rfl⟩,⟨_,_,rfl,rfl⟩,⟨_,_,rfl,rfl⟩,⟨_,_,rfl,rfl⟩,trivial⟩)
  (case i_rTURNED_WORDS=>first | k_exc | k_is | kernel_rfl)
