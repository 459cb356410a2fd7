import PyProof.Rows.All
import Wide.All
import OpenK.AllK
import Wide.FinOn
import Lean
import PyProof.EqAt
import PyProof.EqKinds
import PyProof.TupleCall
import PyProof.NeData
import PyProof.P3Eq
import PyProof.EnumMake
import PyProof.EnumFor
import PyProof.ConsumeWalk
import PyProof.ListRange
import PyProof.ZipIter
import KE.IntBitsLaws
import KE.RegMulBits
import PyProof.ExcArgs
import PyProof.DictWalks
import KE.KRevSl
import PyProof.DictItems
import PyProof.DictDisplay
import PyProof.SeqI3
import PyProof.NsDelKeeps
import PyProof.StrWalks
import PyProof.StrBlockH
import PyProof.StrBlock2
import KE.KMinKey
import PyProof.Rows.CallKwBuiltin
import KE.KIntText
import PyProof.StrCalls2
import PyProof.StrLawsTight
import PyProof.Rows.StrItems
import PyProof.FactsAll.tuple_1
import PyProof.FactsAll.tuple_2
import PyProof.FString5
import PyProof.Rows.RuleC_int
import KE.KRevIter
import PySem.Challenge.RW_foreverrows_k64_whole_classes_counted
set_option compiler.extract_closed false
local macro_rules | `(tactic| cbv) => `(tactic| walk_at "d")
local macro_rules | `(tactic| lia) => `(tactic| omega)
set_option Elab.async false
set_option linter.all false
set_option maxRecDepth 100000
open List (mem_range mem_cons_self mem_cons_of_mem mem_cons mem_append mem_append_left mem_append_right append_nil nodup_cons of_mem_zip length_take mem_of_getElem? length_append length_map map_cons length_drop size_toArray length_set length_singleton mem_map all_eq_true mem_iff_getElem getD_eq_getElem?_getD mem_singleton length_range map_append length_cons nodup_nil nodup_append nil_append append_assoc map_map mem_of_mem_drop mem_or_eq_of_mem_set map_drop map_set)
namespace L2
open PySem PySem.Spec PyProof.Rows
abbrev Key:=Sum Int Str
def keyIs:Key->Value->Bool
 | .inl k,v=>Value.isInt k v
 | .inr x,v=>Value.isStrOf x v
def keyH (w:World):Key->Int
 | .inl k=>hashInt k
 | .inr x=>hashStr w x
theorem keyIs_shape:∀ {k:Key} {v:Value},keyIs k v=true->(∃ i t,k=Sum.inl i/\v=Value.int i t)\/(∃ x t,k=Sum.inr x/\v=Value.str x t)
 | .inl i,v,h=>by
  obtain ⟨t,e⟩:=Value.isInt_shape (k:=i) (v:=v) h
  exact .inl ⟨i,t,rfl,e⟩
 | .inr x,v,h=>by
  obtain ⟨t,e⟩:=Value.isStrOf_shape (x:=x) (v:=v) h
  exact .inr ⟨x,t,rfl,e⟩
theorem key_ll (a b:Int):decide ((Sum.inl a:Key)=Sum.inl b)=(a==b):=by
 by_cases e:a=b
 ·subst e;simp
 ·have h:¬ (Sum.inl a:Key)=Sum.inl b:=λq=>e (Sum.inl.inj q)
  rw[decide_eq_false h]
  exact (beq_eq_false_iff_ne.mpr e).symm
theorem key_rr (a b:Str):decide ((Sum.inr a:Key)=Sum.inr b)=decide (a=b):=by
 by_cases e:a=b
 ·subst e;simp
 ·have h:¬ (Sum.inr a:Key)=Sum.inr b:=λq=>e (Sum.inr.inj q)
  rw[decide_eq_false h,decide_eq_false e]
theorem key_lr (a:Int) (b:Str):decide ((Sum.inl a:Key)=Sum.inr b)=false:=decide_eq_false (λq=>nomatch q)
theorem key_rl (a:Str) (b:Int):decide ((Sum.inr a:Key)=Sum.inl b)=false:=decide_eq_false (λq=>nomatch q)
def mixKind (prog:Program) (w:World):PySem.KeyKind prog w Key where
 is:=keyIs
 hash:=keyH w
 inj:=λv a b ha hb=>by
  rcases keyIs_shape ha with ⟨i,t,rfl,rfl⟩|⟨x,t,rfl,rfl⟩
  ·rcases keyIs_shape hb with ⟨j,u,rfl,e⟩|⟨y,u,rfl,e⟩
   ·injection e with e1 _;rw[e1]
   ·exact nomatch e
  ·rcases keyIs_shape hb with ⟨j,u,rfl,e⟩|⟨y,u,rfl,e⟩
   ·exact nomatch e
   ·injection e with e1 _;rw[e1]
 byValue:=λk v h=>by
  rcases keyIs_shape h with ⟨i,t,rfl,rfl⟩|⟨x,t,rfl,rfl⟩<;>rfl
 pyHash:=λhv h=>by
  rcases keyIs_shape hv with ⟨i,t,rfl,rfl⟩|⟨x,t,rfl,rfl⟩
  ·exact wpAny_pyHash_int h
  ·exact wpAny_pyHash_str h
 eqBool:=λhu hv h=>by
  rcases keyIs_shape hu with ⟨i,t,rfl,rfl⟩|⟨x,t,rfl,rfl⟩
  ·rcases keyIs_shape hv with ⟨j,u,rfl,rfl⟩|⟨y,u,rfl,rfl⟩
   ·rw[key_ll] at h;exact wpAny_eqBool_int h
   ·rw[key_lr] at h;exact SeqAt.EqAt.int_str i t y u _ _ _ _ h
  ·rcases keyIs_shape hv with ⟨j,u,rfl,rfl⟩|⟨y,u,rfl,rfl⟩
   ·rw[key_rl] at h;exact SeqAt.EqAt.str_int x t j u _ _ _ _ h
   ·rw[key_rr] at h;exact wpAny_eqBool_str h
 «strs»:=λk x t v h=>by
  rcases keyIs_shape h with ⟨i,u,rfl,e⟩|⟨y,u,rfl,e⟩
  ·exact nomatch e
  ·injection e with e1 _
   subst e1
   cases v<;>rfl
inductive V where
 | non|bl (b:Bool)|int (i:Int)|str (x:Str)|byt (b:Array UInt8)|flt (b:UInt64)|ref (a:Addr)|ty (n:String)
 deriving DecidableEq
def RelV:V->Value->Prop
 | .non,u=>u=Value.none
 | .bl b,u=>u=Value.bool b
 | .int i,u=>∃ t,u=Value.int i t
 | .str x,u=>∃ t,u=Value.str x t
 | .byt b,u=>∃ t,u=Value.bytes b t
 | .flt b,u=>∃ t,u=Value.float b t
 | .ref a,u=>u=Value.ref a
 | .ty n,u=>u=Value.type n
abbrev Vals:List V->List Value->Prop:=Paired RelV
theorem Vals.length {xs:List V} {us:List Value} (r:Vals xs us):xs.length=us.length:=Paired.length r
theorem Vals.get:∀ {xs:List V} {us:List Value} {i:Nat} {x:V},Vals xs us->xs[i]?=some x->∃ u,us[i]?=some u/\RelV x u
 | _,_,_,_,.nil,e=>by simp at e
 | _,_,0,_,.cons r _,e=>by simp at e;subst e;exact ⟨_,rfl,r⟩
 | _,_,i+1,x,.cons _ t,e=>by
  obtain ⟨u,h1,h2⟩:=Vals.get (i:=i) (x:=x) t (by simpa using e)
  exact ⟨u,by simpa using h1,h2⟩
theorem Vals.set {x:V} {u:Value} (r:RelV x u):∀ {xs:List V} {us:List Value} (i:Nat),Vals xs us->Vals (xs.set i x) (us.set i u)
 | _,_,_,.nil=>.nil
 | _,_,0,.cons _ t=>.cons r t
 | _,_,i+1,.cons q t=>.cons q (Vals.set r i t)
theorem Vals.append:∀ {xs ys:List V} {us ws:List Value},Vals xs us->Vals ys ws->Vals (xs++ys) (us++ws)
 | _,_,_,_,.nil,s=>s
 | _,_,_,_,.cons r t,s=>.cons r (Vals.append t s)
theorem Vals.take:∀ {xs:List V} {us:List Value} (n:Nat),Vals xs us->Vals (xs.take n) (us.take n)
 | _,_,0,_=>.nil
 | _,_,_+1,.nil=>.nil
 | _,_,n+1,.cons r t=>.cons r (Vals.take n t)
theorem Vals.drop:∀ {xs:List V} {us:List Value} (n:Nat),Vals xs us->Vals (xs.drop n) (us.drop n)
 | _,_,0,r=>r
 | _,_,_+1,.nil=>.nil
 | _,_,n+1,.cons _ t=>Vals.drop n t
def RelO:Option V->Option Value->Prop
 | some v,some u=>RelV v u
 | none,none=>True
 | _,_=>False
def KV {κ:Type}:List (κ × V)->List (κ × Value)->Prop:=Paired λ(p:κ × V) (q:κ × Value)=>p.1=q.1/\RelV p.2 q.2
def kV:Key->V
 | .inl i=>.int i
 | .inr x=>.str x
inductive HO where
 /-- a list -/
 | lst (xs:List V)
 /-- a tuple (never changes) -/
 | tup (xs:List V)
 /-- a dict whose keys are ints and texts;one whose keys are tuples of ints and texts (the empty one is both) -/
 | dK (kvs:List (Key × V))|dT (kvs:List (List Key × V))
 /-- a set of ints: its members,its size -/
 | set (S:Int->Bool) (n:Nat)
 /-- an instance of the class at C,its dict at dx,its attributes -/
 | ins (C dx:Addr) (fs:List (Str × V))
 /-- the dict of the instance at x -/
 | own (x:Addr)
 /-- the dict of an exception -/
 | xd (fs:List (Str × V))
 /-- a bound method,f of x -/
 | met (f x:Addr)
 /-- a range object lo,lo+1,.. below hi -/
 | rng (lo hi:Int)
 /-- a thing that is known to the object (the script;a dict while a loop walks it): read,never written while it is so -/
 | frz (o:Obj) (u:HO)
 /-- a code object's table -/
 | tbl (ps:Array Value)
 /-- any other thing,by what is true of its one object (a def of one's own: SetO a S n:=HO.ext λh=>..) -/
 | ext (φ:Heap->Prop)
abbrev Hp:=Addr->Option HO
def upd (H:Hp) (a:Addr) (o:HO):Hp:=λb=>if b=a then some o else H b
theorem upd_same {H:Hp} {a:Addr} {o:HO}:upd H a o a=some o:=by unfold upd;rw[if_pos rfl]
theorem upd_ne {H:Hp} {a b:Addr} {o:HO} (h:b≠a):upd H a o b=H b:=by unfold upd;rw[if_neg h]
theorem ne_of_none {H:Hp} {a b:Addr} {o:HO} (h:H a=some o) (h':H b=none):a≠b:=by
 intro e;subst e;rw[h] at h';cases h'
section
variable (P:Program) (w:World)
def ObjOk (H:Hp) (h:Heap) (a:Addr):HO->Prop
 | .lst xs=>xs.length<=sizeLine/\∃ (its:List Value) (n:Nat),Vals xs its/\h.get? a=some { cls:=.type "list",data:=.seq its.toArray n }
 | .tup xs=>xs.length<=sizeLine/\∃ its:List Value,Vals xs its/\IsTup h a its.toArray
 | .dK kvs=>kvs.length<=sizeLine/\(a==sysModules)=false/\∃ vs,KV kvs vs/\h.DictOf (mixKind P w) a vs
 | .dT kvs=>kvs.length<=sizeLine/\(a==sysModules)=false/\∃ xs:List (List Key × Addr × Value),
   Paired (λ(p:List Key × V) (q:List Key × Addr × Value)=>p.1=q.1/\H q.2.1=some (.tup (p.1.map kV))/\RelV p.2 q.2.2) kvs xs /\
   ∃ o es ep,h.get? a=some o/\o.ExactDict/\o.data=.dict es ep/\es.toList=xs.map (entryOfKey (tupleKind (mixKind P w)))/\(xs.map (·.1)).Nodup
 | .set S n=>h.SetOf (intKind P w) a S n
 | .ins C dx fs=>H dx=some (.own a)/\fs.length<=1000/\dx≠a/\h.get? a=some (PySem.W.instObj C dx) /\
   ∃ mA,h.Ns1 dx mA/\(∀ f,RelO (fs.lookup f) (mA f))/\PySem.Within mA (fs.map (·.1))
 | .own _=>∃ o,h.get? a=some o
 | .xd fs=>∃ mA,h.Ns1 a mA/\∀ f,RelO (fs.lookup f) (mA f)
 | .rng lo hi=>∃ t u v,h.get? a=some { cls:=.type "range",data:=.fields #[.int lo t,.int hi u,.int 1 v] }
 | .frz o u=>h.get? a=some o/\ObjOk H h a u
 | .tbl ps=>h.get? a=some { cls:=.none,data:=.fields ps }
 | .met f x=>h.get? a=some (PySem.W.methodObj (.ref f) (.ref x))
 | .ext φ=>φ h/\(∃ o,h.get? a=some o)/\∀ h1 h2:Heap,φ h1->(∀ o,h1.get? a=some o->h2.get? a=some o)->φ h2
def HOk (H:Hp) (h:Heap):Prop:=∀ a o,H a=some o->ObjOk P w H h a o
end
section
variable {P:Program} {w:World} {H H':Hp} {h h':Heap} {a:Addr} {o:HO}
theorem ObjOk.lt (x:ObjOk P w H h a o):a < h.objs.size:=by
 cases o with
 | lst xs=>obtain ⟨_,_,_,_,e⟩:=x;exact Heap.lt_size e
 | tup xs=>obtain ⟨_,_,_,p⟩:=x;exact p.lt
 | dK kvs=>obtain ⟨_,_,_,_,o,_,_,e,_⟩:=x;exact Heap.lt_size e
 | dT kvs=>obtain ⟨_,_,_,_,o,_,_,e,_⟩:=x;exact Heap.lt_size e
 | set S n=>obtain ⟨o,_,_,_,e,_⟩:=x;exact Heap.lt_size e
 | ins C dx fs=>obtain ⟨_,_,_,e,_⟩:=x;exact Heap.lt_size e
 | own y=>obtain ⟨_,e⟩:=x;exact Heap.lt_size e
 | xd fs=>obtain ⟨_,⟨_,_,_,e,_⟩,_⟩:=x;exact Heap.lt_size e
 | rng lo hi=>obtain ⟨_,_,_,e⟩:=x;exact Heap.lt_size e
 | frz ob u=>obtain ⟨e,_⟩:=x;exact Heap.lt_size e
 | tbl ps=>exact Heap.lt_size (show h.get? a=some _ from x)
 | met f y=>exact Heap.lt_size (show h.get? a=some _ from x)
 | ext φ=>obtain ⟨_,⟨_,e⟩,_⟩:=x;exact Heap.lt_size e
theorem Paired.mapP {α β:Type} {F G:α->β->Prop}:∀ {l₁:List α} {l₂:List β},Paired F l₁ l₂->(∀ a b,F a b->G a b)->Paired G l₁ l₂
 | _,_,.nil,_=>.nil
 | _,_,.cons r t,f=>.cons (f _ _ r) (Paired.mapP t f)
theorem ObjOk.stay (x:ObjOk P w H h a o) (k:∀ b u,(b=a\/H b=some (.own a))->h.get? b=some u->h'.get? b=some u)
  (ho:∀ b,H b=some (.own a)->H' b=some (.own a)) (ht:∀ b xs,H b=some (.tup xs)->H' b=some (.tup xs)):ObjOk P w H' h' a o:=by
 induction o with
 | lst xs=>obtain ⟨z,its,n,r,e⟩:=x;exact ⟨z,its,n,r,k _ _ (.inl rfl) e⟩
 | tup xs=>obtain ⟨z,its,r,ob,e,c⟩:=x;exact ⟨z,its,r,ob,k _ _ (.inl rfl) e,c⟩
 | dK kvs=>obtain ⟨z,y,vs,r,ob,es,ep,e,c⟩:=x;exact ⟨z,y,vs,r,ob,es,ep,k _ _ (.inl rfl) e,c⟩
 | dT kvs =>
  obtain ⟨z,y,xs,r,ob,es,ep,e,c⟩:=x
  exact ⟨z,y,xs,Paired.mapP r λp q z=>⟨z.1,ht _ _ z.2.1,z.2.2⟩,ob,es,ep,k _ _ (.inl rfl) e,c⟩
 | set S n=>obtain ⟨ob,es,ep,t,e,c⟩:=x;exact ⟨ob,es,ep,t,k _ _ (.inl rfl) e,c⟩
 | ins C dx fs =>
  obtain ⟨d,z,ne,e,mA,⟨od,es,ep,e2,c⟩,r⟩:=x
  exact ⟨ho _ d,z,ne,k _ _ (.inl rfl) e,mA,⟨od,es,ep,k _ _ (.inr d) e2,c⟩,r⟩
 | own y=>obtain ⟨ob,e⟩:=x;exact ⟨ob,k _ _ (.inl rfl) e⟩
 | xd fs=>obtain ⟨mA,⟨od,es,ep,e,c⟩,r⟩:=x;exact ⟨mA,⟨od,es,ep,k _ _ (.inl rfl) e,c⟩,r⟩
 | rng lo hi=>obtain ⟨t,u,v,e⟩:=x;exact ⟨t,u,v,k _ _ (.inl rfl) e⟩
 | frz ob u ih=>obtain ⟨e,q⟩:=x;exact ⟨k _ _ (.inl rfl) e,ih q⟩
 | tbl ps =>
  have e:h.get? a=some { cls:=.none,data:=.fields ps }:=x
  show h'.get? a=some { cls:=.none,data:=.fields ps }
  exact k a _ (.inl rfl) e
 | met f y =>
  have e:h.get? a=some (PySem.W.methodObj (.ref f) (.ref y)):=x
  show h'.get? a=some (PySem.W.methodObj (.ref f) (.ref y))
  exact k a _ (.inl rfl) e
 | ext φ=>obtain ⟨p,⟨o,e⟩,st⟩:=x;exact ⟨st _ _ p λo q=>k _ _ (.inl rfl) q,⟨o,k _ _ (.inl rfl) e⟩,st⟩
theorem HOk.lt (x:HOk P w H h) (e:H a=some o):a < h.objs.size:=(x a o e).lt
theorem HOk.fresh (x:HOk P w H h) (e:h.objs.size<=a):H a=none:=by
 cases q:H a with
 | none=>rfl
 | some u=>exact absurd (Nat.lt_of_lt_of_le (x.lt q) e) (Nat.lt_irrefl _)
theorem HOk.kept (x:HOk P w H h) (k:∀ b u,h.get? b=some u->h'.get? b=some u):HOk P w H h':=λa o e =>
 (x a o e).stay (λb u _ q=>k b u q) (λ_ q=>q) λ_ _ q=>q
theorem HOk.laid (x:HOk P w H h) (k:∀ b u,h.get? b=some u->h'.get? b=some u) (hp:h.objs.size<=a) (new:ObjOk P w (upd H a o) h' a o):HOk P w (upd H a o) h':=λb u e=>by
 have hn:=x.fresh hp
 by_cases hb:b=a
 ·subst hb;rw[upd_same] at e;cases e;exact new
 ·rw[upd_ne hb] at e
  exact (x b u e).stay (λc v _ q=>k c v q) (λc q=>by rw[upd_ne (ne_of_none q hn)];exact q) λc xs q=>by rw[upd_ne (ne_of_none q hn)];exact q
end
def Rd (H:Hp) (a:Addr) (u:HO):Prop:=H a=some u\/∃ o,H a=some (.frz o u)
theorem Rd.ok {P:Program} {w:World} {H:Hp} {h:Heap} {a:Addr} {u:HO} (r:Rd H a u) (x:HOk P w H h):ObjOk P w H h a u:=by
 rcases r with r|⟨o,r⟩
 ·exact x a u r
 ·obtain ⟨_,q⟩:=x a _ r
  exact q
def Mut:Option HO->Prop
 | some (.lst _)=>True
 | some (.dK _)=>True
 | some (.dT _)=>True
 | some (.set _ _)=>True
 | some (.ins _ _ _)=>True
 | some (.ext _)=>True
 | _=>False
section
variable {P:Program} {w:World} {H:Hp} {h h':Heap} {x e:Addr} {o':HO}
theorem HOk.write (ok:HOk P w H h) (mu:Mut (H x)) (he:e=x\/H e=some (.own x)) (k:∀ b u,b≠e->h.get? b=some u->h'.get? b=some u) (heo:∃ u,h'.get? e=some u)
  (new:ObjOk P w (upd H x o') h' x o'):HOk P w (upd H x o') h':=λb u q=>by
 have nown:∀ c y,H c=some (.own y)->c≠x:=λc y r z=>by subst z;rw[r] at mu;exact mu
 have ntup:∀ c xs,H c=some (.tup xs)->c≠x:=λc xs r z=>by subst z;rw[r] at mu;exact mu
 by_cases hb:b=x
 ·subst hb;rw[upd_same] at q;cases q;exact new
 ·rw[upd_ne hb] at q
  by_cases hbe:b=e
  ·have q':H b=some (.own x):=by
    rcases he with z|z
    ·exact absurd (hbe.trans z) hb
    ·rw[hbe];exact z
   rw[q] at q';cases q'
   obtain ⟨v,hv⟩:=heo
   exact ⟨v,by rw[hbe];exact hv⟩
  ·refine (ok b u q).stay (λc v hc r=>k c v ?_ r) (λc r=>by rw[upd_ne (nown c b r)];exact r) λc xs r=>by rw[upd_ne (ntup c xs r)];exact r
   rcases hc with rfl|hc
   ·exact hbe
   ·rintro rfl
    rcases he with z|z
    ·exact nown c b hc z
    ·rw[hc] at z;cases z;exact hb rfl
end
structure Un (fs ex:List Addr) (H H':Hp) (h h':Heap):Prop where
 keep:∀ b o,h.get? b=some o->H b=none->b∉fs->b∉ex->h'.get? b=some o
 slot:∀ b o,h.get? b=some o->H b=none->b∈fs->b∉ex->∃ sl,h'.get? b=some { o with slots:=sl }
 free:∀ b o,h.get? b=some o->H b=none->b∉ex->H' b=none
 there:∀ b o,h.get? b=some o->b∉ex->∃ o',h'.get? b=some o'
 tups:∀ b xs,H b=some (.tup xs)->H' b=some (.tup xs)
 frzs:∀ b o u,H b=some (.frz o u)->H' b=some (.frz o u)
 tbls:∀ b ps,H b=some (.tbl ps)->∃ more,H' b=some (.tbl (ps++more))
section
variable {fs ex:List Addr} {H H1:Hp} {h h1 h':Heap} {a x e:Addr} {o:HO}
theorem Un.any (u:Un fs ex H H1 h h1) {b:Addr} {ob:Obj} (q:h.get? b=some ob) (n:H b=none) (hx:b∉ex):∃ sl,h1.get? b=some { ob with slots:=sl }:=by
 by_cases hb:b∈fs
 ·exact u.slot b ob q n hb hx
 ·exact ⟨ob.slots,u.keep b ob q n hb hx⟩
theorem Un.kept (k:∀ b u,h.get? b=some u->h'.get? b=some u):Un fs ex H H h h' :=
 ⟨λb ob q _ _ _=>k b ob q,λb ob q _ _ _=>⟨ob.slots,k b ob q⟩,λ_ _ _ n _=>n,λb ob q _=>⟨ob,k b ob q⟩,λ_ _ q=>q,λ_ _ _ q=>q,λ_ ps q=>⟨#[],by rw[q];simp⟩⟩
theorem Un.refl:Un fs ex H H h h:=Un.kept λ_ _ q=>q
theorem Un.laid (k:∀ b u,h.get? b=some u->h'.get? b=some u) (hp:h.objs.size<=a) (hn:H a=none):Un fs ex H (upd H a o) h h' where
 keep:=λb u q _ _ _=>k b u q
 slot:=λb u q _ _ _=>⟨u.slots,k b u q⟩
 free:=λb u q n _=>by rw[upd_ne (Nat.ne_of_lt (Nat.lt_of_lt_of_le (Heap.lt_size q) hp))];exact n
 there:=λb u q _=>⟨u,k b u q⟩
 tups:=λb xs q=>by rw[upd_ne (ne_of_none q hn)];exact q
 frzs:=λb u xs q=>by rw[upd_ne (ne_of_none q hn)];exact q
 tbls:=λb ps q=>⟨#[],by rw[upd_ne (ne_of_none q hn),q];simp⟩
theorem Un.write (mu:Mut (H x)) (he:e=x\/H e=some (.own x)) (k:∀ b u,b≠e->h.get? b=some u->h'.get? b=some u) (heo:∃ u,h'.get? e=some u):Un fs ex H (upd H x o) h h':=by
 have hx:∀ b,H b=none->b≠x:=λb n z=>by subst z;rw[n] at mu;exact mu
 have hb:∀ b,H b=none->b≠e:=λb n z=>by
  subst z
  rcases he with r|r
  ·exact hx b n r
  ·rw[n] at r;cases r
 have hm:∀ b u,H b=some u->¬ Mut (some u)->b≠x:=λb u q nm z=>by subst z;rw[q] at mu;exact nm mu
 refine ⟨λb u q n _ _=>k b u (hb b n) q,λb u q n _ _=>⟨u.slots,k b u (hb b n) q⟩,λb u q n _=>by rw[upd_ne (hx b n)];exact n,λb u q _=>?_,
  λb xs q=>by rw[upd_ne (hm b _ q λz=>z)];exact q,λb u xs q=>by rw[upd_ne (hm b _ q λz=>z)];exact q,λb ps q=>⟨#[],by rw[upd_ne (hm b _ q λz=>z),q];simp⟩⟩
 by_cases hbe:b=e
 ·subst hbe;exact heo
 ·exact ⟨u,k b u hbe q⟩
end
def trk (h:Heap) (H:Hp):List Addr:=(List.range h.objs.size).filter λa=>(H a).isSome
def hidT (h:Heap) (H:Hp):Heap:=PySem.W.hideAll h (trk h H)
theorem hidT_size (h:Heap) (H:Hp):(hidT h H).objs.size=h.objs.size:=PySem.W.hideAll_size _ _
theorem hidT_get {h:Heap} {H:Hp} {b:Addr} {o:Obj} (e:h.get? b=some o) (n:H b=none):(hidT h H).get? b=some o :=
 PySem.W.hideAll_get _ e λhm=>by
  have q:(H b).isSome=true:=(List.mem_filter.mp hm).2
  rw[n] at q;simp at q
theorem of_hidT {h:Heap} {H:Hp} {b:Addr} {o:Obj} (e:(hidT h H).get? b=some o):h.get? b=some o/\H b=none:=by
 have e':h.get? b=some o:=PySem.W.of_hideAll (trk h H) e
 refine ⟨e',?_⟩
 cases q:H b with
 | none=>rfl
 | some x =>
  have hm:b∈trk h H:=List.mem_filter.mpr ⟨mem_range.mpr (Heap.lt_size e'),by simp[q]⟩
  have z:(hidT h H).get? b=none:=PySem.W.hideAll_none (trk h H) hm
  rw[z] at e;cases e
def allNews (g h:Heap) (L:Addr):List (Addr × Obj):=(List.range h.objs.size).filterMap λa=>if a=L\/(g.get? a).isSome=true then none else (h.get? a).map λo=>(a,o)
def rest (g h:Heap) (L d:Addr):List (Addr × Obj):=(allNews g h L).filter λp=>decide (p.1≠d)
structure Mod (K:W.Frag) (mg:Str->Option Value) (base:Heap):Prop where
 kin:K.In base
 glob:base.Ns mainGlobals mg
 blt:∃ mb,base.Ns builtinsNs mb/\∀ x:Str,x≠"__name__"->mb x=bootBuiltins x
 nolimit:base.NoLimit
 seer:base.NoSeer
structure Cx where
 prog:Program
 w:World
 K:W.Frag
 mg:Str->Option Value
 base:Heap
 A:Around
 N:List Str
 s₀:Shared
 H₀:Hp
 env:Env
 outer:List Env
 stack:List Env
 ex:List Addr
 fn:Str->Bool
 calm:Bool
 pn:List (Addr × Obj)
 xe:Value->Shared->Prop
def frs (l:List Env):List Addr:=l.filterMap (·.frame)
abbrev Cx.fs (X:Cx):List Addr:=frs X.outer
def Vis (sc:Scope) (x:Str):Prop:=sc.names.lookup x=some .local\/sc.names.lookup x=some .cell\/sc.names.lookup x=some .free
def Loc (sc:Scope) (x:Str):Prop:=sc.names.lookup x=some .local\/sc.names.lookup x=some .cell
def Look (env:Env) (h:Heap) (m:Str->Option Value) (x:Str) (u:Value):Prop :=
 (env.kindOf x=some .local/\m x=some u)\/((env.kindOf x=some .cell\/env.kindOf x=some .free)/\∃ c,env.cells.lookup x=some c/\h.IsCell c (some u))
structure Cx.Ok (X:Cx):Prop where
 mod:Mod X.K X.mg X.base
 kind:X.env.scope.kind=.function
 glob:X.env.globals=mainGlobals
 blt:X.env.builtins=builtinsNs
 above:X.s₀.heap.objs.size<=X.env.locals
 inj:∀ x y c,X.env.cells.lookup x=some c->X.env.cells.lookup y=some c->x=y
 has:∀ x,(X.env.kindOf x=some .cell\/X.env.kindOf x=some .free)->∃ c,X.env.cells.lookup x=some c
 cab:∀ x c,X.fn x=true->X.env.cells.lookup x=some c->X.s₀.heap.objs.size<=c
 hd:X.calm=true->X.A.handled=none
 frames:X.A.frames=some X.stack
 stk:X.stack=X.outer\/(X.stack=X.env::X.outer/\X.env.frame=some X.env.locals)
 exf:∀ b∈X.ex,b≠X.env.locals/\∀ x c,X.env.cells.lookup x=some c->c≠b
 bs:∀ b o,X.base.get? b=some o->X.s₀.heap.get? b=some o/\X.H₀ b=none
 bsz:X.base.objs.size<=X.s₀.heap.objs.size
 noex:∀ b o,X.base.get? b=some o->b∉X.ex
 exfs:∀ b∈X.ex,b∉X.fs
 funs:X.s₀.heap.FunFrames X.base X.outer
 frf:∀ b∈X.fs,X.H₀ b=none
structure Inv (X:Cx) (pins:List (Addr × Obj)) (σ:List (Option V)) (H:Hp) (s:Shared):Prop where
 ok:X.Ok
 os:s.os=X.s₀.os
 bare:AllBare s.gens
 base:Un X.fs X.ex X.H₀ H X.s₀.heap s.heap
 loc:∃ m,s.heap.Ns X.env.locals m/\∀ (i:Nat) (x:Str) (v:V),X.N[i]?=some x->σ[i]?=some (some v)->Vis X.env.scope x->∃ u,RelV v u/\Look X.env s.heap m x u
 cell:∀ x c,X.env.cells.lookup x=some c->∃ v,s.heap.IsCell c v
 free:H X.env.locals=none
 freeC:∀ x c,X.env.cells.lookup x=some c->H c=none
 pin:∀ p∈X.pn++pins,s.heap.get? p.1=some p.2/\H p.1=none/\p.1≠X.env.locals/\p.1∉X.fs/\∀ v,p.2.data≠.cell v
 hok:HOk X.prog X.w H s.heap
 len:σ.length=X.N.length
section
variable {X:Cx} {pins:List (Addr × Obj)} {σ:List (Option V)} {H H':Hp} {s:Shared} {h':Heap}
theorem Cx.Ok.nofr (ok:X.Ok) {b:Addr} {o:Obj} (e:X.base.get? b=some o):b∉X.fs:=λhb=>by
 have:=(ok.funs.mem hb).1
 rw[e] at this;cases this
theorem Inv.bs (I:Inv X pins σ H s):∀ b o,X.base.get? b=some o->s.heap.get? b=some o/\H b=none:=λb o e =>
 ⟨I.base.keep b o (I.ok.bs b o e).1 (I.ok.bs b o e).2 (I.ok.nofr e) (I.ok.noex b o e),I.base.free b o (I.ok.bs b o e).1 (I.ok.bs b o e).2 (I.ok.noex b o e)⟩
theorem Inv.bk (I:Inv X pins σ H s):∀ b o,X.base.get? b=some o->s.heap.get? b=some o:=λb o e=>(I.bs b o e).1
theorem Inv.mod (I:Inv X pins σ H s):Mod X.K X.mg X.base:=I.ok.mod
theorem Inv.kIn (I:Inv X pins σ H s):X.K.In s.heap:=I.ok.mod.kin.keeps I.bk
theorem Inv.nolimit (I:Inv X pins σ H s):s.heap.NoLimit:=I.ok.mod.nolimit.keeps I.bk
theorem Inv.lt (I:Inv X pins σ H s):X.env.locals < s.heap.objs.size:=let ⟨_,hn,_⟩:=I.loc;hn.lt
theorem Inv.sz (I:Inv X pins σ H s):X.s₀.heap.objs.size<=s.heap.objs.size:=Nat.le_trans I.ok.above (Nat.le_of_lt I.lt)
theorem Inv.nofs (I:Inv X pins σ H s) {a:Addr} (h:s.heap.objs.size<=a):a∉X.fs:=λhb=>by
 obtain ⟨_,o,ho,_⟩:=I.ok.funs.mem hb
 exact absurd (Nat.lt_of_lt_of_le (Heap.lt_size ho) (Nat.le_trans I.sz h)) (Nat.lt_irrefl _)
theorem Inv.cne (I:Inv X pins σ H s):∀ x c,X.env.cells.lookup x=some c->c≠X.env.locals:=λx c e z=>by
 obtain ⟨v,o,ho,hd⟩:=I.cell x c e
 obtain ⟨m,⟨o',es,ep,ho',hd',_⟩,_⟩:=I.loc
 rw[z,ho'] at ho;cases ho;rw[hd'] at hd;cases hd
theorem Inv.funs (I:Inv X pins σ H s):s.heap.FunFrames X.base X.outer:=by
 have all:∀ (l:List Env),(∀ b∈frs l,b∈X.fs)->X.s₀.heap.FunFrames X.base l->s.heap.FunFrames X.base l:=by
  intro l
  induction l with
  | nil=>intro _ _;trivial
  | cons env r ih =>
   intro hs hl
   obtain ⟨hk,⟨L,o,hf,hn,ho,hd⟩,hr⟩:=hl
   have hL:L∈X.fs:=hs L (by unfold frs;rw[List.filterMap_cons,hf];exact mem_cons_self)
   obtain ⟨sl,e⟩:=I.base.slot L o ho (I.ok.frf L hL) hL λz=>I.ok.exfs L z hL
   exact ⟨hk,⟨L,_,hf,hn,e,hd⟩,ih (λb hb=>hs b (by unfold frs;rw[List.filterMap_cons,hf];exact mem_cons_of_mem _ hb)) hr⟩
 exact all X.outer (λ_ hb=>hb) I.ok.funs
theorem Inv.stack (I:Inv X pins σ H s):s.heap.FunFrames X.base X.stack:=by
 rcases I.ok.stk with e|⟨e,hf⟩
 ·rw[e];exact I.funs
 ·rw[e]
  obtain ⟨m,hn,_⟩:=I.loc
  refine .cons (by rw[I.ok.kind];decide) hf hn ?_ I.funs
  exact Heap.get?_none_of_le (Nat.le_trans I.ok.bsz I.ok.above)
theorem Inv.stkSub (I:Inv X pins σ H s):∀ b∈frs X.stack,b∈X.env.locals::X.fs:=λb hb=>by
 rcases I.ok.stk with e|⟨e,hf⟩
 ·rw[e] at hb;exact mem_cons_of_mem _ hb
 ·rw[e] at hb
  unfold frs at hb
  rw[List.filterMap_cons,hf] at hb
  exact hb
theorem Inv.stkFree (I:Inv X pins σ H s):∀ b∈frs X.stack,H b=none:=λb hb=>by
 rcases mem_cons.mp (I.stkSub b hb) with e|hb
 ·rw[e];exact I.free
 ·obtain ⟨_,o,ho,_⟩:=I.ok.funs.mem hb
  exact I.base.free b o ho (I.ok.frf b hb) λz=>I.ok.exfs b z hb
theorem Inv.step {g':Array GenState} {t':Nat} {d':Drawn} {ch:List Addr} (I:Inv X pins σ H s)
  (hch:∀ b∈ch,(b∈X.ex\/X.s₀.heap.objs.size<=b)/\b≠X.env.locals/\(∀ x c,X.env.cells.lookup x=some c->c≠b)/\∀ p∈X.pn++pins,p.1≠b)
  (keep:∀ b o,b≠X.env.locals->b∉X.fs->b∉ch->s.heap.get? b=some o->H b=none->h'.get? b=some o)
  (slot:∀ b o,b≠X.env.locals->b∈X.fs->b∉ch->s.heap.get? b=some o->H b=none->∃ sl,h'.get? b=some { o with slots:=sl }) (free:∀ b o,b∉ch->s.heap.get? b=some o->H b=none->H' b=none)
  (there:∀ b o,b∉ch->s.heap.get? b=some o->∃ o',h'.get? b=some o')
  (tups:∀ b xs,H b=some (.tup xs)->H' b=some (.tup xs)) (frzs:∀ b o u,H b=some (.frz o u)->H' b=some (.frz o u)) (tbls:∀ b ps,H b=some (.tbl ps)->∃ more,H' b=some (.tbl (ps++more)))
  (ns:∀ m,s.heap.Ns X.env.locals m->h'.Ns X.env.locals m) (hok:HOk X.prog X.w H' h') (hg:AllBare g') :
  Inv X pins σ H' { s with heap:=h',gens:=g',drawn:=d',toks:=t' }:=by
 have neL:∀ b o,X.s₀.heap.get? b=some o->b≠X.env.locals:=λb o e=>Nat.ne_of_lt (Nat.lt_of_lt_of_le (Heap.lt_size e) I.ok.above)
 have neC:∀ b o,X.s₀.heap.get? b=some o->b∉X.ex->b∉ch:=λb o e hx hb=>by
  rcases (hch b hb).1 with z|z
  ·exact hx z
  ·exact absurd (Nat.lt_of_lt_of_le (Heap.lt_size e) z) (Nat.lt_irrefl _)
 have cellK:∀ x c,X.env.cells.lookup x=some c->∀ v,s.heap.IsCell c v->h'.IsCell c v:=λx c e v ⟨o,ho,hd⟩=>by
  have nch:c∉ch:=λz=>(hch c z).2.2.1 x c e rfl
  by_cases hc:c∈X.fs
  ·obtain ⟨sl,q⟩:=slot c o (I.cne x c e) hc nch ho (I.freeC x c e)
   exact ⟨_,q,hd⟩
  ·exact ⟨o,keep c o (I.cne x c e) hc nch ho (I.freeC x c e),hd⟩
 refine ⟨I.ok,I.os,hg,⟨λb o e n hb hx=>?_,λb o e n hb hx=>?_,λb o e n hx=>?_,λb o e hx=>?_,λb xs e=>tups b xs (I.base.tups b xs e),λb o xs e=>frzs b o xs (I.base.frzs b o xs e),λb ps e=>?_⟩,?_,λx c e=>?_,?_,λx c e=>?_,λp hp=>?_,hok,I.len⟩
 ·exact keep b o (neL b o e) hb (neC b o e hx) (I.base.keep b o e n hb hx) (I.base.free b o e n hx)
 ·obtain ⟨sl,e1⟩:=I.base.slot b o e n hb hx
  obtain ⟨sl',e2⟩:=slot b _ (neL b o e) hb (neC b o e hx) e1 (I.base.free b o e n hx)
  exact ⟨sl',e2⟩
 ·obtain ⟨o',e1⟩:=I.base.there b o e hx
  exact free b o' (neC b o e hx) e1 (I.base.free b o e n hx)
 ·obtain ⟨o',e1⟩:=I.base.there b o e hx
  exact there b o' (neC b o e hx) e1
 ·obtain ⟨m1,e1⟩:=I.base.tbls b ps e
  obtain ⟨m2,e2⟩:=tbls b _ e1
  exact ⟨m1++m2,by rw[e2,Array.append_assoc]⟩
 ·obtain ⟨m,hn,hl⟩:=I.loc
  refine ⟨m,ns m hn,λi x v e1 e2 e3=>?_⟩
  obtain ⟨u,r,l⟩:=hl i x v e1 e2 e3
  refine ⟨u,r,?_⟩
  rcases l with l|⟨k,c,e,z⟩
  ·exact .inl l
  ·exact .inr ⟨k,c,e,cellK x c e _ z⟩
 ·obtain ⟨v,z⟩:=I.cell x c e
  exact ⟨v,cellK x c e v z⟩
 ·obtain ⟨m,⟨o,_,_,ho,_⟩,_⟩:=I.loc
  exact free _ o (λz=>(hch _ z).2.1 rfl) ho I.free
 ·obtain ⟨v,o,ho,hd⟩:=I.cell x c e
  exact free c o (λz=>(hch c z).2.2.1 x c e rfl) ho (I.freeC x c e)
 ·obtain ⟨e,n,ne,nf,d⟩:=I.pin p hp
  have nch:p.1∉ch:=λz=>(hch p.1 z).2.2.2 p hp rfl
  exact ⟨keep p.1 p.2 ne nf nch e n,free p.1 p.2 nch e n,ne,nf,d⟩
theorem Inv.un {t':Nat} (I:Inv X pins σ H s) (u:Un X.fs [] H H' s.heap h') (hok:HOk X.prog X.w H' h'):Inv X pins σ H' { s with heap:=h',toks:=t' }:=by
 obtain ⟨m,⟨o,es,ep,ho,r⟩,_⟩:=id I.loc
 obtain ⟨sl,hL⟩:=u.any ho I.free (by simp)
 exact I.step (g':=s.gens) (d':=s.drawn) (ch:=[]) (λ_ z=>nomatch z) (λb o _ hb _ e n=>u.keep b o e n hb (by simp)) (λb o _ hb _ e n=>u.slot b o e n hb (by simp)) (λb o _ e n=>u.free b o e n (by simp)) (λb o _ e=>u.there b o e (by simp)) u.tups u.frzs u.tbls (λm' hm=>by
  obtain ⟨o',es',ep',ho',r'⟩:=hm
  rw[ho] at ho';cases ho'
  exact ⟨_,es',ep',hL,r'⟩) hok I.bare
theorem Inv.call {g':Array GenState} {t':Nat} {d':Drawn} {ch:List Addr} (I:Inv X pins σ H s) (u:Un (frs X.stack) ch H H' s.heap h') (hok:HOk X.prog X.w H' h') (hg:AllBare g')
  (hch:∀ b∈ch,(b∈X.ex\/X.s₀.heap.objs.size<=b)/\b≠X.env.locals/\(∀ x c,X.env.cells.lookup x=some c->c≠b)/\∀ p∈X.pn++pins,p.1≠b) :
  Inv X pins σ H' { s with heap:=h',gens:=g',drawn:=d',toks:=t' }:=by
 obtain ⟨m,⟨o,es,ep,ho,r⟩,_⟩:=id I.loc
 obtain ⟨sl,hL⟩:=u.any ho I.free λz=>(hch _ z).2.1 rfl
 exact I.step (ch:=ch) hch (λb o hL hb hc e n=>u.keep b o e n (λz=>(mem_cons.mp (I.stkSub b z)).elim hL hb) hc) (λb o _ _ hc e n=>u.any e n hc) (λb o hc e n=>u.free b o e n hc) (λb o hc e=>u.there b o e hc) u.tups u.frzs u.tbls (λm' hm=>by
  obtain ⟨o',es',ep',ho',r'⟩:=hm
  rw[ho] at ho';cases ho'
  exact ⟨_,es',ep',hL,r'⟩) hok hg
theorem Inv.turned {t':Nat} {it:Addr} (I:Inv X pins σ H s) (k:∀ b o,b≠it->s.heap.get? b=some o->h'.get? b=some o) (hn:H it=none) (hL:it≠X.env.locals)
  (h1:it∈X.ex\/X.s₀.heap.objs.size<=it) (h2:∀ x c,X.env.cells.lookup x=some c->c≠it) (h3:∀ p∈X.pn++pins,p.1≠it):Inv X pins σ H { s with heap:=h',toks:=t' }:=by
 have nit:∀ b u,H b=some u->b≠it:=λb u e z=>by rw[z,hn] at e;cases e
 refine I.step (g':=s.gens) (d':=s.drawn) (ch:=[it]) (λb hb=>?_) (λb o _ _ hc e _=>k b o (λz=>hc (by simp[z])) e) (λb o _ _ hc e _=>⟨o.slots,k b o (λz=>hc (by simp[z])) e⟩) (λ_ _ _ _ n=>n)
  (λb o hc e=>⟨o,k b o (λz=>hc (by simp[z])) e⟩) (λ_ _ e=>e) (λ_ _ _ e=>e) (λb ps e=>⟨#[],by rw[e];simp⟩) (λm hm=>?_) (λb u e=>?_) I.bare
 ·have e:b=it:=by simpa using hb
  subst e
  exact ⟨h1,hL,h2,h3⟩
 ·obtain ⟨o,es,ep,ho,r⟩:=hm
  exact ⟨o,es,ep,k _ o (Ne.symm hL) ho,r⟩
 ·refine (I.hok b u e).stay (λc v hc q=>k c v ?_ q) (λ_ q=>q) λ_ _ q=>q
  rcases hc with z|z
  ·rw[z];exact nit b u e
  ·exact nit c _ z
theorem Inv.tok (I:Inv X pins σ H s) (t:Nat):Inv X pins σ H { s with toks:=t }:=I.un (h':=s.heap) (t':=t) Un.refl I.hok
theorem Inv.kept {t':Nat} (I:Inv X pins σ H s) (k:∀ b u,s.heap.get? b=some u->h'.get? b=some u):Inv X pins σ H { s with heap:=h',toks:=t' }:=I.un (Un.kept k) (I.hok.kept k)
theorem Inv.laid {a:Addr} {o:HO} {t':Nat} (I:Inv X pins σ H s) (k:∀ b u,s.heap.get? b=some u->h'.get? b=some u) (hp:s.heap.objs.size<=a) (new:ObjOk X.prog X.w (upd H a o) h' a o) :
  Inv X pins σ (upd H a o) { s with heap:=h',toks:=t' }:=I.un (Un.laid k hp (I.hok.fresh hp)) (I.hok.laid k hp new)
theorem Inv.write {x e:Addr} {o:HO} {t':Nat} (I:Inv X pins σ H s) (mu:Mut (H x)) (he:e=x\/H e=some (.own x)) (k:∀ b u,b≠e->s.heap.get? b=some u->h'.get? b=some u) (heo:∃ u,h'.get? e=some u)
  (new:ObjOk X.prog X.w (upd H x o) h' x o):Inv X pins σ (upd H x o) { s with heap:=h',toks:=t' }:=I.un (Un.write mu he k heo) (I.hok.write mu he k heo new)
theorem Inv.pins_of {pins':List (Addr × Obj)} (I:Inv X pins σ H s) (h:∀ p∈pins',s.heap.get? p.1=some p.2/\H p.1=none/\p.1≠X.env.locals/\p.1∉X.fs/\∀ v,p.2.data≠.cell v):Inv X pins' σ H s :=
 ⟨I.ok,I.os,I.bare,I.base,I.loc,I.cell,I.free,I.freeC,λp hp=>(mem_append.mp hp).elim (λz=>I.pin p (mem_append_left _ z)) (h p),I.hok,I.len⟩
theorem nodup_ix {N:List Str} (hN:N.Nodup) {i j:Nat} {x:Str} (a:N[i]?=some x) (b:N[j]?=some x):i=j:=by
 obtain ⟨h1,e1⟩:=List.getElem?_eq_some_iff.mp a
 obtain ⟨h2,e2⟩:=List.getElem?_eq_some_iff.mp b
 exact (List.getElem_inj hN).mp (e1.trans e2.symm)
theorem store_ok2 {M:Model} {A:Around} {E:Value->Shared->Prop} {i:Nat} {x:Str} {v:V} {u:Value} {Q:Unit->Shared->Prop} (I:Inv X pins σ H s) (hN:X.N.Nodup) (hi:X.N[i]?=some x) (hx:Loc X.env.scope x) (r:RelV v u)
  (h:∀ s',Inv X pins (σ.set i (some v)) H s'->(∃ a,Heap.SameBut a s.heap s'.heap/\(a=X.env.locals\/X.env.cells.lookup x=some a))->Q () s') (hf:X.fn x=true\/X.env.scope.names.lookup x=some .local:=by first|exact .inl rfl|exact .inr rfl|assumption):wpAny M A (storeName X.env x u) Q E s:=by
 obtain ⟨m,hn,hl⟩:=id I.loc
 have hcls:(X.env.scope.kind==.class||(X.env.scope.kind==.module&&X.env.locals != X.env.globals))=false:=by rw[I.ok.kind];rfl
 have hiσ:i < σ.length:=by rw[I.len];exact (List.getElem?_eq_some_iff.mp hi).1
 have cne:=I.cne
 have tracked:∀ {a:Addr} {h':Heap},(∃ o,s.heap.get? a=some o/\H a=none)->Heap.SameBut a s.heap h'->HOk X.prog X.w H h':=λ{a h'} ha hs b ob e=>by
  obtain ⟨_,_,hfree⟩:=ha
  refine (I.hok b ob e).stay (λc w' hc q=>(hs.2 c ?_).trans q) (λ_ q=>q) λ_ _ q=>q
  rintro rfl
  rcases hc with rfl|hc
  ·rw[hfree] at e;cases e
  ·rw[hfree] at hc;cases hc
 rcases hx with hk|hk
 ·refine wpAny_storeName_local hk hn (λh' hn' hs=>?_) hcls
  obtain ⟨oL,_,_,hoL,_⟩:=id hn
  refine h _ ⟨I.ok,I.os,I.bare,⟨λb o e n hb hx=>?_,λb o e n hb hx=>?_,I.base.free,λb o e hx=>?_,I.base.tups,I.base.frzs,I.base.tbls⟩,⟨_,hn',λj y v' e1 e2 e3=>?_⟩,λy c e=>?_,I.free,I.freeC,λp hp=>?_,tracked ⟨oL,hoL,I.free⟩ hs,by simpa using I.len⟩ ⟨_,hs,.inl rfl⟩
  ·exact (hs.2 b (Nat.ne_of_lt (Nat.lt_of_lt_of_le (Heap.lt_size e) I.ok.above))).trans (I.base.keep b o e n hb hx)
  ·obtain ⟨sl,e1⟩:=I.base.slot b o e n hb hx
   exact ⟨sl,(hs.2 b (Nat.ne_of_lt (Nat.lt_of_lt_of_le (Heap.lt_size e) I.ok.above))).trans e1⟩
  ·obtain ⟨o',e1⟩:=I.base.there b o e hx
   exact ⟨o',(hs.2 b (Nat.ne_of_lt (Nat.lt_of_lt_of_le (Heap.lt_size e) I.ok.above))).trans e1⟩
  ·by_cases hj:j=i
   ·subst hj
    rw[hi] at e1;cases e1
    rw[List.getElem?_set_self hiσ] at e2
    cases e2
    exact ⟨u,r,.inl ⟨hk,by simp⟩⟩
   ·rw[List.getElem?_set_ne (Ne.symm hj)] at e2
    obtain ⟨u',r',q⟩:=hl j y v' e1 e2 e3
    refine ⟨u',r',?_⟩
    rcases q with ⟨k,e⟩|⟨k,c,e,z⟩
    ·refine .inl ⟨k,?_⟩
     have:y≠x:=λe=>hj (nodup_ix hN e1 (e ▸ hi))
     simp[this,e]
    ·exact .inr ⟨k,c,e,z.sameBut hs (cne y c e)⟩
  ·obtain ⟨w',z⟩:=I.cell y c e
   exact ⟨w',z.sameBut hs (cne y c e)⟩
  ·obtain ⟨e,n,ne,nf,d⟩:=I.pin p hp
   exact ⟨(hs.2 p.1 ne).trans e,n,ne,nf,d⟩
 ·have hfn:X.fn x=true:=by
   rcases hf with z|z
   ·exact z
   ·rw[z] at hk;cases hk
  obtain ⟨c,hc⟩:=I.ok.has x (.inl hk)
  obtain ⟨w',z⟩:=I.cell x c hc
  refine wpAny_storeName_cell I.ok.kind hk hc z (λh' hc' hs=>?_)
  obtain ⟨oc,hoc,hocd⟩:=id z
  refine h { s with heap:=h' } ⟨I.ok,I.os,I.bare,⟨λb o e n hb hx=>?_,λb o e n hb hx=>?_,I.base.free,λb o e hx=>?_,I.base.tups,I.base.frzs,I.base.tbls⟩,⟨m,hn.sameBut hs (Ne.symm (cne x c hc)),λj y v' e1 e2 e3=>?_⟩,λy c' e=>?_,I.free,I.freeC,λp hp=>?_,tracked ⟨oc,hoc,I.freeC x c hc⟩ hs,by simpa using I.len⟩ ⟨c,hs,.inr hc⟩
  ·exact (hs.2 b (Nat.ne_of_lt (Nat.lt_of_lt_of_le (Heap.lt_size e) (I.ok.cab x c hfn hc)))).trans (I.base.keep b o e n hb hx)
  ·obtain ⟨sl,e1⟩:=I.base.slot b o e n hb hx
   exact ⟨sl,(hs.2 b (Nat.ne_of_lt (Nat.lt_of_lt_of_le (Heap.lt_size e) (I.ok.cab x c hfn hc)))).trans e1⟩
  ·obtain ⟨o',e1⟩:=I.base.there b o e hx
   exact ⟨o',(hs.2 b (Nat.ne_of_lt (Nat.lt_of_lt_of_le (Heap.lt_size e) (I.ok.cab x c hfn hc)))).trans e1⟩
  ·by_cases hj:j=i
   ·subst hj
    rw[hi] at e1;cases e1
    rw[List.getElem?_set_self hiσ] at e2
    cases e2
    exact ⟨u,r,.inr ⟨.inl hk,c,hc,hc'⟩⟩
   ·rw[List.getElem?_set_ne (Ne.symm hj)] at e2
    obtain ⟨u',r',q⟩:=hl j y v' e1 e2 e3
    refine ⟨u',r',?_⟩
    rcases q with q|⟨k,c',e,z'⟩
    ·exact .inl q
    ·refine .inr ⟨k,c',e,z'.sameBut hs ?_⟩
     rintro rfl
     exact hj (nodup_ix hN e1 (I.ok.inj _ _ _ e hc ▸ hi))
  ·by_cases hcc:c'=c
   ·subst hcc;exact ⟨_,hc'⟩
   ·obtain ⟨w2,z2⟩:=I.cell y c' e
    exact ⟨w2,z2.sameBut hs hcc⟩
  ·obtain ⟨e,n,ne,nf,d⟩:=I.pin p hp
   refine ⟨(hs.2 p.1 ?_).trans e,n,ne,nf,d⟩
   intro q
   rw[q,hoc] at e
   have q':oc=p.2:=Option.some.inj e
   exact d w' (by rw[<-q'];exact hocd)
theorem store_ok {M:Model} {A:Around} {E:Value->Shared->Prop} {i:Nat} {x:Str} {v:V} {u:Value} {Q:Unit->Shared->Prop} (I:Inv X pins σ H s) (hN:X.N.Nodup) (hi:X.N[i]?=some x) (hx:Loc X.env.scope x) (r:RelV v u)
  (h:∀ s',Inv X pins (σ.set i (some v)) H s'->Q () s') (hf:X.fn x=true\/X.env.scope.names.lookup x=some .local:=by first|exact .inl rfl|exact .inr rfl|assumption):wpAny M A (storeName X.env x u) Q E s :=
 store_ok2 I hN hi hx r (λs' I' _=>h s' I') hf
theorem Inv.call' {s':Shared} {ch:List Addr} (I:Inv X pins σ H s) (ho:s'.os=s.os) (u:Un (frs X.stack) ch H H' s.heap s'.heap) (hok:HOk X.prog X.w H' s'.heap) (hg:AllBare s'.gens)
  (hch:∀ b∈ch,(b∈X.ex\/X.s₀.heap.objs.size<=b)/\b≠X.env.locals/\(∀ x c,X.env.cells.lookup x=some c->c≠b)/\∀ p∈X.pn++pins,p.1≠b):Inv X pins σ H' s':=by
 obtain ⟨h',g',d',t',o'⟩:=s'
 have e:o'=s.os:=ho
 subst e
 exact I.call (g':=g') (t':=t') (d':=d') u hok hg hch
end
abbrev XK:=Value->Option Addr->Hp->Prop
abbrev St:=List (Option V)
abbrev VK:=V->Hp->Prop
abbrev TE:=St->Hp->VK->Prop
abbrev TT:=St->Hp->(Bool->Hp->Prop)->Prop
abbrev TA:=St->Hp->(List V->Hp->Prop)->Prop
structure Ends where
 nx:St->Hp->Prop
 rt:VK
 bk:St->Hp->Prop:=λ_ _=>False
 ct:St->Hp->Prop:=λ_ _=>False
abbrev TS:=Ends->St->Hp->Prop
def EP (X:Cx) (pins:List (Addr × Obj)) (σ:St) (Q:VK) (u:Value) (s':Shared):Prop:=∃ v H',Inv X pins σ H' s'/\RelV v u/\Q v H'
def TP (X:Cx) (pins:List (Addr × Obj)) (σ:St) (Q:Bool->Hp->Prop) (b:Bool) (s':Shared):Prop:=∃ H',Inv X pins σ H' s'/\Q b H'
def AP (X:Cx) (pins:List (Addr × Obj)) (σ:St) (Q:List V->Hp->Prop) (us:List Value) (s':Shared):Prop:=∃ vs H',Inv X pins σ H' s'/\Vals vs us/\Q vs H'
def SP (X:Cx) (pins:List (Addr × Obj)) (D:Ends) (f:Flow) (s':Shared):Prop :=
 match f with
 | .next=>∃ σ' H',Inv X pins σ' H' s'/\D.nx σ' H'
 | .brk=>∃ σ' H',Inv X pins σ' H' s'/\D.bk σ' H'
 | .cont=>∃ σ' H',Inv X pins σ' H' s'/\D.ct σ' H'
 | .ret u=>∃ v σ' H',Inv X pins σ' H' s'/\RelV v u/\D.rt v H'
def PE (X:Cx) (e:Expr) (t:TE):Prop :=
 ∀ (pins:List (Addr × Obj)) (s:Shared) (σ:St) (H:Hp) (Q:VK),Inv X pins σ H s->t σ H Q->wpAny (model X.prog X.w) X.A (eval e X.env) (EP X pins σ Q) X.xe s
def PT (X:Cx) (e:Expr) (t:TT):Prop :=
 ∀ (pins:List (Addr × Obj)) (s:Shared) (σ:St) (H:Hp) (Q:Bool->Hp->Prop),Inv X pins σ H s->t σ H Q->wpAny (model X.prog X.w) X.A (isTrue e X.env (eval e X.env)) (TP X pins σ Q) X.xe s
def PW (X:Cx) (e:Expr) (t:TT):Prop :=
 ∀ (whole:Sem Value) (pins:List (Addr × Obj)) (s:Shared) (σ:St) (H:Hp) (Q:Bool->Hp->Prop),Inv X pins σ H s->t σ H Q->wpAny (model X.prog X.w) X.A (isTrue e X.env whole) (TP X pins σ Q) X.xe s
theorem PW.pt {X:Cx} {e:Expr} {t:TT} (h:PW X e t):PT X e t:=h _
def PA (X:Cx) (es:List Expr) (t:TA):Prop :=
 ∀ (pos:Pos) (pins:List (Addr × Obj)) (s:Shared) (σ:St) (H:Hp) (Q:List V->Hp->Prop),Inv X pins σ H s->t σ H Q->wpAny (model X.prog X.w) X.A (spliced (backTo pos (starEach es X.env))) (AP X pins σ Q) X.xe s
def PS (X:Cx) (st:Stmt) (t:TS):Prop :=
 ∀ (pins:List (Addr × Obj)) (s:Shared) (σ:St) (H:Hp) (D:Ends),Inv X pins σ H s->t D σ H->wpAny (model X.prog X.w) X.A (exec st X.env) (SP X pins D) X.xe s
def PSs (X:Cx) (st:List Stmt) (t:TS):Prop :=
 ∀ (pins:List (Addr × Obj)) (s:Shared) (σ:St) (H:Hp) (D:Ends),Inv X pins σ H s->t D σ H->wpAny (model X.prog X.w) X.A (execs st X.env) (SP X pins D) X.xe s
theorem thn {α:Type} {t:Sem α} {Q Q':α->Shared->Prop} {M:Model} {A:Around} {E:Value->Shared->Prop} {s:Shared} (h:wpAny M A t Q E s) (hQ:∀ a s,Q a s->Q' a s):wpAny M A t Q' E s:=wpAny_mono h hQ λ_ _ x=>x
section
variable {X:Cx}
theorem bin {a b:Expr} {ta tb:TE} (ha:PE X a ta) (hb:PE X b tb) {pins:List (Addr × Obj)} {s:Shared} {σ:St} {H:Hp} {R:V->V->Hp->Prop} (I:Inv X pins σ H s) (h:ta σ H λx H1=>tb σ H1 λy H2=>R x y H2)
  {α:Type} {Q:α->Shared->Prop} {f:Value->Value->Sem α}
  (hf:∀ v u s2 x y H2,Inv X pins σ H2 s2->RelV x v->RelV y u->R x y H2->wpAny (model X.prog X.w) X.A (f v u) Q X.xe s2) :
  wpAny (model X.prog X.w) X.A (eval a X.env) (λv s₁=>wpAny (model X.prog X.w) X.A (eval b X.env) (λu s₂=>wpAny (model X.prog X.w) X.A (f v u) Q X.xe s₂) X.xe s₁) X.xe s:=by
 refine thn (ha pins s σ H _ I h) λv s1 ⟨x,H1,I1,r1,q1⟩=>?_
 refine thn (hb pins s1 σ H1 _ I1 q1) λu s2 ⟨y,H2,I2,r2,q2⟩=>?_
 exact hf v u s2 x y H2 I2 r1 r2 q2
def tVar (i:Nat):TE:=λσ H Q=>∃ v,σ[i]?=some (some v)/\Q v H
def tC (v:V):TE:=λ_ H Q=>Q v H
theorem pe_var {i:Nat} {x:Str} {pos:Pos} (hN:X.N[i]?=some x) (hv:Vis X.env.scope x) (hd:(x==("__debug__":Str))=false:=by decide) (hcd:(x==("__classdict__":Str))=false:=by decide):PE X (.Name x pos) (tVar i):=by
 intro pins s σ H Q I h
 obtain ⟨v,e,h⟩:=h
 obtain ⟨m,hn,hl⟩:=I.loc
 obtain ⟨u,r,l⟩:=hl i x v hN e hv
 have fin:EP X pins σ Q u s:=⟨v,H,I,r,h⟩
 rcases l with ⟨hk,hm⟩|⟨hk,c,hc,hcell⟩
 ·exact wpAny_Name (wpAny_loadName_local I.ok.kind hk hn hm fin) hd
 ·rcases hk with hk|hk
  ·exact wpAny_Name (wpAny_loadName_cell I.ok.kind hk hc hcell fin) hd
  ·exact wpAny_Name (wpAny_loadName_free I.ok.kind hk hc hcell fin hcd) hd
theorem pe_int {i j pos}:PE X (.Constant (.int i) j pos) (tC (.int i)):=λ_ _ _ H _ I h=>wpAny_Constant_int ⟨.int i,H,I.tok _,⟨_,rfl⟩,h⟩
theorem pe_bl {b j pos}:PE X (.Constant (.bool b) j pos) (tC (.bl b)):=λ_ _ _ H _ I h=>Constant_bool ⟨.bl b,H,I,rfl,h⟩
theorem pe_non {j pos}:PE X (.Constant .none j pos) (tC .non):=λ_ _ _ H _ I h=>Constant_none ⟨.non,H,I,rfl,h⟩
theorem pe_str {x j pos}:PE X (.Constant (.str x) j pos) (tC (.str x)):=λ_ _ _ H _ I h=>Calls.Constant_str ⟨.str x,H,I.tok _,⟨_,rfl⟩,h⟩
def Gl (X:Cx) (x:Str):Prop:=X.env.kindOf x=some .globalImplicit
theorem ld_glob {E:Value->Shared->Prop} {pins:List (Addr × Obj)} {s:Shared} {σ:St} {H:Hp} {x:Str} {u:Value} {pos:Pos} {Q:Value->Shared->Prop} (I:Inv X pins σ H s) (hg:Gl X x) (hm:X.mg x=some u) (h:Q u s)
  (hd:(x==("__debug__":Str))=false:=by decide):wpAny (model X.prog X.w) X.A (eval (.Name x pos) X.env) Q E s :=
 Calls.Name_function_global I.ok.kind hg (Calls.loadGlobal_global (by rw[I.ok.glob];exact I.mod.glob.keeps I.bk) hm h) hd
theorem ld_blt {E:Value->Shared->Prop} {pins:List (Addr × Obj)} {s:Shared} {σ:St} {H:Hp} {x:Str} {u:Value} {pos:Pos} {Q:Value->Shared->Prop} (I:Inv X pins σ H s) (hg:Gl X x) (hm:X.mg x=none) (hv:bootBuiltins x=some u) (h:Q u s)
  (hn:x≠"__name__":=by decide) (hd:(x==("__debug__":Str))=false:=by decide):wpAny (model X.prog X.w) X.A (eval (.Name x pos) X.env) Q E s:=by
 obtain ⟨mb,h1,h2⟩:=I.mod.blt
 exact Calls.Name_function_global I.ok.kind hg (Calls.loadGlobal_builtin (by rw[I.ok.glob];exact I.mod.glob.keeps I.bk) hm (by rw[I.ok.blt];exact h1.keeps I.bk) ((h2 x hn).trans hv) h) hd
variable {a b:Expr} {ta tb:TE} {pos:Pos}
def PC (X:Cx) (op:CmpOp) (a b:Expr) (t:TE):Prop :=
 ∀ (pins:List (Addr × Obj)) (s:Shared) (σ:St) (H:Hp) (Q:VK),Inv X pins σ H s->t σ H Q ->
  wpAny (model X.prog X.w) X.A (eval a X.env) (λv s₁=>wpAny (model X.prog X.w) X.A (eval b X.env) (λu s₂=>wpAny (model X.prog X.w) X.A (compareOp op v u) (EP X pins σ Q) X.xe s₂) X.xe s₁) X.xe s
def tB (t:TE):TT:=λσ H Q=>t σ H λx H1=>∃ c,x=.bl c/\Q c H1
theorem pt_cmp {op:CmpOp} {t:TE} (h:PC X op a b t) (h1:behindInMarks op b=false:=by first|exact nobehind _ (by decide) (by decide)|rfl):PT X (.Compare a [op] [b] pos) (tB t):=by
 intro pins s σ H Q I hw
 refine wpAny_isTrue_Compare1 (thn (h pins s σ H _ I hw) λv s1 h1=>thn h1 λu s2 h2=>thn h2 λc s3 ⟨x,H1,I1,r1,q1⟩=>?_) h1
 obtain ⟨d,rfl,q⟩:=q1
 cases r1
 exact wpAny_truthy_bool ⟨H1,I1,q⟩
theorem pt_val {e:Expr} {t:TE} (h:PE X e t) (he:∀ whole,isTrue e X.env whole=(do let v <- whole;standAt e.pos;holding [v] (truthy v)):=by intro _;rfl):PT X e (tB t):=by
 intro pins s σ H Q I hw
 refine isTrue_plain (thn (h pins s σ H _ I hw) λv s1 ⟨x,H1,I1,r1,q1⟩=>?_) (he _)
 obtain ⟨d,rfl,q⟩:=q1
 cases r1
 exact wpAny_truthy_bool ⟨H1,I1,q⟩
variable {tA tB':TT} {rest:List Expr}
def tAnd (t u:TT):TT:=λσ H Q=>t σ H λc H1=>if c=true then u σ H1 Q else Q false H1
def tOr (t u:TT):TT:=λσ H Q=>t σ H λc H1=>if c=true then Q true H1 else u σ H1 Q
def tNot (t:TT):TT:=λσ H Q=>t σ H λc H1=>Q (!c) H1
theorem pw_and1 (ha:PT X a tA):PW X (.BoolOp .And [a] pos) tA:=by
 intro wh pins s σ H Q I h
 refine isTrue_and (thn (ha pins s σ H Q I h) λc s1 e=>?_)
 cases c with
 | true=>exact isTrue_and_nil e
 | false=>exact e
theorem pw_or1 (ha:PT X a tA):PW X (.BoolOp .Or [a] pos) tA:=by
 intro wh pins s σ H Q I h
 refine isTrue_or (thn (ha pins s σ H Q I h) λc s1 e=>?_)
 cases c with
 | false=>exact isTrue_or_nil e
 | true=>exact e
theorem pw_and (ha:PT X a tA) (hb:PW X (.BoolOp .And (b::rest) pos) tB'):PW X (.BoolOp .And (a::b::rest) pos) (tAnd tA tB'):=by
 intro wh pins s σ H Q I h
 refine isTrue_and (thn (ha pins s σ H _ I h) λc s1 ⟨H1,I1,q1⟩=>?_)
 cases c with
 | true=>exact hb wh pins s1 σ H1 Q I1 q1
 | false=>exact ⟨H1,I1,q1⟩
theorem pw_or (ha:PT X a tA) (hb:PW X (.BoolOp .Or (b::rest) pos) tB'):PW X (.BoolOp .Or (a::b::rest) pos) (tOr tA tB'):=by
 intro wh pins s σ H Q I h
 refine isTrue_or (thn (ha pins s σ H _ I h) λc s1 ⟨H1,I1,q1⟩=>?_)
 cases c with
 | true=>exact ⟨H1,I1,q1⟩
 | false=>exact hb wh pins s1 σ H1 Q I1 q1
theorem pt_not (ha:PT X a tA):PT X (.UnaryOp .Not a pos) (tNot tA):=by
 intro pins s σ H Q I h
 exact isTrue_not (ha pins s σ H (λc H1=>Q (!c) H1) I h)
def tAndV (ta tb:TE):TE:=λσ H Q=>ta σ H λx H1=>∃ c,x=.bl c/\if c=true then tb σ H1 Q else Q (.bl false) H1
def tOrV (ta tb:TE):TE:=λσ H Q=>ta σ H λx H1=>∃ c,x=.bl c/\if c=true then Q (.bl true) H1 else tb σ H1 Q
def tNotV (ta:TE):TE:=λσ H Q=>ta σ H λx H1=>∃ c,x=.bl c/\Q (.bl (!c)) H1
theorem pe_one {op} {t:TE} (h:PE X a t):PE X (.BoolOp op [a] pos) t:=λpins s σ H Q I hw=>BoolOp_one (h pins s σ H Q I hw)
theorem pe_or (ha:PE X a ta) (hb:PE X (.BoolOp .Or (b::rest) pos) tb):PE X (.BoolOp .Or (a::b::rest) pos) (tOrV ta tb):=by
 intro pins s σ H Q I h
 refine BoolOp_or (thn (ha pins s σ H _ I h) λv s1 ⟨x,H1,I1,r1,q1⟩=>?_)
 obtain ⟨c,rfl,q1⟩:=q1
 cases r1
 refine wpAny_truthy_bool ?_
 cases c with
 | false=>exact hb pins s1 σ H1 Q I1 q1
 | true=>exact ⟨.bl true,H1,I1,rfl,q1⟩
def tIf (t:TT) (ta tb:TE):TE:=λσ H Q=>t σ H λc H1=>if c=true then ta σ H1 Q else tb σ H1 Q
theorem pe_ifExp {c:Expr} (hc:PT X c tA) (ha:PE X a ta) (hb:PE X b tb):PE X (.IfExp c a b pos) (tIf tA ta tb):=by
 intro pins s σ H Q I h
 refine wpAny_IfExp (thn (hc pins s σ H _ I h) λd s1 ⟨H1,I1,q1⟩=>?_)
 cases d with
 | true=>exact ha pins s1 σ H1 Q I1 q1
 | false=>exact hb pins s1 σ H1 Q I1 q1
end
def SqL (K:W.Frag) (H:Hp) (a:Addr) (xs:List V):Prop :=
 Rd H a (.lst xs) \/
  ∃ (o:Obj) (its:Array Value) (n:Nat),K.lookup a=some o/\o.cls=.type "list"/\o.dict=none/\o.data=.seq its n/\its.size<=sizeLine/\Vals xs its.toList
def SqT (K:W.Frag) (H:Hp) (a:Addr) (xs:List V):Prop :=
 Rd H a (.tup xs) \/
  ∃ (o:Obj) (its:Array Value) (n:Nat),K.lookup a=some o/\o.cls=.type "tuple"/\o.data=.seq its n/\its.size<=sizeLine/\Vals xs its.toList
def absV:Value->Option V
 | .none=>some .non
 | .bool b=>some (.bl b)
 | .int i _=>some (.int i)
 | .str x _=>some (.str x)
 | .bytes b _=>some (.byt b)
 | .float b _=>some (.flt b)
 | .ref a=>some (.ref a)
 | .type n=>some (.ty n)
 | _=>none
theorem RelV.abs {x:V} {u:Value} (r:RelV x u):absV u=some x:=by
 cases x with
 | non=>cases r;rfl
 | bl _=>cases r;rfl
 | int _=>obtain ⟨t,rfl⟩:=r;rfl
 | str _=>obtain ⟨t,rfl⟩:=r;rfl
 | byt _=>obtain ⟨t,rfl⟩:=r;rfl
 | flt _=>obtain ⟨t,rfl⟩:=r;rfl
 | ref _=>cases r;rfl
 | ty _=>cases r;rfl
theorem RelV.inj {x y:V} {u:Value} (r:RelV x u) (q:RelV y u):x=y:=Option.some.inj (r.abs.symm.trans q.abs)
theorem Vals.inj:∀ {xs ys:List V} {us:List Value},Vals xs us->Vals ys us->xs=ys
 | _,_,_,.nil,.nil=>rfl
 | _,_,_,.cons r t,.cons r' t'=>by rw[r.inj r',Vals.inj t t']
section
variable {X:Cx} {pins:List (Addr × Obj)} {σ:St} {H:Hp} {s:Shared} {a:Addr} {xs ys:List V}
theorem SqL.of {K:W.Frag} (h:H a=some (.lst xs)):SqL K H a xs:=.inl (.inl h)
theorem SqT.of {K:W.Frag} (h:H a=some (.tup xs)):SqT K H a xs:=.inl (.inl h)
theorem Inv.list (I:Inv X pins σ H s) (h:SqL X.K H a xs):∃ its:List Value,Vals xs its/\PlainL s.heap a its.toArray/\xs.length<=sizeLine:=by
 rcases h with h|⟨o,its,n,hk,hc,hd,hs,hz,r⟩
 ·obtain ⟨z,its,n,r,e⟩:=h.ok I.hok
  exact ⟨its,r,⟨_,n,e,rfl,rfl,rfl⟩,z⟩
 ·refine ⟨its.toList,r,⟨o,n,I.kIn a o hk,hc,hd,by simpa using hs⟩,?_⟩
  have e:=r.length
  simp only[Array.length_toList] at e
  lia
theorem Inv.tuple (I:Inv X pins σ H s) (h:SqT X.K H a xs):∃ its:List Value,Vals xs its/\IsTup s.heap a its.toArray/\xs.length<=sizeLine:=by
 rcases h with h|⟨o,its,n,hk,hc,hs,hz,r⟩
 ·obtain ⟨z,its,r,p⟩:=h.ok I.hok
  exact ⟨its,r,p,z⟩
 ·refine ⟨its.toList,r,⟨o,I.kIn a o hk,hc,n,by simpa using hs⟩,?_⟩
  have e:=r.length
  simp only[Array.length_toList] at e
  lia
theorem Inv.list_inj (I:Inv X pins σ H s) (h:SqL X.K H a xs) (h':SqL X.K H a ys):xs=ys:=by
 obtain ⟨its,r,⟨o,n,e,_,_,d⟩,_⟩:=I.list h
 obtain ⟨its',r',⟨o',n',e',_,_,d'⟩,_⟩:=I.list h'
 rw[e] at e';cases e'
 rw[d] at d'
 injection d' with d1 _
 have:its=its':=by simpa using congrArg Array.toList d1
 subst this
 exact r.inj r'
theorem Inv.tuple_inj (I:Inv X pins σ H s) (h:SqT X.K H a xs) (h':SqT X.K H a ys):xs=ys:=by
 obtain ⟨its,r,⟨o,e,_,n,d⟩,_⟩:=I.tuple h
 obtain ⟨its',r',⟨o',e',_,n',d'⟩,_⟩:=I.tuple h'
 rw[e] at e';cases e'
 rw[d] at d'
 injection d' with d1 _
 have:its=its':=by simpa using congrArg Array.toList d1
 subst this
 exact r.inj r'
end
abbrev Cx.wish (X:Cx) (E:Value->Shared->Prop):Cx:={ X with xe:=E }
abbrev Cx.nox (X:Cx):Cx:=X.wish λ_ _=>False
theorem Cx.Ok.wish {X:Cx} (ok:X.Ok) (E:Value->Shared->Prop):(X.wish E).Ok :=
 ⟨ok.mod,ok.kind,ok.glob,ok.blt,ok.above,ok.inj,ok.has,ok.cab,ok.hd,ok.frames,ok.stk,ok.exf,ok.bs,ok.bsz,ok.noex,ok.exfs,ok.funs,ok.frf⟩
theorem Cx.Ok.unwish {X:Cx} {E:Value->Shared->Prop} (ok:(X.wish E).Ok):X.Ok :=
 ⟨ok.mod,ok.kind,ok.glob,ok.blt,ok.above,ok.inj,ok.has,ok.cab,ok.hd,ok.frames,ok.stk,ok.exf,ok.bs,ok.bsz,ok.noex,ok.exfs,ok.funs,ok.frf⟩
section
variable {X:Cx} {pins:List (Addr × Obj)} {σ:St} {H:Hp} {s:Shared} {E:Value->Shared->Prop}
theorem Inv.wish (I:Inv X pins σ H s) (E:Value->Shared->Prop):Inv (X.wish E) pins σ H s:=⟨I.ok.wish E,I.os,I.bare,I.base,I.loc,I.cell,I.free,I.freeC,I.pin,I.hok,I.len⟩
theorem Inv.unwish (I:Inv (X.wish E) pins σ H s):Inv X pins σ H s:=⟨I.ok.unwish,I.os,I.bare,I.base,I.loc,I.cell,I.free,I.freeC,I.pin,I.hok,I.len⟩
theorem SP.unwish {D:Ends} {f:Flow} {s':Shared} (h:SP (X.wish E) pins D f s'):SP X pins D f s':=by
 cases f with
 | next=>obtain ⟨σ',H',I,q⟩:=h;exact ⟨σ',H',I.unwish,q⟩
 | brk=>obtain ⟨σ',H',I,q⟩:=h;exact ⟨σ',H',I.unwish,q⟩
 | cont=>obtain ⟨σ',H',I,q⟩:=h;exact ⟨σ',H',I.unwish,q⟩
 | ret u=>obtain ⟨v,σ',H',I,r,q⟩:=h;exact ⟨v,σ',H',I.unwish,r,q⟩
theorem PT.nox {e:Expr} {t:TT} (h:PT X.nox e t):PT X e t:=λpins s σ H Q I hw =>
 wpAny_mono (h pins s σ H Q (I.wish _) hw) (λ_ _ ⟨H',I',q⟩=>⟨H',I'.unwish,q⟩) λ_ _ z=>False.elim z
theorem PSs.nox {st:List Stmt} {t:TS} (h:PSs X.nox st t):PSs X st t:=λpins s σ H D I hw =>
 wpAny_mono (h pins s σ H D (I.wish _) hw) (λ_ _ q=>q.unwish) λ_ _ z=>False.elim z
end
section
variable {X:Cx} {st:Stmt} {rest:List Stmt} {t u:TS} {e:Expr} {te:TE} {pos:Pos}
def tNext:TS:=λD σ H=>D.nx σ H
def tSeq (t u:TS):TS:=λD σ H=>t { D with nx:=u D } σ H
theorem pss_nil:PSs X [] tNext:=λ_ _ σ H _ I h=>wpAny_execs_nil ⟨σ,H,I,h⟩
theorem pss_cons (h1:PS X st t) (h2:PSs X rest u):PSs X (st::rest) (tSeq t u):=by
 intro pins s σ H D I h
 refine wpAny_execs_cons (thn (h1 pins s σ H { D with nx:=u D } I h) λf s1 q=>?_)
 cases f with
 | next =>
  obtain ⟨σ',H',I',q⟩:=q
  exact h2 pins s1 σ' H' D I' q
 | ret v=>exact q
 | brk=>exact q
 | cont=>exact q
theorem pss_one (h1:PS X st t):PSs X [st] t:=by
 intro pins s σ H D I h
 refine wpAny_execs_cons (thn (h1 pins s σ H D I h) λf s1 q=>?_)
 cases f with
 | next=>exact wpAny_execs_nil q
 | ret v=>exact q
 | brk=>exact q
 | cont=>exact q
theorem Inv.quiet {pins:List (Addr × Obj)} {σ:St} {H:Hp} {s:Shared} (I:Inv X pins σ H s):interactive X.env=false:=by simp[interactive,I.ok.kind]
def tDrop (te:TE):TS:=λD σ H=>te σ H λ_ H1=>D.nx σ H1
theorem ps_expr (he:PE X e te) (hs:swapsWith e none pos.line X.env=pure false:=by rfl):PS X (.Expr e pos) (tDrop te):=by
 intro pins s σ H D I h
 exact wpAny_Expr_any (thn (he pins s σ H _ I h) λv s1 ⟨x,H1,I1,r1,q1⟩=>⟨σ,H1,I1,q1⟩) I.quiet hs
def tRet (te:TE):TS:=λD σ H=>te σ H D.rt
theorem ps_ret (he:PE X e te):PS X (.Return (some e) pos) (tRet te):=by
 intro pins s σ H D I h
 exact wpAny_Return_some (thn (he pins s σ H _ I h) λv s1 ⟨x,H1,I1,r1,q1⟩=>⟨x,σ,H1,I1,r1,q1⟩)
def tRetN:TS:=λD _ H=>D.rt .non H
def tIfS (c:TT) (t u:TS):TS:=λD σ H=>c σ H λb H1=>if b=true then t D σ H1 else u D σ H1
theorem ps_if {c:Expr} {a b:List Stmt} {tc:TT} (hc:PT X c tc) (ha:PSs X a t) (hb:PSs X b u):PS X (.If c a b pos) (tIfS tc t u):=by
 intro pins s σ H D I h
 refine wpAny_If (thn (hc pins s σ H _ I h) λd s1 ⟨H1,I1,q1⟩=>?_)
 cases d with
 | true=>exact ha pins s1 σ H1 D I1 q1
 | false=>exact hb pins s1 σ H1 D I1 q1
end
abbrev TG:=V->St->Hp->(St->Hp->Prop)->Prop
abbrev TGs:=List V->St->Hp->(St->Hp->Prop)->Prop
def PG (X:Cx) (target:Expr) (t:TG):Prop :=
 ∀ (pins:List (Addr × Obj)) (s:Shared) (σ:St) (H:Hp) (v:V) (u:Value) (Q:St->Hp->Prop),Inv X pins σ H s->RelV v u->t v σ H Q ->
  wpAny (model X.prog X.w) X.A (assign target X.env u) (λ_ s'=>∃ σ' H',Inv X pins σ' H' s'/\Q σ' H') X.xe s
def PGs (X:Cx) (ts:List Expr) (t:TGs):Prop :=
 ∀ (pins:List (Addr × Obj)) (s:Shared) (σ:St) (H:Hp) (vs:List V) (us:List Value) (Q:St->Hp->Prop),Inv X pins σ H s->Vals vs us->t vs σ H Q ->
  wpAny (model X.prog X.w) X.A (assignInOrder ((assignEach ts X.env).map (·.2)) us) (λ_ s'=>∃ σ' H',Inv X pins σ' H' s'/\Q σ' H') X.xe s
abbrev TSet:=V->V->V->Hp->(Hp->Prop)->Prop
def PSet (X:Cx) (t:TSet):Prop :=
 ∀ (pins:List (Addr × Obj)) (s:Shared) (σ:St) (H:Hp) (o i v:V) (ov iv u:Value) (Q:Hp->Prop),Inv X pins σ H s->RelV o ov->RelV i iv->RelV v u->t o i v H Q ->
  wpAny (model X.prog X.w) X.A (setItem ov iv u) (λ_ s'=>∃ H',Inv X pins σ H' s'/\Q H') X.xe s
abbrev TIp:=V->V->Hp->VK->Prop
def PIp (X:Cx) (op:Operator) (t:TIp):Prop :=
 ∀ (pins:List (Addr × Obj)) (s:Shared) (σ:St) (H:Hp) (x y:V) (v u:Value) (Q:VK),Inv X pins σ H s->RelV x v->RelV y u->t x y H Q ->
  wpAny (model X.prog X.w) X.A (inplaceOp op v u) (EP X pins σ Q) X.xe s
section
variable {X:Cx} {pos:Pos}
def gName (i:Nat):TG:=λv σ H Q=>Q (σ.set i (some v)) H
theorem pg_name {i:Nat} {x:Str} (hN:X.N.Nodup) (hi:X.N[i]?=some x) (hx:Loc X.env.scope x) (hf:X.fn x=true\/X.env.scope.names.lookup x=some .local:=by first|exact .inl rfl|exact .inr rfl|assumption):PG X (.Name x pos) (gName i):=by
 intro pins s σ H v u Q I r h
 exact wpAny_assign_Name (store_ok I hN hi hx r (λs' I'=>⟨_,H,I',h⟩) hf)
def gNil:TGs:=λvs σ H Q=>vs=[]/\Q σ H
def gCons (t:TG) (u:TGs):TGs:=λvs σ H Q=>∃ v r,vs=v::r/\t v σ H λσ' H'=>u r σ' H' Q
theorem pgs_nil:PGs X [] gNil:=by
 intro pins s σ H vs us Q I r h
 obtain ⟨e,h⟩:=h
 subst e
 cases r
 exact assignInOrder_nil ⟨σ,H,I,h⟩
theorem pgs_cons {e:Expr} {es:List Expr} {t:TG} {u:TGs} (h1:PG X e t) (h2:PGs X es u)
  (hs:(assignEach (e::es) X.env).map (·.2)=assign e X.env::(assignEach es X.env).map (·.2):=by rfl):PGs X (e::es) (gCons t u):=by
 intro pins s σ H vs us Q I r h
 obtain ⟨v,vr,e1,h⟩:=h
 subst e1
 cases r with
 | cons r rr =>
  rw[hs]
  refine assignInOrder_cons (thn (h1 pins s σ H _ _ _ I r h) λ_ s1 ⟨σ1,H1,I1,q1⟩=>?_)
  exact h2 pins s1 σ1 H1 _ _ Q I1 rr q1
def gTup (K:W.Frag) (n:Nat) (t:TGs):TG:=λv σ H Q=>∃ a xs,v=.ref a/\SqT K H a xs/\xs.length=n/\t xs σ H Q
theorem pg_tup {es:List Expr} {k:Nat} {t:TGs} {n:Nat} (hc:X.calm=true) (h:PGs X es t)
  (hn:(assignEach es X.env).length=n:=by rfl) (hst:(assignEach es X.env).findIdx? (·.1)=none:=by rfl):PG X (.Tuple es k pos) (gTup X.K n t):=by
 intro pins s σ H v u Q I r hw
 obtain ⟨a,xs,e1,hq,hl,hw⟩:=hw
 subst e1
 cases r
 obtain ⟨its,rv,ht,hz⟩:=I.tuple hq
 refine assign_Tuple_tuple (I.ok.hd hc) ht (by simp[hn,<-hl,rv.length]) hst λh' hx=>?_
 have I1:Inv X pins σ H { s with heap:=h' }:=I.kept (t':=s.toks) λb o e=>hx b o (Nat.ne_of_lt (Heap.lt_size e)) e
 exact h pins _ σ H xs _ Q I1 (by simpa using rv) hw
def gSub (to ti:TE) (t:TSet):TG:=λv σ H Q=>to σ H λo H1=>ti σ H1 λi H2=>t o i v H2 λH3=>Q σ H3
theorem pg_sub {o i:Expr} {to ti:TE} {t:TSet} (ho:PE X o to) (hi:PE X i ti) (hs:PSet X t)
  (ha:∀ v,assign (.Subscript o i pos) X.env v=(do
   let ov <- holding [v] (eval o X.env)
   let iv <- holding [v,ov] (eval i X.env)
   standAt pos
   holding [v,ov,iv] (setItem ov iv v)
   release [v,ov,iv] []):=by intro _;rfl):PG X (.Subscript o i pos) (gSub to ti t):=by
 intro pins s σ H v u Q I r h
 rw[ha]
 refine wpAny_bind (wpAny_holding (thn (ho pins s σ H _ I h) λov s1 ⟨x,H1,I1,r1,q1⟩=>?_))
 refine wpAny_bind (wpAny_holding (thn (hi pins s1 σ H1 _ I1 q1) λiv s2 ⟨y,H2,I2,r2,q2⟩=>?_))
 refine wpAny_bind (wpAny_standAt (wpAny_bind (wpAny_holding (thn (hs pins s2 σ H2 x y v ov iv u _ I2 r1 r2 r q2) λ_ s3 ⟨H3,I3,q3⟩=>?_))))
 exact wpAny_release ⟨σ,H3,I3,q3⟩
def tAsg (te:TE) (g:TG):TS:=λD σ H=>te σ H λx H1=>g x σ H1 D.nx
theorem ps_asg {tg e:Expr} {te:TE} {g:TG} (he:PE X e te) (hg:PG X tg g) (hs:swapsWithSole [tg] e pos.line X.env=pure false:=by rfl) (hw:swappedStores [tg] e X.env=pure none:=by rfl)
  (h1:(assignEach [tg] X.env).map (·.2)=[assign tg X.env]:=by rfl):PS X (.Assign [tg] e pos) (tAsg te g):=by
 intro pins s σ H D I h
 refine wpAny_Assign_stores (thn (he pins s σ H _ I h) λv s1 ⟨x,H1,I1,r1,q1⟩=>?_) hs hw
 rw[h1]
 exact thn (hg pins s1 σ H1 x v _ I1 r1 q1) λ_ s2 q=>q
theorem ps_set {i:Nat} {x:Str} {e:Expr} {te:TE} {pos':Pos} (hN:X.N.Nodup) (hi:X.N[i]?=some x) (hx:Loc X.env.scope x) (he:PE X e te) (hs:swapsWith e (some (.Name x pos')) pos.line X.env=pure false:=by rfl) (hf:X.fn x=true\/X.env.scope.names.lookup x=some .local:=by first|exact .inl rfl|exact .inr rfl|assumption) :
  PS X (.Assign [.Name x pos'] e pos) (tAsg te (gName i)):=by
 intro pins s σ H D I h
 refine wpAny_Assign_Name (thn (he pins s σ H _ I h) λv s1 ⟨y,H1,I1,r1,q1⟩=>?_) hs
 exact store_ok I1 hN hi hx r1 (λs2 I2=>⟨_,H1,I2,q1⟩) hf
def tPar (i j:Nat) (ta:TA):TS:=λD σ H=>ta σ H λvs H1=>∃ v w,vs=[v,w]/\D.nx ((σ.set i (some v)).set j (some w)) H1
theorem ps_par {i j:Nat} {x y:Str} {a b:Expr} {ta:TA} {px py pt:Pos} {kt k2 pt2} (hc:X.calm=true) (hN:X.N.Nodup) (hi:X.N[i]?=some x) (hj:X.N[j]?=some y) (hij:i≠j)
  (hx:X.env.scope.names.lookup x=some .local) (hy:X.env.scope.names.lookup y=some .local) (ha:PA X [a,b] ta)
  (hw:swappedStores [.Tuple [.Name x px,.Name y py] kt pt] (.Tuple [a,b] k2 pt2) X.env=pure (some [x,y]))
  (hs:swapsWithSole [.Tuple [.Name x px,.Name y py] kt pt] (.Tuple [a,b] k2 pt2) pos.line X.env=pure false:=by rfl) :
  PS X (.Assign [.Tuple [.Name x px,.Name y py] kt pt] (.Tuple [a,b] k2 pt2) pos) (tPar i j ta):=by
 intro pins s σ H D I h
 rw[exec_Assign_arm]
 refine wpAny_bind (wpAny_standAt ?_)
 rw[hs]
 refine wpAny_bind (wpAny_pure ?_)
 rw[if_neg (by decide)]
 refine wpAny_bind (Tuple_ (thn (ha _ pins s σ H _ I h) λus s1 ⟨vs,H1,I1,r1,q1⟩=>?_))
 obtain ⟨v,w,e1,q1⟩:=q1
 subst e1
 obtain ⟨u1,u2,rfl,rv,rw'⟩:∃ u1 u2,us=[u1,u2]/\RelV v u1/\RelV w u2:=by
  cases r1 with
  | cons p q =>
   cases q with
   | cons p' q' =>
    cases q'
    exact ⟨_,_,rfl,p,p'⟩
 refine wpAny_newObj_type ?_ (by show 2<=sizeLine;decide)
 have I2:Inv X pins σ H1 { s1 with heap:=s1.heap.push { cls:=.type "tuple",data:=.seq [u1,u2].toArray } }:=I1.kept (t':=s1.toks) λb o e=>Heap.get?_push_of_some _ e
 rw[hw]
 refine wpAny_bind (wpAny_pure ?_)
 show wpAny (model X.prog X.w) X.A (do rule "assign.swapped-stores";let items <- unpackItems (.ref s1.heap.objs.size) 2 none;assignInOrder [λv=>bindName X.env y v,λv=>bindName X.env x v] items.reverse;pure Flow.next) _ _ _
 refine wpAny_bind (wpAny_rule (wpAny_bind (unpackItems_tuple (items:=#[u1,u2]) (I.ok.hd hc) (IsTup.new s1.heap _) λh' hx'=>?_)))
 have I3:=I2.kept (h':=h') (t':=s1.toks) λb o e=>hx' b o (Nat.ne_of_lt (Heap.lt_size e)) e
 show wpAny _ _ (assignInOrder [λv=>bindName X.env y v,λv=>bindName X.env x v] [u2,u1] >>= λ_=>pure Flow.next) _ _ _
 refine wpAny_bind (assignInOrder_cons (wpAny_bindName (store_ok I3 hN hj (.inl hy) rw' (λs2 I4=>?_) (.inr hy))))
 refine assignInOrder_cons (wpAny_bindName (store_ok I4 hN hi (.inl hx) rv (λs3 I5=>assignInOrder_nil (wpAny_pure ?_)) (.inr hx)))
 rw[List.set_comm _ _ (Ne.symm hij)] at I5
 exact ⟨_,H1,I5,q1⟩
def tAug (i:Nat) (te:TE) (ti:TIp):TS:=λD σ H=>∃ x,σ[i]?=some (some x)/\te σ H λy H1=>ti x y H1 λz H2=>D.nx (σ.set i (some z)) H2
theorem ps_aug {i:Nat} {x:Str} {e:Expr} {te:TE} {op:Operator} {ti:TIp} {pos':Pos} (hN:X.N.Nodup) (hi:X.N[i]?=some x) (hx:Loc X.env.scope x) (he:PE X e te) (ho:PIp X op ti) (hf:X.fn x=true\/X.env.scope.names.lookup x=some .local:=by first|exact .inl rfl|exact .inr rfl|assumption) :
  PS X (.AugAssign (.Name x pos') op e pos) (tAug i te ti):=by
 intro pins s σ H D I h
 obtain ⟨v,e1,h⟩:=h
 obtain ⟨m,hn,hl⟩:=I.loc
 have vis:Vis X.env.scope x:=by rcases hx with k|k;exact .inl k;exact .inr (.inl k)
 obtain ⟨u,r,l⟩:=hl i x v hi e1 vis
 refine wpAny_AugAssign_Name ?_
 have go:wpAny (model X.prog X.w) X.A (eval e X.env) (λw s₂=>wpAny (model X.prog X.w) X.A (inplaceOp op u w) (λr s₃=>wpAny (model X.prog X.w) X.A (storeName X.env x r) (λ_=>SP X pins D .next) X.xe s₃) X.xe s₂) X.xe s:=by
  refine thn (he pins s σ H _ I h) λw s1 ⟨y,H1,I1,r1,q1⟩=>?_
  refine thn (ho pins s1 σ H1 v y u w _ I1 r r1 q1) λz s2 ⟨zv,H2,I2,r2,q2⟩=>?_
  exact store_ok I2 hN hi hx r2 (λs3 I3=>⟨_,H2,I3,q2⟩) hf
 rcases l with ⟨hk,hm⟩|⟨hk,c,hc,hcell⟩
 ·exact wpAny_loadName_local I.ok.kind hk hn hm go
 ·rcases hk with hk|hk
  ·exact wpAny_loadName_cell I.ok.kind hk hc hcell go
  ·rcases hx with k|k
   ·have:X.env.scope.names.lookup x=some .free:=hk
    rw[k] at this;cases this
   ·have:X.env.scope.names.lookup x=some .free:=hk
    rw[k] at this;cases this
def tAugS (to ti te:TE) (tget:V->V->Hp->VK->Prop) (tip:TIp) (tset:TSet):TS:=λD σ H=>to σ H λo H1=>ti σ H1 λi H2=>tget o i H2 λx H3=>te σ H3 λy H4=>tip x y H4 λz H5=>tset o i z H5 λH6=>D.nx σ H6
def ipI (f:Int->Int->Int):TIp:=λx y H Q=>∃ i j,x=.int i/\y=.int j/\Q (.int (f i j)) H
theorem ip_add:PIp X .Add (ipI λi j=>i+j):=by
 intro pins s σ H x y v u Q I r1 r2 h
 obtain ⟨i,j,e1,e2,q⟩:=h
 subst e1;subst e2
 obtain ⟨t,rfl⟩:=r1
 obtain ⟨t',rfl⟩:=r2
 exact iadd_int ⟨.int _,H,I.tok _,⟨_,rfl⟩,q⟩
def tWhile (c:TT) (tb:TS):TS:=λD σ H=>∃ W:Nat->St->Hp->Prop,(∃ m,W m σ H)/\∀ m σ H,W m σ H ->
 c σ H λb H1=>if b=true then ∃ N:St->Hp->Prop,(∀ σ' H',N σ' H'->∃ m',m' < m/\W m' σ' H')/\tb { D with nx:=N,ct:=N,bk:=D.nx } σ H1 else D.nx σ H1
theorem ps_while {c:Expr} {body:List Stmt} {tc:TT} {tb:TS} (hp:PassesOwn (model X.prog X.w) X.A X.env X.xe) (hc:PT X c tc) (hb:PSs X body tb):PS X (.While c body [] pos) (tWhile tc tb):=by
 intro pins s σ H D I h
 obtain ⟨W,⟨m0,w0⟩,turn⟩:=h
 refine wpAny_While (codeAny_whileLoop (λn s'=>∃ σ' H',Inv X pins σ' H' s'/\W n σ' H') ?_ m0 ⟨σ,H,I,w0⟩)
 rintro n s1 ⟨σ1,H1,I1,w1⟩
 refine wpAny_passesOwn hp (thn (hc pins s1 σ1 H1 _ I1 (turn n σ1 H1 w1)) λb s2 ⟨H2,I2,q2⟩=>?_)
 cases b with
 | true =>
  obtain ⟨N,hN,q2⟩:=q2
  rw[if_pos rfl]
  refine wpAny_passesOwn hp (thn (hb pins s2 σ1 H2 _ I2 q2) λf s3 q3=>?_)
  cases f with
  | next =>
   obtain ⟨σ3,H3,I3,n3⟩:=q3
   obtain ⟨m',hm,w3⟩:=hN σ3 H3 n3
   exact ⟨m',hm,σ3,H3,I3,w3⟩
  | cont =>
   obtain ⟨σ3,H3,I3,n3⟩:=q3
   obtain ⟨m',hm,w3⟩:=hN σ3 H3 n3
   exact ⟨m',hm,σ3,H3,I3,w3⟩
  | brk=>exact q3
  | ret v=>exact q3
 | false =>
  rw[if_neg Bool.false_ne_true]
  exact wpAny_execs_nil ⟨σ1,H2,I2,q2⟩
end
structure It where
 go:Nat->Hp->Prop
 yld:Nat->Hp->V->Hp->Prop
 stop:Nat->Hp->Prop
def FpOk (X:Cx) (pins:List (Addr × Obj)) (H:Hp) (b:Addr):Prop :=
 H b=none/\b≠X.env.locals/\b∉X.fs/\(b∈X.ex\/X.s₀.heap.objs.size<=b)/\(∀ x c,X.env.cells.lookup x=some c->c≠b)/\∀ p∈X.pn++pins,p.1≠b
theorem Inv.fpOk {X:Cx} {pins:List (Addr × Obj)} {σ:St} {H H':Hp} {s:Shared} {b:Addr} (I:Inv X pins σ H s) (hb:s.heap.objs.size<=b) (hn:H' b=none):FpOk X pins H' b:=by
 refine ⟨hn,Nat.ne_of_gt (Nat.lt_of_lt_of_le I.lt hb),I.nofs hb,.inr (Nat.le_trans I.sz hb),λx c e z=>?_,λp hp z=>?_⟩
 ·obtain ⟨v,q⟩:=I.cell x c e
  exact absurd (Nat.lt_of_lt_of_le q.lt (by rw[z];exact hb)) (Nat.lt_irrefl _)
 ·exact absurd (Nat.lt_of_lt_of_le (Heap.lt_size (I.pin p hp).1) (by rw[z];exact hb)) (Nat.lt_irrefl _)
structure Turn (P:Program) (w:World) (K:W.Frag) (tg:Expr) (J:It) (fp:List Addr) (it:Addr) (tn:Nat->Heap->Prop):Prop where
 mem:it∈fp
 obj:∀ i h,tn i h->∀ b∈fp,∃ o,h.get? b=some o/\∀ v,o.data≠.cell v
 keep:∀ i h h',tn i h->(∀ b∈fp,∀ o,h.get? b=some o->h'.get? b=some o)->tn i h'
 item:∀ (X:Cx),X.prog=P->X.w=w->X.K=K->X.calm=true->∀ (i:Nat) (pins:List (Addr × Obj)) (s:Shared) (σ:St) (H:Hp) (E:Value->Shared->Prop),Inv X pins σ H s->(∀ b∈fp,FpOk X pins H b)->tn i s.heap->J.go i H ->
  wpAny (model P w) X.A (pyNext (.ref it)) (λr s1=>∃ u,r=some u /\
   wpAny (model P w) X.A (letOwnedTupleGo tg (.ref it) u) (λ_ s2=>∃ x H',Inv X pins σ H' s2/\RelV x u/\J.yld i H x H'/\tn (i+1) s2.heap/\∀ b∈fp,H' b=none) E s1) E s
 done:∀ (X:Cx),X.prog=P->X.w=w->X.K=K->X.calm=true->∀ (i:Nat) (pins:List (Addr × Obj)) (s:Shared) (σ:St) (H:Hp) (E:Value->Shared->Prop),Inv X pins σ H s->(∀ b∈fp,FpOk X pins H b)->tn i s.heap->J.stop i H ->
  wpAny (model P w) X.A (pyNext (.ref it)) (λr s1=>r=none/\Inv X pins σ H s1) E s
 self:∀ (A:Around) (i:Nat) (s:Shared) (Q:Value->Shared->Prop) (E:Value->Shared->Prop),tn i s.heap->Q (.ref it) s->wpAny (model P w) A (pyIter (.ref it)) Q E s
abbrev TI:=St->Hp->(It->Hp->Prop)->Prop
def PIE (X:Cx) (pins:List (Addr × Obj)) (σ:St) (tg:Expr) (R:It->Hp->Prop) (itv:Value) (s2:Shared):Prop :=
 ∃ (it:Addr) (fp:List Addr) (tn:Nat->Heap->Prop) (J:It) (H':Hp),itv=.ref it/\Inv X pins σ H' s2/\Turn X.prog X.w X.K tg J fp it tn/\tn 0 s2.heap/\(∀ b∈fp,FpOk X pins H' b)/\R J H'
def PI (X:Cx) (tg iter:Expr) (wi:TI):Prop :=
 ∀ (pins:List (Addr × Obj)) (s:Shared) (σ:St) (H:Hp) (R:It->Hp->Prop),Inv X pins σ H s->wi σ H R ->
  wpAny (model X.prog X.w) X.A (eval iter X.env) (λv s1=>wpAny (model X.prog X.w) X.A (pyIter v) (PIE X pins σ tg R) X.xe s1) X.xe s
theorem go_of {M:Model} {A:Around} {E:Value->Shared->Prop} {s:Shared} {tg:Expr} {it:Addr} {u:Value} {o:Obj} {n:String} {vs:Array Value} {Q:Unit->Shared->Prop} (ho:s.heap.get? it=some o) (hc:o.cls=.type n) (hd:o.data=.fields vs)
  (hn:["enumerate","zip","dict_itemiterator","dict_reverseitemiterator","odict_iterator","itertools.zip_longest","itertools.pairwise"].contains n=false) (hQ:Q () s):wpAny M A (letOwnedTupleGo tg (.ref it) u) Q E s:=by
 unfold letOwnedTupleGo
 cases tg<;>first
  | exact wpAny_pure hQ
  | (cases u<;>first
    | exact wpAny_pure hQ
    | (refine wpAny_bind (wpAny_load ho ?_)
       rw[hc,hd]
       show wpAny M A (if (["enumerate","zip","dict_itemiterator","dict_reverseitemiterator","odict_iterator","itertools.zip_longest","itertools.pairwise"].contains n&&vs[0]?==some (rawInt _))=true then _ else _) Q E s
       rw[if_neg (by intro h;rw[hn,Bool.false_and] at h;cases h)]
       exact wpAny_pure hQ))
def Itl (K:W.Frag) (a:Addr):It :=
 ⟨λi H=>∃ xs x,SqL K H a xs/\xs[i]?=some x,λi H x H'=>H'=H/\∀ xs,SqL K H a xs->xs[i]?=some x,λi H=>∃ xs,SqL K H a xs/\xs.length<=i⟩
def Itt (K:W.Frag) (a:Addr):It :=
 ⟨λi H=>∃ xs x,SqT K H a xs/\xs[i]?=some x,λi H x H'=>H'=H/\∀ xs,SqT K H a xs->xs[i]?=some x,λi H=>∃ xs,SqT K H a xs/\xs.length<=i⟩
def Itr (lo:Int) (n:Nat):It:=⟨λi _=>i < n,λi H x H'=>H'=H/\x=.int (lo+i),λi _=>n<=i⟩
theorem turn_list {P:Program} {w:World} {K:W.Frag} {tg:Expr} (a it:Addr):Turn P w K tg (Itl K a) [it] it (λi h=>h.IsListIter it a i) where
 mem:=by simp
 obj:=λi h st b hb=>by
  have e:b=it:=by simpa using hb
  subst e
  obtain ⟨o,e,c,d⟩:=st
  exact ⟨o,e,λv z=>by rw[d] at z;cases z⟩
 keep:=λi h h' st k=>st.at λo e=>k it (by simp) o e
 item:=by
  intro X hP hw hK hc i pins s σ H E I hf st hg
  subst hP hw hK
  obtain ⟨xs,x,hq,hx⟩:=hg
  obtain ⟨its,rv,p,hz⟩:=I.list hq
  obtain ⟨u,hu,ru⟩:=rv.get hx
  obtain ⟨f0,f1,f2,f3,f4,f5⟩:=hf it (by simp)
  refine wpAny_pyNext_list_item st p.isList (x:=u) (by simpa using hu) λh' st' sb=>?_
  have I1:Inv X pins σ H { s with heap:=h' }:=I.turned (t':=s.toks) (λb o hb e=>(sb.2 b hb).trans e) f0 f1 f3 f4 f5
  obtain ⟨o,e,c,d⟩:=id st'
  exact ⟨u,rfl,go_of (s:={ s with heap:=h' }) e c d (by decide) ⟨x,H,I1,ru,⟨rfl,λys hy=>by rw[I.list_inj hy hq];exact hx⟩,st',λb hb=>(hf b hb).1⟩⟩
 done:=by
  intro X hP hw hK hc i pins s σ H E I hf st hg
  subst hP hw hK
  obtain ⟨xs,hq,hx⟩:=hg
  obtain ⟨its,rv,p,hz⟩:=I.list hq
  obtain ⟨f0,f1,f2,f3,f4,f5⟩:=hf it (by simp)
  have hl:=rv.length
  exact wpAny_pyNext_list_end (I.ok.hd hc) st p.isList (by simp;lia) λh' eb=>⟨rfl,I.turned (t':=s.toks) (λb o hb e=>eb b o hb e) f0 f1 f3 f4 f5⟩
 self:=λ_ _ _ _ _ st h=>wpAny_pyIter_listiter st h
theorem turn_range {P:Program} {w:World} {K:W.Frag} {tg:Expr} (it:Addr) (lo:Int) (n:Nat):Turn P w K tg (Itr lo n) [it] it (λi h=>IsRangeIter h it (lo+(i:Nat)*1) ((n:Int) - (i:Nat)) 1) where
 mem:=by simp
 obj:=λi h st b hb=>by
  have e:b=it:=by simpa using hb
  subst e
  exact ⟨_,st,λv z=>by
   have z':Data.fields _=Data.cell v:=z
   cases z'⟩
 keep:=λi h h' st k=>k it (by simp) _ st
 item:=by
  intro X hP hw hK hc i pins s σ H E I hf st hg
  subst hP hw hK
  obtain ⟨f0,f1,f2,f3,f4,f5⟩:=hf it (by simp)
  have W:=Walks.range (prog:=X.prog) (w:=X.w) (I.ok.hd hc) it lo 1 n
  refine W.item i s _ _ hg st λv h' tk hv st' kk=>?_
  obtain ⟨t,rfl⟩:=hv
  have I1:Inv X pins σ H { s with heap:=h',toks:=tk }:=I.turned (λb o hb e=>kk b o (by simpa using hb) e) f0 f1 f3 f4 f5
  refine ⟨_,rfl,go_of (s:={ s with heap:=h',toks:=tk }) (n:="range_iterator") st' rfl rfl (by decide) ⟨.int (lo+i),H,I1,⟨t,?_⟩,⟨rfl,rfl⟩,st',λb hb=>(hf b hb).1⟩⟩
  rw[Int.mul_one]
 done:=by
  intro X hP hw hK hc i pins s σ H E I hf st hg
  subst hP hw hK
  obtain ⟨f0,f1,f2,f3,f4,f5⟩:=hf it (by simp)
  exact wpAny_pyNext_range_end (I.ok.hd hc) st (by have:n<=i:=hg;lia) λh' eb=>⟨rfl,I.turned (t':=s.toks) (λb o hb e=>eb b o hb e) f0 f1 f3 f4 f5⟩
 self:=λ_ _ _ _ _ st h=>wpAny_pyIter_rangeiter st h
section
variable {X:Cx} {tg:Expr}
def iList (K:W.Frag) (tl:TE):TI:=λσ H R=>tl σ H λx H1=>∃ a,x=.ref a/\(∃ xs,SqL K H1 a xs)/\R (Itl K a) H1
def iTup (K:W.Frag) (tl:TE):TI:=λσ H R=>tl σ H λx H1=>∃ a,x=.ref a/\(∃ xs,SqT K H1 a xs)/\R (Itt K a) H1
theorem pi_list {l:Expr} {tl:TE} (hl:PE X l tl):PI X tg l (iList X.K tl):=by
 intro pins s σ H R I h
 refine thn (hl pins s σ H _ I h) λv s1 ⟨x,H1,I1,r1,q1⟩=>?_
 obtain ⟨a,e,⟨xs,hq⟩,q⟩:=q1
 subst e
 cases r1
 obtain ⟨its,rv,p,hz⟩:=I1.list hq
 refine wpAny_pyIter_list p.isList ?_
 refine ⟨s1.heap.objs.size,[s1.heap.objs.size],_,_,H1,rfl,I1.kept (t':=s1.toks) λb o e=>Heap.get?_push_of_some _ e,turn_list a _,⟨_,Heap.get?_push_size _ rfl,rfl,rfl⟩,λb hb=>?_,q⟩
 have e:b=s1.heap.objs.size:=by simpa using hb
 subst e
 exact I1.fpOk (Nat.le_refl _) (I1.hok.fresh (Nat.le_refl _))
theorem range_it {pins:List (Addr × Obj)} {σ:St} {H:Hp} {s:Shared} {R:It->Hp->Prop} {E:Value->Shared->Prop} {lo hi:Int} {t u v:Tok} {tk:Nat} (I:Inv X pins σ H s) (h1:-(2 ^ 62)<=lo) (h2:lo < 2 ^ 62) (h3:-(2 ^ 62)<=hi) (h4:hi < 2 ^ 62)
  (q:R (Itr lo (hi - lo).toNat) H):wpAny (model X.prog X.w) X.A (pyIter (.ref s.heap.objs.size)) (PIE X pins σ tg R) E { s with heap:=s.heap.push { cls:=.type "range",data:=.fields #[.int lo t,.int hi u,.int 1 v] },toks:=tk }:=by
 refine wpAny_pyIter_range (IsRange.new ..) (small_one h1 h2 h3 h4) ?_
 have I1:Inv X pins σ H { s with heap:=s.heap.push { cls:=.type "range",data:=.fields #[.int lo t,.int hi u,.int 1 v] },toks:=tk }:=I.kept λb o e=>Heap.get?_push_of_some _ e
 refine ⟨(s.heap.push { cls:=.type "range",data:=.fields #[.int lo t,.int hi u,.int 1 v] }).objs.size,[(s.heap.push { cls:=.type "range",data:=.fields #[.int lo t,.int hi u,.int 1 v] }).objs.size],_,_,H,rfl,
  I1.kept (t':=tk) λb o e=>Heap.get?_push_of_some _ e,turn_range _ lo (hi - lo).toNat,?_,λb hb=>?_,q⟩
 ·have e1:lo+((0:Nat):Int)*1=lo:=by simp
  have e2:(((hi - lo).toNat:Nat):Int) - ((0:Nat):Int)=Builtin.Range.rangeSize lo hi 1:=by rw[rangeSize_one];split<;>lia
  show IsRangeIter _ _ (lo+((0:Nat):Int)*1) ((((hi - lo).toNat:Nat):Int) - ((0:Nat):Int)) 1
  rw[e1,e2]
  exact Heap.get?_push_size _ rfl
 ·have e:b=(s.heap.push { cls:=.type "range",data:=.fields #[.int lo t,.int hi u,.int 1 v] }).objs.size:=by simpa using hb
  subst e
  exact I1.fpOk (Nat.le_refl _) (I1.hok.fresh (Nat.le_refl _))
def iRng1 (ta:TA):TI:=λσ H R=>ta σ H λvs H1=>∃ j:Int,vs=[.int j]/\-(2 ^ 62)<=j/\j < 2 ^ 62/\R (Itr 0 j.toNat) H1
def iRng2 (ta:TA):TI:=λσ H R=>ta σ H λvs H1=>∃ i j:Int,vs=[.int i,.int j]/\(-(2 ^ 62)<=i/\i < 2 ^ 62/\-(2 ^ 62)<=j/\j < 2 ^ 62)/\R (Itr i (j - i).toNat) H1
theorem pi_range1 {a:Expr} {ta:TA} {p pos:Pos} (hg:Gl X "range") (hm:X.mg "range"=none) (ha:PA X [a] ta) (hs:starEach [a] X.env=[(false,eval a X.env)]:=by rfl):PI X tg (.Call (.Name "range" p) [a] [] pos) (iRng1 ta):=by
 intro pins s σ H R I h
 refine Call_ (ld_blt I hg hm boot_range (PyProof.Rows.callWith_type1 (thn (ha pos pins s σ H _ I h) λus s1 ⟨vs,H1,I1,r1,q1⟩=>?_) hs rfl))
 obtain ⟨j,e,q1,q2,q⟩:=q1
 subst e
 cases r1 with
 | cons r rr =>
  cases rr
  obtain ⟨t,rfl⟩:=r
  exact call_range_1 (range_it I1 (by lia) (by lia) q1 q2 (by simpa using q))
theorem pi_range2 {a b:Expr} {ta:TA} {p pos:Pos} (hg:Gl X "range") (hm:X.mg "range"=none) (ha:PA X [a,b] ta) (hs:starEach [a,b] X.env=[(false,eval a X.env),(false,eval b X.env)]:=by rfl) (hs2:starEach [b] X.env=[(false,eval b X.env)]:=by rfl) :
  PI X tg (.Call (.Name "range" p) [a,b] [] pos) (iRng2 ta):=by
 intro pins s σ H R I h
 refine Call_ (ld_blt I hg hm boot_range (PyProof.Rows.callWith_type1 (thn (ha pos pins s σ H _ I h) λus s1 ⟨vs,H1,I1,r1,q1⟩=>?_) (by rw[hs,hs2]) (by rw[hs2];rfl)))
 obtain ⟨i,j,e,⟨q1,q2,q3,q4⟩,q⟩:=q1
 subst e
 cases r1 with
 | cons r rr =>
  cases rr with
  | cons r' rr =>
   cases rr
   obtain ⟨t,rfl⟩:=r
   obtain ⟨t',rfl⟩:=r'
   exact call_range_2 (range_it I1 q1 q2 q3 q4 q)
def tFor (wi:TI) (g:TG) (tb:TS):TS:=λD σ H=>wi σ H λJ H1=>∃ W:Nat->Nat->St->Hp->Prop,(∃ m,W 0 m σ H1)/\∀ i m σ H,W i m σ H ->
 (J.stop i H/\D.nx σ H)\/(J.go i H/\∃ N:St->Hp->Prop,(∀ σ' H',N σ' H'->∃ m',m' < m/\W (i+1) m' σ' H')/\∀ x H',J.yld i H x H'->g x σ H' λσ2 H2=>tb { D with nx:=N,ct:=N,bk:=D.nx } σ2 H2)
def pinsAt (fp:List Addr) (h:Heap):List (Addr × Obj):=fp.filterMap λb=>(h.get? b).map λo=>(b,o)
theorem mem_pinsAt {fp:List Addr} {h:Heap} {b:Addr} {o:Obj} (hb:b∈fp) (e:h.get? b=some o):(b,o)∈pinsAt fp h:=List.mem_filterMap.mpr ⟨b,hb,by rw[e];rfl⟩
theorem of_pinsAt {fp:List Addr} {h:Heap} {p:Addr × Obj} (hp:p∈pinsAt fp h):p.1∈fp/\h.get? p.1=some p.2:=by
 obtain ⟨b,hb,e⟩:=List.mem_filterMap.mp hp
 cases q:h.get? b with
 | none=>rw[q] at e;cases e
 | some o =>
  rw[q] at e
  have e':(b,o)=p:=Option.some.inj e
  subst e'
  exact ⟨hb,q⟩
theorem Inv.pinned {pins:List (Addr × Obj)} {σ:St} {H:Hp} {s:Shared} {fp:List Addr} (I:Inv X pins σ H s) (hf:∀ b∈fp,FpOk X pins H b) (ho:∀ b∈fp,∃ o,s.heap.get? b=some o/\∀ v,o.data≠.cell v):Inv X (pins++pinsAt fp s.heap) σ H s :=
 I.pins_of λp hp=>(mem_append.mp hp).elim (λz=>I.pin p (mem_append_right _ z)) λz=>by
  obtain ⟨hb,e⟩:=of_pinsAt z
  obtain ⟨f0,f1,f2,_⟩:=hf p.1 hb
  obtain ⟨o,e',d⟩:=ho p.1 hb
  rw[e] at e';cases e'
  exact ⟨e,f0,f1,f2,d⟩
theorem Inv.unpinned {pins pl:List (Addr × Obj)} {σ:St} {H:Hp} {s:Shared} (I:Inv X (pins++pl) σ H s):Inv X pins σ H s:=I.pins_of λp hp=>I.pin p (mem_append_right _ (mem_append_left _ hp))
theorem ps_for {iter:Expr} {body:List Stmt} {wi:TI} {g:TG} {tb:TS} {pos:Pos} (hp:PassesOwn (model X.prog X.w) X.A X.env X.xe) (hc:X.calm=true) (hi:PI X tg iter wi) (hg:PG X tg g) (hb:PSs X body tb)
  (hs:∀ x,foldedSetIterable iter X.env x=pure x:=by intro _;rfl):PS X (.For tg iter body [] pos) (tFor wi g tb):=by
 intro pins s σ H D I h
 refine wpAny_For (thn (hi pins s σ H _ I h) λv s1 h1=>thn h1 λitv s2 h2=>?_) hs
 obtain ⟨it,fp,tn,J,H2,e,I2,T,st2,f2,W,⟨m0,w0⟩,turn⟩:=h2
 subst e
 have stat:∀ {H':Hp},(∀ b∈fp,H' b=none)->∀ b∈fp,FpOk X pins H' b:=λhn b hb=>⟨hn b hb,(f2 b hb).2⟩
 refine codeAny_forLoop_any (λn s'=>∃ i σ' H',Inv X pins σ' H' s'/\tn i s'.heap/\(∀ b∈fp,H' b=none)/\W i n σ' H') ?_ m0 ⟨0,σ,H2,I2,st2,λb hb=>(f2 b hb).1,w0⟩
 rintro n s3 ⟨i,σ3,H3,I3,st3,fr3,w3⟩
 rcases turn i n σ3 H3 w3 with ⟨stop,qn⟩|⟨go,N,hN,step⟩
 ·refine wpAny_passesOwn hp (thn (T.done X rfl rfl rfl hc i pins s3 σ3 H3 X.xe I3 (stat fr3) st3 stop) λr s4 ⟨hr,I4⟩=>?_)
  subst hr
  exact wpAny_execs_nil ⟨σ3,H3,I4,qn⟩
 ·refine wpAny_passesOwn hp (thn (T.item X rfl rfl rfl hc i pins s3 σ3 H3 X.xe I3 (stat fr3) st3 go) λr s4 ⟨u,hr,h4⟩=>?_)
  subst hr
  refine wpAny_passesOwn hp (thn h4 λ_ s5 ⟨x,H5,I5,r5,y5,st5,fr5⟩=>?_)
  have I5':=I5.pinned (stat fr5) (T.obj _ _ st5)
  refine wpAny_passesOwn hp (thn (hg _ s5 σ3 H5 x u _ I5' r5 (step x H5 y5)) λ_ s6 ⟨σ6,H6,I6,q6⟩=>?_)
  refine wpAny_passesOwn hp (thn (hb _ s6 σ6 H6 _ I6 q6) λf s7 q7=>?_)
  have again:∀ {σ7:St} {H7:Hp},Inv X (pins++pinsAt fp s5.heap) σ7 H7 s7->N σ7 H7->∃ m,m < n/\∃ i σ' H',Inv X pins σ' H' s7/\tn i s7.heap/\(∀ b∈fp,H' b=none)/\W i m σ' H':=λ{σ7 H7} I7 n7=>by
   obtain ⟨m',hm,w7⟩:=hN σ7 H7 n7
   refine ⟨m',hm,i+1,σ7,H7,I7.unpinned,T.keep _ _ _ st5 λb hb o e=>(I7.pin (b,o) (mem_append_right _ (mem_append_right _ (mem_pinsAt hb e)))).1,λb hb=>?_,w7⟩
   obtain ⟨o,e,d⟩:=T.obj _ _ st5 b hb
   exact (I7.pin (b,o) (mem_append_right _ (mem_append_right _ (mem_pinsAt hb e)))).2.1
  cases f with
  | next=>obtain ⟨σ7,H7,I7,n7⟩:=q7;exact again I7 n7
  | cont=>obtain ⟨σ7,H7,I7,n7⟩:=q7;exact again I7 n7
  | brk=>obtain ⟨σ7,H7,I7,q7⟩:=q7;exact ⟨σ7,H7,I7.unpinned,q7⟩
  | ret v=>obtain ⟨x7,σ7,H7,I7,r7,q7⟩:=q7;exact ⟨x7,σ7,H7,I7.unpinned,r7,q7⟩
end
theorem for_list {K:W.Frag} {a:Addr} {xs:List V} {g:TG} {tb:TS} {D:Ends} {σ:St} {H:Hp} (Pv:Nat->St->Hp->Prop) (h0:Pv 0 σ H) (hl:∀ i σ H,i<=xs.length->Pv i σ H->SqL K H a xs)
  (hs:∀ i x σ H,xs[i]?=some x->Pv i σ H->g x σ H λσ2 H2=>tb { D with nx:=Pv (i+1),ct:=Pv (i+1),bk:=D.nx } σ2 H2) (hd:∀ σ H,Pv xs.length σ H->D.nx σ H) :
  ∃ W:Nat->Nat->St->Hp->Prop,(∃ m,W 0 m σ H)/\∀ i m σ H,W i m σ H ->
   ((Itl K a).stop i H/\D.nx σ H)\/((Itl K a).go i H/\∃ N:St->Hp->Prop,(∀ σ' H',N σ' H'->∃ m',m' < m/\W (i+1) m' σ' H')/\∀ x H',(Itl K a).yld i H x H'->g x σ H' λσ2 H2=>tb { D with nx:=N,ct:=N,bk:=D.nx } σ2 H2):=by
 refine ⟨λi m σ H=>m=xs.length - i/\i<=xs.length/\Pv i σ H,⟨xs.length,by simp,Nat.zero_le _,h0⟩,?_⟩
 rintro i m σ H ⟨rfl,hi,p⟩
 have q:=hl i σ H hi p
 by_cases hlt:i < xs.length
 ·refine .inr ⟨⟨xs,xs[i],q,by simp[hlt]⟩,Pv (i+1),λσ' H' p'=>⟨xs.length - (i+1),by lia,rfl,hlt,p'⟩,λx H' y=>?_⟩
  obtain ⟨e,y⟩:=y
  subst e
  exact hs i x σ _ (y xs q) p
 ·have e:i=xs.length:=by lia
  subst e
  exact .inl ⟨⟨xs,q,Nat.le_refl _⟩,hd σ H p⟩
theorem for_range {lo:Int} {n:Nat} {g:TG} {tb:TS} {D:Ends} {σ:St} {H:Hp} (Pv:Nat->St->Hp->Prop) (h0:Pv 0 σ H)
  (hs:∀ i σ H,i < n->Pv i σ H->g (.int (lo+i)) σ H λσ2 H2=>tb { D with nx:=Pv (i+1),ct:=Pv (i+1),bk:=D.nx } σ2 H2) (hd:∀ σ H,Pv n σ H->D.nx σ H) :
  ∃ W:Nat->Nat->St->Hp->Prop,(∃ m,W 0 m σ H)/\∀ i m σ H,W i m σ H ->
   ((Itr lo n).stop i H/\D.nx σ H)\/((Itr lo n).go i H/\∃ N:St->Hp->Prop,(∀ σ' H',N σ' H'->∃ m',m' < m/\W (i+1) m' σ' H')/\∀ x H',(Itr lo n).yld i H x H'->g x σ H' λσ2 H2=>tb { D with nx:=N,ct:=N,bk:=D.nx } σ2 H2):=by
 refine ⟨λi m σ H=>m=n - i/\i<=n/\Pv i σ H,⟨n,by simp,Nat.zero_le _,h0⟩,?_⟩
 rintro i m σ H ⟨rfl,hi,p⟩
 by_cases hlt:i < n
 ·refine .inr ⟨hlt,Pv (i+1),λσ' H' p'=>⟨n - (i+1),by lia,rfl,hlt,p'⟩,λx H' y=>?_⟩
  obtain ⟨e,y⟩:=y
  subst e y
  exact hs i σ _ hlt p
 ·have e:i=n:=by lia
  subst e
  exact .inl ⟨Nat.le_refl _,hd σ H p⟩
abbrev R2:=V->V->Hp->VK->Prop
def OpR (X:Cx) (f:Value->Value->Sem Value) (r:R2):Prop :=
 ∀ (pins:List (Addr × Obj)) (s:Shared) (σ:St) (H:Hp) (x y:V) (v u:Value) (Q:VK),Inv X pins σ H s->RelV x v->RelV y u->r x y H Q ->
  wpAny (model X.prog X.w) X.A (f v u) (EP X pins σ Q) X.xe s
def UnR (X:Cx) (f:Value->Sem Value) (r:V->Hp->VK->Prop):Prop :=
 ∀ (pins:List (Addr × Obj)) (s:Shared) (σ:St) (H:Hp) (x:V) (v:Value) (Q:VK),Inv X pins σ H s->RelV x v->r x H Q ->
  wpAny (model X.prog X.w) X.A (f v) (EP X pins σ Q) X.xe s
def CallR (X:Cx) (f:Value) (r:List V->Hp->VK->Prop):Prop :=
 ∀ (pins:List (Addr × Obj)) (s:Shared) (σ:St) (H:Hp) (xs:List V) (us:List Value) (Q:VK),Inv X pins σ H s->Vals xs us->r xs H Q ->
  wpAny (model X.prog X.w) X.A (call f us) (EP X pins σ Q) X.xe s
def tOp (r:R2) (ta tb:TE):TE:=λσ H Q=>ta σ H λx H1=>tb σ H1 λy H2=>r x y H2 Q
def tUn (r:V->Hp->VK->Prop) (ta:TE):TE:=λσ H Q=>ta σ H λx H1=>r x H1 Q
def rI (C:Int->Int->Prop) (g:Int->Int->V):R2:=λx y H Q=>∃ i j,x=.int i/\y=.int j/\C i j/\Q (g i j) H
def rI0 (g:Int->Int->V):R2:=λx y H Q=>∃ i j,x=.int i/\y=.int j/\Q (g i j) H
def rU (g:Int->V):V->Hp->VK->Prop:=λx H Q=>∃ i,x=.int i/\Q (g i) H
section
variable {X:Cx} {a b:Expr} {ta tb:TE} {pos:Pos}
theorem binT (ha:PE X a ta) (hb:PE X b tb) {pins:List (Addr × Obj)} {s:Shared} {σ:St} {H:Hp} {R:V->V->Hp->Prop} (I:Inv X pins σ H s)
  (h:ta σ H λx H1=>tb σ H1 λy H2=>R x y H2) {Q:Value->Shared->Prop} {f:Value->Value->Sem Value}
  (hf:∀ v u s2 x y H2,Inv X pins σ H2 s2->RelV x v->RelV y u->R x y H2->wpAny (model X.prog X.w) X.A (f v u) Q X.xe s2) :
  wpAny (model X.prog X.w) X.A (eval a X.env) (λv s₁=>wpAny (model X.prog X.w) X.A (eval b X.env) (λu s₂=>wpAny (model X.prog X.w) X.A (f v u) Q X.xe s₂) X.xe s₁) X.xe s:=by
 refine thn (ha pins s σ H _ I h) λv s1 ⟨x,H1,I1,r1,q1⟩=>?_
 refine thn (hb pins s1 σ H1 _ I1 q1) λu s2 ⟨y,H2,I2,r2,q2⟩=>?_
 exact hf v u s2 x y H2 I2 r1 r2 q2
theorem pe_op {op:Operator} {r:R2} (ho:OpR X (binaryOp op) r) (ha:PE X a ta) (hb:PE X b tb):PE X (.BinOp a op b pos) (tOp r ta tb):=by
 intro pins s σ H Q I h
 exact wpAny_BinOp (binT ha hb I h λv u s2 x y H2 I2 rx ry q=>ho pins s2 σ H2 x y v u Q I2 rx ry q)
theorem pe_un {op:UnaryOp} {r:V->Hp->VK->Prop} (ho:UnR X (unaryOp op) r) (ha:PE X a ta):PE X (.UnaryOp op a pos) (tUn r ta):=by
 intro pins s σ H Q I h
 exact UnaryOp_ (thn (ha pins s σ H _ I h) λv s1 ⟨x,H1,I1,r1,q1⟩=>ho pins s1 σ H1 x v Q I1 r1 q1)
theorem opI {f:Value->Value->Sem Value} {C:Int->Int->Prop} {g:Int->Int->Int}
  (rule:∀ (i j:Int) (t u:Tok) (s:Shared) (Q:Value->Shared->Prop) (E:Value->Shared->Prop),C i j->Q (.int (g i j) s.toks) { s with toks:=s.toks+1 }->wpAny (model X.prog X.w) X.A (f (.int i t) (.int j u)) Q E s) :
  OpR X f (rI C λi j=>.int (g i j)):=by
 intro pins s σ H x y v u Q I rx ry h
 obtain ⟨i,j,rfl,rfl,hc,q⟩:=h
 obtain ⟨t,rfl⟩:=rx
 obtain ⟨t',rfl⟩:=ry
 exact rule i j t t' s _ _ hc ⟨.int (g i j),H,I.tok _,⟨_,rfl⟩,q⟩
theorem opI0 {f:Value->Value->Sem Value} {g:Int->Int->Int}
  (rule:∀ (i j:Int) (t u:Tok) (s:Shared) (Q:Value->Shared->Prop) (E:Value->Shared->Prop),Q (.int (g i j) s.toks) { s with toks:=s.toks+1 }->wpAny (model X.prog X.w) X.A (f (.int i t) (.int j u)) Q E s) :
  OpR X f (rI0 λi j=>.int (g i j)):=by
 intro pins s σ H x y v u Q I rx ry h
 obtain ⟨i,j,rfl,rfl,q⟩:=h
 obtain ⟨t,rfl⟩:=rx
 obtain ⟨t',rfl⟩:=ry
 exact rule i j t t' s _ _ ⟨.int (g i j),H,I.tok _,⟨_,rfl⟩,q⟩
theorem opB0 {f:Value->Value->Sem Value} {g:Int->Int->Bool}
  (rule:∀ (i j:Int) (t u:Tok) (s:Shared) (Q:Value->Shared->Prop) (E:Value->Shared->Prop),Q (.bool (g i j)) s->wpAny (model X.prog X.w) X.A (f (.int i t) (.int j u)) Q E s) :
  OpR X f (rI0 λi j=>.bl (g i j)):=by
 intro pins s σ H x y v u Q I rx ry h
 obtain ⟨i,j,rfl,rfl,q⟩:=h
 obtain ⟨t,rfl⟩:=rx
 obtain ⟨t',rfl⟩:=ry
 exact rule i j t t' s _ _ ⟨.bl (g i j),H,I,rfl,q⟩
def CDiv (i j:Int):Prop:=0 < j/\j < 1073741824
def CPow (i j:Int):Prop:=0<=j/\j<=1000000/\i.natAbs < 2 ^ 64
def CMul (i j:Int):Prop:=(-(2 ^ 64) < i/\i < 2 ^ 64)\/(-(2 ^ 64) < j/\j < 2 ^ 64)
theorem CMul.ok {i j:Int} (h:CMul i j):IntMulOk i j:=by
 rcases h with ⟨h1,h2⟩|⟨h1,h2⟩
 ·exact .of_left (intBits_le_64 h1 h2)
 ·exact .of_right (intBits_le_64 h1 h2)
theorem op_add:OpR X (binaryOp .Add) (rI0 λi j=>.int (i+j)):=opI0 λ_ _ _ _ _ _ _ q=>add_int q
theorem op_sub:OpR X (binaryOp .Sub) (rI0 λi j=>.int (i - j)):=opI0 λ_ _ _ _ _ _ _ q=>sub_int q
theorem op_fdiv:OpR X (binaryOp .FloorDiv) (rI CDiv λi j=>.int (i / j)):=opI λi j _ _ _ _ _ hc q=>by
 have h1:(0:Int) < j:=hc.1
 have h2:j < 1073741824:=hc.2
 exact floordiv_int (by lia) (by rw[Int.fdiv_eq_ediv_of_nonneg i (by lia)];exact q) (.inl (PyProof.noPylong_small (by lia)))
theorem op_mod:OpR X (binaryOp .Mod) (rI (λ_ j=>0 < j) λi j=>.int (i % j)):=opI λi j _ _ _ _ _ hc q=>by
 have h1:(0:Int) < j:=hc
 exact mod_int' (by lia) (by rw[Int.fmod_eq_emod_of_nonneg i (by lia)];exact q)
theorem op_modN:OpR X (binaryOp .Mod) (rI (λ_ j=>j≠0) λi j=>.int (i.fmod j)):=opI λ_ _ _ _ _ _ _ hc q=>mod_int' hc q
theorem op_pow:OpR X (binaryOp .Pow) (rI CPow λi j=>.int (i ^ j.toNat)):=opI λ_ _ _ _ _ _ _ hc q=>pow_int_small hc.1 hc.2.1 hc.2.2 q
theorem unI {f:Value->Sem Value} {g:Int->Int}
  (rule:∀ (i:Int) (t:Tok) (s:Shared) (Q:Value->Shared->Prop) (E:Value->Shared->Prop),Q (.int (g i) s.toks) { s with toks:=s.toks+1 }->wpAny (model X.prog X.w) X.A (f (.int i t)) Q E s) :
  UnR X f (rU λi=>.int (g i)):=by
 intro pins s σ H x v Q I rx h
 obtain ⟨i,rfl,q⟩:=h
 obtain ⟨t,rfl⟩:=rx
 exact rule i t s _ _ ⟨.int (g i),H,I.tok _,⟨_,rfl⟩,q⟩
theorem un_neg:UnR X (unaryOp .USub) (rU λi=>.int (-i)):=unI λ_ _ _ _ _ q=>neg_int q
end
def scal:V->V->Bool
 | .non,.non=>true|.non,.int _=>true|.int _,.non=>true|.non,.bl _=>true|.bl _,.non=>true|.non,.str _=>true|.str _,.non=>true
 | .int _,.int _=>true|.bl _,.bl _=>true|.str _,.str _=>true|.byt _,.byt _=>true
 | .int _,.str _=>true|.str _,.int _=>true|.bl _,.str _=>true|.str _,.bl _=>true
 | _,_=>false
def rEq:R2:=λx y H Q=>scal x y=true/\Q (.bl (decide (x=y))) H
def rNe:R2:=λx y H Q=>scal x y=true/\Q (.bl (!decide (x=y))) H
theorem dec_int {i j:Int}:decide (V.int i=V.int j)=(i==j):=by
 rw[Bool.eq_iff_iff]
 simp
theorem dec_bl {i j:Bool}:decide (V.bl i=V.bl j)=(i==j):=by
 rw[Bool.eq_iff_iff]
 simp
theorem dec_str {i j:Str}:decide (V.str i=V.str j)=(i==j):=by
 rw[Bool.eq_iff_iff]
 simp
theorem dec_byt {i j:Array UInt8}:decide (V.byt i=V.byt j)=(i.toList==j.toList):=by
 rw[Bool.eq_iff_iff]
 cases i
 cases j
 simp
section
variable {X:Cx} {a b c:Expr} {ta tb:TE} {pos:Pos}
theorem fin_bl {pins:List (Addr × Obj)} {σ:St} {H:Hp} {s:Shared} {Q:VK} {k k':Bool} (I:Inv X pins σ H s) (q:Q (.bl k) H) (e:k=k'):EP X pins σ Q (.bool k') s:=by
 subst e
 exact ⟨.bl k,H,I,rfl,q⟩
theorem op_eq:OpR X (compareOp .Eq) rEq:=by
 intro pins s σ H x y v u Q I rx ry h
 obtain ⟨hs,q⟩:=h
 cases x with
 | non =>
  cases rx
  cases y with
  | non=>cases ry;exact PySem.EqNone.eq_none_none (fin_bl I q (by simp))
  | bl j=>cases ry;exact PySem.EqNone.eq_none_bool (fin_bl I q (by simp))
  | int j=>obtain ⟨t',rfl⟩:=ry;exact PySem.EqNone.eq_none_int (fin_bl I q (by simp))
  | str j=>obtain ⟨t',rfl⟩:=ry;exact PySem.EqNone.eq_none_str (fin_bl I q (by simp))
  | _=>exact absurd (show false=true from hs) Bool.false_ne_true
 | bl i =>
  cases rx
  cases y with
  | non=>cases ry;exact PySem.EqNone.eq_bool_none (fin_bl I q (by simp))
  | bl j=>cases ry;exact eq_bool (fin_bl I q dec_bl)
  | str j=>obtain ⟨t',rfl⟩:=ry;exact PySem.EqMixed.eq_bool_str (fin_bl I q (by simp))
  | _=>exact absurd (show false=true from hs) Bool.false_ne_true
 | int i =>
  obtain ⟨t,rfl⟩:=rx
  cases y with
  | non=>cases ry;exact PySem.EqNone.eq_int_none (fin_bl I q (by simp))
  | int j=>obtain ⟨t',rfl⟩:=ry;exact eq_int (fin_bl I q dec_int)
  | str j=>obtain ⟨t',rfl⟩:=ry;exact PySem.EqMixed.eq_int_str (fin_bl I q (by simp))
  | _=>exact absurd (show false=true from hs) Bool.false_ne_true
 | str i =>
  obtain ⟨t,rfl⟩:=rx
  cases y with
  | non=>cases ry;exact PySem.EqNone.eq_str_none (fin_bl I q (by simp))
  | bl j=>cases ry;exact PySem.EqMixed.eq_str_bool (fin_bl I q (by simp))
  | int j=>obtain ⟨t',rfl⟩:=ry;exact PySem.EqMixed.eq_str_int (fin_bl I q (by simp))
  | str j=>obtain ⟨t',rfl⟩:=ry;exact eq_str (fin_bl I q dec_str)
  | _=>exact absurd (show false=true from hs) Bool.false_ne_true
 | byt i =>
  obtain ⟨t,rfl⟩:=rx
  cases y with
  | byt j=>obtain ⟨t',rfl⟩:=ry;exact PySem.W.eq_bytes (fin_bl I q dec_byt)
  | _=>exact absurd (show false=true from hs) Bool.false_ne_true
 | _=>cases y<;>exact absurd (show false=true from hs) Bool.false_ne_true
theorem op_ne:OpR X (compareOp .NotEq) rNe:=by
 intro pins s σ H x y v u Q I rx ry h
 obtain ⟨hs,q⟩:=h
 cases x with
 | non =>
  cases rx
  cases y with
  | non=>cases ry;exact PySem.EqNone.ne_none_none (fin_bl I q (by simp))
  | bl j=>cases ry;exact PySem.EqNone.ne_none_bool (fin_bl I q (by simp))
  | int j=>obtain ⟨t',rfl⟩:=ry;exact PySem.EqNone.ne_none_int (fin_bl I q (by simp))
  | str j=>obtain ⟨t',rfl⟩:=ry;exact PySem.EqNone.ne_none_str (fin_bl I q (by simp))
  | _=>exact absurd (show false=true from hs) Bool.false_ne_true
 | bl i =>
  cases rx
  cases y with
  | non=>cases ry;exact PySem.EqNone.ne_bool_none (fin_bl I q (by simp))
  | bl j=>cases ry;exact ne_bool (fin_bl I q (congrArg not dec_bl))
  | str j=>obtain ⟨t',rfl⟩:=ry;exact PySem.EqMixed.ne_bool_str (fin_bl I q (by simp))
  | _=>exact absurd (show false=true from hs) Bool.false_ne_true
 | int i =>
  obtain ⟨t,rfl⟩:=rx
  cases y with
  | non=>cases ry;exact PySem.EqNone.ne_int_none (fin_bl I q (by simp))
  | int j=>obtain ⟨t',rfl⟩:=ry;exact ne_int (fin_bl I q (congrArg not dec_int))
  | str j=>obtain ⟨t',rfl⟩:=ry;exact PySem.EqMixed.ne_int_str (fin_bl I q (by simp))
  | _=>exact absurd (show false=true from hs) Bool.false_ne_true
 | str i =>
  obtain ⟨t,rfl⟩:=rx
  cases y with
  | non=>cases ry;exact PySem.EqNone.ne_str_none (fin_bl I q (by simp))
  | bl j=>cases ry;exact PySem.EqMixed.ne_str_bool (fin_bl I q (by simp))
  | int j=>obtain ⟨t',rfl⟩:=ry;exact PySem.EqMixed.ne_str_int (fin_bl I q (by simp))
  | str j=>obtain ⟨t',rfl⟩:=ry;exact ne_str (fin_bl I q (congrArg not dec_str))
  | _=>exact absurd (show false=true from hs) Bool.false_ne_true
 | byt i =>
  obtain ⟨t,rfl⟩:=rx
  cases y with
  | byt j=>obtain ⟨t',rfl⟩:=ry;exact PySem.W.ne_bytes (fin_bl I q (congrArg not dec_byt))
  | _=>exact absurd (show false=true from hs) Bool.false_ne_true
 | _=>cases y<;>exact absurd (show false=true from hs) Bool.false_ne_true
theorem op_lt:OpR X (compareOp .Lt) (rI0 λi j=>.bl (decide (i < j))):=opB0 λ_ _ _ _ _ _ _ q=>lt_int q
theorem op_gt:OpR X (compareOp .Gt) (rI0 λi j=>.bl (decide (j < i))):=opB0 λ_ _ _ _ _ _ _ q=>gt_int q
theorem op_ge:OpR X (compareOp .GtE) (rI0 λi j=>.bl (decide (j<=i))):=opB0 λ_ _ _ _ _ _ _ q=>ge_int q
theorem op_notN:OpR X (compareOp .IsNot) (λx y H Q=>y=.non/\Q (.bl (!decide (x=.non))) H):=by
 intro pins s σ H x y v u Q I rx ry h
 obtain ⟨rfl,q⟩:=h
 cases ry
 refine isnot_none_gen (fin_bl I q ?_)
 cases x<;>first
  | (cases rx;rfl)
  | (obtain ⟨t,rfl⟩:=rx;rfl)
theorem OpR.or {f:Value->Value->Sem Value} {r r':R2} (h:OpR X f r) (h':OpR X f r'):OpR X f (λx y H Q=>r x y H Q\/r' x y H Q):=by
 intro pins s σ H x y v u Q I rx ry q
 rcases q with q|q
 ·exact h pins s σ H x y v u Q I rx ry q
 ·exact h' pins s σ H x y v u Q I rx ry q
theorem nomark (b:Expr) {op:CmpOp} (h:op≠.In:=by decide) (h2:op≠.NotIn:=by decide):behindInMarks op b=false:=by
 have e1:(op==CmpOp.In)=false:=by cases op<;>first|rfl|exact absurd rfl h
 have e2:(op==CmpOp.NotIn)=false:=by cases op<;>first|rfl|exact absurd rfl h2
 cases b<;>simp[behindInMarks,e1,e2]
theorem pe_cmpR {op:CmpOp} {r:R2} (ho:OpR X (compareOp op) r) (ha:PE X a ta) (hb:PE X b tb) (hm:behindInMarks op b=false):PE X (.Compare a [op] [b] pos) (tOp r ta tb):=by
 intro pins s σ H Q I h
 exact wpAny_Compare1 (binT ha hb I h λv u s2 x y H2 I2 rx ry q=>ho pins s2 σ H2 x y v u Q I2 rx ry q) hm
def tTest (t:TE):TT:=λσ H Q=>t σ H λx H'=>∃ k,x=.bl k/\Q k H'
theorem pt_cmpR {op:CmpOp} {r:R2} (ho:OpR X (compareOp op) r) (ha:PE X a ta) (hb:PE X b tb) (hm:behindInMarks op b=false):PT X (.Compare a [op] [b] pos) (tTest (tOp r ta tb)):=by
 intro pins s σ H Q I h
 refine wpAny_isTrue_Compare1 (thn (ha pins s σ H _ I h) λv s1 ⟨x,H1,I1,r1,q1⟩=>thn (hb pins s1 σ H1 _ I1 q1) λu s2 ⟨y,H2,I2,r2,q2⟩ =>
  thn (ho pins s2 σ H2 x y v u _ I2 r1 r2 q2) λc s3 ⟨z,H3,I3,r3,k,e,q3⟩=>?_) hm
 subst e
 cases r3
 exact wpAny_truthy_bool ⟨H3,I3,q3⟩
theorem line63:(sizeLine:Nat) < 2 ^ 63:=by rw[sizeLine_eq];decide
theorem op_add_str:OpR X (binaryOp .Add) (λx y H Q=>∃ i j,x=.str i/\y=.str j/\i.length+j.length<=sizeLine/\Q (.str (i++j)) H):=by
 intro pins s σ H x y v u Q I rx ry h
 obtain ⟨i,j,rfl,rfl,hz,q⟩:=h
 obtain ⟨t,rfl⟩:=rx
 obtain ⟨t',rfl⟩:=ry
 exact add_str (λt' tk=>⟨.str (i++j),H,I.tok _,⟨_,rfl⟩,q⟩) hz
theorem vals1 {x:V} {us:List Value} (r:Vals [x] us):∃ u,us=[u]/\RelV x u:=by
 cases r with
 | cons r1 r2=>cases r2;exact ⟨_,rfl,r1⟩
theorem vals2 {x y:V} {us:List Value} (r:Vals [x,y] us):∃ u w',us=[u,w']/\RelV x u/\RelV y w':=by
 cases r with
 | cons r1 r2 =>
  cases r2 with
  | cons r3 r4=>cases r4;exact ⟨_,_,rfl,r1,r3⟩
theorem call_abs:CallR X (.builtin "abs") (λxs H Q=>∃ i,xs=[.int i]/\Q (.int (if i < 0 then -i else i)) H):=by
 intro pins s σ H xs us Q I r h
 obtain ⟨i,rfl,q⟩:=h
 obtain ⟨u,rfl,t,rfl⟩:=vals1 r
 exact call_abs_int λu tk=>⟨.int (if i < 0 then -i else i),H,I.tok _,⟨_,rfl⟩,q⟩
theorem call_min2 (hc:X.calm=true):CallR X (.builtin "min") (λxs H Q=>∃ i j,xs=[.int i,.int j]/\Q (.int (if j < i then j else i)) H):=by
 intro pins s σ H xs us Q I r h
 obtain ⟨i,j,rfl,q⟩:=h
 obtain ⟨u,w',rfl,⟨t,rfl⟩,⟨t',rfl⟩⟩:=vals2 r
 refine min_two_ints (I.ok.hd hc) λh' tk k=>⟨_,H,I.kept k,?_,q⟩
 by_cases hj:j < i
 ·rw[if_pos hj,if_pos hj];exact ⟨_,rfl⟩
 ·rw[if_neg hj,if_neg hj];exact ⟨_,rfl⟩
end
structure Cls (K:W.Frag) (C:Addr):Prop where
 pg:PySem.W.plainGet K C Str.empty=true
 hd:PySem.W.hasDictIn K C=true
 po:PySem.W.plainOver K C=true
 sa:PySem.W.findIn K (.ref C) "__setattr__"=some (some (.builtin "object.__setattr__"))
section
variable {H:Hp}
inductive TyOf (K:W.Frag) (H:Hp):V->Value->Prop where
 | non:TyOf K H .non (.type "NoneType")
 | bl (x:Bool):TyOf K H (.bl x) (.type "bool")
 | int (i:Int):TyOf K H (.int i) (.type "int")
 | str (x:Str):TyOf K H (.str x) (.type "str")
 | flt (x:UInt64):TyOf K H (.flt x) (.type "float")
 | lst {a:Addr} {xs:List V} (e:H a=some (.lst xs)):TyOf K H (.ref a) (.type "list")
 | frz {a:Addr} {o:Obj} {xs:List V} (e:H a=some (.frz o (.lst xs))):TyOf K H (.ref a) (.type "list")
 | tup {a:Addr} {xs:List V} (e:H a=some (.tup xs)):TyOf K H (.ref a) (.type "tuple")
 | dK {a:Addr} {kvs:List (Key × V)} (e:H a=some (.dK kvs)):TyOf K H (.ref a) (.type "dict")
 | dT {a:Addr} {kvs:List (List Key × V)} (e:H a=some (.dT kvs)):TyOf K H (.ref a) (.type "dict")
 | ins {a C dx:Addr} {fs:List (Str × V)} (e:H a=some (.ins C dx fs)) (cl:Cls K C) (ha:PySem.W.findIn K (.ref C) "__class__"=some (some (.builtin "object.__class__")))
   (hn:PySem.W.specialIn K (.builtin "object.__class__") "__get__"=some (some (.builtin "getset_descriptor.__get__"))) (htk:PySem.W.takesIn K (.builtin "object.__class__")=some true)
   (hm:PySem.W.mroIn K C (.type "object")=some true):TyOf K H (.ref a) (.ref C)
end
structure Room (k:Nat) (A:Around):Prop where
 hd:A.handled=none
 dp:A.depth+3*k+5 < recursionLimit
 un:A.units+16*k+200 < cLine
 gd:A.guards=some []
theorem Room.mono {j k:Nat} {A:Around} (r:Room k A) (h:j<=k):Room j A:=⟨r.hd,by have:=r.dp;lia,by have:=r.un;lia,r.gd⟩
theorem Room.deeper {k:Nat} {A:Around} (r:Room (k+1) A) (env:Env):Room k (A.deeper env) :=
 ⟨r.hd,by have:=r.dp;show A.depth+1+3*k+5 < _;lia,by have:=r.un;show A.units+3+16*k+200 < _;lia,r.gd⟩
theorem Room.depth {k:Nat} {A:Around} (r:Room k A):A.depth < recursionLimit:=by have:=r.dp;lia
theorem Room.units {k:Nat} {A:Around} (r:Room k A):A.units+64 < cLine:=by have:=r.un;lia
def tNil:TA:=λ_ H Q=>Q [] H
def tCons (ta:TE) (tr:TA):TA:=λσ H Q=>ta σ H λx H1=>tr σ H1 λxs H2=>Q (x::xs) H2
section
variable {X:Cx} {e:Expr} {es:List Expr} {te:TE} {t:TA} {pos:Pos}
theorem pa_nil:PA X [] tNil:=λ_ _ _ _ H Q I h=>Calls.spliced_nil ⟨[],H,I,.nil,h⟩
theorem pa_cons (ha:PE X e te) (hr:PA X es t) (hs:starEach (e::es) X.env=(false,eval e X.env)::starEach es X.env:=by rfl):PA X (e::es) (tCons te t):=by
 intro pos pins s σ H Q I h
 rw[hs]
 show wpAny _ _ (spliced ((false,eval e X.env)::backTo pos (starEach es X.env))) _ _ s
 refine Calls.spliced_cons (thn (ha pins s σ H _ I h) λu s1 ⟨x,H1,I1,r1,q1⟩=>?_)
 exact thn (hr pos pins s1 σ H1 _ I1 q1) λus s2 ⟨xs,H2,I2,r2,q2⟩=>⟨x::xs,H2,I2,.cons r1 r2,q2⟩
def tTup (t:TA):TE:=λσ H Q=>t σ H λxs H1=>xs.length<=sizeLine/\∀ p,H1 p=none->Q (.ref p) (upd H1 p (.tup xs))
def tLst (t:TA):TE:=λσ H Q=>t σ H λxs H1=>xs.length<=sizeLine/\∀ p,H1 p=none->Q (.ref p) (upd H1 p (.lst xs))
theorem pe_tup {x1} (h:PA X es t):PE X (.Tuple es x1 pos) (tTup t):=by
 intro pins s σ H Q I hq
 refine wpAny_Tuple_spliced (thn (h pos pins s σ H _ I hq) λus s1 ⟨xs,H1,I1,r,z,q⟩=>⟨by rw[<-r.length];exact z,?_⟩)
 have hf:H1 s1.heap.objs.size=none:=I1.hok.fresh (Nat.le_refl _)
 refine ⟨.ref s1.heap.objs.size,upd H1 s1.heap.objs.size (.tup xs),I1.laid (t':=s1.toks) (λb u e=>Heap.get?_push_of_some _ e) (Nat.le_refl _) ?_,rfl,q _ hf⟩
 exact ⟨z,us,r,⟨_,Heap.get?_push_size _ rfl,rfl,_,rfl⟩⟩
theorem pe_lst (h:PA X es t):PE X (.List es pos) (tLst t):=by
 intro pins s σ H Q I hq
 refine wpAny_List_spliced (thn (h pos pins s σ H _ I hq) λus s1 ⟨xs,H1,I1,r,z,q⟩=>⟨by rw[<-r.length];exact z,?_⟩)
 have hf:H1 s1.heap.objs.size=none:=I1.hok.fresh (Nat.le_refl _)
 refine ⟨.ref s1.heap.objs.size,upd H1 s1.heap.objs.size (.lst xs),I1.laid (t':=s1.toks) (λb u e=>Heap.get?_push_of_some _ e) (Nat.le_refl _) ?_,rfl,q _ hf⟩
 exact ⟨z,us,0,r,Heap.get?_push_size _ rfl⟩
end
abbrev Sp:=List V->Hp->VK->XK->Prop
abbrev CXT:=List Env->Hp->Shared->XK->Value->Shared->Prop
structure Env0 (P:Program) (w:World) (K:W.Frag) (mg:Str->Option Value) (base:Heap) (A:Around) (outer:List Env) (s:Shared) (H:Hp):Prop where
 frames:A.frames=some outer
 mod:Mod K mg base
 bs:∀ b o,base.get? b=some o->s.heap.get? b=some o/\H b=none
 bsz:base.objs.size<=s.heap.objs.size
 funs:s.heap.FunFrames base outer
 frf:∀ b∈frs outer,H b=none
 hok:HOk P w H s.heap
 bare:AllBare s.gens
def CE (outer:List Env) (P:Program) (w:World) (H:Hp) (s:Shared) (Q:VK) (u:Value) (s':Shared):Prop :=
 ∃ v H',s'.os=s.os/\AllBare s'.gens/\Un (frs outer) [] H H' s.heap s'.heap/\HOk P w H' s'.heap/\RelV v u/\Q v H'
def CR (CX:CXT) (outer:List Env) (P:Program) (w:World) (H:Hp) (s:Shared) (Q:VK) (E:XK) (r:Result) (s':Shared):Prop :=
 match r with
 | .ok (.ret u)=>CE outer P w H s Q u s'
 | .ok _=>False
 | .error e=>CX outer H s E e s'
structure FnOk (P:Program) (w:World) (K:W.Frag) (mg:Str->Option Value) (base:Heap) (CX:CXT) (k:Nat) (f:Addr) (fd:FuncData) (ps:List Str) (sp:Sp):Prop where
 len:∀ vs H Q E,sp vs H Q E->vs.length=ps.length
 run:∀ (A:Around) (outer:List Env) (s:Shared) (H:Hp) (args:Args) (us:List Value) (vs:List V) (Q:VK) (E:XK),Room k A->Env0 P w K mg base A outer s H->BindsTo s fd args (ps.zip us)->Vals vs us->sp vs H Q E ->
  codeAny (model P w) A (.call (.ref f) args) (CR CX outer P w H s Q E) s
theorem FnOk.imp {P:Program} {w:World} {K:W.Frag} {mg:Str->Option Value} {base:Heap} {CX:CXT} {k:Nat} {f:Addr} {fd:FuncData} {ps:List Str} {sp sp':Sp} (F:FnOk P w K mg base CX k f fd ps sp)
  (h:∀ vs H Q E,sp' vs H Q E->sp vs H Q E):FnOk P w K mg base CX k f fd ps sp' :=
 ⟨λvs H Q E q=>F.len vs H Q E (h _ _ _ _ q),λA outer s H args us vs Q E hr he hb hv hs=>F.run A outer s H args us vs Q E hr he hb hv (h _ _ _ _ hs)⟩
section
variable {X:Cx} {pins:List (Addr × Obj)} {σ:St} {H:Hp} {s s':Shared}
theorem Inv.env0 (I:Inv X pins σ H s):Env0 X.prog X.w X.K X.mg X.base X.A X.stack s H :=
 ⟨I.ok.frames,I.ok.mod,I.bs,Nat.le_trans I.ok.bsz I.sz,I.stack,I.stkFree,I.hok,I.bare⟩
theorem Inv.after {Q:VK} {u:Value} (I:Inv X pins σ H s) (h:CE X.stack X.prog X.w H s Q u s'):EP X pins σ Q u s':=by
 obtain ⟨v,H',os,bare,un,hok,r,q⟩:=h
 obtain ⟨hh,g,d,t,os'⟩:=s'
 obtain rfl:os'=s.os:=os
 exact ⟨v,H',I.call (h':=hh) (g':=g) (d':=d) (t':=t) (ch:=[]) un hok bare (λb z=>absurd z (by simp)),r,q⟩
end
def tCall (sp:Sp) (dvs:List V) (E:XK) (t:TA):TE:=λσ H Q=>t σ H λvs H1=>sp (vs++dvs) H1 Q E
def Binds (K:W.Frag) (fd:FuncData) (ps:List Str) (ds:List Value):Prop :=
 ∀ (s:Shared) (us:List Value),K.In s.heap->(us++ds).length=ps.length->BindsTo s fd ⟨us,[]⟩ (ps.zip (us++ds))
theorem Binds.all {K:W.Frag} {fd:FuncData} {ps:List Str} (h:∀ us:List Value,us.length=ps.length->bindArgs fd ⟨us,[]⟩=pure (ps.zip us)):Binds K fd ps []:=λs us _ hl=>by
 rw[append_nil] at hl ⊢
 exact .of_eq (h us hl)
def Passes (CX:CXT) (X:Cx) (E:XK):Prop:=∀ (pins:List (Addr × Obj)) (σ:St) (H:Hp) (s:Shared) (e:Value) (s':Shared),Inv X pins σ H s->CX X.stack H s E e s'->X.xe e s'
section
variable {X:Cx} {CX:CXT} {k:Nat} {f:Addr} {fd:FuncData} {ps:List Str} {sp:Sp} {dvs:List V} {ds:List Value} {E:XK} {x:Str} {p pos:Pos} {e:Expr} {es:List Expr} {t:TA}
theorem run_fn {pins:List (Addr × Obj)} {σ:St} {H:Hp} {s:Shared} {Q:VK} {us:List Value} {vs:List V} (F:FnOk X.prog X.w X.K X.mg X.base CX k f fd ps sp) (hr:Room k X.A) (hb:Binds X.K fd ps ds) (hd:Vals dvs ds) (hx:Passes CX X E)
  (I:Inv X pins σ H s) (r:Vals vs us) (h:sp (vs++dvs) H Q E):wpAny (model X.prog X.w) X.A (call (.ref f) us) (EP X pins σ Q) X.xe s:=by
 have r2:Vals (vs++dvs) (us++ds):=r.append hd
 have hl:(us++ds).length=ps.length:=by rw[<-r2.length];exact F.len _ _ _ _ h
 refine wpAny_call (codeAny_mono (F.run X.A X.stack s H ⟨us,[]⟩ (us++ds) (vs++dvs) Q E hr I.env0 (hb s us I.kIn hl) r2 h) λr s' hq=>?_)
 cases r with
 | error e=>exact hx pins σ H s e s' I hq
 | ok fl =>
  cases fl with
  | ret u=>exact I.after hq
  | next=>exact False.elim hq
  | brk=>exact False.elim hq
  | cont=>exact False.elim hq
theorem pe_call (F:FnOk X.prog X.w X.K X.mg X.base CX k f fd ps sp) (hr:Room k X.A) (hg:Gl X x) (hm:X.mg x=some (.ref f)) (hk:PySem.W.keepIn X.K (.ref f)=true) (hb:Binds X.K fd ps ds) (hd:Vals dvs ds) (hx:Passes CX X E)
  (ha:PA X (e::es) t) (hdb:(x==("__debug__":Str))=false:=by decide) (he:starEach (e::es) X.env=(false,eval e X.env)::starEach es X.env:=by rfl) (hpl:(backTo pos (starEach es X.env)).any (·.1)=false:=by rfl) :
  PE X (.Call (.Name x p) (e::es) [] pos) (tCall sp dvs E t):=by
 intro pins s σ H Q I h
 refine wpAny_Call_Name_kw (ld_glob I hg hm ?_ hdb)
 refine PySem.W.callWith_K (h₀:=X.base) I.ok.mod.kin hk (thn (ha pos pins s σ H _ I h) λus s1 ⟨vs,H1,I1,r,q⟩=>⟨I1.kIn,?_⟩) he hpl
 exact run_fn F hr hb hd hx I1 r q
end
structure FnScope (N P:List Str) (sc:Scope):Prop where
 kind:sc.kind=.function
 co:sc.isCoroutine=false
 gen:sc.isGenerator=false
 nd:N.Nodup
 pre:N.take P.length=P
 par:∀ x∈P,sc.names.lookup x=some .local\/sc.names.lookup x=some .cell
 nofree:∀ y∈sc.names,y.2≠.free
theorem bindL_out {kindOf:Str->Option NameKind} {x:Str}:∀ {binds:List (Str × Value)} {m:Str->Option Value},(∀ v,(x,v)∉binds)->bindL kindOf binds m x=m x
 | [],_,_=>rfl
 | (n,v)::r,m,h=>by
  unfold bindL
  rw[bindL_out λw hw=>h w (mem_cons_of_mem _ hw)]
  split
  ·have:x≠n:=by rintro rfl;exact h v mem_cons_self
   simp[this]
  ·rfl
theorem bindC_out {kindOf:Str->Option NameKind} {x:Str}:∀ {binds:List (Str × Value)} {m:Str->Option Value},(∀ v,(x,v)∉binds)->bindC kindOf binds m x=m x
 | [],_,_=>rfl
 | (n,v)::r,m,h=>by
  unfold bindC
  rw[bindC_out λw hw=>h w (mem_cons_of_mem _ hw)]
  split
  ·rfl
  ·have:x≠n:=by rintro rfl;exact h v mem_cons_self
   simp[this]
theorem bindL_get {kindOf:Str->Option NameKind} {x:Str} {v:Value}:∀ {P:List Str} {vs:List Value} {i:Nat} {m:Str->Option Value},P.Nodup->P[i]?=some x->vs[i]?=some v->kindOf x=some .local ->
  bindL kindOf (P.zip vs) m x=some v
 | [],_,_,_,_,h,_,_=>by simp at h
 | _::_,[],_,_,_,_,h,_=>by simp at h
 | p::P,w::vs,0,m,nd,h1,h2,hk=>by
  simp at h1 h2;subst h1;subst h2
  show bindL kindOf ((p,w)::P.zip vs) m p=_
  unfold bindL
  rw[bindL_out λv hv=>(nodup_cons.mp nd).1 (of_mem_zip hv).1,if_pos hk]
  simp
 | p::P,w::vs,i+1,m,nd,h1,h2,hk=>by
  show bindL kindOf ((p,w)::P.zip vs) m x=_
  unfold bindL
  exact bindL_get (i:=i) (nodup_cons.mp nd).2 (by simpa using h1) (by simpa using h2) hk
theorem bindC_get {kindOf:Str->Option NameKind} {x:Str} {v:Value}:∀ {P:List Str} {vs:List Value} {i:Nat} {m:Str->Option Value},P.Nodup->P[i]?=some x->vs[i]?=some v->kindOf x≠some .local ->
  bindC kindOf (P.zip vs) m x=some v
 | [],_,_,_,_,h,_,_=>by simp at h
 | _::_,[],_,_,_,_,h,_=>by simp at h
 | p::P,w::vs,0,m,nd,h1,h2,hk=>by
  simp at h1 h2;subst h1;subst h2
  show bindC kindOf ((p,w)::P.zip vs) m p=_
  unfold bindC
  rw[bindC_out λv hv=>(nodup_cons.mp nd).1 (of_mem_zip hv).1,if_neg hk]
  simp
 | p::P,w::vs,i+1,m,nd,h1,h2,hk=>by
  show bindC kindOf ((p,w)::P.zip vs) m x=_
  unfold bindC
  exact bindC_get (i:=i) (nodup_cons.mp nd).2 (by simpa using h1) (by simpa using h2) hk
def start (N:List Str) (vs:List V):St:=vs.map some++List.replicate (N.length - vs.length) none
def cxOf (CX:CXT) (P:Program) (w:World) (K:W.Frag) (mg:Str->Option Value) (base:Heap) (N:List Str) (qual:Str) (scope:Scope) (f:Addr) (cd:Value) (A:Around) (outer:List Env) (s:Shared) (H:Hp) (E:XK):Cx where
 prog:=P
 w:=w
 K:=K
 mg:=mg
 base:=base
 A:=A.deeper (envOfC qual scope s.heap.objs.size f cd)
 N:=N
 s₀:=s
 H₀:=H
 env:=envOfC qual scope s.heap.objs.size f cd
 outer:=outer
 stack:=envOfC qual scope s.heap.objs.size f cd::outer
 ex:=[]
 calm:=true
 fn:=λ_=>true
 pn:=[]
 xe:=λe s'=>wpAny (model P w) (A.deeper (envOfC qual scope s.heap.objs.size f cd)) (leaving (envOfC qual scope s.heap.objs.size f cd) e) (λ_ s''=>CX outer H s E e s'') (λe' s''=>CX outer H s E e' s'') s'
theorem cell_has {sc:Scope} {n:Nat} {x:Str} (h:sc.names.lookup x=some .cell):∃ c,(cellsFrom n sc.names []).lookup x=some c:=by
 have q:=PySem.W.cellsFrom_some sc.names n [] (.inl h)
 exact Option.isSome_iff_exists.mp q
theorem inv_start {CX:CXT} {P:Program} {w:World} {K:W.Frag} {mg:Str->Option Value} {base:Heap} {N ps:List Str} {qual:Str} {scope:Scope} {f:Addr} {cd:Value} {A:Around} {outer:List Env} {s s1:Shared} {H:Hp} {E:XK} {us:List Value} {vs:List V}
  (S:FnScope N ps scope) (hd:A.handled=none) (e0:Env0 P w K mg base A outer s H) (hl:vs.length=ps.length) (r:Vals vs us)
  (x:InCallC s s.heap.objs.size (bindL (envOfC qual scope s.heap.objs.size f cd).kindOf (ps.zip us) λ_=>none) (cellsFrom (s.heap.objs.size+1) scope.names []) (bindC (envOfC qual scope s.heap.objs.size f cd).kindOf (ps.zip us) λ_=>none) s1) :
  Inv (cxOf CX P w K mg base N qual scope f cd A outer s H E) [] (start N vs) H s1:=by
 have hpl:ps.length<=N.length:=by have:=congrArg List.length S.pre;rw[length_take] at this;lia
 obtain ⟨h1,tk,rfl,hk⟩:=x.done
 have noA:∀ b:Addr,b∉(cxOf CX P w K mg base N qual scope f cd A outer s H E).ex:=λb z=>absurd (show b∈([]:List Addr) from z) (by simp)
 refine ⟨⟨e0.mod,S.kind,rfl,rfl,Nat.le_refl _,λy z c h1 h2=>?_,λy hy=>?_,λy c _ h=>?_,λ_=>hd,Around.frames_deeper e0.frames,.inr ⟨rfl,rfl⟩,λb z=>absurd z (noA b),e0.bs,e0.bsz,λb _ _=>noA b,λb z=>absurd z (noA b),e0.funs,e0.frf⟩,
  rfl,e0.bare,Un.kept hk,⟨_,x.toInCall.ns,λi y v h1 h2 h3=>?_⟩,λy c h=>⟨_,x.cell y c h⟩,e0.hok.fresh (Nat.le_refl _),λy c h=>?_,λp hp=>absurd (show p∈([]:List (Addr × Obj)) from hp) (by simp),e0.hok.kept hk,?_⟩
 ·exact name_of_addr x.apart (PySem.mem_of_lookup h1) (PySem.mem_of_lookup h2)
 ·have hy:scope.names.lookup y=some .cell\/scope.names.lookup y=some .free:=hy
  rcases hy with hy|hy
  ·exact cell_has hy
  ·exact absurd rfl (S.nofree _ (PySem.mem_of_lookup hy))
 ·exact Nat.le_of_lt (x.above y c (PySem.mem_of_lookup h))
 ·have hi:i < vs.length:=by
   unfold start at h2
   by_cases hi:i < vs.length
   ·exact hi
   ·rw[List.getElem?_append_right (by simpa using hi)] at h2
    rw[List.getElem?_replicate] at h2
    split at h2<;>cases h2
  have ha:vs[i]?=some v:=by
   unfold start at h2
   rw[List.getElem?_append_left (by simpa using hi),List.getElem?_map] at h2
   cases e:vs[i]? with
   | none=>rw[e] at h2;cases h2
   | some a=>rw[e] at h2;cases h2;rfl
  obtain ⟨u,hu,rv⟩:=r.get ha
  have hp:ps[i]?=some y:=by
   rw[<-S.pre,List.getElem?_take_of_lt (by lia)];exact h1
  have ndP:ps.Nodup:=by rw[<-S.pre];exact S.nd.sublist (List.take_sublist _ _)
  refine ⟨u,rv,?_⟩
  rcases S.par y (mem_of_getElem? hp) with k|k
  ·exact .inl ⟨k,bindL_get ndP hp hu k⟩
  ·obtain ⟨c,e⟩:=cell_has (n:=s.heap.objs.size+1) k
   refine .inr ⟨.inl k,c,e,?_⟩
   have q:=x.cell y c e
   rw[bindC_get ndP hp hu (by show scope.names.lookup y≠_;rw[k];decide)] at q
   exact q
 ·exact e0.hok.fresh (Nat.le_of_lt (x.above y c (PySem.mem_of_lookup h)))
 ·unfold start
  show _=N.length
  rw[length_append,length_map,List.length_replicate]
  lia
theorem fn_of {CX:CXT} {P:Program} {w:World} {K:W.Frag} {mg:Str->Option Value} {base:Heap} {k:Nat} {f:Addr} {name qual:Str} {params:Arguments} {body:List Stmt} {scope:Scope} {dV kV doc pm cdv ct oc:Value} {an od:Option Addr}
  {osl:Array (Option Value)} {N ps:List Str} {sp:Sp} (lk:K.lookup f=some ⟨oc,od,.func (PySem.W.fnOf name qual params body scope dV kV doc pm an cdv ct),osl⟩) (hcd:PySem.W.codeIn K cdv qual=true) (S:FnScope N ps scope)
  (len:∀ vs H Q E,sp vs H Q E->vs.length=ps.length)
  (hbody:∀ (A:Around) (outer:List Env) (s:Shared) (H:Hp) (vs:List V) (Q:VK) (E:XK),Room k (A.deeper (envOfC qual scope s.heap.objs.size f cdv))->sp vs H Q E ->
   ∃ t,PSs (cxOf CX P w K mg base N qual scope f cdv A outer s H E) body t/\t { nx:=λ_ H'=>Q .non H',rt:=Q } (start N vs) H) :
  FnOk P w K mg base CX (k+1) f (PySem.W.fnOf name qual params body scope dV kV doc pm an cdv ct) ps sp:=by
 refine ⟨len,λA outer s H args us vs Q E hr e0 hb r hsp=>?_⟩
 have hl:=len _ _ _ _ hsp
 have KX:K.In s.heap:=e0.mod.kin.keeps λb o e=>(e0.bs b o e).1
 have lim:s.heap.NoLimit:=e0.mod.nolimit.keeps λb o e=>(e0.bs b o e).1
 have hkind:∀ y∈ps.zip us,scope.names.lookup y.1=some .local\/(scope.names.lookup y.1=some .cell/\((cellsFrom (s.heap.objs.size+1) scope.names []).lookup y.1).isSome=true):=λ⟨n,v⟩ hy=>by
  rcases S.par n (of_mem_zip hy).1 with q|q
  ·exact .inl q
  ·exact .inr ⟨q,PySem.W.cellsFrom_some _ _ _ (.inl q)⟩
 refine codeAny_call_function hr.depth (KX _ _ lk) rfl S.co S.gen rfl (PySem.W.codeRec_of KX hcd) (hb _ _ _ _ ?_)
 refine wpAny_newFunctionEnv_cells S.kind hkind λenv he s1 x=>?_
 subst he
 refine ⟨lim.keeps x.toInCall.keep,codeAny_func ?_⟩
 obtain ⟨t,ht,hq⟩:=hbody A outer s H vs Q E (hr.deeper _) hsp
 have I:Inv (cxOf CX P w K mg base N qual scope f cdv A outer s H E) [] (start N vs) H s1:=inv_start S hr.hd e0 hl r x
 refine wpAny_mono (ht [] s1 (start N vs) H _ I hq) (λfl s' hs=>?_) λe s' hs=>hs
 have fin:∀ {σ':St} {H':Hp} {v:V} {u:Value},Inv (cxOf CX P w K mg base N qual scope f cdv A outer s H E) [] σ' H' s'->RelV v u->Q v H'->CE outer P w H s Q u s' :=
  λ{σ' H' v u} J rv q=>⟨v,H',J.os,J.bare,J.base,J.hok,rv,q⟩
 cases fl with
 | ret u =>
  obtain ⟨v,σ',H',J,rv,q⟩:=hs
  exact fin J rv q
 | next =>
  obtain ⟨σ',H',J,q⟩:=hs
  exact fin (v:=V.non) (u:=Value.none) J rfl q
 | brk =>
  obtain ⟨_,_,_,q⟩:=hs
  exact False.elim q
 | cont =>
  obtain ⟨_,_,_,q⟩:=hs
  exact False.elim q
section
variable {X:Cx} {x:Str} {p pos:Pos} {e:Expr} {es:List Expr} {t:TA} {id T:String} {r:List V->Hp->VK->Prop}
def tCB (r:List V->Hp->VK->Prop) (t:TA):TE:=λσ H Q=>t σ H λvs H1=>r vs H1 Q
theorem pe_callB (hc:CallR X (.builtin id) r) (hg:Gl X x) (hm:X.mg x=none) (hv:bootBuiltins x=some (.builtin id)) (ha:PA X (e::es) t) (hn:x≠"__name__":=by decide) (hdb:(x==("__debug__":Str))=false:=by decide)
  (he:starEach (e::es) X.env=(false,eval e X.env)::starEach es X.env:=by rfl) (hpl:(backTo pos (starEach es X.env)).any (·.1)=false:=by rfl):PE X (.Call (.Name x p) (e::es) [] pos) (tCB r t):=by
 intro pins s σ H Q I h
 refine wpAny_Call_Name_kw (ld_blt I hg hm hv ?_ hn hdb)
 exact PyProof.Rows.callWith_builtin1 (thn (ha pos pins s σ H _ I h) λus s1 ⟨vs,H1,I1,r1,q1⟩=>hc pins s1 σ H1 vs us Q I1 r1 q1) he hpl
theorem pe_callTy (hc:CallR X (.type T) r) (hg:Gl X x) (hm:X.mg x=none) (hv:bootBuiltins x=some (.type T)) (ha:PA X (e::es) t) (hn:x≠"__name__":=by decide) (hdb:(x==("__debug__":Str))=false:=by decide)
  (he:starEach (e::es) X.env=(false,eval e X.env)::starEach es X.env:=by rfl) (hpl:(backTo pos (starEach es X.env)).any (·.1)=false:=by rfl):PE X (.Call (.Name x p) (e::es) [] pos) (tCB r t):=by
 intro pins s σ H Q I h
 refine wpAny_Call_Name_kw (ld_blt I hg hm hv ?_ hn hdb)
 exact PyProof.Rows.callWith_type1 (thn (ha pos pins s σ H _ I h) λus s1 ⟨vs,H1,I1,r1,q1⟩=>hc pins s1 σ H1 vs us Q I1 r1 q1) he hpl
end
end L2
namespace HT
open PySem PyProof.Rows
section
open PySem.SeqAt
open PySem.AutoSeq1 (wpAny_loadPart')
open PySem.MeetsSeq PySem.MeetsSeq2 PySem.MeetsSeq3
end
section
def sIx (n d:Nat):Option Int->Nat
 | none=>d
 | some v=>if v < 0 then (v+(n:Int)).toNat else min v.toNat n
end
end HT
namespace L2
open PySem PySem.Spec PyProof.Rows
abbrev TO:=St->Hp->(Option Int->Hp->Prop)->Prop
def PO (X:Cx) (e:Option Expr) (t:TO):Prop :=
 ∀ (pins:List (Addr × Obj)) (s:Shared) (σ:St) (H:Hp) (Q:Option Int->Hp->Prop),Inv X pins σ H s->t σ H Q ->
  wpAny (model X.prog X.w) X.A (evalPart e X.env) (λu s'=>∃ o H',Inv X pins σ H' s'/\IsPart u o/\Q o H') X.xe s
def tNoPart:TO:=λ_ H Q=>Q none H
def tPart (t:TE):TO:=λσ H Q=>t σ H λx H1=>∃ i,x=.int i/\Q (some i) H1
theorem intsAre_of {ns:List Int}:∀ {us:List Value},Vals (ns.map V.int) us->IntsAre us ns:=by
 induction ns with
 | nil=>intro us r;rw[List.map_nil] at r;cases r;exact .nil
 | cons n ns ih =>
  intro us r
  rw[map_cons] at r
  cases r with
  | cons r1 r2 =>
   obtain ⟨t,e⟩:=r1
   subst e
   exact .cons n t (ih r2)
section
variable {X:Cx} {e:Expr} {te:TE} {lo hi:Option Expr} {tl th:TO} {pos p2:Pos}
theorem po_none:PO X none tNoPart:=by
 intro pins s σ H Q I h
 rw[evalPart_none]
 exact wpAny_pure ⟨none,H,I,.none,h⟩
theorem po_some (h:PE X e te):PO X (some e) (tPart te):=by
 intro pins s σ H Q I hw
 rw[evalPart_some]
 refine thn (h pins s σ H _ I hw) λu s1 ⟨x,H1,I1,r1,q1⟩=>?_
 obtain ⟨i,rfl,q⟩:=q1
 obtain ⟨t,rfl⟩:=r1
 exact ⟨some i,H1,I1,.int i t,q⟩
def SlR (X:Cx) (r:V->Option Int->Option Int->Hp->VK->Prop):Prop :=
 ∀ (pins:List (Addr × Obj)) (s:Shared) (σ:St) (H:Hp) (x:V) (v vl vu:Value) (lo hi:Option Int) (sl:Addr) (Q:VK),Inv X pins σ H s->RelV x v->s.heap.IsSliceOf sl vl vu .none->IsPart vl lo->IsPart vu hi->r x lo hi H Q ->
  ∃ T id,typeLookup (.type T) "__getitem__"=pure (some (.builtin id))/\s.TypeIs v T/\wpAny (model X.prog X.w) X.A (getItem v (.ref sl)) (EP X pins σ Q) X.xe s
def tSl (r:V->Option Int->Option Int->Hp->VK->Prop) (te:TE) (tl th:TO):TE:=λσ H Q=>te σ H λx H1=>tl σ H1 λl H2=>th σ H2 λu H3=>r x l u H3 Q
theorem pe_slice {r:V->Option Int->Option Int->Hp->VK->Prop} (hr:SlR X r) (he:PE X e te) (hl:PO X lo tl) (hu:PO X hi th):PE X (.Subscript e (.Slice lo hi none p2) pos) (tSl r te tl th):=by
 intro pins s σ H Q I h
 refine Subscript_ (thn (he pins s σ H _ I h) λv s1 ⟨x,H1,I1,r1,q1⟩=>?_)
 refine wpAny_Slice (thn (hl pins s1 σ H1 _ I1 q1) λvl s2 ⟨l,H2,I2,pl,q2⟩=>thn (hu pins s2 σ H2 _ I2 q2) λvu s3 ⟨u,H3,I3,pu,q3⟩=>?_)
 rw[evalPart_none]
 refine wpAny_pure ?_
 have I4:Inv X pins σ H3 { s3 with heap:=s3.heap.push { cls:=.type "slice",data:=.fields #[vl,vu,.none] } }:=I3.kept (t':=s3.toks) λb ob q=>Heap.get?_push_of_some _ q
 obtain ⟨T,id,hT,ht,hg⟩:=hr pins { s3 with heap:=s3.heap.push { cls:=.type "slice",data:=.fields #[vl,vu,.none] } } σ H3 x v vl vu l u s3.heap.objs.size Q I4 r1 (Heap.IsSliceOf.new ..) pl pu q3
 show wpAny (model X.prog X.w) X.A (subscriptTail e (.Slice lo hi none p2) v (.ref s3.heap.objs.size)) (EP X pins σ Q) X.xe { s3 with heap:=s3.heap.push { cls:=.type "slice",data:=.fields #[vl,vu,.none] } }
 exact tail_any (ops:=[.ref s3.heap.objs.size,v]) ht hT hg (by with_unfolding_all rfl)
def cutV (xs:List V) (lo hi:Option Int):List V:=(xs.drop (HT.sIx xs.length 0 lo)).take (HT.sIx xs.length xs.length hi - HT.sIx xs.length 0 lo)
theorem cutV_length (xs:List V) (lo hi:Option Int):(cutV xs lo hi).length<=xs.length:=by
 unfold cutV
 rw[length_take,length_drop]
 lia
end
def ixN (n:Nat) (i:Int):Option Nat:=if 0<=i then (if i < n then some i.toNat else none) else if -(n:Int)<=i then some (i+n).toNat else none
def atI {α:Type} (xs:List α) (i:Int):Option α:=(ixN xs.length i).bind λj=>xs[j]?
theorem ixN_seq {n:Nat} {i:Int} {j:Nat} (h:ixN n i=some j):seqIndex? i n=some j/\j < n/\-(n:Int)<=i/\i < n:=by
 unfold ixN at h
 by_cases h0:0<=i
 ·rw[if_pos h0] at h
  by_cases h1:i < n
  ·rw[if_pos h1] at h
   have e:i.toNat=j:=Option.some.inj h
   exact ⟨by rw[seqIndex_of h0 h1,e],by lia,by lia,h1⟩
  ·rw[if_neg h1] at h;cases h
 ·rw[if_neg h0] at h
  by_cases h1:-(n:Int)<=i
  ·rw[if_pos h1] at h
   have e:(i+n).toNat=j:=Option.some.inj h
   exact ⟨by rw[seqIndex_neg (by lia) h1,e],by lia,h1,by lia⟩
  ·rw[if_neg h1] at h;cases h
theorem atI_get {α:Type} {xs:List α} {i:Int} {v:α} (h:atI xs i=some v):∃ j,seqIndex? i xs.length=some j/\xs[j]?=some v/\j < xs.length/\-(xs.length:Int)<=i/\i < xs.length:=by
 unfold atI at h
 cases e:ixN xs.length i with
 | none=>rw[e] at h;cases h
 | some j =>
  rw[e] at h
  obtain ⟨h1,h2,h3,h4⟩:=ixN_seq e
  exact ⟨j,h1,h,h2,h3,h4⟩
theorem atI_nat {α:Type} {xs:List α} {j:Nat} {v:α} (h:xs[j]?=some v):atI xs (j:Int)=some v:=by
 have hj:j < xs.length:=(List.getElem?_eq_some_iff.mp h).1
 have e:ixN xs.length (j:Int)=some j:=by
  unfold ixN
  rw[if_pos (by lia),if_pos (by lia)];simp
 unfold atI;rw[e];exact h
def PlainIx (b:Expr):Prop:=∀ o i,subscripted b false o i=operate [o,i] (getItem o i)
def IxR (X:Cx) (r:R2):Prop :=
 ∀ (value slice:Expr) (pins:List (Addr × Obj)) (s:Shared) (σ:St) (H:Hp) (x y:V) (v u:Value) (Q:VK),Inv X pins σ H s->RelV x v->RelV y u->r x y H Q ->
  subscripted slice false v u=operate [v,u] (getItem v u)->wpAny (model X.prog X.w) X.A (subscriptTail value slice v u) (EP X pins σ Q) X.xe s
def MtR (X:Cx) (id:String) (r:V->List V->Hp->VK->Prop):Prop :=
 ∀ (pins:List (Addr × Obj)) (s:Shared) (σ:St) (H:Hp) (x:V) (xs:List V) (v:Value) (us:List Value) (Q:VK),Inv X pins σ H s->RelV x v->Vals xs us->r x xs H Q ->
  wpAny (model X.prog X.w) X.A (call (.builtin id) (v::us)) (EP X pins σ Q) X.xe s
section
variable {X:Cx} {a b:Expr} {ta tb:TE} {pos:Pos}
theorem IxR.or {r r':R2} (h:IxR X r) (h':IxR X r'):IxR X (λx y H Q=>r x y H Q\/r' x y H Q):=by
 intro value slice pins s σ H x y v u Q I rx ry q hs
 rcases q with q|q
 ·exact h value slice pins s σ H x y v u Q I rx ry q hs
 ·exact h' value slice pins s σ H x y v u Q I rx ry q hs
theorem pe_ix {r:R2} (hr:IxR X r) (ha:PE X a ta) (hb:PE X b tb) (hs:PlainIx b):PE X (.Subscript a b pos) (tOp r ta tb):=by
 intro pins s σ H Q I h
 exact Subscript_ (binT ha hb I h λv u s2 x y H2 I2 rx ry q=>hr a b pins s2 σ H2 x y v u Q I2 rx ry q (hs _ _))
def rIxL (K:W.Frag):R2:=λx y H Q=>∃ p xs i v,x=.ref p/\y=.int i/\SqL K H p xs/\atI xs i=some v/\Q v H
def rIxT (K:W.Frag):R2:=λx y H Q=>∃ p xs i v,x=.ref p/\y=.int i/\SqT K H p xs/\atI xs i=some v/\Q v H
def rIxS:R2:=λx y H Q=>∃ z i c,x=.str z/\y=.int i/\z.length<=sizeLine/\atI z.cps.toList i=some c/\Q (.str ⟨#[c]⟩) H
theorem ix_list:IxR X (rIxL X.K):=by
 intro value slice pins s σ H x y v u Q I rx ry h hs
 obtain ⟨p,xs,i,z,rfl,rfl,hq,he,q⟩:=h
 cases rx
 obtain ⟨t,rfl⟩:=ry
 obtain ⟨its,r,pl,hz⟩:=I.list hq
 obtain ⟨j,h1,h2,h3,h4,h5⟩:=atI_get he
 obtain ⟨w,ew,rw'⟩:=r.get h2
 have hl:=r.length
 have hn:=line63
 have fin:EP X pins σ Q w s:=⟨z,H,I,rw',q⟩
 by_cases h0:0<=i
 ·have hj:i.toNat=j:=by
   rw[seqIndex_of h0 h5] at h1
   exact Option.some.inj h1
  exact item_listR pl.isList h0 (by lia) (by rw[hj];simpa using ew) fin hs
 ·have hj:(i+(its.toArray.size:Int)).toNat=j:=by
   rw[seqIndex_neg (by lia) h4] at h1
   rw[size_toArray,<-hl]
   exact Option.some.inj h1
  exact subscriptTail_builtinR (x:=w) pl.isList.typeIs slot_list_getitem.lookup
   (wpAny_getItem_list_neg (Q:=λr s'=>r=w/\EP X pins σ Q r s') pl.isList (by lia) (by rw[size_toArray]<;>lia) (by lia) (by rw[hj];simpa using ew) ⟨rfl,fin⟩) hs
theorem ix_tup:IxR X (rIxT X.K):=by
 intro value slice pins s σ H x y v u Q I rx ry h hs
 obtain ⟨p,xs,i,z,rfl,rfl,hq,he,q⟩:=h
 cases rx
 obtain ⟨t,rfl⟩:=ry
 obtain ⟨its,r,pl,hz⟩:=I.tuple hq
 obtain ⟨j,h1,h2,h3,h4,h5⟩:=atI_get he
 obtain ⟨w,ew,rw'⟩:=r.get h2
 have hl:=r.length
 have hn:=line63
 have fin:EP X pins σ Q w s:=⟨z,H,I,rw',q⟩
 exact subscriptTail_builtinR (x:=w) pl.typeIs slot_tuple_getitem.lookup
  (getItem_tuple (j:=j) (Q:=λr s'=>r=w/\EP X pins σ Q r s') pl (by lia) (by lia) (by rw[size_toArray,<-hl];exact h1) (by simpa using ew) ⟨rfl,fin⟩) hs
theorem ix_str:IxR X rIxS:=by
 intro value slice pins s σ H x y v u Q I rx ry h hs
 obtain ⟨z,i,c,rfl,rfl,hz,he,q⟩:=h
 obtain ⟨t,rfl⟩:=rx
 obtain ⟨t',rfl⟩:=ry
 obtain ⟨j,h1,h2,h3,h4,h5⟩:=atI_get he
 have hl:z.cps.toList.length=z.length:=by simp[Str.length]
 rw[hl] at h1 h4 h5
 have hn:=line63
 exact tail_any (typeIs_str s z t) slot_str_getitem.lookup (getItem_str (c:=c) (by
  have e1:decide (i < -(2 ^ 63:Int))=false:=decide_eq_false (by lia)
  have e2:decide (i ≥ 2 ^ 63)=false:=decide_eq_false (by lia)
  rw[e1,e2,Bool.or_false]) (by rw[h1];simpa using h2) ⟨.str ⟨#[c]⟩,H,I.tok _,⟨_,rfl⟩,q⟩) hs
def rIx (K:W.Frag):R2:=λx y H Q=>rIxL K x y H Q\/rIxT K x y H Q\/rIxS x y H Q
theorem ix_seq:IxR X (rIx X.K):=ix_list.or (ix_tup.or ix_str)
theorem mapSeq_set (its:List Value) (n j:Nat) (u:Value):Obj.mapSeq (·.setIfInBounds j u) { cls:=.type "list",data:=.seq its.toArray n }={ cls:=.type "list",data:=.seq (its.set j u).toArray n }:=by
 simp[Obj.mapSeq]
theorem Inv.lst {pins:List (Addr × Obj)} {σ:St} {H:Hp} {s:Shared} {p:Addr} {xs:List V} (I:Inv X pins σ H s) (h:H p=some (.lst xs)) :
  ∃ (its:List Value) (n:Nat),Vals xs its/\s.heap.get? p=some { cls:=.type "list",data:=.seq its.toArray n }/\xs.length<=sizeLine:=by
 obtain ⟨z,its,n,r,e⟩:=I.hok p _ h
 exact ⟨its,n,r,e,z⟩
theorem Inv.lstUpd {pins:List (Addr × Obj)} {σ:St} {H:Hp} {s:Shared} {p:Addr} {xs ys:List V} {its its':List Value} {n n':Nat} {f:Obj->Obj} (I:Inv X pins σ H s) (h:H p=some (.lst xs))
  (ho:s.heap.get? p=some { cls:=.type "list",data:=.seq its.toArray n }) (hf:f { cls:=.type "list",data:=.seq its.toArray n }={ cls:=.type "list",data:=.seq its'.toArray n' }) (r:Vals ys its') (hz:ys.length<=sizeLine) (t:Nat) :
  Inv X pins σ (upd H p (.lst ys)) { s with heap:=s.heap.update p f,toks:=t }:=by
 have e:(s.heap.update p f).get? p=some { cls:=.type "list",data:=.seq its'.toArray n' }:=by
  rw[Heap.get?_update_self f ho (by rw[hf]<;>rfl),hf]
 refine I.write (x:=p) (e:=p) (by rw[h];trivial) (.inl rfl) (λb u hb q=>(Heap.get?_update_other _ _ (Ne.symm hb)).trans q) ⟨_,e⟩ ?_
 exact ⟨hz,its',n',r,e⟩
def rSetL:V->V->V->Hp->(Hp->Prop)->Prop:=λo i v H Q=>∃ p xs k j,o=.ref p/\i=.int k/\H p=some (.lst xs)/\ixN xs.length k=some j/\Q (upd H p (.lst (xs.set j v)))
theorem set_list:PSet X rSetL:=by
 intro pins s σ H o i v ov iv u Q I ro ri rv h
 obtain ⟨p,xs,k,j,rfl,rfl,hp,hj,q⟩:=h
 cases ro
 obtain ⟨t,rfl⟩:=ri
 obtain ⟨its,n,r,ho,hz⟩:=I.lst hp
 obtain ⟨h1,h2,h3,h4⟩:=ixN_seq hj
 have hl:=r.length
 have hn:=line63
 have I':Inv X pins σ (upd H p (.lst (xs.set j v))) { s with heap:=s.heap.update p (Obj.mapSeq (·.setIfInBounds j u)) } :=
  I.lstUpd hp ho (mapSeq_set its n j u) (r.set rv j) (by rw[length_set];exact hz) s.toks
 by_cases h0:0<=k
 ·have hk:k.toNat=j:=by
   rw[seqIndex_of h0 h4] at h1
   exact Option.some.inj h1
  exact PySem.W.ki_setAt ho h0 (by lia) (by rw[size_toArray,<-hl];exact h4) (by rw[hk];exact ⟨_,I',q⟩)
 ·have hk:(k+(its.toArray.size:Int)).toNat=j:=by
   rw[seqIndex_neg (by lia) h3] at h1
   rw[size_toArray,<-hl]
   exact Option.some.inj h1
  exact PySem.W.ki_setBack ho (by lia) (by rw[size_toArray,<-hl];exact h3) (by lia) (by rw[hk];exact ⟨_,I',q⟩)
theorem slice_bounds (lo hi:Option Int) (n:Nat):(sliceBounds lo hi none n).1=((HT.sIx n 0 lo:Nat):Int)/\(sliceBounds lo hi none n).2.1=((HT.sIx n n hi:Nat):Int)/\(sliceBounds lo hi none n).2.2=1:=by
 refine ⟨?_,?_,rfl⟩
 ·cases lo with
  | none=>simp[sliceBounds,HT.sIx]
  | some i =>
   simp only[sliceBounds,HT.sIx,Option.getD_none,show (1:Int) > 0 by decide,if_true]
   by_cases h:i < 0
   ·simp only[h,if_true]<;>lia
   ·simp only[h,if_false]<;>lia
 ·cases hi with
  | none=>simp[sliceBounds,HT.sIx]
  | some i =>
   simp only[sliceBounds,HT.sIx,Option.getD_none,show (1:Int) > 0 by decide,if_true]
   by_cases h:i < 0
   ·simp only[h,if_true]<;>lia
   ·simp only[h,if_false]<;>lia
theorem slicePick_cut (its:List Value) (lo hi:Option Int):slicePick its.toArray lo hi none=((its.drop (HT.sIx its.length 0 lo)).take (HT.sIx its.length its.length hi - HT.sIx its.length 0 lo)).toArray:=by
 obtain ⟨h1,h2,h3⟩:=slice_bounds lo hi its.toArray.size
 unfold slicePick
 rw[h1,h2,h3]
 simp only[sliceRange_one,pick_run,size_toArray]<;>rfl
def rSlL (K:W.Frag):V->Option Int->Option Int->Hp->VK->Prop:=λx lo hi H Q=>∃ a xs,x=.ref a/\SqL K H a xs/\∀ p,H p=none->Q (.ref p) (upd H p (.lst (cutV xs lo hi)))
theorem sl_list:SlR X (rSlL X.K):=by
 intro pins s σ H x v vl vu lo hi sl Q I rx hs pl pu h
 obtain ⟨a,xs,rfl,hx,q⟩:=h
 cases rx
 obtain ⟨its,r,ht,hz⟩:=I.list hx
 have hlen:=r.length
 refine ⟨"list",_,slot_list_getitem.lookup,ht.isList.typeIs,?_⟩
 refine wpAny_getItem_list_slice ht.isList hs pl pu .none (by simp) ?_ (by rw[size_toArray]<;>lia)
 rw[slicePick_cut,<-hlen]
 refine ⟨.ref s.heap.objs.size,_,I.laid (t':=s.toks) (o:=.lst (cutV xs lo hi)) (λb ob q=>Heap.get?_push_of_some _ q) (Nat.le_refl _) ?_,rfl,q _ (I.hok.fresh (Nat.le_refl _))⟩
 exact ⟨Nat.le_trans (cutV_length xs lo hi) hz,_,0,(r.drop (HT.sIx xs.length 0 lo)).take (HT.sIx xs.length xs.length hi - HT.sIx xs.length 0 lo),Heap.get?_push_size _ rfl⟩
theorem call_len_seq:CallR X (.builtin "len") (λxs H Q=>∃ p ys,xs=[.ref p]/\(SqL X.K H p ys\/SqT X.K H p ys)/\Q (.int ys.length) H):=by
 intro pins s σ H xs us Q I r h
 obtain ⟨p,ys,rfl,hq,q⟩:=h
 obtain ⟨u,rfl,rx⟩:=vals1 r
 cases rx
 have hn:=line63
 rcases hq with hq|hq
 ·obtain ⟨its,r',pl,hz⟩:=I.list hq
  have hlen:=r'.length
  exact Calls.call_len_list pl.isList (by simp only[size_toArray]<;>lia) ⟨.int ys.length,H,I.tok _,⟨s.toks+1,by rw[size_toArray,hlen]⟩,q⟩
 ·obtain ⟨its,r',pl,hz⟩:=I.tuple hq
  have hlen:=r'.length
  exact len_tuple pl (by simp only[size_toArray]<;>lia) ⟨.int ys.length,H,I.tok _,⟨s.toks+1,by rw[size_toArray,hlen]⟩,q⟩
theorem call_list_of:CallR X (.type "list") (λxs H Q=>∃ p ys,xs=[.ref p]/\(SqL X.K H p ys\/SqT X.K H p ys)/\∀ l,H l=none->Q (.ref l) (upd H l (.lst ys))):=by
 intro pins s σ H xs us Q I r h
 obtain ⟨p,ys,rfl,hq,q⟩:=h
 obtain ⟨u,rfl,rx⟩:=vals1 r
 cases rx
 have fin:∀ (its:List Value),Vals ys its->ys.length<=sizeLine->∀ (h':Heap) (c':Nat),(∀ b o',s.heap.get? b=some o'->h'.get? b=some o') ->
   h'.get? s.heap.objs.size=some { cls:=.type "list",dict:=none,data:=.seq its.toArray c',slots:=#[] }->EP X pins σ Q (.ref s.heap.objs.size) { s with heap:=h' }:=λits r' hz h' c' kp e =>
  ⟨.ref s.heap.objs.size,_,I.laid (t':=s.toks) kp (Nat.le_refl _) (show ObjOk X.prog X.w _ h' _ (.lst ys) from ⟨hz,its,c',r',e⟩),rfl,q _ (I.hok.fresh (Nat.le_refl _))⟩
 rcases hq with hq|hq
 ·obtain ⟨its,r',pl,hz⟩:=I.list hq
  have hlen:=r'.length
  obtain ⟨o,ho,hc,n,hd⟩:=pl.isList
  exact call_list_seq p (.inl rfl) ho hc hd (λh' c' kp e=>fin its r' hz h' c' kp e) (by simp only[size_toArray]<;>lia)
 ·obtain ⟨its,r',pl,hz⟩:=I.tuple hq
  have hlen:=r'.length
  obtain ⟨o,ho,hc,n,hd⟩:=pl
  exact call_list_seq p (.inr rfl) ho hc hd (λh' c' kp e=>fin its r' hz h' c' kp e) (by simp only[size_toArray]<;>lia)
def tyV (K:W.Frag) (T:String) (x:V) (H:Hp):Prop:=match x with
 | .str _=>T="str"
 | .int _=>T="int"
 | .ref p=>(T="list"/\∃ xs,SqL K H p xs)\/(T="tuple"/\∃ o,K.lookup p=some o/\o.cls=.type "tuple"/\o.dict=none) \/
   (T="dict"/\((∃ kvs,H p=some (.dK kvs))\/∃ kvs,H p=some (.dT kvs)))\/(T="set"/\∃ S n,H p=some (.set S n))
 | _=>False
theorem tyV_is {pins:List (Addr × Obj)} {σ:St} {H:Hp} {s:Shared} {T:String} {x:V} {v:Value} (I:Inv X pins σ H s) (r:RelV x v) (ty:tyV X.K T x H) :
  s.TypeIs v T/\∀ a,v=.ref a->∃ ob,s.heap.get? a=some ob/\ob.dict=none:=by
 cases x with
 | str z =>
  obtain ⟨t,rfl⟩:=r
  cases (show T="str" from ty)
  exact ⟨typeIs_str s z t,λ_ e=>nomatch e⟩
 | int i =>
  obtain ⟨t,rfl⟩:=r
  cases (show T="int" from ty)
  exact ⟨typeIs_int s i t,λ_ e=>nomatch e⟩
 | ref p =>
  cases r
  rcases ty with ⟨rfl,xs,hq⟩|⟨rfl,o,hk,hc,hd⟩|⟨rfl,hk⟩|⟨rfl,S,n,hk⟩
  ·obtain ⟨its,_,pl,_⟩:=I.list hq
   refine ⟨pl.isList.typeIs,λa e=>?_⟩
   cases e
   obtain ⟨o,n,e,c,hd,_⟩:=pl
   exact ⟨o,e,hd⟩
  ·refine ⟨⟨o,I.kIn p o hk,hc⟩,λa e=>?_⟩
   cases e
   exact ⟨o,I.kIn _ o hk,hd⟩
  ·have z:∃ o,s.heap.get? p=some o/\o.ExactDict:=by
    rcases hk with ⟨kvs,hk⟩|⟨kvs,hk⟩
    ·obtain ⟨_,_,_,_,o,_,_,e,ex,_⟩:=I.hok p _ hk
     exact ⟨o,e,ex⟩
    ·obtain ⟨_,_,_,_,o,_,_,e,ex,_⟩:=I.hok p _ hk
     exact ⟨o,e,ex⟩
   obtain ⟨o,e,ex⟩:=z
   refine ⟨⟨o,e,ex.1⟩,λa e2=>?_⟩
   cases e2
   exact ⟨o,e,ex.2.1⟩
  ·obtain ⟨o,_,_,_,e,ex,_⟩:=I.hok p _ hk
   refine ⟨⟨o,e,ex.1⟩,λa e2=>?_⟩
   cases e2
   exact ⟨o,e,ex.2.1⟩
 | _=>exact False.elim ty
def tBM0 (K:W.Frag) (T:String) (r:V->List V->Hp->VK->Prop) (to:TE):TE:=λσ H Q=>to σ H λx H1=>tyV K T x H1/\r x [] H1 Q
def tBM (K:W.Frag) (T:String) (r:V->List V->Hp->VK->Prop) (to:TE) (t:TA):TE:=λσ H Q=>to σ H λx H1=>tyV K T x H1/\t σ H1 λxs H2=>r x xs H2 Q
variable {o e:Expr} {es:List Expr} {to:TE} {t:TA} {name:Str} {apos cpos:Pos} {T id:String} {r:V->List V->Hp->VK->Prop}
theorem pe_bm (pa:PlainAttrs T) (slot:Slot T name id) (hty:typeOf (.builtin id)=pure (.type "method_descriptor")) (hm:MtR X id r) (ho:PE X o to) (ha:PA X (e::es) t)
  (hbase:attributeBase o name X.env (eval o X.env)=eval o X.env:=by rfl)
  (hfew:((backTo cpos (starEach (e::es) X.env)).all (λx=>!x.1)&&(backToKw cpos (keywordEach [] X.env)).all (λx=>x.1.isSome)
   && decide ((e::es).length+([]:List Keyword).length+(if ([]:List Keyword).isEmpty then 0 else 1) < 30))=true:=by rfl)
  (hline:(apos.endLine==cpos.line)=true:=by rfl) (hs:starEach (e::es) X.env=(false,eval e X.env)::starEach es X.env:=by rfl) (hplain:(backTo cpos (starEach es X.env)).any (·.1)=false:=by rfl) :
  PE X (.Call (.Attribute o name apos) (e::es) [] cpos) (tBM X.K T r to t):=by
 intro pins s σ H Q I h
 refine wpAny_Call_method_late hbase hfew hline rfl (thn (ho pins s σ H _ I h) λv s1 ⟨x,H1,I1,r1,ty,q1⟩=>?_)
 obtain ⟨h1,h2⟩:=tyV_is I1 r1 ty
 refine ⟨T,id,pa,slot,hty,h1,h2,?_⟩
 have hA:=ha cpos pins s1 σ H1 _ I1 q1
 rw[hs] at hA ⊢
 refine Calls.callWith_builtin (by show (false||(backTo cpos (starEach es X.env)).any (·.1))=false;rw[hplain]<;>rfl) (Calls.evalArgs_plain ?_)
 exact thn hA λus s2 ⟨vs,H2,I2,r2,q2⟩=>hm pins s2 σ H2 x vs v us Q I2 r1 r2 q2
/- xs.append(e),list.index on a module's tuple .. are MtR facts of 06m -/
end
def MtM (X:Cx) (id:String) (r:V->List V->Hp->VK->Prop):Prop :=
 ∀ (pins:List (Addr × Obj)) (s:Shared) (σ:St) (H:Hp) (x:V) (xs:List V) (v:Value) (us:List Value) (Q:VK),Inv X pins σ H s->RelV x v->Vals xs us->r x xs H Q ->
  wpAny (model X.prog X.w) X.A (call (.builtin id) (v::us)) (EP X pins σ Q) X.xe s
theorem Vals.one {x:V} {us:List Value} (h:Vals [x] us):∃ u,us=[u]/\RelV x u:=by
 cases h with
 | cons r q=>cases q;exact ⟨_,rfl,r⟩
theorem Vals.two {x y:V} {us:List Value} (h:Vals [x,y] us):∃ u v,us=[u,v]/\RelV x u/\RelV y v:=by
 cases h with
 | cons r q =>
  obtain ⟨u,e,s⟩:=Vals.one q
  subst e
  exact ⟨_,_,rfl,r,s⟩
theorem Vals.eraseIdx:∀ {xs:List V} {us:List Value} (i:Nat),Vals xs us->Vals (xs.eraseIdx i) (us.eraseIdx i)
 | _,_,_,.nil=>.nil
 | _,_,0,.cons _ t=>t
 | _,_,i+1,.cons r t=>.cons r (Vals.eraseIdx i t)
theorem len_erase {α:Type}:∀ (l:List α) (i:Nat),(l.eraseIdx i).length<=l.length
 | [],_=>Nat.le_refl _
 | _::_,0=>Nat.le_succ _
 | _::r,i+1=>Nat.succ_le_succ (len_erase r i)
section
variable {X:Cx} {pins:List (Addr × Obj)} {σ:St} {H:Hp} {s:Shared} {l:Addr} {xs ys:List V}
theorem Inv.lset {its its':List Value} {n:Nat} {f:Array Value->Array Value} {t':Nat} (I:Inv X pins σ H s) (hH:H l=some (.lst xs))
  (e:s.heap.get? l=some { cls:=.type "list",data:=.seq its.toArray n }) (hf:f its.toArray=its'.toArray) (hv:Vals ys its') (hz:ys.length<=sizeLine) :
  Inv X pins σ (upd H l (.lst ys)) { s with heap:=s.heap.update l (Obj.mapSeq f),toks:=t' }:=by
 have q:=PySem.IsL.update e f
 rw[hf] at q
 refine I.write (x:=l) (e:=l) (by rw[hH];exact trivial) (.inl rfl) (λb' u hb hu=>(Heap.get?_update_other s.heap (Obj.mapSeq f) (Ne.symm hb)).trans hu) ⟨_,q⟩ ?_
 exact ⟨hz,its',_,hv,q⟩
theorem Inv.lnew {its:List Value} {t':Nat} (I:Inv X pins σ H s) (hv:Vals ys its) (hz:ys.length<=sizeLine) :
  Inv X pins σ (upd H s.heap.objs.size (.lst ys)) { s with heap:=s.heap.push { cls:=.type "list",data:=.seq its.toArray },toks:=t' } :=
 I.laid (λ_ _ q=>Heap.get?_push_of_some _ q) (Nat.le_refl _) ⟨hz,its,0,hv,Heap.get?_push_size _ rfl⟩
theorem Inv.fresh (I:Inv X pins σ H s):H s.heap.objs.size=none:=I.hok.fresh (Nat.le_refl _)
theorem Inv.lstM (I:Inv X pins σ H s) (hH:H l=some (.lst xs)):xs.length<=sizeLine/\∃ (its:List Value) (n:Nat),Vals xs its/\xs.length=its.length/\s.heap.get? l=some { cls:=.type "list",data:=.seq its.toArray n }:=by
 obtain ⟨z,its,n,r,e⟩:=I.hok l _ hH
 exact ⟨z,its,n,r,r.length,e⟩
theorem notLongL {n:Nat} (h:n<=sizeLine):Builtin.List.listTooLong n=false:=by
 unfold Builtin.List.listTooLong
 exact decide_eq_false (by lia)
end
section
variable {X:Cx}
def rAppend:V->List V->Hp->VK->Prop:=λx vs H Q=>∃ l xs y,x=.ref l/\vs=[y]/\H l=some (.lst xs)/\xs.length < sizeLine/\Q .non (upd H l (.lst (xs++[y])))
theorem mt_append:MtM X "list.append" rAppend:=by
 intro pins s σ H x vs v us Q I rx rv h
 obtain ⟨l,xs,y,rfl,rfl,hH,hz,q⟩:=h
 cases rx
 obtain ⟨u,rfl,ru⟩:=rv.one
 obtain ⟨z,its,n,r,hl,e⟩:=I.lstM hH
 refine call_meets F.slot_list_append ⟨_,e,rfl⟩ F.entry_list_append (F.args_list_append_2 _ _) (PySem.list_append l its.toArray n u (by rw[size_toArray];lia)) ⟨e,?_⟩
 refine ⟨.non,_,I.lset (its':=its++[u]) hH e (by simp) (r.append (.cons ru .nil)) ?_,rfl,q⟩
 rw[length_append,length_singleton]
 lia
def rExtend:V->List V->Hp->VK->Prop:=λx vs H Q=>∃ l b xs zs,x=.ref l/\vs=[.ref b]/\H l=some (.lst xs)/\H b=some (.lst zs)/\xs.length+zs.length<=sizeLine/\Q .non (upd H l (.lst (xs++zs)))
theorem mt_extend:MtM X "list.extend" rExtend:=by
 intro pins s σ H x vs v us Q I rx rv h
 obtain ⟨l,b,xs,zs,rfl,rfl,hH,hB,hz,q⟩:=h
 cases rx
 obtain ⟨u,rfl,ru⟩:=rv.one
 cases ru
 obtain ⟨z,its,n,r,hl,e⟩:=I.lstM hH
 obtain ⟨z2,its2,n2,r2,hl2,e2⟩:=I.lstM hB
 have hsz:its.toArray.size+its2.toArray.size<=sizeLine:=by rw[size_toArray,size_toArray];lia
 have hlong:¬ (!its.toArray.isEmpty&&Builtin.List.listTooLong (its.toArray.size+its2.toArray.size))=true:=by
  rw[notLongL hsz,Bool.and_false]
  exact Bool.false_ne_true
 refine call_meets F.slot_list_extend ⟨_,e,rfl⟩ F.entry_list_extend (F.args_list_extend_2 _ _)
  (AutoSeq1.list_extend_list_list_0 l its.toArray n b its2.toArray n2 hlong (by rw[size_toArray];lia) (by lia)) ⟨e,e2,?_⟩
 refine ⟨.non,_,I.lset (its':=its++its2) hH e (by simp) (r.append r2) ?_,rfl,q⟩
 rw[length_append]
 lia
def rPopAt:V->List V->Hp->VK->Prop:=λx vs H Q=>∃ l xs i k y,x=.ref l/\vs=[.int i]/\H l=some (.lst xs)/\-(2 ^ 63)<=i/\i < 2 ^ 63/\seqIndex? i xs.length=some k/\xs[k]?=some y/\Q y (upd H l (.lst (xs.eraseIdx k)))
theorem mt_popAt:MtM X "list.pop" rPopAt:=by
 intro pins s σ H x vs v us Q I rx rv h
 obtain ⟨l,xs,i,k,y,rfl,rfl,hH,h1,h2,hk,hy,q⟩:=h
 cases rx
 obtain ⟨u,rfl,ru⟩:=rv.one
 obtain ⟨t,rfl⟩:=ru
 obtain ⟨z,its,n,r,hl,e⟩:=I.lstM hH
 obtain ⟨w,hw,rw'⟩:=r.get hy
 refine call_meets F.slot_list_pop ⟨_,e,rfl⟩ F.entry_list_pop (F.args_list_pop_2 _ _)
  (MeetsSeq.list_pop_at l its.toArray n i t k w (fitsIndex_both h1 h2) (by rw[size_toArray,<-hl];exact hk) (by rw[<-Array.getElem?_toList];exact hw) (by rw[size_toArray];lia)) ⟨e,?_⟩
 refine ⟨y,_,I.lset (its':=its.eraseIdx k) hH e ?_ (r.eraseIdx k) ?_,rw',q⟩
 ·show its.toArray.eraseIdxIfInBounds k=(its.eraseIdx k).toArray
  rw[List.eraseIdxIfInBounds_toArray]
 ·have:=len_erase xs k
  lia
def rReverse:V->List V->Hp->VK->Prop:=λx vs H Q=>∃ l xs,x=.ref l/\vs=[]/\H l=some (.lst xs)/\Q .non (upd H l (.lst xs.reverse))
def rCat:R2:=λx y H Q=>∃ l b xs zs,x=.ref l/\y=.ref b/\H l=some (.lst xs)/\H b=some (.lst zs)/\xs.length+zs.length<=sizeLine/\∀ p,H p=none->Q (.ref p) (upd H p (.lst (xs++zs)))
theorem op_cat:OpR X (binaryOp .Add) rCat:=by
 intro pins s σ H x y v u Q I rx ry h
 obtain ⟨l,b,xs,zs,rfl,rfl,hH,hB,hz,q⟩:=h
 cases rx
 cases ry
 obtain ⟨z,its,n,r,hl,e⟩:=I.lstM hH
 obtain ⟨z2,its2,n2,r2,hl2,e2⟩:=I.lstM hB
 refine PySem.P.add_list e e2 ?_ (by rw[size_toArray,size_toArray];lia)
 have ea:its.toArray++its2.toArray=(its++its2).toArray:=by simp
 rw[ea]
 exact ⟨.ref _,_,I.lnew (t':=s.toks) (r.append r2) (by rw[length_append];lia),rfl,q _ I.fresh⟩
end
end L2
namespace Att
open PySem PySem.W PySem.Calls PyProof.Rows
theorem ints_of_wellAll {P:Params} {h:Heap}:∀ (ns:List Int) (vs:List Value),WellAll P h vs (ns.map WData.int)->IntsAre vs ns:=by
 intro ns
 induction ns with
 | nil =>
  intro vs w
  rw[List.map_nil] at w
  cases w
  exact .nil
 | cons n ns ih =>
  intro vs w
  rw[map_cons] at w
  cases w with
  | cons a b =>
   cases a
   exact .cons _ _ (ih _ b)
theorem script_of {l:OpenLaw} {n:Nat} (hn:l.most=some n) {P:Params} {h:Heap} {args:List WData} {vals:List Value}
  (hpre:l.row.toRowW.claim.pre args=true) (hwl:WellAll P h vals args) :
  ∃ a vs ns,vals=[Value.ref a]/\args=[WData.list (ns.map WData.int)]/\h.get? a=some { cls:=.type "list",data:=.seq vs.toArray }/\IntsAre vs ns/\ns.length<=n:=by
 have hsh:WShape.hasAll [] args [.list .int]=true:=(pre_splitW hpre).1
 have hc:l.pre.holds [] { args:=args }=true:=(pre_splitW hpre).2
 obtain ⟨d,r,rfl,h1,h2⟩:=hasAllW_cons hsh
 obtain rfl:=hasAllW_nil h2
 obtain ⟨xs,rfl,h3⟩:=hasW_list h1
 obtain ⟨ns,rfl⟩:=items_int h3
 have hlen:ns.length<=n:=by
  unfold OpenLaw.pre at hc
  have h4:(WTm.not (.lt (.lit (.int (n:Int))) (.len (.arg 0)))).holds [] { args:=[.list (ns.map .int)] }=true:=by
   have h4:=(holds_andW hc).1
   rw[hn] at h4
   exact h4
  have h5:=condW_of h4 (w_not (w_lt w_lit (w_len_list (w_arg rfl))))
  rw[length_map] at h5
  refine Nat.le_of_not_lt λq=>?_
  have q':(n:Int) < ((ns.length:Nat):Int):=by lia
  first
   | (rw[decide_eq_true q'] at h5;exact absurd h5 (by decide))
   | (simp at h5;lia)
 cases hwl with
 | cons w1 w2 =>
  cases w2
  cases w1 with
  | list ho hall=>exact ⟨_,_,ns,rfl,rfl,ho,ints_of_wellAll ns _ hall,hlen⟩
theorem post_true (l:OpenLaw) (args:List WData):l.row.toRowW.claim.post args (.bool true) args=true :=
 postW_of (r:=l.row.toRowW) (X:=(true==true))
  (show WShape.has [] (.bool true) .bool=true by first|rfl|decide|simp[WShape.has,WShape.arms,WShape.armsAll])
  (show (WTm.eq .res (.lit (.bool true))).value [] { args:=args,res:=some (.bool true),after:=args }=some (.bool (true==true)) from w_eq_bool (w_res rfl) w_lit) rfl
theorem attach_call {l:OpenLaw} {n:Nat} {q:Program} {loose:List Str} {XP:(Str->Option Value)->Heap->Prop} {YP:World->Heap->Prop} {d:DefRec}
  (hn:l.most=some n) (hdf:d.params.defaults=[])
  (call:∀ (w:World) (s₀ s₁:Shared) (mg mb:Str->Option Value) (fa:Addr) (o:Obj) (pm cd doc:Value) (a:Addr) (vs:List Value) (ns:List Int),
   Ground q loose [] XP w s₀ mg mb s₁.heap->YP w s₁.heap ->
   s₁.heap.get? fa=some o->o.data=.func (docDef d.name d.params d.body d.scope pm cd doc)->s₁.heap.CodeRec cd d.name->mg d.name=some (.ref fa) ->
   s₁.heap.get? a=some { cls:=.type "list",data:=.seq vs.toArray }->IntsAre vs ns->ns.length<=n->s₁.gens=#[] ->
   codeAny (model l.prog w) callerA (.call (.ref fa) ⟨[.ref a],[]⟩) (λr s'=>r=.ok (.ret (.bool true))/\OldK s₁.heap s'.heap/\s'.os=s₁.os/\AllBare s'.gens) s₁) :
  WalkO q loose XP YP l.row.toRowW d [] (λf vs=>PySem.call f vs):=by
 intro w s₀ s₁ mg mb G Y fa o pm cd doc dV kV ho hd hcd hD hmg hg args vals as hpre hlay hrd hwl hlo
 obtain rfl:dV=.none:=Dflts.none hD hdf
 obtain rfl:kV=.none:=Dflts.noKw hD
 obtain ⟨a,vs,ns,rfl,rfl,hobj,hints,hlen⟩:=script_of hn hpre hwl
 refine enter_call (codeAny_mono (call w s₀ s₁ mg mb fa o pm cd doc a vs ns G Y ho (fd_plain hd) hcd hmg hobj hints hlen hg) λr s' hq=>?_)
 obtain ⟨rfl,h2,h3,h4⟩:=hq
 exact ⟨.inl ⟨.bool true,.bool true,[],rfl,λ_=>rfl,.bool true,post_true l _,λ_=>⟨List.Pairwise.nil,λ_ hm=>(nomatch hm)⟩⟩,h2,h3,h4⟩
end Att
namespace L2
open PySem PySem.Spec PyProof.Rows
theorem vals_ints:∀ {vs:List Value} {ns:List Int},IntsAre vs ns->Vals (ns.map V.int) vs
 | _,_,.nil=>.nil
 | _,_,.cons n t h=>.cons ⟨t,rfl⟩ (vals_ints h)
def Only (H:Hp):Prop:=∀ b,H b=none\/∃ o xs,H b=some (.frz o (.lst xs))
theorem law_call {P:Program} {w:World} {K:W.Frag} {mg mb:Str->Option Value} {CX:CXT} {k:Nat} {fa a:Addr} {fd:FuncData} {x:Str} {sp:Sp} {s₁:Shared} {vs:List Value} {ns:List Int}
  (KX:K.In s₁.heap) (hns:s₁.heap.Ns mainGlobals mg) (hb:s₁.heap.Ns builtinsNs mb) (hbb:∀ x:Str,x≠"__name__"->mb x=bootBuiltins x) (hlim:s₁.heap.NoLimit) (hse:s₁.heap.NoSeer) (hg:s₁.gens=#[])
  (ha:s₁.heap.get? a=some { cls:=.type "list",data:=.seq vs.toArray }) (hi:IntsAre vs ns) (hl:ns.length<=sizeLine) (hr:Room k callerA)
  (F:∀ base:Heap,K.In base->base.Ns mainGlobals mg->FnOk P w K mg base CX k fa fd [x] sp) (hbind:∀ (s:Shared) (u:Value),BindsTo s fd ⟨[u],[]⟩ [(x,u)])
  (hsp:∀ H:Hp,Only H->SqL K H a (ns.map V.int)->sp [.ref a] H (λv _=>v=.bl true) λ_ _ _=>False)
  (hCX:∀ H e s',CX [] H s₁ (λ_ _ _=>False) e s'->False) :
  codeAny (model P w) callerA (.call (.ref fa) ⟨[.ref a],[]⟩) (λr s'=>r=.ok (.ret (.bool true))/\OldK s₁.heap s'.heap/\s'.os=s₁.os/\AllBare s'.gens) s₁:=by
 have rv:=vals_ints hi
 have lenV:=hi.length
 have core:∀ H:Hp,Only H->SqL K H a (ns.map V.int)->HOk P w H s₁.heap->(∀ b,H b≠none->b=a)->(H a≠none->K.lookup a=none) ->
   codeAny (model P w) callerA (.call (.ref fa) ⟨[.ref a],[]⟩) (λr s'=>r=.ok (.ret (.bool true))/\OldK s₁.heap s'.heap/\s'.os=s₁.os/\AllBare s'.gens) s₁:=by
  intro H hO hS hok hA hK
  have base_of:∀ {b:Addr} {o:Obj},s₁.heap.get? b=some o->H b=none->(hidT s₁.heap H).get? b=some o:=λe n=>hidT_get e n
  have noA:∀ {b:Addr} {o:Obj} {es:Array DictEntry} {ep:Nat},s₁.heap.get? b=some o->o.data=.dict es ep->H b=none:=λ{b o es ep} e d=>by
   cases q:H b with
   | none=>rfl
   | some u =>
    have e':b=a:=hA b (by rw[q];simp)
    subst e'
    rw[ha] at e;cases e
    have d':Data.seq vs.toArray _=Data.dict es ep:=d
    cases d'
  have nsK:∀ {b:Addr} {m:Str->Option Value},s₁.heap.Ns b m->(hidT s₁.heap H).Ns b m:=λ{b m} ⟨o,es,ep,e,d,r⟩=>⟨o,es,ep,base_of e (noA e d),d,r⟩
  have hKb:K.In (hidT s₁.heap H):=λb o e=>base_of (KX b o e) (by
   cases q:H b with
   | none=>rfl
   | some u =>
    have e':b=a:=hA b (by rw[q];simp)
    subst e'
    rw[hK (by rw[q];simp)] at e;cases e)
  have seK:(hidT s₁.heap H).NoSeer:=⟨let ⟨mc,h1,h2⟩:=hse.statics;⟨mc,nsK h1,h2⟩,let ⟨mm,h1,h2⟩:=hse.mods;⟨mm,nsK h1,h2⟩,let ⟨mx,h1,h2⟩:=hse.imp;⟨mx,nsK h1,h2⟩,by
   obtain ⟨mx,bm,ob,h1,h2,h3,h4,h5⟩:=hse.main
   refine ⟨mx,bm,ob,nsK h1,h2,base_of h3 ?_,h4,h5⟩
   cases q:H bm with
   | none=>rfl
   | some u =>
    have e':bm=a:=hA bm (by rw[q];simp)
    subst e'
    rw[ha] at h3;cases h3
    exact absurd (show (Value.type "list")=.type "module" from h4) (by decide)⟩
  have hM:Mod K mg (hidT s₁.heap H):=⟨hKb,nsK hns,⟨mb,nsK hb,hbb⟩,let ⟨mc,h1,h2⟩:=hlim;⟨mc,nsK h1,h2⟩,seK⟩
  have e0:Env0 P w K mg (hidT s₁.heap H) callerA [] s₁ H:=⟨rfl,hM,λb o e=>of_hidT e,Nat.le_of_eq (hidT_size _ _),trivial,λb hb=>absurd (show b∈([]:List Addr) from hb) (by simp),hok,.of_eq hg⟩
  refine codeAny_mono ((F _ hKb (nsK hns)).run callerA [] s₁ H ⟨[.ref a],[]⟩ [.ref a] [.ref a] _ _ hr e0 (hbind s₁ (.ref a)) (.cons rfl .nil) (hsp H hO hS)) λr s' h=>?_
  cases r with
  | error e=>exact (hCX H e s' h).elim
  | ok fl =>
   cases fl with
   | next=>exact False.elim h
   | brk=>exact False.elim h
   | cont=>exact False.elim h
   | ret u =>
    obtain ⟨v,H',os,bare,un,hok',r',q⟩:=h
    have q':v=.bl true:=q
    subst q'
    obtain rfl:u=Value.bool true:=r'
    refine ⟨rfl,OldK.of_keep λb o e=>?_,os,bare⟩
    cases q:H b with
    | none=>exact un.keep b o e q (by intro z;exact absurd (show b∈([]:List Addr) from z) (by simp)) (by simp)
    | some u =>
     rcases hO b with z|⟨ob,xs,z⟩
     ·rw[q] at z;cases z
     ·have z2:=un.frzs b ob _ z
      obtain ⟨e1,_⟩:=hok b _ z
      obtain ⟨e2,_⟩:=hok' b _ z2
      rw[e] at e1;cases e1
      exact e2
 cases hk:K.lookup a with
 | some o =>
  have e:=KX a o hk
  rw[ha] at e
  cases e
  refine core (λ_=>none) (λ_=>.inl rfl) (.inr ⟨_,vs.toArray,_,hk,rfl,rfl,rfl,by rw[size_toArray,lenV];exact hl,by simpa using rv⟩) (λb u z=>by have z':(none:Option HO)=some u:=z;cases z') (λb z=>absurd rfl z) λz=>absurd rfl z
 | none =>
  refine core (λb=>if b=a then some (.frz { cls:=.type "list",data:=.seq vs.toArray } (.lst (ns.map V.int))) else none) (λb=>?_) (.inl (.inr ⟨{ cls:=.type "list",data:=.seq vs.toArray },if_pos rfl⟩)) (λb u z=>?_) (λb z=>?_) λ_=>hk
  ·by_cases hb:b=a
   ·exact .inr ⟨_,_,if_pos hb⟩
   ·exact .inl (if_neg hb)
  ·by_cases hb:b=a
   ·have z':=(if_pos hb).symm.trans z
    cases z'
    subst hb
    exact ⟨ha,by rw[length_map];exact hl,vs,_,rv,ha⟩
   ·have z':=(if_neg hb).symm.trans z
    cases z'
  ·by_cases hb:b=a
   ·exact hb
   ·exact absurd (if_neg hb) z
theorem walk_of {l:PySem.W.OpenLaw} {n k:Nat} {q:Program} {loose:List Str} {XP:(Str->Option Value)->Heap->Prop} {YP:World->Heap->Prop} {d:DefRec} {K:Params->W.Frag} {CX:World->CXT} {sp:World->Sp} {x:Str}
  (hn:l.most=some n) (hn2:n<=sizeLine) (hdf:d.params.defaults=[]) (hr:Room k callerA) (hi:importsNone q=true)
  (hY:∀ (w:World) (h:Heap),YP w h->(K w.params).In h)
  (F:∀ (w:World) (mg:Str->Option Value) (fa:Addr) (h:Heap),(K w.params).In h->h.Ns mainGlobals mg->mg d.name=some (.ref fa) ->
   ∃ fd:FuncData,(∀ (s:Shared) (u:Value),BindsTo s fd ⟨[u],[]⟩ [(x,u)]) /\
    ∀ base:Heap,(K w.params).In base->base.Ns mainGlobals mg->FnOk l.prog w (K w.params) mg base (CX w) k fa fd [x] (sp w))
  (hsp:∀ (w:World) (H:Hp) (a:Addr) (ns:List Int),ns.length<=n->Only H->SqL (K w.params) H a (ns.map V.int)->sp w [.ref a] H (λv _=>v=.bl true) λ_ _ _=>False)
  (hCX:∀ (w:World) (H:Hp) (s:Shared) (e:Value) (s':Shared),CX w [] H s (λ_ _ _=>False) e s'->False) :
  PySem.W.WalkO q loose XP YP l.row.toRowW d [] (λf vs=>PySem.call f vs):=by
 refine Att.attach_call hn hdf λw s₀ s₁ mg mb fa o pm cd doc a vs ns G Y ho hd hcd hmg hobj hints hlen hg=>?_
 have KX:=hY w _ Y
 obtain ⟨fd,hb,hF⟩:=F w mg fa _ KX G.T.g hmg
 exact law_call KX G.T.g G.T.b G.T.builtins G.T.nolimit (G.T.seer hi) hg hobj hints (Nat.le_trans hlen hn2) hr hF hb (λH hO hS=>hsp w H a ns hlen hO hS) λH e s'=>hCX w H s₁ e s'
def defArgs (s:Stmt):Arguments:=match s with
 | .FunctionDef _ a _ _ _ _ _ _ _ _=>a
 | _=>{ posonlyargs:=[],args:=[],vararg:=none,kwonlyargs:=[],kw_defaults:=[],kwarg:=none,defaults:=[] }
def defBody (s:Stmt):List Stmt:=match s with
 | .FunctionDef _ _ b _ _ _ _ _ _ _=>b
 | _=>[]
def defScope (s:Stmt):Scope:=match s with
 | .FunctionDef _ _ _ _ _ _ sc _ _ _=>sc
 | _=>{ kind:=.function,names:=[],isGenerator:=false,isCoroutine:=false }
abbrev CX0:CXT:=λ_ _ _ _ _ _=>False
abbrev E0:XK:=λ_ _ _=>False
theorem pass0 {X:Cx}:Passes CX0 X E0:=λ_ _ _ _ _ _ _ h=>h.elim
structure Fun (K:W.Frag) (x qual:Str) (st:Stmt) (f:Addr) (fd:FuncData):Prop where
 ex:∃ (oc:Value) (od:Option Addr) (kV doc pm:Value) (an:Option Addr) (cdv ct:Value) (osl:Array (Option Value)),
  fd=PySem.W.fnOf x qual (defArgs st) (defBody st) (defScope st) .none kV doc pm an cdv ct/\K.lookup f=some ⟨oc,od,.func fd,osl⟩/\PySem.W.codeIn K cdv qual=true
 kp:PySem.W.keepIn K (.ref f)=true
section
variable {P:Program} {w:World} {K:W.Frag} {mg:Str->Option Value} {base:Heap}
theorem Fun.ok {x qual:Str} {st:Stmt} {f:Addr} {fd:FuncData} {N ps:List Str} {k:Nat} {sp:Sp} (F:Fun K x qual st f fd) (S:FnScope N ps (defScope st)) (len:∀ vs H Q E,sp vs H Q E->vs.length=ps.length)
  (hbody:∀ (cdv:Value) (A:Around) (outer:List Env) (s:Shared) (H:Hp) (vs:List V) (Q:VK) (E:XK),Room k (A.deeper (envOfC qual (defScope st) s.heap.objs.size f cdv))->sp vs H Q E ->
   ∃ t,PSs (cxOf CX0 P w K mg base N qual (defScope st) f cdv A outer s H E).nox (defBody st) t/\t { nx:=λ_ H'=>Q .non H',rt:=Q } (start N vs) H):FnOk P w K mg base CX0 (k+1) f fd ps sp:=by
 obtain ⟨oc,od,kV,doc,pm,an,cdv,ct,osl,rfl,lk,hcd⟩:=F.ex
 refine fn_of lk hcd S len λA outer s H vs Q E hr hsp=>?_
 obtain ⟨t,h,q⟩:=hbody cdv A outer s H vs Q E hr hsp
 exact ⟨t,h.nox,q⟩
theorem Fun.binds {x qual:Str} {st:Stmt} {f:Addr} {fd:FuncData} {ps:List Str} (F:Fun K x qual st f fd)
  (h:∀ (kV doc pm:Value) (an:Option Addr) (cdv ct:Value) (us:List Value),us.length=ps.length->bindArgs (PySem.W.fnOf x qual (defArgs st) (defBody st) (defScope st) .none kV doc pm an cdv ct) ⟨us,[]⟩=pure (ps.zip us)):Binds K fd ps []:=by
 obtain ⟨oc,od,kV,doc,pm,an,cdv,ct,osl,rfl,lk,hcd⟩:=F.ex
 exact .all (h kV doc pm an cdv ct)
theorem fun_mk {x qual:Str} {st:Stmt} {f:Addr} {oc:Value} {od an:Option Addr} {osl:Array (Option Value)} {kV doc pm cdv ct:Value} (l:K.lookup f=some ⟨oc,od,.func (PySem.W.fnOf x qual (defArgs st) (defBody st) (defScope st) .none kV doc pm an cdv ct),osl⟩)
  (c:PySem.W.codeIn K cdv qual=true) (k:PySem.W.keepIn K (.ref f)=true):Fun K x qual st f (PySem.W.fnOf x qual (defArgs st) (defBody st) (defScope st) .none kV doc pm an cdv ct):=⟨⟨oc,od,kV,doc,pm,an,cdv,ct,osl,rfl,l,c⟩,k⟩
end
section
variable {X:Cx}
theorem pv (i:Nat) {x:Str} {pos:Pos} (hN:X.N[i]?=some x:=by rfl) (hv:Vis X.env.scope x:=by first|exact Or.inl rfl|exact Or.inr (Or.inl rfl)|exact Or.inr (Or.inr rfl)) (hd:(x==("__debug__":Str))=false:=by decide)
  (hcd:(x==("__classdict__":Str))=false:=by decide):PE X (.Name x pos) (tVar i):=pe_var hN hv hd hcd
end
theorem ite2 {c A B:Prop} [Decidable c] (h1:c->A) (h2:¬ c->B):if c then A else B:=by
 by_cases h:c
 ·rw[if_pos h]
  exact h1 h
 ·rw[if_neg h]
  exact h2 h
def Same (H H':Hp):Prop:=∀ b o,H b=some o->H' b=some o
theorem Same.refl (H:Hp):Same H H:=λ_ _ h=>h
theorem Same.trans {H H1 H2:Hp} (a:Same H H1) (b:Same H1 H2):Same H H2:=λc o h=>b c o (a c o h)
theorem Same.free {H H':Hp} (e:Same H H') {l:Addr} (h:H' l=Option.none):H l=Option.none:=by
 cases q:H l with
 | none=>rfl
 | some o =>
  rw[e l o q] at h
  cases h
theorem Same.seq {K:W.Frag} {H H':Hp} {a:Addr} {xs:List V} (e:Same H H') (h:SqL K H a xs):SqL K H' a xs:=by
 rcases h with (h|⟨o,h⟩)|h
 ·exact .inl (.inl (e _ _ h))
 ·exact .inl (.inr ⟨o,e _ _ h⟩)
 ·exact .inr h
end L2
set_option maxHeartbeats 4000000
namespace L2
open PySem PySem.Spec PyProof.Rows
def PTs (Y:Cx) (ifs:List Expr) (t:TT):Prop :=
 ∀ (pins:List (Addr × Obj)) (s:Shared) (σ:St) (H:Hp) (Q:Bool->Hp->Prop),Inv Y pins σ H s->t σ H Q ->
  wpAny (model Y.prog Y.w) Y.A (forIn ifs true λc r=>if r=true then do let ok <- isTrue c Y.env (eval c Y.env);pure (ForInStep.yield ok) else pure (ForInStep.yield r)) (TP Y pins σ Q) Y.xe s
theorem pts_nil {Y:Cx}:PTs Y [] (λ_ H Q=>Q true H):=by
 intro pins s σ H Q I h
 rw[List.forIn_nil]
 exact wpAny_pure ⟨H,I,h⟩
theorem pts_one {Y:Cx} {c:Expr} {t:TT} (hc:PT Y c t):PTs Y [c] t:=by
 intro pins s σ H Q I h
 rw[List.forIn_cons]
 refine wpAny_bind ?_
 rw[if_pos rfl]
 refine wpAny_bind (thn (hc pins s σ H Q I h) λb s1 q=>wpAny_pure ?_)
 show wpAny _ _ (forIn [] b _) _ _ _
 rw[List.forIn_nil]
 exact wpAny_pure q
def LcW (prog:Program) (w:World) (A:Around) (elt:Expr) (gens:List Comprehension) (scope:Scope) (pos:Pos) (d:Nat) (acc:Value) (env:Env) (Q:Shared->Prop) (s:Shared):Prop :=
 match gens[d+1]? with
 | some g'=>(g'.is_async=0/\∀ x,foldedSetIterable g'.iter env x=pure x)/\wpAny (model prog w) A (eval g'.iter env) (λx s4=>wpAny (model prog w) A (pyIter x) (λitv s5 =>
   codeAny (model prog w) A (.compStart (.ListComp elt gens scope pos) (d+1) itv acc env) (λr s6=>r=.ok .next/\Q s6) s5) (λ_ _=>False) s4) (λ_ _=>False) s
 | none=>wpAny (model prog w) A (eval elt env) (λx s4=>wpAny (model prog w) A (call (.builtin "list.append") [acc,x]) (λ_ s5=>Q s5) (λ_ _=>False) s4) (λ_ _=>False) s
section
variable {prog:Program} {w:World} {A:Around} {R:Result->Shared->Prop} {s:Shared}
theorem compLoop_any {elt target iter:Expr} {ifs:List Expr} {gens:List Comprehension} {scope:Scope} {pos:Pos} {d:Nat} {it acc:Value} {env:Env} (hg:gens[d]?=some ⟨target,iter,ifs,0⟩) (I:Nat->Shared->Prop)
  (turn:∀ n s,I n s->wpAny (model prog w) A (pyNext it) (λr s₁=>match r with
   | none=>R (.ok .next) s₁
   | some v=>wpAny (model prog w) A (letOwnedTupleGo target it v) (λ_ s₁'=>wpAny (model prog w) A (assign target env v) (λ_ s₂ =>
     wpAny (model prog w) A (forIn ifs true λc r=>if r=true then do let ok <- isTrue c env (eval c env);pure (ForInStep.yield ok) else pure (ForInStep.yield r)) (λok s₃ =>
      if ok=true then LcW prog w A elt gens scope pos d acc env (λs₅=>∃ m,m < n/\I m s₅) s₃
      else ∃ m,m < n/\I m s₃) (λ_ _=>False) s₂) (λ_ _=>False) s₁') (λ_ _=>False) s₁) (λ_ _=>False) s)
  (n:Nat) (h:I n s) :
  codeAny (model prog w) A (.compLoop (.ListComp elt gens scope pos) d it acc env) R s:=by
 refine codeAny_loop rfl I (λn s hI=>?_) n h
 show wpAny _ A ((compTurn (.ListComp elt gens scope pos) d it acc env).onRaise (λx=>do noteFrame x env;theTreesLotGoes x)) _ _ s
 refine wpAny_noted (wpAny_noRaise ?_)
 unfold compTurn
 dsimp only
 rw[hg]
 dsimp only
 refine wpAny_bind (wpAny_standAt (wpAny_bind (thn (turn n s hI) (λr s₁ h₁=>?_))))
 cases r with
 | none=>exact wpAny_pure h₁
 | some v =>
  refine wpAny_bind (thn h₁ λ_ s₁' h₁=>wpAny_bind (thn h₁ λ_ s₂ h₂=>wpAny_bind (thn h₂ λok s₃ h₃=>?_)))
  cases ok with
  | false=>exact wpAny_pure ⟨rfl,h₃⟩
  | true =>
   rw[if_pos rfl] at h₃ ⊢
   unfold LcW at h₃
   cases e:gens[d+1]? with
   | none =>
    rw[e] at h₃
    exact wpAny_bind (wpAny_bind (thn h₃ λx s₄ h₄=>wpAny_bind (thn h₄ λ_ s₅ h₅=>wpAny_pure (wpAny_pure ⟨rfl,h₅⟩))))
   | some g' =>
    rw[e] at h₃
    dsimp only at h₃ ⊢
    obtain ⟨⟨ha,hf⟩,h₃⟩:=h₃
    refine wpAny_bind (thn h₃ λx s₄ h₄=>wpAny_bind (wpAny_standAt ?_))
    rw[ha,if_neg (by decide)]
    refine wpAny_bind (wpAny_of_eq (hf x) (wpAny_bind (wpAny_holding ?_)))
    rw[if_neg (by decide)]
    refine thn h₄ λitv s₅ h₅=>wpAny_bind (wpAny_runOwn (codeAny_mono h₅ λr s₆ ⟨hr,q⟩=>?_))
    subst hr
    exact wpAny_pure ⟨rfl,q⟩
theorem compStart_any {elt target iter:Expr} {ifs:List Expr} {gens:List Comprehension} {scope:Scope} {pos:Pos} {d:Nat} {it acc:Value} {env:Env} (hg:gens[d]?=some ⟨target,iter,ifs,0⟩)
  (h0:codeAny (model prog w) A (.compLoop (.ListComp elt gens scope pos) d it acc env) R s)
  (h:wpAny (model prog w) A (pyIter it) (λit' s'=>codeAny (model prog w) A (.compLoop (.ListComp elt gens scope pos) d it' acc env) R s') (λ_ _=>False) s) :
  codeAny (model prog w) A (.compStart (.ListComp elt gens scope pos) d it acc env) R s:=by
 refine codeAny_of_tree ?_
 show wpAny _ _ ((compStart (.ListComp elt gens scope pos) d it acc env).onRaise (λx=>do noteFrame x env;standAt theWindowsPlace)) _ _ s
 refine wpAny_notedAt (wpAny_noRaise ?_)
 unfold compStart
 have hc:clausesOf (.ListComp elt gens scope pos)=gens:=rfl
 rw[hc,hg]
 show wpAny _ _ (ask >>= _) _ _ s
 refine wpAny_bind (wpAny_askSetting (wpAny_ite ?_))
 split
 ·first
   | exact wpAny_bind (wpAny_pure (wpAny_pure (And.intro rfl h0)))
   | exact wpAny_pure (And.intro rfl h0)
 ·first
   | exact wpAny_bind (wpAny_rule (wpAny_bind (wpAny_standAt (wpAny_bind (wpAny_mono h (λit' s' h'=>wpAny_pure (And.intro rfl h')) λ_ _ x=>x)))))
   | (refine wpAny_bind (wpAny_rule ?_);show wpAny _ _ (standAt iter.pos >>= _) _ _ s;exact wpAny_bind (wpAny_standAt (wpAny_bind (wpAny_mono h (λit' s' h'=>wpAny_pure (And.intro rfl h')) λ_ _ x=>x))))
end
def loopT (J:It) (g:TG) (tb:TS):TS:=λD σ H=>∃ W:Nat->Nat->St->Hp->Prop,(∃ m,W 0 m σ H)/\∀ i m σ H,W i m σ H ->
 (J.stop i H/\D.nx σ H)\/(J.go i H/\∃ N:St->Hp->Prop,(∀ σ' H',N σ' H'->∃ m',m' < m/\W (i+1) m' σ' H')/\∀ x H',J.yld i H x H'->g x σ H' λσ2 H2=>tb { D with nx:=N,ct:=N,bk:=D.nx } σ2 H2)
def tIfB (ti:TT) (tb:TS):TS:=λD σ H=>ti σ H λb H1=>if b=true then tb D σ H1 else D.nx σ H1
def PB (Y:Cx) (elt:Expr) (gens:List Comprehension) (scope:Scope) (pos:Pos) (d:Nat) (acc:Addr) (tb:TS):Prop :=
 ∀ (pins:List (Addr × Obj)) (s:Shared) (σ:St) (H:Hp) (D:Ends),Inv Y pins σ H s->tb D σ H->LcW Y.prog Y.w Y.A elt gens scope pos d (.ref acc) Y.env (λs'=>∃ σ' H',Inv Y pins σ' H' s'/\D.nx σ' H') s
section
variable {Y:Cx} {elt:Expr} {gens:List Comprehension} {scope:Scope} {pos:Pos} {d:Nat} {acc:Addr}
def tEmit (acc:Addr) (te:TE):TS:=λD σ H=>te σ H λv H1=>∃ xs,H1 acc=some (.lst xs)/\xs.length < sizeLine/\D.nx σ (upd H1 acc (.lst (xs++[v])))
theorem pb_emit {te:TE} (hg:gens[d+1]?=none) (hx:Y.xe=λ_ _=>False) (he:PE Y elt te):PB Y elt gens scope pos d acc (tEmit acc te):=by
 intro pins s σ H D I h
 unfold LcW
 rw[hg]
 dsimp only
 have he':=he pins s σ H _ I h
 rw[hx] at he'
 refine thn he' λu s1 ⟨v,H1,I1,r1,xs,e,hl,q⟩=>?_
 have a2:=mt_append pins s1 σ H1 (.ref acc) [v] (.ref acc) [u] (λ_ H2=>D.nx σ H2) I1 rfl (.cons r1 .nil) ⟨acc,xs,v,rfl,rfl,e,hl,q⟩
 rw[hx] at a2
 exact thn a2 λ_ s2 ⟨_,H2,I2,_,q2⟩=>⟨σ,H2,I2,q2⟩
theorem lc_loop {tg iter:Expr} {ifs:List Expr} {g:TG} {ti:TT} {tb:TS} {pins:List (Addr × Obj)} {s:Shared} {σ:St} {H:Hp} {D:Ends} {J:It} {fp:List Addr} {it:Addr} {tn:Nat->Heap->Prop}
  (hgd:gens[d]?=some ⟨tg,iter,ifs,0⟩) (hx:Y.xe=λ_ _=>False) (hc:Y.calm=true) (hg:PG Y tg g) (ht:PTs Y ifs ti) (hb:PB Y elt gens scope pos d acc tb)
  (I:Inv Y pins σ H s) (T:Turn Y.prog Y.w Y.K tg J fp it tn) (st:tn 0 s.heap) (f2:∀ b∈fp,FpOk Y pins H b) (h:loopT J g (tIfB ti tb) D σ H) :
  codeAny (model Y.prog Y.w) Y.A (.compLoop (.ListComp elt gens scope pos) d (.ref it) (.ref acc) Y.env) (λr s'=>r=.ok .next/\∃ σ' H',Inv Y pins σ' H' s'/\D.nx σ' H') s:=by
 obtain ⟨W,⟨m0,w0⟩,turn⟩:=h
 have stat:∀ {H':Hp},(∀ b∈fp,H' b=none)->∀ b∈fp,FpOk Y pins H' b:=λhn b hb=>⟨hn b hb,(f2 b hb).2⟩
 refine compLoop_any hgd (λn s'=>∃ i σ' H',Inv Y pins σ' H' s'/\tn i s'.heap/\(∀ b∈fp,H' b=none)/\W i n σ' H') ?_ m0 ⟨0,σ,H,I,st,λb hb=>(f2 b hb).1,w0⟩
 rintro n s3 ⟨i,σ3,H3,I3,st3,fr3,w3⟩
 rcases turn i n σ3 H3 w3 with ⟨stop,qn⟩|⟨go,N,hN,step⟩
 ·refine thn (T.done Y rfl rfl rfl hc i pins s3 σ3 H3 _ I3 (stat fr3) st3 stop) λr s4 ⟨hr,I4⟩=>?_
  subst hr
  exact ⟨rfl,σ3,H3,I4,qn⟩
 ·refine thn (T.item Y rfl rfl rfl hc i pins s3 σ3 H3 _ I3 (stat fr3) st3 go) λr s4 ⟨u,hr,h4⟩=>?_
  subst hr
  refine thn h4 λ_ s5 ⟨x,H5,I5,r5,y5,st5,fr5⟩=>?_
  have I5':=I5.pinned (stat fr5) (T.obj _ _ st5)
  have a1:=hg _ s5 σ3 H5 x u _ I5' r5 (step x H5 y5)
  rw[hx] at a1
  refine thn a1 λ_ s6 ⟨σ6,H6,I6,q6⟩=>?_
  have a2:=ht _ s6 σ6 H6 _ I6 q6
  rw[hx] at a2
  refine thn a2 λok s7 ⟨H7,I7,q7⟩=>?_
  have again:∀ {s8:Shared} {σ7:St} {H7:Hp},Inv Y (pins++pinsAt fp s5.heap) σ7 H7 s8->N σ7 H7->∃ m,m < n/\∃ i σ' H',Inv Y pins σ' H' s8/\tn i s8.heap/\(∀ b∈fp,H' b=none)/\W i m σ' H':=λ{s8 σ7 H7} I7 n7=>by
   obtain ⟨m',hm,w7⟩:=hN σ7 H7 n7
   refine ⟨m',hm,i+1,σ7,H7,I7.unpinned,T.keep _ _ _ st5 λb hb o e=>(I7.pin (b,o) (mem_append_right _ (mem_append_right _ (mem_pinsAt hb e)))).1,λb hb=>?_,w7⟩
   obtain ⟨o,e,d⟩:=T.obj _ _ st5 b hb
   exact (I7.pin (b,o) (mem_append_right _ (mem_append_right _ (mem_pinsAt hb e)))).2.1
  cases ok with
  | false =>
   rw[if_neg Bool.false_ne_true] at q7 ⊢
   exact again I7 q7
  | true =>
   rw[if_pos rfl] at q7 ⊢
   have a3:=hb _ s7 σ6 H7 _ I7 q7
   unfold LcW at a3 ⊢
   cases e:gens[d+1]? with
   | none =>
    rw[e] at a3
    exact thn a3 λx s8 h8=>thn h8 λ_ s9 ⟨σ9,H9,I9,n9⟩=>again I9 n9
   | some g' =>
    rw[e] at a3
    exact ⟨a3.1,thn a3.2 λx s8 h8=>thn h8 λ_ s9 h9=>codeAny_mono h9 λr s10 ⟨hr,σ9,H9,I9,n9⟩=>⟨hr,again I9 n9⟩⟩
theorem pb_for {tg iter:Expr} {ifs:List Expr} {wi:TI} {g:TG} {ti:TT} {tb:TS} (hgd:gens[d+1]?=some ⟨tg,iter,ifs,0⟩) (hx:Y.xe=λ_ _=>False) (hc:Y.calm=true) (hs:∀ x,foldedSetIterable iter Y.env x=pure x) (hi:PI Y tg iter wi) (hg:PG Y tg g) (ht:PTs Y ifs ti)
  (hb:PB Y elt gens scope pos (d+1) acc tb):PB Y elt gens scope pos d acc (tFor wi g (tIfB ti tb)):=by
 intro pins s σ H D I h
 unfold LcW
 rw[hgd]
 dsimp only
 refine ⟨⟨rfl,hs⟩,?_⟩
 have a1:=hi pins s σ H _ I h
 rw[hx] at a1
 refine thn a1 λx s1 h1=>thn h1 λitv s2 ⟨it,fp,tn,J,H2,e,I2,T,st2,f2,q2⟩=>?_
 subst e
 have lp:=lc_loop (acc:=acc) hgd hx hc hg ht hb I2 T st2 f2 q2
 exact compStart_any hgd lp (T.self _ _ _ _ _ st2 lp)
end
def clFrom (env:Env):List (Str × NameKind)->List (Str × Addr)->List (Str × Addr)
 | [],acc=>acc
 | (n,k)::r,acc=>if k==.free then clFrom env r ((n,(env.cells.lookup n).getD 0)::acc) else clFrom env r acc
theorem clFrom_go {env:Env} (f:Str × NameKind->List (Str × Addr)->Sem (ForInStep (List (Str × Addr))))
  (hf:∀ n k cs,f (n,k) cs=if k==.free then (do let c <- cellOf env n;pure (.yield ((n,c)::cs))) else pure (.yield cs)) :
  ∀ (names:List (Str × NameKind)) (acc:List (Str × Addr)),(∀ x∈names,x.2=.free->∃ c,env.cells.lookup x.1=some c)->forIn names acc f=pure (clFrom env names acc)
 | [],acc,_=>by rw[List.forIn_nil];rfl
 | (n,k)::r,acc,h=>by
  rw[List.forIn_cons,hf]
  unfold clFrom
  by_cases hk:(k==NameKind.free)=true
  ·rw[if_pos hk,if_pos hk]
   obtain ⟨c,hc⟩:=h (n,k) mem_cons_self (by simpa using hk)
   have hc':env.cells.lookup n=some c:=hc
   have e:cellOf env n=pure c:=by unfold cellOf;rw[hc']
   rw[e,hc']
   exact clFrom_go f hf r _ λx hx=>h x (mem_cons_of_mem _ hx)
  ·rw[if_neg hk,if_neg hk]
   exact clFrom_go f hf r _ λx hx=>h x (mem_cons_of_mem _ hx)
theorem closureFor_cl {scope:Scope} {env:Env} (h:∀ x∈scope.names,x.2=.free->∃ c,env.cells.lookup x.1=some c):closureFor scope env=pure (clFrom env scope.names []):=by
 unfold closureFor
 dsimp only
 rw[clFrom_go (env:=env) _ (λn k cs=>by cases hk:k==NameKind.free<;>simp[hk]) scope.names [] h]
 rfl
theorem clFrom_look {env:Env} {x:Str} {c:Addr}:∀ (names:List (Str × NameKind)) (acc:List (Str × Addr)),(∀ y∈names,y.2=.free->∃ c,env.cells.lookup y.1=some c) ->
  (clFrom env names acc).lookup x=some c->(((x,NameKind.free)∈names/\env.cells.lookup x=some c)\/acc.lookup x=some c)
 | [],acc,_,e=>.inr e
 | (n,k)::r,acc,h,e=>by
  unfold clFrom at e
  have hr:∀ y∈r,y.2=.free->∃ c,env.cells.lookup y.1=some c:=λy hy=>h y (mem_cons_of_mem _ hy)
  by_cases hk:(k==NameKind.free)=true
  ·rw[if_pos hk] at e
   have hk':k=.free:=by simpa using hk
   subst hk'
   rcases clFrom_look r _ hr e with ⟨h1,h2⟩|h1
   ·exact .inl ⟨mem_cons_of_mem _ h1,h2⟩
   ·rw[List.lookup_cons] at h1
    cases q:x==n with
    | true =>
     rw[q] at h1
     have:x=n:=by simpa using q
     subst this
     obtain ⟨c',hc'⟩:=h (x,.free) mem_cons_self rfl
     have hc'':env.cells.lookup x=some c':=hc'
     rw[hc''] at h1
     exact .inl ⟨mem_cons_self,by rw[hc''];exact h1⟩
    | false =>
     rw[q] at h1
     exact .inr h1
  ·rw[if_neg hk] at e
   rcases clFrom_look r _ hr e with ⟨h1,h2⟩|h1
   ·exact .inl ⟨mem_cons_of_mem _ h1,h2⟩
   ·exact .inr h1
theorem clFrom_some {env:Env} {x:Str}:∀ (names:List (Str × NameKind)) (acc:List (Str × Addr)),(x,NameKind.free)∈names\/(acc.lookup x).isSome=true->((clFrom env names acc).lookup x).isSome=true
 | [],acc,h=>by rcases h with h|h;cases h;exact h
 | (n,k)::r,acc,h=>by
  unfold clFrom
  by_cases hk:(k==NameKind.free)=true
  ·rw[if_pos hk]
   refine clFrom_some r _ ?_
   rw[List.lookup_cons]
   cases q:x==n with
   | true=>exact .inr rfl
   | false =>
    rcases h with h|h
    ·rcases mem_cons.mp h with e|e
     ·cases e;simp at q
     ·exact .inl e
    ·exact .inr h
  ·rw[if_neg hk]
   refine clFrom_some r _ ?_
   rcases h with h|h
   ·rcases mem_cons.mp h with e|e
    ·cases e;exact absurd rfl hk
    ·exact .inl e
   ·exact .inr h
theorem clFrom_mem {env:Env} {x:Str} {c:Addr}:∀ (names:List (Str × NameKind)) (acc:List (Str × Addr)),(∀ y∈names,y.2=.free->∃ c,env.cells.lookup y.1=some c)->(x,c)∈clFrom env names acc->env.cells.lookup x=some c\/(x,c)∈acc
 | [],acc,_,e=>.inr e
 | (n,k)::r,acc,h,e=>by
  unfold clFrom at e
  have hr:∀ y∈r,y.2=.free->∃ c,env.cells.lookup y.1=some c:=λy hy=>h y (mem_cons_of_mem _ hy)
  by_cases hk:(k==NameKind.free)=true
  ·rw[if_pos hk] at e
   have hk':k=.free:=by simpa using hk
   subst hk'
   rcases clFrom_mem r _ hr e with h1|h1
   ·exact .inl h1
   ·rcases mem_cons.mp h1 with q|q
    ·obtain ⟨c',hc'⟩:=h (n,.free) mem_cons_self rfl
     have hc'':env.cells.lookup n=some c':=hc'
     rw[hc''] at q
     cases q
     exact .inl hc''
    ·exact .inr q
  ·rw[if_neg hk] at e
   exact clFrom_mem r _ hr e
theorem cellsFrom_look {x:Str} {c:Addr}:∀ (names:List (Str × NameKind)) (n:Nat) (acc:List (Str × Addr)),(cellsFrom n names acc).lookup x=some c->((x,NameKind.cell)∈names/\n<=c)\/acc.lookup x=some c
 | [],n,acc,e=>.inr e
 | (y,k)::r,n,acc,e=>by
  unfold cellsFrom at e
  by_cases hk:(k==NameKind.cell)=true
  ·rw[if_pos hk] at e
   have hk':k=.cell:=by simpa using hk
   subst hk'
   rcases cellsFrom_look r _ _ e with ⟨h1,h2⟩|h1
   ·exact .inl ⟨mem_cons_of_mem _ h1,by lia⟩
   ·rw[List.lookup_cons] at h1
    cases q:x==y with
    | true =>
     rw[q] at h1
     have:x=y:=by simpa using q
     subst this
     cases h1
     exact .inl ⟨mem_cons_self,Nat.le_refl _⟩
    | false=>rw[q] at h1;exact .inr h1
  ·rw[if_neg hk] at e
   rcases cellsFrom_look r _ _ e with ⟨h1,h2⟩|h1
   ·exact .inl ⟨mem_cons_of_mem _ h1,h2⟩
   ·exact .inr h1
theorem cellsFrom_old {x:Str}:∀ (names:List (Str × NameKind)) (n:Nat) (acc:List (Str × Addr)),(x,NameKind.cell)∉names->(cellsFrom n names acc).lookup x=acc.lookup x
 | [],n,acc,_=>rfl
 | (y,k)::r,n,acc,h=>by
  unfold cellsFrom
  have hr:(x,NameKind.cell)∉r:=λz=>h (mem_cons_of_mem _ z)
  by_cases hk:(k==NameKind.cell)=true
  ·rw[if_pos hk,cellsFrom_old r _ _ hr,List.lookup_cons]
   cases q:x==y with
   | true =>
    have:x=y:=by simpa using q
    subst this
    have hk':k=.cell:=by simpa using hk
    subst hk'
    exact absurd mem_cons_self h
   | false=>rfl
  ·rw[if_neg hk]
   exact cellsFrom_old r _ _ hr
theorem cellsFrom_new:∀ (names:List (Str × NameKind)) (h:Heap) (acc:List (Str × Addr)) (lo:Nat),lo<=h.objs.size->(∀ y c,(y,c)∈acc->lo<=c->h.IsCell c none)->(acc.Pairwise λx y=>lo<=x.2->x.2≠y.2)->(∀ y c,(y,c)∈acc->c < h.objs.size) ->
  (∀ y c,(y,c)∈cellsFrom h.objs.size names acc->lo<=c->(pushCells h names).IsCell c none)/\((cellsFrom h.objs.size names acc).Pairwise λx y=>lo<=x.2->x.2≠y.2)
 | [],h,acc,lo,_,h1,h2,_=>⟨h1,h2⟩
 | (n,k)::r,h,acc,lo,hlo,h1,h2,h3=>by
  unfold cellsFrom pushCells
  by_cases hk:(k==NameKind.cell)=true
  ·rw[if_pos hk,if_pos hk]
   have:=cellsFrom_new r (h.push { cls:=.type "cell",data:=.cell none }) ((n,h.objs.size)::acc) lo (by rw[Heap.size_push];lia) (λy c hm hc=>by
    rcases mem_cons.mp hm with e|hm
    ·cases e;exact ⟨_,Heap.get?_push_size _ rfl,rfl⟩
    ·exact (h1 y c hm hc).keeps λb o e=>Heap.get?_push_of_some _ e) (List.pairwise_cons.mpr ⟨λy hy _ e=>by
     have:=h3 y.1 y.2 hy
     have e':h.objs.size=y.2:=e
     exact absurd (e' ▸ this) (Nat.lt_irrefl _),h2⟩) (λy c hm=>by
    rw[Heap.size_push]
    rcases mem_cons.mp hm with e|hm
    ·cases e;exact Nat.lt_succ_self _
    ·exact Nat.lt_succ_of_lt (h3 y c hm))
   rw[Heap.size_push] at this
   exact this
  ·rw[if_neg hk,if_neg hk]
   exact cellsFrom_new r h acc lo hlo h1 h2 h3
def inEnv (scope:Scope) (env:Env) (C:Addr):Env :=
 { scope:=relabel scope env,locals:=C,globals:=env.globals,cells:=cellsFrom (C+1) scope.names (clFrom env scope.names []),qual:=env.qual,func:=none,code:=env.code,frame:=env.frame,builtins:=env.builtins }
theorem newEnv_in {M:Model} {A:Around} {E:Value->Shared->Prop} {s:Shared} {scope:Scope} {env:Env} {Q:Env->Shared->Prop}
  (h:Q (newEnv scope s.heap.objs.size env.globals (cellsFrom (s.heap.objs.size+1) scope.names (clFrom env scope.names [])) env.qual none .none (some env) builtinsNs)
   { s with heap:=pushCells (s.heap.push { cls:=.type "dict",data:=.dict #[] }) scope.names }) :
  wpAny M A (newFunctionEnv scope env.globals (clFrom env scope.names []) [] env.qual none .none (some env)) Q E s:=by
 simp only[newFunctionEnv,Option.isSome_some,if_true]
 refine wpAny_bind (wpAny_alloc ?_)
 refine wpAny_bind (wpAny_layCells _ (λname kind cells=>by cases hkc:kind==NameKind.cell<;>simp[hkc]) _ _ _ _ ?_)
 rw[show ({ s with heap:=s.heap.push { cls:=.type "dict",data:=.dict #[] } }:Shared).heap.objs.size=s.heap.objs.size+1 from Heap.size_push ..]
 rw[List.forIn_nil]
 exact wpAny_bind (wpAny_pure (wpAny_pure h))
def Cx.inn (X:Cx) (scope:Scope) (N:List Str) (s₃:Shared) (H₃:Hp) (fp:List Addr):Cx :=
 { X with N:=N,s₀:=s₃,H₀:=H₃,env:=inEnv scope X.env s₃.heap.objs.size,outer:=X.stack,stack:=X.stack,ex:=fp,fn:=λx=>scope.names.lookup x==some .cell,pn:=[],xe:=λ_ _=>False }
def capN (own:List Str) (cap:List (Str × Nat)):List Str:=own++cap.map (·.1)
def capS (own:List Str) (cap:List (Str × Nat)) (σ:St):St:=own.map (λ_=>none)++cap.map λp=>(σ[p.2]?).join
structure LcScope (X:Cx) (scope:Scope) (own:List Str) (cap:List (Str × Nat)):Prop where
 kind:scope.kind=.function
 nd:(scope.names.map (·.1)).Nodup
 loc:∀ x∈scope.names,x.2=.local->scope.names.lookup x.1=some .local
 fre:∀ x∈scope.names,x.2=.free->X.env.kindOf x.1=some .cell\/X.env.kindOf x.1=some .free
 cap:∀ p∈cap,X.N[p.2]?=some p.1/\(p.1,NameKind.free)∈scope.names
theorem nodup_kind {names:List (Str × NameKind)} (nd:(names.map (·.1)).Nodup) {x:Str} {k k':NameKind} (h:(x,k)∈names) (h':(x,k')∈names):k=k':=by
 induction names with
 | nil=>cases h
 | cons p r ih =>
  rw[map_cons,nodup_cons] at nd
  rcases mem_cons.mp h with e|h<;>rcases mem_cons.mp h' with e'|h'
  ·rw[<-e] at e';cases e';rfl
  ·exact absurd (mem_map.mpr ⟨_,h',by rw[<-e]⟩) nd.1
  ·exact absurd (mem_map.mpr ⟨_,h,by rw[<-e']⟩) nd.1
  ·exact ih nd.2 h h'
theorem nodup_look {names:List (Str × NameKind)} (nd:(names.map (·.1)).Nodup) {x:Str} {k:NameKind} (h:(x,k)∈names):names.lookup x=some k:=by
 cases e:names.lookup x with
 | some k'=>rw[nodup_kind nd h (PySem.mem_of_lookup e)]
 | none =>
  have:∀ p∈names,(x==p.1)=false:=by
   have:=List.lookup_eq_none_iff.mp e
   intro p hp
   have:=this p hp
   simpa using this
  have:=this _ h
  simp at this
theorem name_of_addr' {lo:Nat}:∀ {cs:List (Str × Addr)},(cs.Pairwise λx y=>lo<=x.2->x.2≠y.2)->∀ {n n':Str} {c:Addr},(n,c)∈cs->(n',c)∈cs->lo<=c->n=n'
 | x::r,hp,n,n',c,h,h',hc=>by
  obtain ⟨h1,h2⟩:=List.pairwise_cons.mp hp
  rcases mem_cons.mp h with e|h<;>rcases mem_cons.mp h' with e'|h'
  ·rw[<-e'] at e;exact (Prod.mk.inj e).1
  ·exact absurd (by rw[<-e]) (h1 _ h' (by rw[<-e];exact hc))
  ·exact absurd (by rw[<-e']) (h1 _ h (by rw[<-e'];exact hc))
  ·exact name_of_addr' h2 h h' hc
theorem map_look {f:Str->NameKind->Bool} {x:Str}:∀ {names:List (Str × NameKind)},(names.map λp=>if f p.1 p.2=true then (p.1,NameKind.cell) else p).lookup x=(names.lookup x).map λk=>if f x k=true then NameKind.cell else k
 | []=>rfl
 | (n,k)::r=>by
  rw[map_cons]
  have ih:=@map_look f x r
  cases hx:x==n with
  | true =>
   have:x=n:=by simpa using hx
   subst this
   cases hc:f x k<;>simp[List.lookup_cons,hc]
  | false =>
   cases hc:f n k<;>simp only[List.lookup_cons,hx,hc,if_true,if_false,Bool.false_eq_true]<;>exact ih
theorem relabel_look {scope:Scope} {env:Env} {x:Str}:(relabel scope env).names.lookup x =
  (scope.names.lookup x).map λk=>if (k==NameKind.free&&env.scope.kind==.function&&env.kindOf x==some .cell)=true then NameKind.cell else k:=by
 have e:(relabel scope env).names=scope.names.map λp=>if (λn k=>(k==NameKind.free&&env.scope.kind==.function&&env.kindOf n==some .cell)) p.1 p.2=true then (p.1,NameKind.cell) else p:=by
  unfold relabel
  dsimp only
 rw[e]
 exact map_look (f:=λn k=>(k==NameKind.free&&env.scope.kind==.function&&env.kindOf n==some .cell))
section
variable {X:Cx} {pins:List (Addr × Obj)} {σ:St} {H:Hp} {s:Shared} {scope:Scope} {own:List Str} {cap:List (Str × Nat)} {fp:List Addr}
theorem inv_in (L:LcScope X scope own cap) (I:Inv X pins σ H s) (hf:∀ b∈fp,FpOk X pins H b) (ho:∀ b∈fp,∃ o,s.heap.get? b=some o) :
  Inv (X.inn scope (capN own cap) s H fp) [] (capS own cap σ) H { s with heap:=pushCells (s.heap.push { cls:=.type "dict",data:=.dict #[] }) scope.names }:=by
 have hcl:∀ x∈scope.names,x.2=.free->∃ c,X.env.cells.lookup x.1=some c:=λx hx hk=>I.ok.has x.1 (L.fre x hx hk)
 have old:∀ x c,(clFrom X.env scope.names []).lookup x=some c->(x,NameKind.free)∈scope.names/\X.env.cells.lookup x=some c:=λx c e=>by
  rcases clFrom_look _ _ hcl e with h|h
  ·exact h
  ·cases h
 have keep:∀ b o,s.heap.get? b=some o->(pushCells (s.heap.push { cls:=.type "dict",data:=.dict #[] }) scope.names).get? b=some o:=λb o e=>pushCells_keeps _ _ b o (Heap.get?_push_of_some _ e)
 have look:∀ x c,(X.inn scope (capN own cap) s H fp).env.cells.lookup x=some c->((x,NameKind.cell)∈scope.names/\s.heap.objs.size+1<=c)\/((x,NameKind.free)∈scope.names/\X.env.cells.lookup x=some c):=λx c e=>by
  rcases cellsFrom_look _ _ _ e with h|h
  ·exact .inl h
  ·exact .inr (old x c h)
 have oldlt:∀ x c,X.env.cells.lookup x=some c->c < s.heap.objs.size:=λx c e=>by
  obtain ⟨v,hv⟩:=I.cell x c e
  exact hv.lt
 have nf:∀ x,(x,NameKind.free)∈scope.names->(x,NameKind.cell)∉scope.names:=λx h h'=>by cases nodup_kind L.nd h h'
 have ml:∀ y c,(y,c)∈clFrom X.env scope.names []->c < s.heap.objs.size:=λy c hm=>by
  rcases clFrom_mem _ _ hcl hm with h|h
  ·exact oldlt y c h
  ·cases h
 have clnd:(clFrom X.env scope.names []).Pairwise λx y=>s.heap.objs.size+1<=x.2->x.2≠y.2:=List.pairwise_iff_forall_sublist.mpr λ{a b} hs hle=>by
  have:a∈clFrom X.env scope.names []:=hs.subset mem_cons_self
  have:=ml a.1 a.2 this
  exact absurd (Nat.lt_of_le_of_lt hle this) (Nat.not_lt.mpr (Nat.le_succ _))
 have nst:=cellsFrom_new scope.names (s.heap.push { cls:=.type "dict",data:=.dict #[] }) (clFrom X.env scope.names []) (s.heap.objs.size+1) (by rw[Heap.size_push];exact Nat.le_refl _)
  (λy c hm hc=>absurd (Nat.lt_of_le_of_lt hc (ml y c hm)) (Nat.not_lt.mpr (Nat.le_succ _))) clnd (λy c hm=>by rw[Heap.size_push];exact Nat.lt_succ_of_lt (ml y c hm))
 rw[Heap.size_push] at nst
 have newcell:∀ x c,(X.inn scope (capN own cap) s H fp).env.cells.lookup x=some c->s.heap.objs.size+1<=c->(pushCells (s.heap.push { cls:=.type "dict",data:=.dict #[] }) scope.names).IsCell c none:=λx c e hc=>nst.1 x c (PySem.mem_of_lookup e) hc
 have kindY:∀ x,(X.inn scope (capN own cap) s H fp).env.kindOf x=(scope.names.lookup x).map λk=>if (k==NameKind.free&&X.env.scope.kind==.function&&X.env.kindOf x==some .cell)=true then NameKind.cell else k:=λx=>relabel_look
 refine ⟨⟨I.ok.mod,L.kind,I.ok.glob,I.ok.blt,Nat.le_refl _,λx y c h1 h2=>?inj,λx hx=>?has,λx c hx h=>?cab,I.ok.hd,I.ok.frames,.inl rfl,λb hb=>⟨?ex1,λx c h=>?ex2⟩,λb o e=>I.bs b o e,Nat.le_trans I.ok.bsz I.sz,λb o e hb=>?noex,λb hb hb'=>?exfs,I.stack,I.stkFree⟩,
  rfl,I.bare,Un.kept keep,⟨λ_=>none,?ns,λi x v h1 h2 h3=>?look⟩,λx c h=>?cell,I.fresh,λx c h=>?freeC,λp hp=>absurd (show p∈([]:List (Addr × Obj)) from hp) (by simp),I.hok.kept keep,?len⟩
 case inj =>
  rcases look x c h1 with ⟨_,g1⟩|⟨_,g1⟩<;>rcases look y c h2 with ⟨_,g2⟩|⟨_,g2⟩
  ·exact name_of_addr' nst.2 (PySem.mem_of_lookup h1) (PySem.mem_of_lookup h2) g1
  ·exact absurd (Nat.lt_of_le_of_lt g1 (oldlt y c g2)) (Nat.not_lt.mpr (Nat.le_succ _))
  ·exact absurd (Nat.lt_of_le_of_lt g2 (oldlt x c g1)) (Nat.not_lt.mpr (Nat.le_succ _))
  ·exact I.ok.inj x y c g1 g2
 case has =>
  rw[kindY] at hx
  cases e:scope.names.lookup x with
  | none=>rw[e] at hx;rcases hx with h|h<;>cases h
  | some k =>
   rw[e] at hx
   have hm:=PySem.mem_of_lookup e
   have hk:k=.cell\/k=.free:=by
    by_cases hc:(k==NameKind.free&&X.env.scope.kind==.function&&X.env.kindOf x==some .cell)=true
    ·simp only[Bool.and_eq_true,beq_iff_eq] at hc
     exact .inr hc.1.1
    ·rw[Option.map_some,if_neg hc] at hx
     rcases hx with h|h
     ·exact .inl (Option.some.inj h)
     ·exact .inr (Option.some.inj h)
   rcases hk with rfl|rfl
   ·exact Option.isSome_iff_exists.mp (PySem.W.cellsFrom_some scope.names _ _ (.inl e))
   ·exact Option.isSome_iff_exists.mp (PySem.W.cellsFrom_some scope.names _ _ (.inr (clFrom_some _ _ (.inl hm))))
 case cab =>
  have hx':scope.names.lookup x=some .cell:=by simpa [Cx.inn] using hx
  rcases look x c h with ⟨_,g⟩|⟨g,_⟩
  ·exact Nat.le_of_succ_le g
  ·exact absurd (PySem.mem_of_lookup hx') (nf x g)
 case ex1 =>
  obtain ⟨o,e⟩:=ho b hb
  exact Nat.ne_of_lt (Heap.lt_size e)
 case ex2 =>
  obtain ⟨o,e⟩:=ho b hb
  rcases look x c h with ⟨_,g⟩|⟨_,g⟩
  ·rintro rfl
   exact absurd (Nat.lt_of_le_of_lt g (Heap.lt_size e)) (Nat.not_lt.mpr (Nat.le_succ _))
  ·exact (hf b hb).2.2.2.2.1 x c g
 case noex =>
  rcases (hf b hb).2.2.2.1 with g|g
  ·exact I.ok.noex b o e g
  ·exact absurd (Nat.lt_of_lt_of_le (Heap.lt_size e) I.ok.bsz) (Nat.not_lt.mpr g)
 case exfs =>
  rcases mem_cons.mp (I.stkSub b hb') with g|g
  ·exact (hf b hb).2.1 g
  ·exact (hf b hb).2.2.1 g
 case ns=>exact (Heap.Ns.new s.heap (.type "dict")).keeps (pushCells_keeps _ _)
 case look =>
  obtain ⟨j,p,hp,rfl,hv⟩:∃ (j:Nat) (p:Str × Nat),cap[j]?=some p/\p.1=x/\σ[p.2]?=some (some v):=by
   have h1:(own++cap.map (·.1))[i]?=some x:=h1
   unfold capS at h2
   by_cases hi:i < own.length
   ·rw[List.getElem?_append_left (by simpa using hi),List.getElem?_map] at h2
    cases e:own[i]? with
    | none=>rw[e] at h2;cases h2
    | some y=>rw[e] at h2;cases h2
   ·rw[List.getElem?_append_right (by lia)] at h1
    rw[List.getElem?_append_right (by simpa using hi)] at h2
    rw[length_map] at h2
    rw[List.getElem?_map] at h1 h2
    cases e:cap[i - own.length]? with
    | none=>rw[e] at h1;cases h1
    | some p =>
     rw[e] at h1 h2
     refine ⟨_,p,e,Option.some.inj h1,?_⟩
     have h2:(σ[p.2]?).join=some v:=Option.some.inj h2
     cases q:σ[p.2]? with
     | none=>rw[q] at h2;cases h2
     | some z=>rw[q] at h2;exact congrArg some h2
  obtain ⟨c1,c2⟩:=L.cap p (mem_of_getElem? hp)
  have hk:=L.fre _ c2 rfl
  obtain ⟨m,hn,hl⟩:=I.loc
  obtain ⟨u,ru,lk⟩:=hl p.2 p.1 v c1 hv (.inr hk)
  refine ⟨u,ru,.inr ?_⟩
  rcases lk with ⟨lk,_⟩|⟨_,c,e,hc⟩
  ·rcases hk with hk|hk
   ·have:X.env.kindOf p.1=some .cell:=hk
    rw[lk] at this;cases this
   ·have:X.env.kindOf p.1=some .free:=hk
    rw[lk] at this;cases this
  ·have hlk:=nodup_look L.nd c2
   refine ⟨?_,c,?_,hc.keeps keep⟩
   ·rw[kindY,hlk,Option.map_some]
    split
    ·exact .inl rfl
    ·exact .inr rfl
   ·show (cellsFrom _ scope.names _).lookup p.1=some c
    rw[cellsFrom_old _ _ _ (nf _ c2)]
    obtain ⟨c',e'⟩:=Option.isSome_iff_exists.mp (clFrom_some (env:=X.env) scope.names [] (.inl c2))
    rw[e',<-e]
    exact (old _ _ e').2.symm
 case cell =>
  rcases look x c h with ⟨_,g⟩|⟨_,g⟩
  ·exact ⟨_,newcell x c h g⟩
  ·obtain ⟨v,hv⟩:=I.cell x c g
   exact ⟨v,hv.keeps keep⟩
 case freeC =>
  rcases look x c h with ⟨_,g⟩|⟨_,g⟩
  ·exact I.hok.fresh (Nat.le_of_succ_le g)
  ·exact I.freeC x c g
 case len =>
  show (capS own cap σ).length=(capN own cap).length
  unfold capS capN
  simp
end
def tLC (wi:TI) (g:TG) (ti:TT) (tb:Addr->TS) (own:List Str) (cap:List (Str × Nat)):TE:=λσ H Q=>wi σ H λJ H1=>∀ acc,H1 acc=none ->
 loopT J g (tIfB ti (tb acc)) { nx:=λ_ H'=>Q (.ref acc) H',rt:=λ_ _=>False } (capS own cap σ) (upd H1 acc (.lst []))
theorem pe_lc {X:Cx} {elt tg iter:Expr} {ifs:List Expr} {rest:List Comprehension} {scope:Scope} {pos:Pos} {wi:TI} {g:TG} {ti:TT} {tb:Addr->TS} (own:List Str) (cap:List (Str × Nat)) (hc:X.calm=true) (L:LcScope X scope own cap) (hi:PI X tg iter wi)
  (hin:∀ (s₃:Shared) (H₃:Hp) (fp:List Addr) (acc:Addr),PG (X.inn scope (capN own cap) s₃ H₃ fp) tg g/\PTs (X.inn scope (capN own cap) s₃ H₃ fp) ifs ti/\PB (X.inn scope (capN own cap) s₃ H₃ fp) elt (⟨tg,iter,ifs,0⟩::rest) scope pos 0 acc (tb acc))
  (hs:∀ x,foldedSetIterable iter X.env x=pure x:=by intro _;rfl):PE X (.ListComp elt (⟨tg,iter,ifs,0⟩::rest) scope pos) (tLC wi g ti tb own cap):=by
 intro pins s σ H Q I h
 rw[eval_ListComp]
 have hcl:∀ x∈scope.names,x.2=.free->∃ c,X.env.cells.lookup x.1=some c:=λx hx hk=>I.ok.has x.1 (L.fre x hx hk)
 refine wpAny_comprehension_free (use:=none) rfl hs (closureFor_cl hcl) L.kind L.loc (thn (hi pins s σ H _ I h) λx s1 h1=>thn h1 λitv s2 ⟨it,fp,tn,J,H2,e,I2,T,st2,f2,q2⟩=>?_)
 subst e
 refine wpAny_newObj_type ?_
 have I3:=I2.lnew (t':=s2.toks) (ys:=[]) (its:=[]) .nil (Nat.zero_le _)
 have fr2:H2 s2.heap.objs.size=none:=I2.fresh
 have f3:∀ b∈fp,FpOk X pins (upd H2 s2.heap.objs.size (.lst [])) b:=λb hb=>by
  obtain ⟨o,eo,_⟩:=T.obj 0 _ st2 b hb
  obtain ⟨g1,g2⟩:=f2 b hb
  exact ⟨by rw[upd_ne (Nat.ne_of_lt (Heap.lt_size eo))];exact g1,g2⟩
 have k3:∀ b o,s2.heap.get? b=some o->(s2.heap.push { cls:=.type "list",data:=.seq ([]:List Value).toArray }).get? b=some o:=λb o e=>Heap.get?_push_of_some _ e
 have st3:tn 0 (s2.heap.push { cls:=.type "list",data:=.seq ([]:List Value).toArray }):=T.keep 0 _ _ st2 λb _ o e=>k3 b o e
 refine newEnv_in ?_
 have I4:=inv_in L I3 f3 λb hb=>by obtain ⟨o,eo,_⟩:=T.obj 0 _ st3 b hb;exact ⟨o,eo⟩
 obtain ⟨hg,ht,hb⟩:=hin { s2 with heap:=s2.heap.push { cls:=.type "list",data:=.seq ([]:List Value).toArray },toks:=s2.toks } (upd H2 s2.heap.objs.size (.lst [])) fp s2.heap.objs.size
 have st4:=T.keep 0 _ (pushCells ((s2.heap.push { cls:=.type "list",data:=.seq ([]:List Value).toArray }).push { cls:=.type "dict",data:=.dict #[] }) scope.names) st3 λb _ o e=>pushCells_keeps _ _ b o (Heap.get?_push_of_some _ e)
 have f4:∀ b∈fp,FpOk (X.inn scope (capN own cap) { s2 with heap:=s2.heap.push { cls:=.type "list",data:=.seq ([]:List Value).toArray },toks:=s2.toks } (upd H2 s2.heap.objs.size (.lst [])) fp) [] (upd H2 s2.heap.objs.size (.lst [])) b:=λb hb =>
  ⟨(f3 b hb).1,(I4.ok.exf b hb).1,I4.ok.exfs b hb,.inl hb,(I4.ok.exf b hb).2,λp hp=>absurd (show p∈([]:List (Addr × Obj)) from hp) (by simp)⟩
 have lp:=lc_loop (Y:=X.inn scope (capN own cap) { s2 with heap:=s2.heap.push { cls:=.type "list",data:=.seq ([]:List Value).toArray },toks:=s2.toks } (upd H2 s2.heap.objs.size (.lst [])) fp) (acc:=s2.heap.objs.size) (gens:=⟨tg,iter,ifs,0⟩::rest) (d:=0) rfl rfl hc hg ht hb I4 T st4 f4 (q2 _ fr2)
 have lp':=codeAny_mono lp (R':=compPost (model X.prog X.w) X.A X.xe none (EP X pins σ Q) (.ref s2.heap.objs.size) (s2.heap.push { cls:=.type "list",data:=.seq ([]:List Value).toArray }).objs.size) λr s' ⟨hr,σ',H',I',q'⟩=>by
  subst hr
  obtain ⟨m',hn',_⟩:=id I'.loc
  refine ⟨m',hn',λh' hsb=>?_⟩
  refine ⟨.ref s2.heap.objs.size,H',?_,rfl,q'⟩
  have neC:∀ b o,(s2.heap.push { cls:=.type "list",data:=.seq ([]:List Value).toArray }).get? b=some o->b≠(s2.heap.push { cls:=.type "list",data:=.seq ([]:List Value).toArray }).objs.size:=λb o e=>Nat.ne_of_lt (Heap.lt_size e)
  have B:=I'.base
  refine I3.call' (ch:=fp) I'.os ⟨λb o e n hb hx=>(hsb.2 b (neC b o e)).trans (B.keep b o e n hb hx),λb o e n hb hx=>?_,B.free,λb o e hx=>?_,B.tups,B.frzs,B.tbls⟩ (λb u e=>?_) I'.bare λb hb=>⟨(f3 b hb).2.2.2.1,(f3 b hb).2.1,(f3 b hb).2.2.2.2.1,(f3 b hb).2.2.2.2.2⟩
  ·obtain ⟨sl,e1⟩:=B.slot b o e n hb hx
   exact ⟨sl,(hsb.2 b (neC b o e)).trans e1⟩
  ·obtain ⟨o',e1⟩:=B.there b o e hx
   exact ⟨o',(hsb.2 b (neC b o e)).trans e1⟩
  ·have hC:H' (s2.heap.push { cls:=.type "list",data:=.seq ([]:List Value).toArray }).objs.size=none:=I'.free
   refine (I'.hok b u e).stay (λc v hc' q=>(hsb.2 c ?_).trans q) (λ_ q=>q) λ_ _ q=>q
   rintro rfl
   rcases hc' with hc'|hc'
   ·rw[<-hc',hC] at e;cases e
   ·rw[hC] at hc';cases hc'
 exact compStart_any rfl lp' (T.self _ _ _ _ _ st4 lp')
theorem ps_setlc {X:Cx} {i:Nat} {y:Str} {py spos:Pos} {elt tg iter:Expr} {ifs:List Expr} {rest:List Comprehension} {scope:Scope} {pos:Pos} {wi:TI} {g:TG} {ti:TT} {tb:Addr->TS} (own:List Str) (cap:List (Str × Nat)) (hN:X.N.Nodup) (hyi:X.N[i]?=some y) (hy:X.env.scope.names.lookup y=some .local) (hc:X.calm=true) (L:LcScope X scope own cap) (hi:PI X tg iter wi)
  (hin:∀ (s₃:Shared) (H₃:Hp) (fp:List Addr) (acc:Addr),PG (X.inn scope (capN own cap) s₃ H₃ fp) tg g/\PTs (X.inn scope (capN own cap) s₃ H₃ fp) ifs ti/\PB (X.inn scope (capN own cap) s₃ H₃ fp) elt (⟨tg,iter,ifs,0⟩::rest) scope pos 0 acc (tb acc))
  (hsw:swapsWith (.ListComp elt (⟨tg,iter,ifs,0⟩::rest) scope pos) (some (.Name y py)) spos.line X.env=pure true:=by rfl) (hs:∀ x,foldedSetIterable iter X.env x=pure x:=by intro _;rfl) :
  PS X (.Assign [.Name y py] (.ListComp elt (⟨tg,iter,ifs,0⟩::rest) scope pos) spos) (tAsg (tLC wi g ti tb own cap) (gName i)):=by
 intro pins s σ H D I h
 rw[exec_Assign_Name_used _ _ _ _ hsw]
 refine wpAny_bind (wpAny_standAt (wpAny_bind ?_))
 show wpAny _ X.A (do let _ <- comprehension (.ListComp elt (⟨tg,iter,ifs,0⟩::rest) scope pos) scope X.env _ (newList []) false (eval iter X.env) (some (assign (.Name y py) X.env))) _ _ s
 have hcl:∀ x∈scope.names,x.2=.free->∃ c,X.env.cells.lookup x.1=some c:=λx hx hk=>I.ok.has x.1 (L.fre x hx hk)
 refine wpAny_bind (wpAny_mono (wpAny_comprehension_free (use:=some (assign (.Name y py) X.env)) (Q:=λ_ s'=>SP X pins D .next s') rfl hs (closureFor_cl hcl) L.kind L.loc (thn (hi pins s σ H _ I h) λx s1 h1=>thn h1 λitv s2 ⟨it,fp,tn,J,H2,e,I2,T,st2,f2,q2⟩=>?_)) (λ_ s' hq=>wpAny_pure (wpAny_pure hq)) λ_ _ e=>e)
 subst e
 refine wpAny_newObj_type ?_
 have I3:=I2.lnew (t':=s2.toks) (ys:=[]) (its:=[]) .nil (Nat.zero_le _)
 have fr2:H2 s2.heap.objs.size=none:=I2.fresh
 have f3:∀ b∈fp,FpOk X pins (upd H2 s2.heap.objs.size (.lst [])) b:=λb hb=>by
  obtain ⟨o,eo,_⟩:=T.obj 0 _ st2 b hb
  obtain ⟨g1,g2⟩:=f2 b hb
  exact ⟨by rw[upd_ne (Nat.ne_of_lt (Heap.lt_size eo))];exact g1,g2⟩
 have k3:∀ b o,s2.heap.get? b=some o->(s2.heap.push { cls:=.type "list",data:=.seq ([]:List Value).toArray }).get? b=some o:=λb o e=>Heap.get?_push_of_some _ e
 have st3:tn 0 (s2.heap.push { cls:=.type "list",data:=.seq ([]:List Value).toArray }):=T.keep 0 _ _ st2 λb _ o e=>k3 b o e
 refine newEnv_in ?_
 have I4:=inv_in L I3 f3 λb hb=>by obtain ⟨o,eo,_⟩:=T.obj 0 _ st3 b hb;exact ⟨o,eo⟩
 obtain ⟨hg,ht,hb⟩:=hin { s2 with heap:=s2.heap.push { cls:=.type "list",data:=.seq ([]:List Value).toArray },toks:=s2.toks } (upd H2 s2.heap.objs.size (.lst [])) fp s2.heap.objs.size
 have st4:=T.keep 0 _ (pushCells ((s2.heap.push { cls:=.type "list",data:=.seq ([]:List Value).toArray }).push { cls:=.type "dict",data:=.dict #[] }) scope.names) st3 λb _ o e=>pushCells_keeps _ _ b o (Heap.get?_push_of_some _ e)
 have f4:∀ b∈fp,FpOk (X.inn scope (capN own cap) { s2 with heap:=s2.heap.push { cls:=.type "list",data:=.seq ([]:List Value).toArray },toks:=s2.toks } (upd H2 s2.heap.objs.size (.lst [])) fp) [] (upd H2 s2.heap.objs.size (.lst [])) b:=λb hb =>
  ⟨(f3 b hb).1,(I4.ok.exf b hb).1,I4.ok.exfs b hb,.inl hb,(I4.ok.exf b hb).2,λp hp=>absurd (show p∈([]:List (Addr × Obj)) from hp) (by simp)⟩
 have lp:=lc_loop (Y:=X.inn scope (capN own cap) { s2 with heap:=s2.heap.push { cls:=.type "list",data:=.seq ([]:List Value).toArray },toks:=s2.toks } (upd H2 s2.heap.objs.size (.lst [])) fp) (acc:=s2.heap.objs.size) (gens:=⟨tg,iter,ifs,0⟩::rest) (d:=0) rfl rfl hc hg ht hb I4 T st4 f4 (q2 _ fr2)
 have lp':=codeAny_mono lp (R':=compPost (model X.prog X.w) X.A X.xe (some (assign (.Name y py) X.env)) (λ_ s'=>SP X pins D .next s') (.ref s2.heap.objs.size) (s2.heap.push { cls:=.type "list",data:=.seq ([]:List Value).toArray }).objs.size) λr s' ⟨hr,σ',H',I',q'⟩=>by
  subst hr
  obtain ⟨m',hn',_⟩:=id I'.loc
  have B:=I'.base
  have I5:Inv X pins σ H' s':=I3.call' (ch:=fp) I'.os B I'.hok I'.bare λb hb=>⟨(f3 b hb).2.2.2.1,(f3 b hb).2.1,(f3 b hb).2.2.2.2.1,(f3 b hb).2.2.2.2.2⟩
  have hC:H' (s2.heap.push { cls:=.type "list",data:=.seq ([]:List Value).toArray }).objs.size=none:=I'.free
  show wpAny _ X.A (assign (.Name y py) X.env (.ref s2.heap.objs.size)) _ _ _
  refine wpAny_assign_Name (store_ok2 I5 hN hyi (.inl hy) (v:=.ref s2.heap.objs.size) rfl (λs6 I6 ⟨a6,sb6,ha6⟩=>?_) (.inr hy))
  have neL:X.env.locals≠(s2.heap.push { cls:=.type "list",data:=.seq ([]:List Value).toArray }).objs.size:=Nat.ne_of_lt I3.lt
  have ha:a6≠(s2.heap.push { cls:=.type "list",data:=.seq ([]:List Value).toArray }).objs.size:=by
   rcases ha6 with rfl|ha6
   ·exact neL
   ·obtain ⟨v,hv⟩:=I3.cell y a6 ha6
    exact Nat.ne_of_lt hv.lt
  refine ⟨m',hn'.sameBut sb6 ha.symm,λh' hsb=>?_⟩
  refine ⟨_,H',?_,q'⟩
  have kb:∀ b o,b≠(s2.heap.push { cls:=.type "list",data:=.seq ([]:List Value).toArray }).objs.size->s6.heap.get? b=some o->h'.get? b=some o:=λb o hb e=>(hsb.2 b hb).trans e
  refine I6.turned (t':=s6.toks) (it:=(s2.heap.push { cls:=.type "list",data:=.seq ([]:List Value).toArray }).objs.size) kb hC neL.symm (.inr I3.sz) (λx c e z=>?_) (λp hp z=>?_)
  ·obtain ⟨v,hv⟩:=I3.cell x c e
   exact absurd z (Nat.ne_of_lt hv.lt)
  ·have:=(I3.pin p hp).1
   exact absurd z (Nat.ne_of_lt (Heap.lt_size this))
 exact compStart_any rfl lp' (T.self _ _ _ _ _ st4 lp')
mutual
inductive Den (K:W.Frag) (H:Hp):V->PyData->Prop
 | non:Den K H .non .none
 | bl (b):Den K H (.bl b) (.bool b)
 | int (i):Den K H (.int i) (.int i)
 | str (x):Den K H (.str x) (.str x)
 | lst {a us ds}:SqL K H a us->Dens K H us ds->Den K H (.ref a) (.list ds)
 | tup {a us ds}:SqT K H a us->Dens K H us ds->Den K H (.ref a) (.tuple ds)
inductive Dens (K:W.Frag) (H:Hp):List V->List PyData->Prop
 | nil:Dens K H [] []
 | cons {v vs d ds}:Den K H v d->Dens K H vs ds->Dens K H (v::vs) (d::ds)
end
theorem Same.tup {K:W.Frag} {H H':Hp} {a:Addr} {xs:List V} (e:Same H H') (h:SqT K H a xs):SqT K H' a xs:=by
 rcases h with (h|⟨o,h⟩)|h
 ·exact .inl (.inl (e _ _ h))
 ·exact .inl (.inr ⟨o,e _ _ h⟩)
 ·exact .inr h
section
variable {X:Cx} {pins:List (Addr × Obj)} {σ:St} {H:Hp} {s:Shared}
mutual
theorem Den.reads (I:Inv X pins σ H s):∀ {v d} {u:Value},Den X.K H v d->RelV v u->∃ as,Reads s.heap u d as
 | _,_,_,.non,r=>by cases r;exact ⟨_,.none⟩
 | _,_,_,.bl b,r=>by cases r;exact ⟨_,.bool b⟩
 | _,_,_,.int i,r=>by obtain ⟨t,rfl⟩:=r;exact ⟨_,.int i t⟩
 | _,_,_,.str i,r=>by obtain ⟨t,rfl⟩:=r;exact ⟨_,.str i t⟩
 | _,_,_,.lst h hr,r=>by
  cases r
  obtain ⟨its,rv,⟨o,n,e,c,_,d⟩,_⟩:=I.list h
  obtain ⟨as,q⟩:=Dens.reads I hr rv
  exact ⟨_,.list e c d (by simpa using q)⟩
 | _,_,_,.tup h hr,r=>by
  cases r
  obtain ⟨its,rv,⟨o,e,c,n,d⟩,_⟩:=I.tuple h
  obtain ⟨as,q⟩:=Dens.reads I hr rv
  exact ⟨_,.tuple e c d (by simpa using q)⟩
theorem Dens.reads (I:Inv X pins σ H s):∀ {vs ds} {us:List Value},Dens X.K H vs ds->Vals vs us->∃ as,ReadsAll s.heap us ds as
 | _,_,_,.nil,r=>by cases r;exact ⟨_,.nil⟩
 | _,_,_,.cons h hr,r=>by
  cases r with
  | cons r1 r2 =>
   obtain ⟨as,q⟩:=Den.reads I h r1
   obtain ⟨bs,q2⟩:=Dens.reads I hr r2
   exact ⟨_,.cons q q2⟩
end
end
def rEqD (K:W.Frag) (f:Bool->Bool):R2:=λx y H Q=>∃ dx dy,Den K H x dx/\Den K H y dy/\dx.canLay0=true/\dy.canLay0=true/\dx.depth<=32/\Q (.bl (f (PyData.eqv dx dy))) H
section
variable {X:Cx}
theorem op_eqD (hu:X.A.units+64 < cLine):OpR X (compareOp .Eq) (rEqD X.K id):=by
 intro pins s σ H x y v u Q I rx ry h
 obtain ⟨dx,dy,h1,h2,h3,h4,h5,q⟩:=h
 obtain ⟨as,r1⟩:=h1.reads I rx
 obtain ⟨bs,r2⟩:=h2.reads I ry
 exact SeqAt.compareEq_reads r1 r2 h3 h4 (by lia) ⟨.bl _,H,I,rfl,q⟩
theorem op_neD (hu:X.A.units+64 < cLine):OpR X (compareOp .NotEq) (rEqD X.K not):=by
 intro pins s σ H x y v u Q I rx ry h
 obtain ⟨dx,dy,h1,h2,h3,h4,h5,q⟩:=h
 obtain ⟨as,r1⟩:=h1.reads I rx
 obtain ⟨bs,r2⟩:=h2.reads I ry
 exact SeqAt.compareNe_reads r1 r2 h3 h4 (by lia) ⟨.bl _,H,I,rfl,q⟩
theorem vals_bools {bs:List Bool}:∀ {us:List Value},Vals (bs.map V.bl) us->us=bs.map Value.bool:=by
 induction bs with
 | nil=>intro us h;cases h;rfl
 | cons b r ih =>
  intro us h
  cases h with
  | cons h1 h2=>cases h1;rw[ih h2];rfl
theorem range_all {bs:List Bool}:(List.range bs.length).all (λi=>bs.getD i false)=bs.all id:=by
 rw[Bool.eq_iff_iff,all_eq_true,all_eq_true]
 constructor
 ·intro h b hb
  obtain ⟨i,hi,rfl⟩:=mem_iff_getElem.mp hb
  have:=h i (mem_range.mpr hi)
  simpa [hi] using this
 ·intro h i hi
  have hi:=mem_range.mp hi
  have:=h _ (List.getElem_mem hi)
  simpa [hi] using this
theorem bools_truth {prog:Program} {w:World} {A:Around} {bs:List Bool}:TruthOf prog w A (λi v=>(bs.map Value.bool).toArray[i]?=some v) (λi=>bs.getD i false):=by
 intro i v s Q E hv hq
 simp only[List.getElem?_toArray,List.getElem?_map] at hv
 cases e:bs[i]? with
 | none=>rw[e] at hv;cases hv
 | some b =>
  rw[e] at hv;cases hv
  have hq:Q (bs.getD i false) s:=hq
  rw[getD_eq_getElem?_getD,e] at hq
  exact wpAny_truthy_bool hq
theorem call_all_bools (hc:X.calm=true):CallR X (.builtin "all") (λxs H Q=>∃ (a:Addr) (bs:List Bool),xs=[.ref a]/\SqL X.K H a (bs.map V.bl)/\Q (.bl (bs.all id)) H):=by
 intro pins s σ H xs us Q I r h
 obtain ⟨a,bs,rfl,hq,q⟩:=h
 obtain ⟨u,rfl,r1⟩:=vals1 r
 cases r1
 obtain ⟨its,rv,p,hz⟩:=I.list hq
 cases vals_bools rv
 refine call_all_walk (wpAny_pyIter_list p.isList ?_)
 have hne:a≠s.heap.objs.size:=by obtain ⟨o,n,e,_⟩:=p;exact Nat.ne_of_lt (Heap.lt_size e)
 refine ⟨_,_,_,_,_,_,_,rfl,Walks.list (A:=X.A.in1) (I.ok.hd hc) s.heap.objs.size a hne _,⟨⟨_,Heap.get?_push_size _ rfl,rfl,rfl⟩,(p.keeps λb o e=>Heap.get?_push_of_some _ e).isList⟩,bools_truth,λh' tk k=>?_⟩
 have e1:((bs.map Value.bool).toArray.size)=bs.length:=by simp
 rw[e1,range_all]
 refine ⟨.bl _,H,I.kept λb o e=>k b o ?_ (Heap.get?_push_of_some _ e),rfl,q⟩
 simp only[mem_singleton]
 exact Nat.ne_of_lt (Heap.lt_size e)
theorem call_sum_ints (hc:X.calm=true):CallR X (.builtin "sum") (λxs H Q=>∃ (a:Addr) (ns:List Int),xs=[.ref a]/\SqL X.K H a (ns.map V.int)/\Q (.int ns.sum) H):=by
 intro pins s σ H xs us Q I r h
 obtain ⟨a,ns,rfl,hq,q⟩:=h
 obtain ⟨u,rfl,r1⟩:=vals1 r
 cases r1
 obtain ⟨its,rv,p,hz⟩:=I.list hq
 have hi:=intsAre_of rv
 obtain ⟨zs,ez⟩:=hi.allInts.items
 have hl:=p.isList
 rw[ez] at hl
 refine sum_intListG (I.ok.hd hc) hl λh' tk t' k=>?_
 have e1:preSum (numAt zs) zs.size=ns.sum:=by
  have e2:=hi.numsOf
  have e3:=nums_intItems (xs:=zs)
  rw[<-ez] at e3
  rw[preSum_eq,List.take_of_length_le (by simp),<-e3]
  exact congrArg List.sum e2
 rw[e1]
 exact ⟨.int _,H,I.kept k,⟨_,rfl⟩,q⟩
def tLR (ta:TA):TE:=λσ H Q=>ta σ H λvs H1=>∃ n:Nat,vs=[.int n]/\n<=1000000/\∀ l,H1 l=none->Q (.ref l) (upd H1 l (.lst ((List.range n).map λ(i:Nat)=>V.int (i:Int))))
theorem pe_listrange {a:Expr} {ta:TA} {p p2 pos pos2:Pos} (hc:X.calm=true) (hg:Gl X "list") (hm:X.mg "list"=none) (hg2:Gl X "range") (hm2:X.mg "range"=none) (ha:PA X [a] ta)
  (hs:starEach [a] X.env=[(false,eval a X.env)]:=by rfl) (hs2:starEach [(.Call (.Name "range" p2) [a] [] pos2)] X.env=[(false,eval (.Call (.Name "range" p2) [a] [] pos2) X.env)]:=by rfl):PE X (.Call (.Name "list" p) [.Call (.Name "range" p2) [a] [] pos2] [] pos) (tLR ta):=by
 intro pins s σ H Q I h
 refine Call_ (ld_blt I hg hm PyProof.Rows.boot_list (PyProof.Rows.callWith_type1 ?_ hs2 rfl))
 rw[hs2]
 show wpAny _ _ (spliced ((false,eval (.Call (.Name "range" p2) [a] [] pos2) X.env)::backTo pos [])) _ _ s
 refine Calls.spliced_cons (Call_ (ld_blt I hg2 hm2 boot_range (PyProof.Rows.callWith_type1 (thn (ha pos2 pins s σ H _ I h) λus s1 ⟨vs,H1,I1,r1,q1⟩=>?_) hs rfl)))
 obtain ⟨n,rfl,hn,q⟩:=q1
 obtain ⟨u,rfl,t,rfl⟩:=vals1 r1
 refine call_range_1 (Calls.spliced_nil ?_)
 have hsz:Builtin.Range.rangeSize 0 (n:Int) 1=(n:Int):=by rw[rangeSize_one];split<;>lia
 refine call_list_range (I.ok.hd hc) (IsRange.new ..) (small_one (by lia) (by lia) (by lia) (by lia)) hsz (by lia) λh' tk acc' c' hk hS hacc=>?_
 have I2:Inv X pins σ H1 { s1 with heap:=s1.heap.push { cls:=.type "range",data:=.fields #[.int 0 s1.toks,.int n t,.int 1 (s1.toks+1)] },toks:=s1.toks+1+1 }:=I1.kept λb o e=>Heap.get?_push_of_some _ e
 obtain ⟨ha1,ha2⟩:=hacc
 have hv:Vals ((List.range n).map λ(i:Nat)=>V.int (i:Int)) acc'.toList:=by
  have:∀ (k:Nat) (l:List Value) (m:Nat),l.length=k->(∀ (j:Nat) (v:Value),l[j]?=some v->∃ t,v=Value.int (((m+j:Nat):Int)) t)->Vals ((List.range' m k).map λ(i:Nat)=>V.int (i:Int)) l:=by
   intro k
   induction k with
   | zero=>intro l m hl _;cases l with
    | nil=>exact .nil
    | cons _ _=>cases hl
   | succ k ih =>
    intro l m hl hj
    cases l with
    | nil=>cases hl
    | cons v l =>
     rw[List.range'_succ,map_cons]
     refine .cons ?_ (ih l (m+1) (by simpa using hl) λj v' e=>?_)
     ·obtain ⟨t,rfl⟩:=hj 0 v rfl
      exact ⟨t,by simp⟩
     ·obtain ⟨t,rfl⟩:=hj (j+1) v' (by simpa using e)
      exact ⟨t,by congr 1;lia⟩
  rw[List.range_eq_range']
  refine this n acc'.toList 0 (by simpa using ha1) λj v e=>?_
  obtain ⟨t,rfl⟩:=ha2 j v (by simpa using e)
  exact ⟨t,by congr 1;lia⟩
 have I3:=I2.laid (h':=h') (t':=tk) (o:=.lst ((List.range n).map λ(i:Nat)=>V.int (i:Int))) hk (Nat.le_refl _) ⟨by rw[length_map,length_range];exact Nat.le_trans hn (by decide),acc'.toList,c',hv,by simpa using hS⟩
 refine ⟨.ref _,_,I3,rfl,q _ ?_⟩
 exact I1.hok.fresh (by rw[Heap.size_push];exact Nat.le_succ _)
end
section
variable {X:Cx} {pins:List (Addr × Obj)} {σ:St} {H:Hp} {s:Shared} {h':Heap} {t':Nat}
theorem Inv.turnLay {a:Addr} {o:HO} {ch:List Addr} (I:Inv X pins σ H s) (k:∀ b u,b∉ch->s.heap.get? b=some u->h'.get? b=some u) (hp:s.heap.objs.size<=a) (new:ObjOk X.prog X.w (upd H a o) h' a o) (hch:∀ b∈ch,FpOk X pins H b) :
  Inv X pins σ (upd H a o) { s with heap:=h',toks:=t' }:=by
 have hn:H a=none:=I.hok.fresh hp
 have nch:∀ b u,H b=some u->b∉ch:=λb u e z=>by rw[(hch b z).1] at e;cases e
 refine I.call (g':=s.gens) (d':=s.drawn) (ch:=ch) ⟨λb u q _ _ hx=>k b u hx q,λb u q _ _ hx=>⟨u.slots,k b u hx q⟩,λb u q n _=>?_,λb u q hx=>⟨u,k b u hx q⟩,λb xs q=>?_,λb u xs q=>?_,λb ps q=>⟨#[],?_⟩⟩ (λb u e=>?_) I.bare
  λb hb=>⟨(hch b hb).2.2.2.1,(hch b hb).2.1,(hch b hb).2.2.2.2.1,(hch b hb).2.2.2.2.2⟩
 ·rw[upd_ne (Nat.ne_of_lt (Nat.lt_of_lt_of_le (Heap.lt_size q) hp))];exact n
 ·rw[upd_ne (ne_of_none q hn)];exact q
 ·rw[upd_ne (ne_of_none q hn)];exact q
 ·rw[upd_ne (ne_of_none q hn),q];simp
 ·by_cases hb:b=a
  ·subst hb;rw[upd_same] at e;cases e;exact new
  ·rw[upd_ne hb] at e
   refine (I.hok b u e).stay (λc v hc q=>k c v ?_ q) (λc q=>by rw[upd_ne (ne_of_none q hn)];exact q) λc xs q=>by rw[upd_ne (ne_of_none q hn)];exact q
   rcases hc with z|z
   ·rw[z];exact nch b u e
   ·exact nch c _ z
end
def Ite (K:W.Frag) (a:Addr):It :=
 ⟨λi H=>∃ xs x,SqL K H a xs/\xs[i]?=some x,λi H x H'=>∃ p y,H p=none/\(∀ xs,SqL K H a xs->xs[i]?=some y)/\x=.ref p/\H'=upd H p (.tup [.int i,y]),λi H=>∃ xs,SqL K H a xs/\xs.length<=i⟩
theorem turn_enum {P:Program} {w:World} {K:W.Frag} {elts:List Expr} {x1} {tp:Pos} (a e it:Addr) (hei:e≠it):Turn P w K (.Tuple elts x1 tp) (Ite K a) [e,it] e (λi h=>(∃ old,IsEnum h e it i old)/\h.IsListIter it a i) where
 mem:=by simp
 obj:=λi h st b hb=>by
  obtain ⟨⟨old,h1⟩,⟨o,e2,c2,d2⟩⟩:=st
  rcases mem_cons.mp hb with rfl|hb
  ·exact ⟨_,h1,λv z=>by
    have z':Data.fields _=Data.cell v:=z
    cases z'⟩
  ·have e':b=it:=by simpa using hb
   subst e'
   exact ⟨o,e2,λv z=>by rw[d2] at z;cases z⟩
 keep:=λi h h' st k=>by
  obtain ⟨⟨old,h1⟩,h2⟩:=st
  exact ⟨⟨old,k e (by simp) _ h1⟩,h2.at λo e=>k it (by simp) o e⟩
 item:=by
  intro X hP hw hK hc i pins s σ H E I hf st hg
  subst hP hw hK
  obtain ⟨⟨old,h1⟩,h2⟩:=st
  obtain ⟨xs,x,hq,hx⟩:=hg
  obtain ⟨its,rv,p,hz⟩:=I.list hq
  obtain ⟨u,hu,ru⟩:=rv.get hx
  have helt:e < s.heap.objs.size:=Heap.lt_size h1
  have hilt:it < s.heap.objs.size:=by obtain ⟨_,y,_⟩:=h2;exact Heap.lt_size y
  refine wpAny_pyNext_enum_item h1 h2 p.isList (x:=u) (by simpa using hu) hei λh' ho hit' hT hsz hk=>?_
  refine ⟨_,rfl,wpAny_letOwnedTupleGo_enum (s:={ s with heap:=h',toks:=s.toks+1 }) ho λh2 he2 hs2=>?_⟩
  have neT:s.heap.objs.size≠e:=Nat.ne_of_gt helt
  have neI:s.heap.objs.size≠it:=Nat.ne_of_gt hilt
  refine ⟨.ref s.heap.objs.size,upd H s.heap.objs.size (.tup [.int i,x]),?_,rfl,⟨_,x,I.fresh,λys hy=>by rw[I.list_inj hy hq];exact hx,rfl,rfl⟩,⟨⟨u,by simpa using he2⟩,hit'.at λo y=>(hs2.2 it hei.symm).trans y⟩,λb hb=>?_⟩
  ·have I1:=I.turnLay (h':=h2) (t':=s.toks+1) (a:=s.heap.objs.size) (o:=.tup [.int i,x]) (ch:=[e,it]) (λb o hb q=>(hs2.2 b λz=>hb (by simp[z])).trans (hk b o (λz=>hb (by simp[z])) (λz=>hb (by simp[z])) q)) (Nat.le_refl _) ?_ hf
   ·exact I1
   exact ⟨by show 2<=sizeLine;decide,[.int i s.toks,u],.cons ⟨_,rfl⟩ (.cons ru .nil),⟨_,(hs2.2 _ neT).trans hT,rfl,0,rfl⟩⟩
  ·rcases mem_cons.mp hb with rfl|hb
   ·rw[upd_ne neT.symm];exact (hf b (by simp)).1
   ·have e':b=it:=by simpa using hb
    subst e'
    rw[upd_ne neI.symm];exact (hf b (by simp)).1
 done:=by
  intro X hP hw hK hc i pins s σ H E I hf st hg
  subst hP hw hK
  obtain ⟨⟨old,h1⟩,h2⟩:=st
  obtain ⟨xs,hq,hx⟩:=hg
  obtain ⟨its,rv,p,hz⟩:=I.list hq
  have hl:=rv.length
  obtain ⟨f0,f1,f2,f3,f4,f5⟩:=hf it (by simp)
  exact wpAny_pyNext_enum_end (I.ok.hd hc) h1 h2 p.isList (by simp;lia) λh' eb=>⟨rfl,I.turned (t':=s.toks) (λb o hb q=>eb b o hb q) f0 f1 f3 f4 f5⟩
 self:=λ_ _ _ _ _ st h=>by obtain ⟨⟨old,h1⟩,_⟩:=st;exact wpAny_pyIter_enum h1 h
section
variable {X:Cx}
def iEnum (K:W.Frag) (ta:TA):TI:=λσ H R=>ta σ H λvs H1=>∃ a,vs=[.ref a]/\(∃ xs,SqL K H1 a xs)/\R (Ite K a) H1
theorem pi_enum {a:Expr} {ta:TA} {p pos:Pos} {elts:List Expr} {x1} {tp:Pos} (hg:Gl X "enumerate") (hm:X.mg "enumerate"=none) (ha:PA X [a] ta) (hs:starEach [a] X.env=[(false,eval a X.env)]:=by rfl) :
  PI X (.Tuple elts x1 tp) (.Call (.Name "enumerate" p) [a] [] pos) (iEnum X.K ta):=by
 intro pins s σ H R I h
 refine Call_ (ld_blt I hg hm boot_enumerate (PyProof.Rows.callWith_type1 (thn (ha pos pins s σ H _ I h) λus s1 ⟨vs,H1,I1,r1,q1⟩=>?_) hs rfl))
 obtain ⟨a,e,⟨xs,hq⟩,q⟩:=q1
 subst e
 obtain ⟨u,rfl,ru⟩:=vals1 r1
 cases ru
 obtain ⟨its,rv,p,hz⟩:=I1.list hq
 refine call_enumerate_list p.isList λh' he hit hsz hk=>?_
 refine wpAny_pyIter_enum he ?_
 have I2:Inv X pins σ H1 { s1 with heap:=h' }:=I1.kept (t':=s1.toks) hk
 refine ⟨s1.heap.objs.size+1,[s1.heap.objs.size+1,s1.heap.objs.size],_,_,H1,rfl,I2,turn_enum a _ _ (Nat.succ_ne_self _),⟨⟨.none,he⟩,hit⟩,λb hb=>?_,q⟩
 rcases mem_cons.mp hb with rfl|hb
 ·exact I1.fpOk (Nat.le_succ _) (I1.hok.fresh (Nat.le_succ _))
 ·have e':b=s1.heap.objs.size:=by simpa using hb
  subst e'
  exact I1.fpOk (Nat.le_refl _) (I1.hok.fresh (Nat.le_refl _))
end
def lcCheck (osc:Scope) (oN:List Str) (scope:Scope) (own:List Str) (cap:List (Str × Nat)):Bool :=
 scope.kind==.function&&decide ((scope.names.map (·.1)).Nodup)&&(scope.names.all λx=>x.2 != .local||scope.names.lookup x.1==some .local)
  && (scope.names.all λx=>x.2 != .free||(osc.names.lookup x.1==some .cell||osc.names.lookup x.1==some .free))
  && (cap.all λp=>oN[p.2]?==some p.1&&scope.names.contains (p.1,NameKind.free))
theorem LcScope.of {X:Cx} {scope:Scope} {own:List Str} {cap:List (Str × Nat)} (h:lcCheck X.env.scope X.N scope own cap=true):LcScope X scope own cap:=by
 unfold lcCheck at h
 simp only[Bool.and_eq_true,all_eq_true,beq_iff_eq,decide_eq_true_eq,Bool.or_eq_true,bne_iff_ne,ne_eq] at h
 obtain ⟨⟨⟨⟨h1,h2⟩,h3⟩,h4⟩,h5⟩:=h
 refine ⟨h1,h2,λx hx hk=>?_,λx hx hk=>?_,λp hp=>?_⟩
 ·rcases h3 x hx with z|z
  ·exact absurd hk z
  ·exact z
 ·rcases h4 x hx with z|z
  ·exact absurd hk z
  ·exact z
 ·obtain ⟨a,b⟩:=h5 p hp
  exact ⟨a,by simpa using b⟩
section
variable {X:Cx} {e:Expr} {te:TE} {pos:Pos}
theorem pset (i:Nat) {x:Str} {pos':Pos} (hN:X.N.Nodup) (he:PE X e te) (hi:X.N[i]?=some x:=by rfl) (hx:Loc X.env.scope x:=by first|exact Or.inl rfl|exact Or.inr rfl) (hs:swapsWith e (some (.Name x pos')) pos.line X.env=pure false:=by rfl)
  (hf:X.fn x=true\/X.env.scope.names.lookup x=some .local:=by first|exact .inl rfl|exact .inr rfl|assumption):PS X (.Assign [.Name x pos'] e pos) (tAsg te (gName i)):=ps_set hN hi hx he hs hf
theorem pgn (i:Nat) {x:Str} (hN:X.N.Nodup) (hi:X.N[i]?=some x:=by rfl) (hx:Loc X.env.scope x:=by first|exact Or.inl rfl|exact Or.inr rfl) (hf:X.fn x=true\/X.env.scope.names.lookup x=some .local:=by first|exact .inl rfl|exact .inr rfl|assumption):PG X (.Name x pos) (gName i):=pg_name hN hi hx hf
end
structure Df (P:Program) (w:World) (K:W.Frag) (mg:Str->Option Value) (base:Heap) (x:Str) (ps:List Str) (k:Nat) (sp:Sp):Prop where
 ex:∃ f fd,FnOk P w K mg base CX0 k f fd ps sp/\mg x=some (.ref f)/\PySem.W.keepIn K (.ref f)=true/\Binds K fd ps []
theorem pe_df {X:Cx} {x:Str} {ps:List Str} {k:Nat} {sp:Sp} {p pos:Pos} {e:Expr} {es:List Expr} {t:TA} (D:Df X.prog X.w X.K X.mg X.base x ps k sp) (hr:Room k X.A) (ha:PA X (e::es) t) (hg:Gl X x:=by rfl) (hdb:(x==("__debug__":Str))=false:=by decide)
  (he:starEach (e::es) X.env=(false,eval e X.env)::starEach es X.env:=by rfl) (hpl:(backTo pos (starEach es X.env)).any (·.1)=false:=by rfl):PE X (.Call (.Name x p) (e::es) [] pos) (tCall sp [] E0 t):=by
 obtain ⟨f,fd,F,hm,hk,hb⟩:=D.ex
 exact pe_call F hr hg hm hk hb .nil pass0 ha hdb he hpl
section
variable {X:Cx} {o e:Expr} {to:TE} {te:TE} {apos cpos:Pos}
theorem pm_append (ho:PE X o to) (he:PE X e te) (hs:starEach [e] X.env=[(false,eval e X.env)]) (hbase:attributeBase o "append" X.env (eval o X.env)=eval o X.env:=by rfl)
  (hline:(apos.endLine==cpos.line)=true:=by rfl):PE X (.Call (.Attribute o "append" apos) [e] [] cpos) (tBM X.K "list" rAppend to (tCons te tNil)) :=
 pe_bm PySem.F.plainAttrs_list PySem.F.slot_list_append PySem.F.type_list_append mt_append ho (pa_cons he pa_nil hs) hbase (by rw[hs];rfl) hline hs rfl
theorem pm_popAt (ho:PE X o to) (he:PE X e te) (hs:starEach [e] X.env=[(false,eval e X.env)]) (hbase:attributeBase o "pop" X.env (eval o X.env)=eval o X.env:=by rfl)
  (hline:(apos.endLine==cpos.line)=true:=by rfl):PE X (.Call (.Attribute o "pop" apos) [e] [] cpos) (tBM X.K "list" rPopAt to (tCons te tNil)) :=
 pe_bm PySem.F.plainAttrs_list PySem.F.slot_list_pop PySem.F.type_list_pop mt_popAt ho (pa_cons he pa_nil hs) hbase (by rw[hs];rfl) hline hs rfl
end
def rGetL (K:W.Frag):R2:=λx y H Q=>∃ p xs j v,x=.ref p/\y=.int ((j:Nat):Int)/\SqL K H p xs/\xs[j]?=some v/\Q v H
theorem nd_of {N:List Str} (h:decide N.Nodup=true):N.Nodup:=of_decide_eq_true h
section
variable {X:Cx} {K:W.Frag}
theorem pg_tupK (K:W.Frag) (n:Nat) (hK:X.K=K) {es:List Expr} {k:Nat} {t:TGs} {pos:Pos} (hc:X.calm=true) (h:PGs X es t) (hn:(assignEach es X.env).length=n) (hst:(assignEach es X.env).findIdx? (·.1)=none):PG X (.Tuple es k pos) (gTup K n t):=by
 subst hK;exact pg_tup hc h hn hst
theorem pi_listK (K:W.Frag) (hK:X.K=K) {tg l:Expr} {tl:TE} (hl:PE X l tl):PI X tg l (iList K tl):=by subst hK;exact pi_list hl
theorem pi_enumK (K:W.Frag) (hK:X.K=K) {a:Expr} {ta:TA} {p pos:Pos} {elts:List Expr} {x1} {tp:Pos} (hg:Gl X "enumerate") (hm:X.mg "enumerate"=none) (ha:PA X [a] ta) (hs:starEach [a] X.env=[(false,eval a X.env)]) :
  PI X (.Tuple elts x1 tp) (.Call (.Name "enumerate" p) [a] [] pos) (iEnum K ta):=by subst hK;exact pi_enum hg hm ha hs
theorem ix_listK (K:W.Frag) (hK:X.K=K):IxR X (rIxL K):=by subst hK;exact ix_list
def rLen (K:W.Frag):List V->Hp->VK->Prop:=λxs H Q=>∃ p ys,xs=[.ref p]/\(SqL K H p ys\/SqT K H p ys)/\Q (.int ys.length) H
theorem call_lenK (K:W.Frag) (hK:X.K=K):CallR X (.builtin "len") (rLen K):=by subst hK;exact call_len_seq
def rAll (K:W.Frag):List V->Hp->VK->Prop:=λxs H Q=>∃ (a:Addr) (bs:List Bool),xs=[.ref a]/\SqL K H a (bs.map V.bl)/\Q (.bl (bs.all id)) H
def rAny (K:W.Frag):List V->Hp->VK->Prop:=λxs H Q=>∃ (a:Addr) (bs:List Bool),xs=[.ref a]/\SqL K H a (bs.map V.bl)/\Q (.bl (bs.any id)) H
def rSum (K:W.Frag):List V->Hp->VK->Prop:=λxs H Q=>∃ (a:Addr) (ns:List Int),xs=[.ref a]/\SqL K H a (ns.map V.int)/\Q (.int ns.sum) H
def rIsi (K:W.Frag):List V->Hp->VK->Prop:=λxs H Q=>∃ x T t b,xs=[x,.ty T]/\TyOf K H x t/\PySem.W.kitOne K t (.type T)=some b/\Q (.bl b) H
def rListOf (K:W.Frag):List V->Hp->VK->Prop:=λxs H Q=>∃ p ys,xs=[.ref p]/\(SqL K H p ys\/SqT K H p ys)/\∀ l,H l=none->Q (.ref l) (upd H l (.lst ys))
theorem call_allK (K:W.Frag) (hK:X.K=K) (hc:X.calm=true):CallR X (.builtin "all") (rAll K):=by subst hK;exact call_all_bools hc
theorem call_sumK (K:W.Frag) (hK:X.K=K) (hc:X.calm=true):CallR X (.builtin "sum") (rSum K):=by subst hK;exact call_sum_ints hc
theorem call_listK (K:W.Frag) (hK:X.K=K):CallR X (.type "list") (rListOf K):=by subst hK;exact call_list_of
theorem op_eqK (K:W.Frag) (hK:X.K=K) (hu:X.A.units+64 < cLine):OpR X (compareOp .Eq) (rEqD K id):=by subst hK;exact op_eqD hu
theorem op_neK (K:W.Frag) (hK:X.K=K) (hu:X.A.units+64 < cLine):OpR X (compareOp .NotEq) (rEqD K not):=by subst hK;exact op_neD hu
theorem sl_listK (K:W.Frag) (hK:X.K=K):SlR X (rSlL K):=by subst hK;exact sl_list
theorem pm_appendK (K:W.Frag) (hK:X.K=K) {o e:Expr} {to te:TE} {apos cpos:Pos} (ho:PE X o to) (he:PE X e te) (hs:starEach [e] X.env=[(false,eval e X.env)]) (hbase:attributeBase o "append" X.env (eval o X.env)=eval o X.env)
  (hline:(apos.endLine==cpos.line)=true):PE X (.Call (.Attribute o "append" apos) [e] [] cpos) (tBM K "list" rAppend to (tCons te tNil)):=by subst hK;exact pm_append ho he hs hbase hline
theorem pm_popAtK (K:W.Frag) (hK:X.K=K) {o e:Expr} {to te:TE} {apos cpos:Pos} (ho:PE X o to) (he:PE X e te) (hs:starEach [e] X.env=[(false,eval e X.env)]) (hbase:attributeBase o "pop" X.env (eval o X.env)=eval o X.env)
  (hline:(apos.endLine==cpos.line)=true):PE X (.Call (.Attribute o "pop" apos) [e] [] cpos) (tBM K "list" rPopAt to (tCons te tNil)):=by subst hK;exact pm_popAt ho he hs hbase hline
end
def intE (e:Expr):Option Int:=match e with
 | .Constant (.int i) _ _=>some i
 | _=>none
theorem intE_of {e:Expr} {i:Int} (h:intE e=some i):∃ k p,e=.Constant (.int i) k p:=by
 unfold intE at h
 split at h
 ·cases h;exact ⟨_,_,rfl⟩
 ·cases h
def intsOf:List Expr->Option (List Int)
 | []=>some []
 | e::r=>match intE e,intsOf r with
  | some i,some l=>some (i::l)
  | _,_=>none
theorem pa_ints {X:Cx}:∀ {es:List Expr} {ns:List Int},intsOf es=some ns->PA X es (λ_ H Q=>Q (ns.map V.int) H)
 | [],ns,h=>by
  cases h
  exact pa_nil
 | e::r,ns,h=>by
  unfold intsOf at h
  split at h
  ·rename_i i ms e1 e2
   cases h
   obtain ⟨k,p,rfl⟩:=intE_of e1
   exact pa_cons pe_int (pa_ints e2) rfl
  ·cases h
theorem tFor_eq {wi:TI} {g:TG} {tb:TS} {D:Ends} {σ:St} {H:Hp}:tFor wi g tb D σ H=wi σ H λJ H1=>loopT J g tb D σ H1:=rfl
theorem loop_range {lo:Int} {n:Nat} {g:TG} {tb:TS} {D:Ends} {σ:St} {H:Hp} (Pv:Nat->St->Hp->Prop) (h0:Pv 0 σ H)
  (hs:∀ i σ H,i < n->Pv i σ H->g (.int (lo+i)) σ H λσ2 H2=>tb { D with nx:=Pv (i+1),ct:=Pv (i+1),bk:=D.nx } σ2 H2) (hd:∀ σ H,Pv n σ H->D.nx σ H):loopT (Itr lo n) g tb D σ H:=for_range Pv h0 hs hd
theorem loop_list {K:W.Frag} {a:Addr} (xs:List V) {g:TG} {tb:TS} {D:Ends} {σ:St} {H:Hp} (Pv:Nat->St->Hp->Prop) (h0:Pv 0 σ H) (hl:∀ i σ H,i<=xs.length->Pv i σ H->SqL K H a xs)
  (hs:∀ i x σ H,xs[i]?=some x->Pv i σ H->g x σ H λσ2 H2=>tb { D with nx:=Pv (i+1),ct:=Pv (i+1),bk:=D.nx } σ2 H2) (hd:∀ σ H,Pv xs.length σ H->D.nx σ H):loopT (Itl K a) g tb D σ H:=for_list Pv h0 hl hs hd
theorem iteb {b:Bool} {A B:Prop} (h1:b=true->A) (h2:b=false->B):if b=true then A else B:=by
 cases b
 ·rw[if_neg Bool.false_ne_true];exact h2 rfl
 ·rw[if_pos rfl];exact h1 rfl
theorem Same.put {H H':Hp} {p:Addr} {o:HO} (e:Same H H') (h:H p=none):Same H (upd H' p o):=λb o' hb=>by rw[upd_ne (ne_of_none hb h)];exact e b o' hb
theorem Same.new {H:Hp} {p:Addr} {o:HO} (h:H p=none):Same H (upd H p o):=(Same.refl H).put h
theorem Same.gone {H H':Hp} {p:Addr} (e:Same H H') (h:H' p=none):H p=none:=e.free h
theorem tyl {K:W.Frag} {H:Hp} {p:Addr} {xs:List V} (h:SqL K H p xs):tyV K "list" (.ref p) H:=.inl ⟨rfl,_,h⟩
structure QE (X:Cx) (e:Expr) (t:TE):Prop where
 h:PE X e t
structure QT (X:Cx) (e:Expr) (t:TT):Prop where
 h:PT X e t
structure QW (X:Cx) (e:Expr) (t:TT):Prop where
 h:PW X e t
structure QA (X:Cx) (e:List Expr) (t:TA):Prop where
 h:PA X e t
structure QS (X:Cx) (e:Stmt) (t:TS):Prop where
 h:PS X e t
structure QSs (X:Cx) (e:List Stmt) (t:TS):Prop where
 h:PSs X e t
structure QG (X:Cx) (e:Expr) (t:TG):Prop where
 h:PG X e t
structure QGs (X:Cx) (e:List Expr) (t:TGs):Prop where
 h:PGs X e t
structure QTs (X:Cx) (e:List Expr) (t:TT):Prop where
 h:PTs X e t
structure QO (X:Cx) (e:Option Expr) (t:TO):Prop where
 h:PO X e t
structure QI (X:Cx) (tg e:Expr) (t:TI):Prop where
 h:PI X tg e t
structure QB (Y:Cx) (elt:Expr) (gens:List Comprehension) (scope:Scope) (pos:Pos) (d:Nat) (acc:Addr) (tb:TS):Prop where
 h:PB Y elt gens scope pos d acc tb
theorem qpv (i:Nat) {x:Str} {pos:Pos} (hN:X.N[i]?=some x:=by rfl) (hv:Vis X.env.scope x:=by first|exact Or.inl rfl|exact Or.inr (Or.inl rfl)|exact Or.inr (Or.inr rfl)) (hd:(x==("__debug__":Str))=false:=by decide) (hcd:(x==("__classdict__":Str))=false:=by decide):QE X (.Name x pos) (tVar i):=⟨pv i hN hv hd hcd⟩
theorem qpe_bl {b j pos}:QE X (.Constant (.bool b) j pos) (tC (.bl b)):=⟨pe_bl ⟩
theorem qpe_non {j pos}:QE X (.Constant .none j pos) (tC .non):=⟨pe_non ⟩
theorem qpe_int {i j pos}:QE X (.Constant (.int i) j pos) (tC (.int i)):=⟨pe_int ⟩
theorem qpe_str {x j pos}:QE X (.Constant (.str x) j pos) (tC (.str x)):=⟨pe_str ⟩
theorem qpe_un {op:UnaryOp} {r:V->Hp->VK->Prop} (ho:UnR X (unaryOp op) r) (ha:QE X a ta):QE X (.UnaryOp op a pos) (tUn r ta):=⟨pe_un ho ha.h⟩
theorem qpe_op {op:Operator} {r:R2} (ho:OpR X (binaryOp op) r) (ha:QE X a ta) (hb:QE X b tb):QE X (.BinOp a op b pos) (tOp r ta tb):=⟨pe_op ho ha.h hb.h⟩
theorem qpe_or {rest:List Expr} (ha:QE X a ta) (hb:QE X (.BoolOp .Or (b::rest) pos) tb):QE X (.BoolOp .Or (a::b::rest) pos) (tOrV ta tb):=⟨pe_or ha.h hb.h⟩
theorem qpe_one {op} {t:TE} (h:QE X a t):QE X (.BoolOp op [a] pos) t:=⟨pe_one h.h⟩
theorem qpe_cmpR {op:CmpOp} {r:R2} (ho:OpR X (compareOp op) r) (ha:QE X a ta) (hb:QE X b tb) (hm:behindInMarks op b=false):QE X (.Compare a [op] [b] pos) (tOp r ta tb):=⟨pe_cmpR ho ha.h hb.h hm⟩
theorem qpe_ifExp {c:Expr} (hc:QT X c tA) (ha:QE X a ta) (hb:QE X b tb):QE X (.IfExp c a b pos) (tIf tA ta tb):=⟨pe_ifExp hc.h ha.h hb.h⟩
theorem qpe_tup {x1} (h:QA X es t):QE X (.Tuple es x1 pos) (tTup t):=⟨pe_tup h.h⟩
theorem qpe_lst (h:QA X es t):QE X (.List es pos) (tLst t):=⟨pe_lst h.h⟩
theorem qpe_slice {lo hi:Option Expr} {r:V->Option Int->Option Int->Hp->VK->Prop} (hr:SlR X r) (he:QE X e te) (hl:QO X lo tl) (hu:QO X hi th):QE X (.Subscript e (.Slice lo hi none p2) pos) (tSl r te tl th):=⟨pe_slice hr he.h hl.h hu.h⟩
theorem qpe_ix {r:R2} (hr:IxR X r) (ha:QE X a ta) (hb:QE X b tb) (hs:PlainIx b):QE X (.Subscript a b pos) (tOp r ta tb):=⟨pe_ix hr ha.h hb.h hs⟩
theorem qpe_df {X:Cx} {x:Str} {ps:List Str} {k:Nat} {sp:Sp} {p pos:Pos} {e:Expr} {es:List Expr} {t:TA} (D:Df X.prog X.w X.K X.mg X.base x ps k sp) (hr:Room k X.A) (ha:QA X (e::es) t) (hg:Gl X x:=by rfl) (hdb:(x==("__debug__":Str))=false:=by decide) (he:starEach (e::es) X.env=(false,eval e X.env)::starEach es X.env:=by rfl) (hpl:(backTo pos (starEach es X.env)).any (·.1)=false:=by rfl):QE X (.Call (.Name x p) (e::es) [] pos) (tCall sp [] E0 t):=⟨pe_df D hr ha.h hg hdb he hpl⟩
theorem qpe_listrange {a:Expr} {ta:TA} {p p2 pos pos2:Pos} (hc:X.calm=true) (hg:Gl X "list") (hm:X.mg "list"=none) (hg2:Gl X "range") (hm2:X.mg "range"=none) (ha:QA X [a] ta) (hs:starEach [a] X.env=[(false,eval a X.env)]:=by rfl) (hs2:starEach [(.Call (.Name "range" p2) [a] [] pos2)] X.env=[(false,eval (.Call (.Name "range" p2) [a] [] pos2) X.env)]:=by rfl):QE X (.Call (.Name "list" p) [.Call (.Name "range" p2) [a] [] pos2] [] pos) (tLR ta):=⟨pe_listrange hc hg hm hg2 hm2 ha.h hs hs2⟩
theorem qpe_callB {id:String} (hc:CallR X (.builtin id) r) (hg:Gl X x) (hm:X.mg x=none) (hv:bootBuiltins x=some (.builtin id)) (ha:QA X (e::es) t) (hn:x≠"__name__":=by decide) (hdb:(x==("__debug__":Str))=false:=by decide) (he:starEach (e::es) X.env=(false,eval e X.env)::starEach es X.env:=by rfl) (hpl:(backTo pos (starEach es X.env)).any (·.1)=false:=by rfl):QE X (.Call (.Name x p) (e::es) [] pos) (tCB r t):=⟨pe_callB hc hg hm hv ha.h hn hdb he hpl⟩
theorem qpe_callTy (hc:CallR X (.type T) r) (hg:Gl X x) (hm:X.mg x=none) (hv:bootBuiltins x=some (.type T)) (ha:QA X (e::es) t) (hn:x≠"__name__":=by decide) (hdb:(x==("__debug__":Str))=false:=by decide) (he:starEach (e::es) X.env=(false,eval e X.env)::starEach es X.env:=by rfl) (hpl:(backTo pos (starEach es X.env)).any (·.1)=false:=by rfl):QE X (.Call (.Name x p) (e::es) [] pos) (tCB r t):=⟨pe_callTy hc hg hm hv ha.h hn hdb he hpl⟩
theorem qpm_appendK (K:W.Frag) (hK:X.K=K) {o e:Expr} {to te:TE} {apos cpos:Pos} (ho:QE X o to) (he:QE X e te) (hs:starEach [e] X.env=[(false,eval e X.env)]) (hbase:attributeBase o "append" X.env (eval o X.env)=eval o X.env) (hline:(apos.endLine==cpos.line)=true):QE X (.Call (.Attribute o "append" apos) [e] [] cpos) (tBM K "list" rAppend to (tCons te tNil)):=⟨pm_appendK K hK ho.h he.h hs hbase hline⟩
theorem qpm_popAtK (K:W.Frag) (hK:X.K=K) {o e:Expr} {to te:TE} {apos cpos:Pos} (ho:QE X o to) (he:QE X e te) (hs:starEach [e] X.env=[(false,eval e X.env)]) (hbase:attributeBase o "pop" X.env (eval o X.env)=eval o X.env) (hline:(apos.endLine==cpos.line)=true):QE X (.Call (.Attribute o "pop" apos) [e] [] cpos) (tBM K "list" rPopAt to (tCons te tNil)):=⟨pm_popAtK K hK ho.h he.h hs hbase hline⟩
theorem qpi_listK (K:W.Frag) (hK:X.K=K) {tg l:Expr} {tl:TE} (hl:QE X l tl):QI X tg l (iList K tl):=⟨pi_listK K hK hl.h⟩
theorem qpi_enumK (K:W.Frag) (hK:X.K=K) {a:Expr} {ta:TA} {p pos:Pos} {elts:List Expr} {x1} {tp:Pos} (hg:Gl X "enumerate") (hm:X.mg "enumerate"=none) (ha:QA X [a] ta) (hs:starEach [a] X.env=[(false,eval a X.env)]):QI X (.Tuple elts x1 tp) (.Call (.Name "enumerate" p) [a] [] pos) (iEnum K ta):=⟨pi_enumK K hK hg hm ha.h hs⟩
theorem qpi_range1 {a:Expr} {ta:TA} {p pos:Pos} (hg:Gl X "range") (hm:X.mg "range"=none) (ha:QA X [a] ta) (hs:starEach [a] X.env=[(false,eval a X.env)]:=by rfl):QI X tg (.Call (.Name "range" p) [a] [] pos) (iRng1 ta):=⟨pi_range1 hg hm ha.h hs⟩
theorem qpi_range2 {a b:Expr} {ta:TA} {p pos:Pos} (hg:Gl X "range") (hm:X.mg "range"=none) (ha:QA X [a,b] ta) (hs:starEach [a,b] X.env=[(false,eval a X.env),(false,eval b X.env)]:=by rfl) (hs2:starEach [b] X.env=[(false,eval b X.env)]:=by rfl):QI X tg (.Call (.Name "range" p) [a,b] [] pos) (iRng2 ta):=⟨pi_range2 hg hm ha.h hs hs2⟩
theorem qpgn (i:Nat) {x:Str} (hN:X.N.Nodup) (hi:X.N[i]?=some x:=by rfl) (hx:Loc X.env.scope x:=by first|exact Or.inl rfl|exact Or.inr rfl) (hf:X.fn x=true\/X.env.scope.names.lookup x=some .local:=by first|exact .inl rfl|exact .inr rfl|assumption):QG X (.Name x pos) (gName i):=⟨pgn i hN hi hx hf⟩
theorem qpg_tupK (K:W.Frag) (n:Nat) (hK:X.K=K) {es:List Expr} {k:Nat} {t:TGs} {pos:Pos} (hc:X.calm=true) (h:QGs X es t) (hn:(assignEach es X.env).length=n) (hst:(assignEach es X.env).findIdx? (·.1)=none):QG X (.Tuple es k pos) (gTup K n t):=⟨pg_tupK K n hK hc h.h hn hst⟩
theorem qpg_sub {o i : Expr} {to ti : TE} {t : TSet} (ho : QE X o to) (hi : QE X i ti) (hs : PSet X t) (ha : ∀ v, assign (.Subscript o i pos) X.env v = (do
   let ov <- holding [v] (eval o X.env)
   let iv <- holding [v,ov] (eval i X.env)
   standAt pos
   holding [v,ov,iv] (setItem ov iv v)
   release [v,ov,iv] []):=by intro _;rfl):QG X (.Subscript o i pos) (gSub to ti t):=⟨pg_sub ho.h hi.h hs ha⟩
theorem qpgs_cons {e:Expr} {es:List Expr} {t:TG} {u:TGs} (h1:QG X e t) (h2:QGs X es u) (hs:(assignEach (e::es) X.env).map (·.2)=assign e X.env::(assignEach es X.env).map (·.2):=by rfl):QGs X (e::es) (gCons t u):=⟨pgs_cons h1.h h2.h hs⟩
theorem qpgs_nil :QGs X [] gNil:=⟨pgs_nil ⟩
theorem qpt_cmpR {op:CmpOp} {r:R2} (ho:OpR X (compareOp op) r) (ha:QE X a ta) (hb:QE X b tb) (hm:behindInMarks op b=false):QT X (.Compare a [op] [b] pos) (tTest (tOp r ta tb)):=⟨pt_cmpR ho ha.h hb.h hm⟩
theorem qPWpt {X:Cx} {e:Expr} {t:TT} (h:QW X e t):QT X e t:=⟨PW.pt h.h⟩
theorem qpw_and {rest:List Expr} (ha:QT X a tA) (hb:QW X (.BoolOp .And (b::rest) pos) tB'):QW X (.BoolOp .And (a::b::rest) pos) (tAnd tA tB'):=⟨pw_and ha.h hb.h⟩
theorem qpw_and1 (ha:QT X a tA):QW X (.BoolOp .And [a] pos) tA:=⟨pw_and1 ha.h⟩
theorem qpw_or {rest:List Expr} (ha:QT X a tA) (hb:QW X (.BoolOp .Or (b::rest) pos) tB'):QW X (.BoolOp .Or (a::b::rest) pos) (tOr tA tB'):=⟨pw_or ha.h hb.h⟩
theorem qpw_or1 (ha:QT X a tA):QW X (.BoolOp .Or [a] pos) tA:=⟨pw_or1 ha.h⟩
theorem qpt_not (ha:QT X a tA):QT X (.UnaryOp .Not a pos) (tNot tA):=⟨pt_not ha.h⟩
theorem qpt_val {e:Expr} {t:TE} (h:QE X e t) (he:∀ whole,isTrue e X.env whole=(do let v <- whole;standAt e.pos;holding [v] (truthy v)):=by intro _;rfl):QT X e (tB t):=⟨pt_val h.h he⟩
theorem qpss_cons {st:Stmt} {rest:List Stmt} (h1:QS X st t) (h2:QSs X rest u):QSs X (st::rest) (tSeq t u):=⟨pss_cons h1.h h2.h⟩
theorem qpss_one {st:Stmt} (h1:QS X st t):QSs X [st] t:=⟨pss_one h1.h⟩
theorem qpss_nil :QSs X [] tNext:=⟨pss_nil ⟩
theorem qps_ret (he:QE X e te):QS X (.Return (some e) pos) (tRet te):=⟨ps_ret he.h⟩
theorem qps_expr (he:QE X e te) (hs:swapsWith e none pos.line X.env=pure false:=by rfl):QS X (.Expr e pos) (tDrop te):=⟨ps_expr he.h hs⟩
theorem qpset (i:Nat) {x:Str} {pos':Pos} (hN:X.N.Nodup) (he:QE X e te) (hi:X.N[i]?=some x:=by rfl) (hx:Loc X.env.scope x:=by first|exact Or.inl rfl|exact Or.inr rfl) (hs:swapsWith e (some (.Name x pos')) pos.line X.env=pure false:=by rfl) (hf:X.fn x=true\/X.env.scope.names.lookup x=some .local:=by first|exact .inl rfl|exact .inr rfl|assumption):QS X (.Assign [.Name x pos'] e pos) (tAsg te (gName i)):=⟨pset i hN he.h hi hx hs hf⟩
theorem qps_asg {tg e:Expr} {te:TE} {g:TG} (he:QE X e te) (hg:QG X tg g) (hs:swapsWithSole [tg] e pos.line X.env=pure false:=by rfl) (hw:swappedStores [tg] e X.env=pure none:=by rfl) (h1:(assignEach [tg] X.env).map (·.2)=[assign tg X.env]:=by rfl):QS X (.Assign [tg] e pos) (tAsg te g):=⟨ps_asg he.h hg.h hs hw h1⟩
theorem qps_aug {i:Nat} {x:Str} {e:Expr} {te:TE} {op:Operator} {ti:TIp} {pos':Pos} (hN:X.N.Nodup) (hi:X.N[i]?=some x) (hx:Loc X.env.scope x) (he:QE X e te) (ho:PIp X op ti) (hf:X.fn x=true\/X.env.scope.names.lookup x=some .local:=by first|exact .inl rfl|exact .inr rfl|assumption):QS X (.AugAssign (.Name x pos') op e pos) (tAug i te ti):=⟨ps_aug hN hi hx he.h ho hf⟩
theorem qps_if {c:Expr} {a b:List Stmt} {tc:TT} (hc:QT X c tc) (ha:QSs X a t) (hb:QSs X b u):QS X (.If c a b pos) (tIfS tc t u):=⟨ps_if hc.h ha.h hb.h⟩
theorem qps_for {iter:Expr} {body:List Stmt} {wi:TI} {g:TG} {tb:TS} {pos:Pos} (hp:PassesOwn (model X.prog X.w) X.A X.env X.xe) (hc:X.calm=true) (hi:QI X tg iter wi) (hg:QG X tg g) (hb:QSs X body tb) (hs:∀ x,foldedSetIterable iter X.env x=pure x:=by intro _;rfl):QS X (.For tg iter body [] pos) (tFor wi g tb):=⟨ps_for hp hc hi.h hg.h hb.h hs⟩
theorem qps_while {c:Expr} {body:List Stmt} {tc:TT} {tb:TS} (hp:PassesOwn (model X.prog X.w) X.A X.env X.xe) (hc:QT X c tc) (hb:QSs X body tb):QS X (.While c body [] pos) (tWhile tc tb):=⟨ps_while hp hc.h hb.h⟩
theorem qpts_nil {Y:Cx}:QTs Y [] (λ_ H Q=>Q true H):=⟨pts_nil ⟩
theorem qpts_one {Y:Cx} {c:Expr} {t:TT} (hc:QT Y c t):QTs Y [c] t:=⟨pts_one hc.h⟩
theorem qpb_emit {te:TE} (hg:gens[d+1]?=none) (hx:Y.xe=λ_ _=>False) (he:QE Y elt te):QB Y elt gens scope pos d acc (tEmit acc te):=⟨pb_emit hg hx he.h⟩
theorem qpb_for {tg iter:Expr} {ifs:List Expr} {wi:TI} {g:TG} {ti:TT} {tb:TS} (hgd:gens[d+1]?=some ⟨tg,iter,ifs,0⟩) (hx:Y.xe=λ_ _=>False) (hc:Y.calm=true) (hs:∀ x,foldedSetIterable iter Y.env x=pure x) (hi:QI Y tg iter wi) (hg:QG Y tg g) (ht:QTs Y ifs ti) (hb:QB Y elt gens scope pos (d+1) acc tb):QB Y elt gens scope pos d acc (tFor wi g (tIfB ti tb)):=⟨pb_for hgd hx hc hs hi.h hg.h ht.h hb.h⟩
theorem qpa_cons (ha:QE X e te) (hr:QA X es t) (hs:starEach (e::es) X.env=(false,eval e X.env)::starEach es X.env:=by rfl):QA X (e::es) (tCons te t):=⟨pa_cons ha.h hr.h hs⟩
theorem qpa_nil :QA X [] tNil:=⟨pa_nil ⟩
theorem qpo_none :QO X none tNoPart:=⟨po_none ⟩
theorem qpo_some (h:QE X e te):QO X (some e) (tPart te):=⟨po_some h.h⟩
theorem qpa_ints {X:Cx} {es:List Expr} {ns:List Int} (h:intsOf es=some ns):QA X es (λ_ H Q=>Q (ns.map V.int) H):=⟨pa_ints h⟩
theorem qpe_lc {X:Cx} {elt tg iter:Expr} {ifs:List Expr} {rest:List Comprehension} {scope:Scope} {pos:Pos} {wi:TI} {g:TG} {ti:TT} {tb:Addr->TS} (own:List Str) (cap:List (Str × Nat)) (hc:X.calm=true) (L:LcScope X scope own cap) (hi:QI X tg iter wi)
  (hin:∀ (s₃:Shared) (H₃:Hp) (fp:List Addr) (acc:Addr),QG (X.inn scope (capN own cap) s₃ H₃ fp) tg g/\QTs (X.inn scope (capN own cap) s₃ H₃ fp) ifs ti/\QB (X.inn scope (capN own cap) s₃ H₃ fp) elt (⟨tg,iter,ifs,0⟩::rest) scope pos 0 acc (tb acc))
  (hs:∀ x,foldedSetIterable iter X.env x=pure x:=by intro _;rfl):QE X (.ListComp elt (⟨tg,iter,ifs,0⟩::rest) scope pos) (tLC wi g ti tb own cap):=⟨pe_lc own cap hc L hi.h (λa b c d=>⟨(hin a b c d).1.h,(hin a b c d).2.1.h,(hin a b c d).2.2.h⟩) hs⟩
theorem qps_setlc {X:Cx} {i:Nat} {y:Str} {py spos:Pos} {elt tg iter:Expr} {ifs:List Expr} {rest:List Comprehension} {scope:Scope} {pos:Pos} {wi:TI} {g:TG} {ti:TT} {tb:Addr->TS} (own:List Str) (cap:List (Str × Nat)) (hN:X.N.Nodup) (hyi:X.N[i]?=some y) (hy:X.env.scope.names.lookup y=some .local) (hc:X.calm=true) (L:LcScope X scope own cap) (hi:QI X tg iter wi)
  (hin:∀ (s₃:Shared) (H₃:Hp) (fp:List Addr) (acc:Addr),QG (X.inn scope (capN own cap) s₃ H₃ fp) tg g/\QTs (X.inn scope (capN own cap) s₃ H₃ fp) ifs ti/\QB (X.inn scope (capN own cap) s₃ H₃ fp) elt (⟨tg,iter,ifs,0⟩::rest) scope pos 0 acc (tb acc))
  (hsw:swapsWith (.ListComp elt (⟨tg,iter,ifs,0⟩::rest) scope pos) (some (.Name y py)) spos.line X.env=pure true:=by rfl) (hs:∀ x,foldedSetIterable iter X.env x=pure x:=by intro _;rfl) :
  QS X (.Assign [.Name y py] (.ListComp elt (⟨tg,iter,ifs,0⟩::rest) scope pos) spos) (tAsg (tLC wi g ti tb own cap) (gName i)):=⟨ps_setlc own cap hN hyi hy hc L hi.h (λa b c d=>⟨(hin a b c d).1.h,(hin a b c d).2.1.h,(hin a b c d).2.2.h⟩) hsw hs⟩
theorem qmk {X:Cx} {b:List Stmt} {t:TS} {D:Ends} {σ:St} {H:Hp} (h:QSs X b t) (r:t D σ H):∃ t,PSs X b t/\t D σ H:=⟨t,h.h,r⟩
section
variable {X:Cx}
theorem op_mulB:OpR X (binaryOp .Mult) (rI IntMulOk λi j=>.int (i*j)):=opI λ_ _ _ _ _ _ _ hc q=>mul_int q hc
end
theorem ne_add (n i j:Nat) (h:i≠j):n+i≠n+j:=by lia
theorem bits_lt {a:Int} {m:Nat} (h1:-(2 ^ m) < a) (h2:a < 2 ^ m):Builtin.Int.intBits a<=m:=by
 refine intBits_le_iff.mpr ?_
 have e:((2 ^ m:Nat):Int)=(2:Int) ^ m:=by simp
 lia
theorem mulB {a b:Int} {m n:Nat} (h1:-(2 ^ m) < a) (h2:a < 2 ^ m) (h3:-(2 ^ n) < b) (h4:b < 2 ^ n) (h:m+n<=134217728):IntMulOk a b:=mulOk_of_bits (bits_lt h1 h2) (bits_lt h3 h4) h
section
variable {X:Cx} {pins:List (Addr × Obj)} {σ:St} {H:Hp} {s:Shared} {h':Heap} {t':Nat}
theorem Inv.turnMany {ch:List Addr} (I:Inv X pins σ H s) (k:∀ b u,b∉ch->s.heap.get? b=some u->h'.get? b=some u) (hch:∀ b∈ch,FpOk X pins H b) :
  Inv X pins σ H { s with heap:=h',toks:=t' }:=by
 have nch:∀ b u,H b=some u->b∉ch:=λb u e z=>by rw[(hch b z).1] at e;cases e
 refine I.call (g':=s.gens) (d':=s.drawn) (ch:=ch) ⟨λb u q _ _ hx=>k b u hx q,λb u q _ _ hx=>⟨u.slots,k b u hx q⟩,λb u q n _=>n,λb u q hx=>⟨u,k b u hx q⟩,λb xs q=>q,λb u xs q=>q,λb ps q=>⟨#[],by rw[q];simp⟩⟩ (λb u e=>?_) I.bare
  λb hb=>⟨(hch b hb).2.2.2.1,(hch b hb).2.1,(hch b hb).2.2.2.2.1,(hch b hb).2.2.2.2.2⟩
 refine (I.hok b u e).stay (λc v hc q=>k c v ?_ q) (λc q=>q) λc xs q=>q
 rcases hc with z|z
 ·rw[z];exact nch b u e
 ·exact nch c _ z
end
def Itz (K:W.Frag) (a b:Addr):It :=
 ⟨λi H=>∃ xs ys x y,SqL K H a xs/\SqL K H b ys/\xs[i]?=some x/\ys[i]?=some y,λi H z H'=>∃ p x y,H p=none/\(∀ xs,SqL K H a xs->xs[i]?=some x)/\(∀ ys,SqL K H b ys->ys[i]?=some y)/\z=.ref p/\H'=upd H p (.tup [x,y]),λi H=>∃ xs ys,SqL K H a xs/\SqL K H b ys/\(xs.length<=i\/ys.length<=i)⟩
theorem turn_zip {P:Program} {w:World} {K:W.Frag} {elts:List Expr} {x1} {tp:Pos} (a b z TI TO i1 i2:Addr) (h1z:TI≠z) (h2z:TO≠z) (h3z:i1≠z) (h4z:i2≠z) (h5:TI≠TO) (h6:TI≠i1) (h7:TI≠i2) (h8:TO≠i1) (h9:TO≠i2) (h10:i1≠i2) :
  Turn P w K (.Tuple elts x1 tp) (Itz K a b) [z,TI,TO,i1,i2] z (λi h=>IsZip h z TI TO .none/\IsPair h TI (.ref i1) (.ref i2)/\(∃ u v,IsPair h TO u v)/\h.IsListIter i1 a i/\h.IsListIter i2 b i) where
 mem:=by simp
 obj:=λi h st c hc=>by
  obtain ⟨hz,hTI,⟨u,v,hTO⟩,⟨o1,e1,c1,d1⟩,⟨o2,e2,c2,d2⟩⟩:=st
  simp only[mem_cons,List.not_mem_nil,or_false] at hc
  rcases hc with rfl|rfl|rfl|rfl|rfl
  ·exact ⟨_,hz,λv z=>by
    have z':Data.fields _=Data.cell v:=z
    cases z'⟩
  ·exact ⟨_,hTI,λv z=>by
    have z':Data.seq _=Data.cell v:=z
    cases z'⟩
  ·exact ⟨_,hTO,λv z=>by
    have z':Data.seq _=Data.cell v:=z
    cases z'⟩
  ·exact ⟨o1,e1,λv z=>by rw[d1] at z;cases z⟩
  ·exact ⟨o2,e2,λv z=>by rw[d2] at z;cases z⟩
 keep:=λi h h' st k=>by
  obtain ⟨hz,hTI,⟨u,v,hTO⟩,g1,g2⟩:=st
  exact ⟨k z (by simp) _ hz,k TI (by simp) _ hTI,⟨u,v,k TO (by simp) _ hTO⟩,g1.at λo e=>k i1 (by simp) o e,g2.at λo e=>k i2 (by simp) o e⟩
 item:=by
  intro X hP hw hK hc i pins s σ H E I hf st hg
  subst hP hw hK
  obtain ⟨hz,hTI,⟨u,v,hTO⟩,g1,g2⟩:=st
  obtain ⟨xs,ys,x,y,hq,hq2,hx,hy⟩:=hg
  obtain ⟨its,rv,p,_⟩:=I.list hq
  obtain ⟨its2,rv2,p2,_⟩:=I.list hq2
  obtain ⟨ux,hux,rux⟩:=rv.get hx
  obtain ⟨uy,huy,ruy⟩:=rv2.get hy
  have hl1:=p.isList
  have hl2:=p2.isList
  have nz:∀ {c l:Addr} {o:Obj} {r:Array Value},s.heap.get? c=some o->o.cls≠.type "list"->s.heap.IsList l r->l≠c:=λ{c l o r} e hn hL z=>by
   subst z
   obtain ⟨o',e',c',_⟩:=hL
   rw[e] at e';cases e';exact hn c'
  obtain ⟨o1,e1,c1,d1⟩:=id g1
  obtain ⟨o2,e2,c2,d2⟩:=id g2
  have lt1:z < s.heap.objs.size:=Heap.lt_size hz
  have lt2:TO < s.heap.objs.size:=Heap.lt_size hTO
  have lt3:i1 < s.heap.objs.size:=Heap.lt_size e1
  have lt4:i2 < s.heap.objs.size:=Heap.lt_size e2
  have lt5:TI < s.heap.objs.size:=Heap.lt_size hTI
  have nZ:(Value.type "zip")≠.type "list":=by decide
  have nT:(Value.type "tuple")≠.type "list":=by decide
  have D:ZipApart z TI TO i1 i2 a b:=⟨h1z,h2z,h3z,h4z,h5,h6,h7,h8,h9,h10,nz hz nZ hl1,nz hTO nT hl1,nz e1 (by rw[c1];decide) hl1,nz e2 (by rw[c2];decide) hl1,nz hz nZ hl2,nz hTO nT hl2,nz e1 (by rw[c1];decide) hl2,nz e2 (by rw[c2];decide) hl2⟩
  refine wpAny_pyNext_zip_item D hz hTI hTO g1 g2 hl1 hl2 (x:=ux) (y:=uy) (by simpa using hux) (by simpa using huy) λh' a1 a2 a3 a4 a5 a6 hk=>?_
  refine ⟨_,rfl,wpAny_letOwnedTupleGo_zip (s:={ s with heap:=h' }) a1 λh2 hz' hs'=>?_⟩
  have k2:∀ c o,c≠z->c≠TO->c≠i1->c≠i2->s.heap.get? c=some o->h2.get? c=some o:=λc o n1 n2 n3 n4 e=>(hs'.2 c n1).trans (hk c o n1 n2 n3 n4 e)
  refine ⟨.ref s.heap.objs.size,upd H s.heap.objs.size (.tup [x,y]),?_,rfl,⟨_,x,y,I.fresh,λq hy=>by rw[I.list_inj hy hq];exact hx,λq h=>by rw[I.list_inj h hq2];exact hy,rfl,rfl⟩,⟨hz',k2 _ _ h1z h5 h6 h7 hTI,⟨_,_,(hs'.2 TO h2z).trans a2⟩,a3.at λo e=>(hs'.2 i1 h3z).trans e,a4.at λo e=>(hs'.2 i2 h4z).trans e⟩,λc hc=>?_⟩
  ·have I1:=I.turnLay (h':=h2) (t':=s.toks) (a:=s.heap.objs.size) (o:=.tup [x,y]) (ch:=[z,TI,TO,i1,i2]) (λc o hc q=>k2 c o (λe=>hc (by simp[e])) (λe=>hc (by simp[e])) (λe=>hc (by simp[e])) (λe=>hc (by simp[e])) q) (Nat.le_refl _) ?_ hf
   ·exact I1
   exact ⟨by show 2<=sizeLine;decide,[ux,uy],.cons rux (.cons ruy .nil),⟨_,(hs'.2 _ (Nat.ne_of_gt lt1)).trans a5,rfl,0,rfl⟩⟩
  ·have nn:=(hf c hc).1
   have:c≠s.heap.objs.size:=by
    simp only[mem_cons,List.not_mem_nil,or_false] at hc
    rcases hc with hc|hc|hc|hc|hc<;>(rw[hc];apply Nat.ne_of_lt;assumption)
   rw[upd_ne this];exact nn
 done:=by
  intro X hP hw hK hc i pins s σ H E I hf st hg
  subst hP hw hK
  obtain ⟨hz,hTI,⟨u,v,hTO⟩,g1,g2⟩:=st
  obtain ⟨xs,ys,hq,hq2,hend⟩:=hg
  obtain ⟨its,rv,p,_⟩:=I.list hq
  obtain ⟨its2,rv2,p2,_⟩:=I.list hq2
  have hl1:=p.isList
  have hl2:=p2.isList
  have nz:∀ {c l:Addr} {o:Obj} {r:Array Value},s.heap.get? c=some o->o.cls≠.type "list"->s.heap.IsList l r->l≠c:=λ{c l o r} e hn hL z=>by
   subst z
   obtain ⟨o',e',c',_⟩:=hL
   rw[e] at e';cases e';exact hn c'
  obtain ⟨o1,e1,c1,d1⟩:=id g1
  obtain ⟨o2,e2,c2,d2⟩:=id g2
  have nZ:(Value.type "zip")≠.type "list":=by decide
  have nT:(Value.type "tuple")≠.type "list":=by decide
  have D:ZipApart z TI TO i1 i2 a b:=⟨h1z,h2z,h3z,h4z,h5,h6,h7,h8,h9,h10,nz hz nZ hl1,nz hTO nT hl1,nz e1 (by rw[c1];decide) hl1,nz e2 (by rw[c2];decide) hl1,nz hz nZ hl2,nz hTO nT hl2,nz e1 (by rw[c1];decide) hl2,nz e2 (by rw[c2];decide) hl2⟩
  have l1:=rv.length
  have l2:=rv2.length
  refine wpAny_pyNext_zip_end (I.ok.hd hc) D hz hTI hTO g1 g2 hl1 hl2 (by rcases hend with h|h<;>simp<;>lia) λh' hk=>⟨rfl,?_⟩
  exact I.turnMany (t':=s.toks) (ch:=[z,TI,TO,i1,i2]) (λc o hc q=>hk c o (λe=>hc (by simp[e])) (λe=>hc (by simp[e])) (λe=>hc (by simp[e])) (λe=>hc (by simp[e])) q) hf
 self:=λ_ _ _ _ _ st h=>wpAny_pyIter_zip st.1 h
section
variable {X:Cx}
def iZip (K:W.Frag) (ta:TA):TI:=λσ H R=>ta σ H λvs H1=>∃ a b,vs=[.ref a,.ref b]/\(∃ xs,SqL K H1 a xs)/\(∃ ys,SqL K H1 b ys)/\R (Itz K a b) H1
theorem pi_zip {a b:Expr} {ta:TA} {p pos:Pos} {elts:List Expr} {x1} {tp:Pos} (hg:Gl X "zip") (hm:X.mg "zip"=none) (ha:PA X [a,b] ta) (hs:starEach [a,b] X.env=[(false,eval a X.env),(false,eval b X.env)]:=by rfl) (hs2:starEach [b] X.env=[(false,eval b X.env)]:=by rfl) :
  PI X (.Tuple elts x1 tp) (.Call (.Name "zip" p) [a,b] [] pos) (iZip X.K ta):=by
 intro pins s σ H R I h
 refine Call_ (ld_blt I hg hm boot_zip (PyProof.Rows.callWith_type1 (thn (ha pos pins s σ H _ I h) λus s1 ⟨vs,H1,I1,r1,q1⟩=>?_) (by rw[hs,hs2]) (by rw[hs2];rfl)))
 obtain ⟨a,b,e,⟨xs,hq⟩,⟨ys,hq2⟩,q⟩:=q1
 subst e
 obtain ⟨u,v,rfl,ru,rv'⟩:=vals2 r1
 cases ru
 cases rv'
 obtain ⟨its,rv,p,hz⟩:=I1.list hq
 obtain ⟨its2,rv2,p2,hz2⟩:=I1.list hq2
 refine call_zip_2 p.isList p2.isList λh' g1 g2 g3 g4 g5 hsz hk=>?_
 refine wpAny_pyIter_zip g1 ?_
 have I2:Inv X pins σ H1 { s1 with heap:=h' }:=I1.kept (t':=s1.toks) hk
 refine ⟨s1.heap.objs.size+4,[s1.heap.objs.size+4,s1.heap.objs.size+2,s1.heap.objs.size+3,s1.heap.objs.size,s1.heap.objs.size+1],_,_,H1,rfl,I2,turn_zip a b _ _ _ _ _ (ne_add _ 2 4 (by decide)) (ne_add _ 3 4 (by decide)) (ne_add _ 0 4 (by decide)) (ne_add _ 1 4 (by decide)) (ne_add _ 2 3 (by decide)) (ne_add _ 2 0 (by decide)) (ne_add _ 2 1 (by decide)) (ne_add _ 3 0 (by decide)) (ne_add _ 3 1 (by decide)) (ne_add _ 0 1 (by decide)),⟨g1,g2,⟨_,_,g3⟩,g4,g5⟩,λc hc=>?_,q⟩
 have:s1.heap.objs.size<=c:=by
  simp only[mem_cons,List.not_mem_nil,or_false] at hc
  rcases hc with hc|hc|hc|hc|hc<;>(rw[hc];first|exact Nat.le_refl _|exact Nat.le_add_right _ _)
 exact I1.fpOk this (I1.hok.fresh this)
theorem pi_zipK (K:W.Frag) (hK:X.K=K) {a b:Expr} {ta:TA} {p pos:Pos} {elts:List Expr} {x1} {tp:Pos} (hg:Gl X "zip") (hm:X.mg "zip"=none) (ha:PA X [a,b] ta) (hs:starEach [a,b] X.env=[(false,eval a X.env),(false,eval b X.env)]) (hs2:starEach [b] X.env=[(false,eval b X.env)]) :
  PI X (.Tuple elts x1 tp) (.Call (.Name "zip" p) [a,b] [] pos) (iZip K ta):=by subst hK;exact pi_zip hg hm ha hs hs2
theorem qpi_zipK (K:W.Frag) (hK:X.K=K) {a b:Expr} {ta:TA} {p pos:Pos} {elts:List Expr} {x1} {tp:Pos} (hg:Gl X "zip") (hm:X.mg "zip"=none) (ha:QA X [a,b] ta) (hs:starEach [a,b] X.env=[(false,eval a X.env),(false,eval b X.env)]:=by rfl) (hs2:starEach [b] X.env=[(false,eval b X.env)]:=by rfl) :
  QI X (.Tuple elts x1 tp) (.Call (.Name "zip" p) [a,b] [] pos) (iZip K ta):=⟨pi_zipK K hK hg hm ha.h hs hs2⟩
end
theorem loop_zip {K:W.Frag} {a b:Addr} (xs ys:List V) (hlen:xs.length=ys.length) {g:TG} {tb:TS} {D:Ends} {σ:St} {H:Hp} (Pv:Nat->St->Hp->Prop) (h0:Pv 0 σ H) (hl:∀ i σ H,i<=xs.length->Pv i σ H->SqL K H a xs/\SqL K H b ys)
  (hs:∀ i x y p σ H,xs[i]?=some x->ys[i]?=some y->Pv i σ H->H p=none->g (.ref p) σ (upd H p (.tup [x,y])) λσ2 H2=>tb { D with nx:=Pv (i+1),ct:=Pv (i+1),bk:=D.nx } σ2 H2) (hd:∀ σ H,Pv xs.length σ H->D.nx σ H):loopT (Itz K a b) g tb D σ H:=by
 refine ⟨λi m σ H=>m=xs.length - i/\i<=xs.length/\Pv i σ H,⟨xs.length,by simp,Nat.zero_le _,h0⟩,?_⟩
 rintro i m σ H ⟨rfl,hi,p⟩
 have q:=hl i σ H hi p
 by_cases hlt:i < xs.length
 ·have hlt2:i < ys.length:=hlen ▸ hlt
  refine .inr ⟨⟨xs,ys,xs[i],ys[i],q.1,q.2,by simp[hlt],by simp[hlt2]⟩,Pv (i+1),λσ' H' p'=>⟨xs.length - (i+1),by lia,rfl,hlt,p'⟩,λx H' y=>?_⟩
  obtain ⟨pp,z,z2,hn,hy,hy2,rfl,rfl⟩:=y
  exact hs i z z2 pp σ _ (hy xs q.1) (hy2 ys q.2) p hn
 ·have e:i=xs.length:=by lia
  subst e
  exact .inl ⟨⟨xs,ys,q.1,q.2,.inl (Nat.le_refl _)⟩,hd σ H p⟩
end L2
namespace M36
def sumN (n:Nat) (f:Nat->Int):Int:=((List.range n).map f).sum
theorem sumN_zero (f:Nat->Int):sumN 0 f=0:=rfl
theorem sumN_succ (n:Nat) (f:Nat->Int):sumN (n+1) f=sumN n f+f n:=by
 unfold sumN
 rw[List.range_succ,map_append,List.sum_append]
 simp
theorem sumN_bound {n:Nat} {f:Nat->Int} {c:Int} (h:∀ i,i < n->-c<=f i/\f i<=c):-(n*c)<=sumN n f/\sumN n f<=n*c:=by
 induction n with
 | zero=>simp[sumN_zero]
 | succ n ih =>
  obtain ⟨h1,h2⟩:=ih λi hi=>h i (by lia)
  obtain ⟨h3,h4⟩:=h n (by lia)
  rw[sumN_succ]
  have e:((n+1:Nat):Int)*c=n*c+c:=by rw[Int.natCast_add,Int.add_mul];simp
  rw[e]
  lia
def mmul (n:Nat) (A B:Nat->Nat->Int) (i j:Nat):Int:=sumN n λk=>A i k*B k j
def mid (i j:Nat):Int:=if i=j then 1 else 0
def mpow (n:Nat) (M:Nat->Nat->Int):Nat->Nat->Nat->Int
 | 0=>mid
 | e+1=>mmul n (mpow n M e) M
def Bd (n B:Nat) (M:Nat->Nat->Int):Prop:=∀ i j,i < n->j < n->-(2 ^ B) < M i j/\M i j < 2 ^ B
theorem abs_mul_le {a b:Int} {A B:Nat} (h1:-(2 ^ A) < a) (h2:a < 2 ^ A) (h3:-(2 ^ B) < b) (h4:b < 2 ^ B):-(2 ^ (A+B))<=a*b/\a*b<=2 ^ (A+B):=by
 have eA:((2 ^ A:Nat):Int)=2 ^ A:=by simp
 have eB:((2 ^ B:Nat):Int)=2 ^ B:=by simp
 have k1:a.natAbs<=2 ^ A:=by lia
 have k2:b.natAbs<=2 ^ B:=by lia
 have k3:(a*b).natAbs<=2 ^ A*2 ^ B:=by rw[Int.natAbs_mul];exact Nat.mul_le_mul k1 k2
 rw[<-Nat.pow_add] at k3
 have e3:((2 ^ (A+B):Nat):Int)=2 ^ (A+B):=by simp
 lia
theorem Bd.mul {n A B:Nat} {M N:Nat->Nat->Int} (hn:n<=7) (h:Bd n A M) (h':Bd n B N):Bd n (A+B+3) (mmul n M N):=λi j hi hj=>by
 have:=sumN_bound (n:=n) (f:=λk=>M i k*N k j) (c:=2 ^ (A+B)) λk hk=>abs_mul_le (h i k hi hk).1 (h i k hi hk).2 (h' k j hk hj).1 (h' k j hk hj).2
 have pos:(0:Int) < 2 ^ (A+B):=by
  have:=Nat.pow_pos (n:=A+B) (show 0 < 2 by decide)
  exact_mod_cast this
 have e:(2:Int) ^ (A+B+3)=8*2 ^ (A+B):=by rw[Int.pow_succ,Int.pow_succ,Int.pow_succ];lia
 have hn':(n:Int)*2 ^ (A+B)<=7*2 ^ (A+B):=Int.mul_le_mul_of_nonneg_right (by exact_mod_cast hn) (by lia)
 unfold mmul
 rw[e]
 lia
end M36
namespace L2
open PySem PySem.Spec PyProof.Rows M36
theorem small_line {i:Nat} (h:i < 1000000):i < sizeLine:=Nat.lt_of_lt_of_le h (by decide)
def TrX (h base:Heap) (e:Addr) (cls a0 fl:Value):Prop :=
 ∃ oe vs T oT ts,h.get? e=some oe/\(oe.cls=cls/\vs[0]?=some a0/\vs[2]?=some .none)/\oe.data=.fields vs/\vs[1]?=some (.ref T)/\base.get? T=none/\T≠e/\h.get? T=some oT/\oT.data=.fields ts/\ts[3]?=some fl
def FlyX (base:Heap) (l:List Env) (e:Addr) (cls a0:Value) (h:Heap):Prop:=base.StaysIn h/\base.get? e=none/\h.FunFrames base l/\TrX h base e cls a0 .none
section
variable {M:Model} {A:Around} {E:Value->Shared->Prop} {s:Shared} {base:Heap} {env:Env} {outer l:List Env} {L e:Addr} {oe:Obj} {vs:Array Value} {cls a0:Value} {Q:Unit->Shared->Prop}
theorem entryX {head:Value} {nx:Bool} (hfr:A.frames=some (env::outer)) (hl:s.heap.FunFrames base (env::outer)) (hf:env.frame=some L)
  (he:s.heap.get? e=some oe) (hkb:base.StaysIn s.heap) (hen:base.get? e=none) (hd:oe.data=.fields vs) (hsz:1 < vs.size) (h0:vs[0]?=some a0) (h2:vs[2]?=some .none)
  (h:∀ h',base.StaysIn h'->h'.FunFrames base (env::outer)->TrX h' base e oe.cls a0 (rawInt L)->s.heap.UpToSlots h'->Q () { s with heap:=h' }) :
  wpAny M A (do setField (.ref e) 1 (<- EntryCells.newEntry head (<- frameOf env) .none (rawInt L) .none (<- entryPlaceOf L nx))) Q E s:=by
 have nf:e∉(env::outer).filterMap (·.frame):=λz=>by
  obtain ⟨_,o,q,n⟩:=hl.mem z
  rw[he] at q;cases q
  exact n vs hd
 refine wpAny_bind (wpAny_frameOf_fun hfr hl hf λh1 k1=>?_)
 refine wpAny_bind (wpAny_entryPlaceOf λpl hp=>?_)
 unfold EntryCells.newEntry newFields
 refine wpAny_bind (wpAny_newObj_type ?_ (hp.sizeOk5 _ _ _ _ _))
 generalize ho:({ cls:=.type "traceback",dict:=none,data:=.fields ([head,.ref L,.none,rawInt L,.none]++(if pl.isEmpty then List.replicate 6 Value.none else pl)).toArray }:Obj)=oT
 have e1:h1.get? e=some oe:=(k1.2.1 e nf).trans he
 have b1:base.StaysIn h1:=λb o q=>(k1.2.1 b λz=>by rw[(hl.mem z).1] at q;cases q).trans (hkb b o q)
 have ne:h1.objs.size≠e:=Nat.ne_of_gt (Heap.lt_size e1)
 have e2:(h1.push oT).get? e=some oe:=Heap.get?_push_of_some oT e1
 have d3:=Obj.data_mapFields hd (·.setIfInBounds 1 (Value.ref h1.objs.size))
 refine wpAny_setField e2 hd hsz ?_
 have t2:(h1.push oT).get? h1.objs.size=some oT:=by rw[<-ho];exact Heap.get?_push_size _ rfl
 have keep:∀ b o,b≠e->h1.get? b=some o->((h1.push oT).update e (Obj.mapFields (·.setIfInBounds 1 (Value.ref h1.objs.size)))).get? b=some o:=λb o hb q=>by
  rw[Heap.get?_update_other _ _ (Ne.symm hb)];exact Heap.get?_push_of_some _ q
 have noe:∀ b o,s.heap.get? b=some o->(∀ ws,o.data≠.fields ws)->b≠e:=λb o q n z=>by
  rw[z,he] at q;cases q;exact n vs hd
 have up:∀ b o,s.heap.get? b=some o->(∀ ws,o.data≠.fields ws)->∃ sl,((h1.push oT).update e (Obj.mapFields (·.setIfInBounds 1 (Value.ref h1.objs.size)))).get? b=some { o with slots:=sl }:=λb o q n=>by
  obtain ⟨sl,z⟩:=k1.2.2 b o q
  exact ⟨sl,keep b _ (noe b o q n) z⟩
 refine h _ (λb o q=>keep b o (λz=>by rw[z,hen] at q;cases q) (b1 b o q)) (hl.of_keeps λb o q n=>?_) ?_ up
 ·obtain ⟨sl,z⟩:=up b o q n
  exact ⟨_,z,rfl⟩
 ·refine ⟨_,_,h1.objs.size,oT,_,Heap.get?_update_self _ e2 (Obj.isFreed_of_fields d3),⟨Obj.cls_mapFields _ _,?_,?_⟩,d3,by simp[hsz],b1.fresh,ne,?_,by rw[<-ho],?_⟩
  ·rw[Array.getElem?_setIfInBounds_ne (by decide)];exact h0
  ·rw[Array.getElem?_setIfInBounds_ne (by decide)];exact h2
  ·rw[Heap.get?_update_other _ _ (Ne.symm ne)];exact t2
  ·first|(simp;done)|(rcases hp with rfl|⟨_,_,_,_,_,_,_,rfl⟩<;>simp)
theorem noteX (hfr:A.frames=some (env::outer)) (hl:s.heap.FunFrames base (env::outer)) (hf:env.frame=some L)
  (he:s.heap.get? e=some oe) (hkb:base.StaysIn s.heap) (hen:base.get? e=none) (hd:oe.data=.fields vs) (h0:vs[0]?=some a0) (h2:vs[2]?=some .none)
  (h1:vs[1]?=some .none\/∃ T oT ts,vs[1]?=some (.ref T)/\base.get? T=none/\T≠e/\s.heap.get? T=some oT/\oT.data=.fields ts/\ts[3]?=some .none)
  (h:∀ h',base.StaysIn h'->h'.FunFrames base (env::outer)->TrX h' base e oe.cls a0 (rawInt L)->s.heap.UpToSlots h'->Q () { s with heap:=h' }):wpAny M A (noteFrame (.ref e) env) Q E s:=by
 unfold noteFrame
 simp only[hf]
 rcases h1 with h1|⟨T,oT,ts,h1,bT,nT,hT,dT,t3⟩
 ·refine wpAny_bind (wpAny_field he hd h1 ?_)
  rw[if_neg (by decide)]
  exact entryX hfr hl hf he hkb hen hd (Array.getElem?_eq_some_iff.mp h1).1 h0 h2 h
 ·refine wpAny_bind (wpAny_field he hd h1 ?_)
  rw[if_pos (show (Value.ref T != Value.none)=true from by simp)]
  refine wpAny_bind (wpAny_field hT dT t3 ?_)
  rw[if_neg (show ¬ ((Value.none==rawInt L)=true) from by simp[rawInt])]
  refine wpAny_bind (wpAny_setField hT dT (Array.getElem?_eq_some_iff.mp t3).1 ?_)
  have oth:∀ b,b≠T->(s.heap.update T (Obj.mapFields (·.setIfInBounds 3 Value.none))).get? b=s.heap.get? b:=λb hb=>Heap.get?_update_other _ _ (Ne.symm hb)
  have noT:∀ b o,s.heap.get? b=some o->(∀ ws,o.data≠.fields ws)->b≠T:=λb o q n z=>by
   rw[z,hT] at q;cases q;exact n ts dT
  refine entryX hfr (hl.of_keeps λb o q n=>⟨o,(oth b (noT b o q n)).trans q,rfl⟩) hf ((oth e (Ne.symm nT)).trans he) (λb o q=>(oth b λz=>by rw[z,bT] at q;cases q).trans (hkb b o q)) hen hd (Array.getElem?_eq_some_iff.mp h1).1 h0 h2 λh' x1 x2 x3 x4=>?_
  exact h h' x1 x2 x3 λb o q n=>x4 b o ((oth b (noT b o q n)).trans q) n
theorem flightX {fl:Value} (hkb:base.StaysIn s.heap) (hl:s.heap.FunFrames base l) (ht:TrX s.heap base e cls a0 fl)
  (h:∀ h',base.StaysIn h'->h'.FunFrames base l->TrX h' base e cls a0 .none->s.heap.UpToSlots h'->Q () { s with heap:=h' }):wpAny M A (setFlight (.ref e) none) Q E s:=by
 obtain ⟨oe,vs,T,oT,ts,he,hc,hd,h1,bT,nT,hT,dT,t3⟩:=ht
 have oth:∀ b,b≠T->(s.heap.update T (Obj.mapFields (·.setIfInBounds 3 ((none:Option Addr).elim Value.none λf=>rawInt f)))).get? b=s.heap.get? b:=λb hb=>Heap.get?_update_other _ _ (Ne.symm hb)
 have noT:∀ b o,s.heap.get? b=some o->(∀ ws,o.data≠.fields ws)->b≠T:=λb o q n z=>by
  rw[z,hT] at q;cases q;exact n ts dT
 have z3:3 < ts.size:=(Array.getElem?_eq_some_iff.mp t3).1
 unfold setFlight
 refine wpAny_bind (wpAny_field he hd h1 ?_)
 rw[if_pos (show (Value.ref T != Value.none)=true from by simp)]
 refine wpAny_setField hT dT z3 (h _ (λb o q=>(oth b λz=>by rw[z,bT] at q;cases q).trans (hkb b o q)) (hl.of_keeps λb o q n=>⟨o,(oth b (noT b o q n)).trans q,rfl⟩) ?_ λb o q n=>⟨o.slots,(oth b (noT b o q n)).trans q⟩)
 exact ⟨oe,vs,T,_,_,(oth e (Ne.symm nT)).trans he,hc,hd,h1,bT,nT,Heap.get?_update_self _ hT (Obj.isFreed_of_fields (Obj.data_mapFields dT _)),Obj.data_mapFields dT _,by simp[z3]⟩
theorem leaves_onX (hfr:A.frames=some (env::outer)) (hf:env.frame=some L) (fl:FlyX base (env::outer) e cls a0 s.heap)
  (hQ:∀ h',FlyX base outer e cls a0 h'->s.heap.UpToSlots h'->Q () { s with heap:=h' }):wpAny M A (leaving env (.ref e)) Q E s:=by
 obtain ⟨f1,f2,f3,oe,vs,T,oT,ts,he,⟨rfl,h0,h2⟩,hd,h1,r⟩:=fl
 unfold leaving
 refine wpAny_bind (noteX hfr f3 hf he f1 f2 hd h0 h2 (.inr ⟨T,oT,ts,h1,r⟩) λh' x1 x2 x3 x4=>?_)
 refine flightX (s:={ s with heap:=h' }) x1 x2 x3 λh'' y1 y2 y3 y4=>?_
 obtain ⟨_,_,y2⟩:=y2
 exact hQ h'' ⟨y1,f2,y2,y3⟩ (x4.trans y4)
theorem leaves_madeX {h:Heap} {args:List Value} (hfr:A.frames=some (env::outer)) (hf:env.frame=some L) (hkb:base.StaysIn h) (hl:h.FunFrames base (env::outer)) (hx:Heap.MadeExcOf h s.heap e cls args)
  (hQ:∀ h' t,FlyX base outer e cls (.ref t) h'->h'.TupAt t args->base.get? t=none->s.heap.UpToSlots h'->Q () { s with heap:=h' }):wpAny M A (leaving env (.ref e)) Q E s:=by
 obtain ⟨t,he,htn,ht⟩:=hx.there
 have fresh:∀ b,h.get? b=none->base.get? b=none:=λb hb=>by
  cases q:base.get? b with
  | none=>rfl
  | some o=>have:=hkb b o q;rw[hb] at this;cases this
 unfold leaving
 refine wpAny_bind (noteX (a0:=.ref t) hfr (hl.of_keeps λb o q _=>⟨o,hx.keeps b o q,rfl⟩) hf he (λb o q=>hx.keeps b o (hkb b o q)) (fresh e hx.new) rfl rfl rfl (.inl rfl) λh' x1 x2 x3 x4=>?_)
 refine flightX (s:={ s with heap:=h' }) x1 x2 x3 λh'' y1 y2 y3 y4=>?_
 obtain ⟨_,_,y2⟩:=y2
 exact hQ h'' t ⟨y1,fresh e hx.new,y2,y3⟩ (Heap.TupAt.of_slots ⟨_,_,ht,rfl,rfl⟩ (x4.trans y4)) (fresh t htn) (x4.trans y4)
end
open PySem.Calls
theorem ObjOk.there {P:Program} {w:World} {H:Hp} {h:Heap} {a:Addr} {o:HO} (x:ObjOk P w H h a o):∃ ob,h.get? a=some ob:=by
 cases o with
 | lst xs=>obtain ⟨_,_,_,_,e⟩:=x;exact ⟨_,e⟩
 | tup xs=>obtain ⟨_,_,_,o,e,_⟩:=x;exact ⟨_,e⟩
 | dK kvs=>obtain ⟨_,_,_,_,o,_,_,e,_⟩:=x;exact ⟨_,e⟩
 | dT kvs=>obtain ⟨_,_,_,_,o,_,_,e,_⟩:=x;exact ⟨_,e⟩
 | set S n=>obtain ⟨o,_,_,_,e,_⟩:=x;exact ⟨_,e⟩
 | ins C dx fs=>obtain ⟨_,_,_,e,_⟩:=x;exact ⟨_,e⟩
 | own y=>obtain ⟨_,e⟩:=x;exact ⟨_,e⟩
 | xd fs=>obtain ⟨_,⟨_,_,_,e,_⟩,_⟩:=x;exact ⟨_,e⟩
 | rng lo hi=>obtain ⟨_,_,_,e⟩:=x;exact ⟨_,e⟩
 | frz ob u=>obtain ⟨e,_⟩:=x;exact ⟨_,e⟩
 | tbl ps=>exact ⟨_,(show h.get? a=some _ from x)⟩
 | met f y=>exact ⟨_,(show h.get? a=some _ from x)⟩
 | ext φ=>obtain ⟨_,⟨_,e⟩,_⟩:=x;exact ⟨_,e⟩
def Fly (base:Heap) (l:List Env) (ea:Addr) (cls:Value) (H:Hp) (h0 h:Heap):Prop :=
 ∃ (B:Heap) (a0:Value),base.StaysIn B/\FlyX B l ea cls a0 h/\∀ b,B.get? b=none->b∉frs l->(∃ o,h.get? b=some o)->h0.get? b=none/\H b=none
def CXE (P:Program) (w:World) (base:Heap):CXT:=λouter H s E e s' =>
 ∃ (ea:Addr) (cls:Value) (H':Hp),e=.ref ea/\s'.os=s.os/\AllBare s'.gens/\Un (frs outer) [] H H' s.heap s'.heap/\HOk P w H' s'.heap/\Fly base outer ea cls H' s.heap s'.heap/\E cls none H'
theorem passF {P:Program} {w:World} {base:Heap} {X:Cx}:Passes (CXE P w base) X E0:=λ_ _ _ _ _ _ _ h=>by
 obtain ⟨_,_,_,_,_,_,_,_,_,z⟩:=h;exact z.elim
section
variable {X:Cx} {pins:List (Addr × Obj)} {σ:St} {H:Hp} {s:Shared}
theorem Inv.in0 (I:Inv X pins σ H s) (hex:X.ex=[]) {b:Addr} (h:s.heap.get? b=none):X.s₀.heap.get? b=none:=by
 cases q:X.s₀.heap.get? b with
 | none=>rfl
 | some o =>
  obtain ⟨o',e⟩:=I.base.there b o q (by rw[hex];simp)
  rw[h] at e;cases e
theorem leave_core {B:Heap} {ea:Addr} {cls a0:Value} {h':Heap} {E:XK} (I:Inv X pins σ H s) (hex:X.ex=[]) (hst:X.stack=X.env::X.outer) (hf:X.env.frame=some X.env.locals)
  (hb:X.base.StaysIn B) (hB:B.StaysIn s.heap) (fl:FlyX B X.outer ea cls a0 h') (up:s.heap.UpToSlots h')
  (pr:∀ b,B.get? b=none->b∉frs X.stack->(∃ o,s.heap.get? b=some o)->X.s₀.heap.get? b=none/\H b=none) (hE:E cls none H) :
  CXE X.prog X.w X.base X.outer X.H₀ X.s₀ E (.ref ea) { s with heap:=h' }:=by
 have hB':B.StaysIn h':=fl.1
 have inB:∀ b o,s.heap.get? b=some o->b∉frs X.stack->(X.s₀.heap.get? b≠none\/H b≠none)->B.get? b=some o:=by
  intro b o e hb hp
  cases q:B.get? b with
  | some o'=>have:=hB b o' q;rw[e] at this;rw[this]
  | none =>
   obtain ⟨h1,h2⟩:=pr b q hb ⟨o,e⟩
   rcases hp with z|z
   ·exact absurd h1 z
   ·exact absurd h2 z
 have L0:∀ b o,X.s₀.heap.get? b=some o->b≠X.env.locals:=λb o e=>Nat.ne_of_lt (Nat.lt_of_lt_of_le (Heap.lt_size e) I.ok.above)
 have fsS:frs X.stack=X.env.locals::X.fs:=by rw[hst];unfold frs;rw[List.filterMap_cons,hf];rfl
 have nS:∀ b o,X.s₀.heap.get? b=some o->b∉X.fs->b∉frs X.stack:=λb o e hb z=>by
  rw[fsS] at z
  rcases mem_cons.mp z with z|z
  ·exact L0 b o e z
  ·exact hb z
 have hx0:∀ b:Addr,b∉X.ex:=λb=>by rw[hex];simp
 refine ⟨ea,cls,H,rfl,I.os,I.bare,⟨λb o e n hbf _=>?_,λb o e n hbf _=>?_,λb o e n _=>I.base.free b o e n (hx0 b),λb o e _=>?_,I.base.tups,I.base.frzs,I.base.tbls⟩,λb u e=>?_,⟨B,a0,hb,fl,λb hbn hbf he=>?_⟩,hE⟩
 ·exact hB' b o (inB b o (I.base.keep b o e n hbf (hx0 b)) (nS b o e hbf) (.inl (by rw[e];simp)))
 ·obtain ⟨sl,q⟩:=I.base.slot b o e n hbf (hx0 b)
  obtain ⟨_,o',q',nf⟩:=I.funs.mem hbf
  rw[q] at q';cases q'
  obtain ⟨sl',q''⟩:=up b _ q nf
  exact ⟨sl',q''⟩
 ·obtain ⟨o',q⟩:=I.base.there b o e (hx0 b)
  by_cases hbf:b∈X.fs
  ·obtain ⟨_,o'',q',nf⟩:=I.funs.mem hbf
   rw[q] at q';cases q'
   obtain ⟨sl',q''⟩:=up b _ q nf
   exact ⟨_,q''⟩
  ·exact ⟨o',hB' b o' (inB b o' q (nS b o e hbf) (.inl (by rw[e];simp)))⟩
 ·refine (I.hok b u e).stay (λc v hc q=>?_) (λ_ q=>q) (λ_ _ q=>q)
  have hcn:H c≠none:=by
   rcases hc with z|z
   ·rw[z,e];simp
   ·rw[z];simp
  exact hB' c v (inB c v q (λz=>hcn (I.stkFree c z)) (.inr hcn))
 ·obtain ⟨o,e⟩:=he
  cases q:s.heap.get? b with
  | some ob =>
   by_cases hL:b=X.env.locals
   ·rw[hL];exact ⟨Heap.get?_none_of_le I.ok.above,I.free⟩
   ·refine pr b hbn (λz=>?_) ⟨ob,q⟩
    rw[fsS] at z
    rcases mem_cons.mp z with z|z
    ·exact hL z
    ·exact hbf z
  | none =>
   refine ⟨I.in0 hex q,?_⟩
   cases z:H b with
   | none=>rfl
   | some u =>
    obtain ⟨ob,q'⟩:=ObjOk.there (I.hok b u z)
    rw[q] at q';cases q'
end
def RaiseOk (X:Cx) (E:XK):Prop:=∀ (pins:List (Addr × Obj)) (σ:St) (H:Hp) (s:Shared) (ea:Addr) (cls:Value) (vs:List Value) (h':Heap),Inv X pins σ H s->Heap.MadeExcOf s.heap h' ea cls vs->E cls none H->X.xe (.ref ea) { s with heap:=h' }
section
variable {P:Program} {w:World} {K:W.Frag} {mg:Str->Option Value} {base:Heap} {N:List Str} {qual:Str} {scope:Scope} {f:Addr} {cd:Value} {A:Around} {outer:List Env} {s0:Shared} {H0:Hp} {E:XK}
theorem raiseOk_cx:RaiseOk (cxOf (CXE P w base) P w K mg base N qual scope f cd A outer s0 H0 E) E:=by
 intro pins σ H s ea cls vs h' I hx hE
 have hin:∀ env∈(cxOf (CXE P w base) P w K mg base N qual scope f cd A outer s0 H0 E).stack,∀ b,env.frame=some b->b∈frs (cxOf (CXE P w base) P w K mg base N qual scope f cd A outer s0 H0 E).stack:=λenv he b hb=>List.mem_filterMap.mpr ⟨env,he,hb⟩
 show wpAny _ _ (leaving _ _) _ _ _
 refine leaves_madeX (base:=PySem.W.hideAll s.heap (frs (cxOf (CXE P w base) P w K mg base N qual scope f cd A outer s0 H0 E).stack)) (h:=s.heap) I.ok.frames rfl (λb o q=>PySem.W.of_hideAll _ q) (PySem.W.funFrames_hide I.stack hin) hx λh'' t fl tup bt up=>?_
 refine leave_core I rfl rfl rfl (λb o e=>PySem.W.hideAll_get _ (I.bk b o e) λhm=>?_) (λb o q=>PySem.W.of_hideAll _ q) fl ((Heap.UpToSlots.of_keeps hx.keeps).trans up) (λb hbn hbf he=>?_) hE
 ·have:=(I.stack.mem hm).1
  rw[show (cxOf (CXE P w base) P w K mg base N qual scope f cd A outer s0 H0 E).base.get? b=some o from e] at this
  cases this
 ·obtain ⟨o,e⟩:=he
  rw[PySem.W.hideAll_get _ e hbf] at hbn
  cases hbn
theorem passE:Passes (CXE P w base) (cxOf (CXE P w base) P w K mg base N qual scope f cd A outer s0 H0 E) E:=by
 rintro pins σ H s e s' I ⟨ea,cls,H',rfl,os,bare,un,hok,⟨B,a0,hb,fl,pr⟩,hE⟩
 have I':=I.call' (ch:=[]) os un hok bare (λ_ z=>nomatch z)
 show wpAny _ _ (leaving _ _) _ _ _
 refine leaves_onX I.ok.frames rfl fl λh' fl' up=>?_
 refine leave_core I' rfl rfl rfl hb fl.1 fl' up (λb h1 h2 h3=>?_) hE
 obtain ⟨q1,q2⟩:=pr b h1 h2 h3
 exact ⟨I.in0 rfl q1,q2⟩
end
abbrev bmV:List Value:=[.type "ValueError",.type "Exception",.type "BaseException",.type "object"]
structure ExC (K:W.Frag) (mg:Str->Option Value) (x:Str) (C:Addr):Prop where
 mgx:mg x=some (.ref C)
 exc:PySem.W.excIn K C bmV "ValueError.__new__"=true
theorem ExC.own {K:W.Frag} {mg:Str->Option Value} {x:Str} {C:Addr} {h:Heap} (c:ExC K mg x C) (X:K.In h):OwnCls x C bmV "ValueError.__new__" mg h:=by
 obtain ⟨hm,hq⟩:=c
 refine ⟨hm,?_⟩
 unfold PySem.W.excIn at hq
 split at hq
 case h_2=>cases hq
 case h_1 dk cdk slk hok =>
  split at hq
  case h_2=>cases hq
  case h_1 Ck bk a0 a1 a2 a3 nk a5 hmro hsl =>
   rw[Bool.and_eq_true,Bool.and_eq_true,Bool.and_eq_true,Bool.and_eq_true,Bool.and_eq_true,beq_iff_eq,beq_iff_eq,beq_iff_eq] at hq
   obtain ⟨⟨⟨⟨⟨e1,e2⟩,e3⟩,e4⟩,e5⟩,e6⟩:=hq
   have e3:cdk.hasDel=false:=by simpa using e3
   have hok':=X _ _ hok
   cases e1
   cases e2
   cases cdk with
   | mk x1 x2 x3 x4 x5 x6 x7 x8 x9 x10 x11 =>
    cases slk with
    | mk lk =>
     cases hmro
     cases e3
     cases hsl
     exact ⟨_,_,_,_,_,_,_,_,_,_,_,_,_,_,_,_,_,hok',Heap.Ns.of_isNs (PySem.W.isNs_of_in X e5),PySem.W.nsMap_none_of_in X e5 e6,PySem.W.tail_of_in X e4⟩
section
variable {X:Cx} {pos np cpos:Pos} {x:Str} {C:Addr} {E:XK} {e0:Expr} {es:List Expr} {ta:TA}
def tRaise (C:Addr) (E:XK) (ta:TA):TS:=λ_ σ H=>ta σ H λvs H1=>vs.length<=sizeLine/\E (.ref C) none H1
theorem ps_raise (hx:RaiseOk X E) (hc:X.calm=true) (c:ExC X.K X.mg x C) (hg:Gl X x) (ha:PA X (e0::es) ta) (hdb:(x==("__debug__":Str))=false:=by decide)
  (he:starEach (e0::es) X.env=(false,eval e0 X.env)::starEach es X.env:=by rfl) (hpl:(backTo cpos (starEach es X.env)).any (·.1)=false:=by rfl) :
  PS X (.Raise (some (.Call (.Name x np) (e0::es) [] cpos)) none pos) (tRaise C E ta):=by
 intro pins s σ H D I h
 obtain ⟨tl,N,nm,q,bs,hdct,sn,sub,ab,col,dd,k0,k1,k2,k3,k5,mN,hC,hN,hni,T⟩:=(c.own I.mod.kin).obj
 refine wpAny_Raise_call_subU (C:=C) (nm:=nm) (q:=q) (N:=N) (bs:=bs) (bm:=tl) (hdct:=hdct) (sn:=sn) (sub:=sub) (ab:=ab) (col:=col) (dd:=dd) (k0:=k0) (k1:=k1) (k2:=k2) (k3:=k3) (k5:=k5) PySem.F.excBase_ValueError (by decide +kernel) PySem.F.excBase_ValueError (mN:=mN) (T.hasType (by decide +kernel)) (I.ok.hd hc) ?_ hni (ld_glob I hg c.mgx ⟨rfl,?_⟩ hdb)
 ·rw[he]
  show (false||(backTo cpos (starEach es X.env)).any (·.1))=false
  rw[hpl];rfl
 have ha':=ha cpos pins s σ H _ I h
 rw[he] at ha' ⊢
 refine Calls.evalArgs_plain (thn ha' λus s1 ⟨vs,H1,I1,r1,hl,q1⟩=>?_)
 exact ⟨rfl,by rw[<-r1.length];exact hl,I1.bk _ _ hC,hN.keeps I1.bk,T.keeps I1.bk,λh' e hm=>hx pins σ H1 s1 e (.ref C) us h' I1 hm q1⟩
end
structure DfE (P:Program) (w:World) (K:W.Frag) (mg:Str->Option Value) (base:Heap) (x:Str) (ps:List Str) (k:Nat) (sp:Sp):Prop where
 ex:∃ f fd,FnOk P w K mg base (CXE P w base) k f fd ps sp/\mg x=some (.ref f)/\PySem.W.keepIn K (.ref f)=true/\Binds K fd ps []
theorem pe_dfE {X:Cx} {x:Str} {ps:List Str} {k:Nat} {sp:Sp} {p pos:Pos} {e:Expr} {es:List Expr} {t:TA} {E:XK} (D:DfE X.prog X.w X.K X.mg X.base x ps k sp) (hx:Passes (CXE X.prog X.w X.base) X E) (hr:Room k X.A) (ha:PA X (e::es) t) (hg:Gl X x:=by rfl) (hdb:(x==("__debug__":Str))=false:=by decide)
  (he:starEach (e::es) X.env=(false,eval e X.env)::starEach es X.env:=by rfl) (hpl:(backTo pos (starEach es X.env)).any (·.1)=false:=by rfl):PE X (.Call (.Name x p) (e::es) [] pos) (tCall sp [] E t):=by
 obtain ⟨f,fd,F,hm,hk,hb⟩:=D.ex
 exact pe_call F hr hg hm hk hb .nil hx ha hdb he hpl
theorem PS.nox {X:Cx} {st:Stmt} {t:TS} (h:PS X.nox st t):PS X st t:=λpins s σ H D I hw =>
 wpAny_mono (h pins s σ H D (I.wish _) hw) (λ_ _ q=>q.unwish) λ_ _ z=>False.elim z
theorem Fun.okE {P:Program} {w:World} {K:W.Frag} {mg:Str->Option Value} {base:Heap} {x qual:Str} {st:Stmt} {f:Addr} {fd:FuncData} {N ps:List Str} {k:Nat} {sp:Sp} (F:Fun K x qual st f fd) (S:FnScope N ps (defScope st)) (len:∀ vs H Q E,sp vs H Q E->vs.length=ps.length)
  (hbody:∀ (cdv:Value) (A:Around) (outer:List Env) (s:Shared) (H:Hp) (vs:List V) (Q:VK) (E:XK),Room k (A.deeper (envOfC qual (defScope st) s.heap.objs.size f cdv))->sp vs H Q E ->
   ∃ t,PSs (cxOf (CXE P w base) P w K mg base N qual (defScope st) f cdv A outer s H E) (defBody st) t/\t { nx:=λ_ H'=>Q .non H',rt:=Q } (start N vs) H):FnOk P w K mg base (CXE P w base) (k+1) f fd ps sp:=by
 obtain ⟨oc,od,kV,doc,pm,an,cdv,ct,osl,rfl,lk,hcd⟩:=F.ex
 exact fn_of lk hcd S len λA outer s H vs Q E hr hsp=>hbody cdv A outer s H vs Q E hr hsp
section
variable {X:Cx}
theorem qnT {e:Expr} {t:TT} (h:QT X.nox e t):QT X e t:=⟨h.h.nox⟩
theorem qnS {e:Stmt} {t:TS} (h:QS X.nox e t):QS X e t:=⟨h.h.nox⟩
theorem qps_raise {x:Str} {C:Addr} {E:XK} {e0:Expr} {es:List Expr} {ta:TA} {pos np cpos:Pos} (hx:RaiseOk X E) (hc:X.calm=true) (c:ExC X.K X.mg x C) (hg:Gl X x) (ha:QA X (e0::es) ta) (hdb:(x==("__debug__":Str))=false:=by decide)
  (he:starEach (e0::es) X.env=(false,eval e0 X.env)::starEach es X.env:=by rfl) (hpl:(backTo cpos (starEach es X.env)).any (·.1)=false:=by rfl) :
  QS X (.Raise (some (.Call (.Name x np) (e0::es) [] cpos)) none pos) (tRaise C E ta):=⟨ps_raise hx hc c hg ha.h hdb he hpl⟩
theorem qpe_dfE {x:Str} {ps:List Str} {k:Nat} {sp:Sp} {p pos:Pos} {e:Expr} {es:List Expr} {t:TA} {E:XK} (D:DfE X.prog X.w X.K X.mg X.base x ps k sp) (hx:Passes (CXE X.prog X.w X.base) X E) (hr:Room k X.A) (ha:QA X (e::es) t) (hg:Gl X x:=by rfl) (hdb:(x==("__debug__":Str))=false:=by decide)
  (he:starEach (e::es) X.env=(false,eval e X.env)::starEach es X.env:=by rfl) (hpl:(backTo pos (starEach es X.env)).any (·.1)=false:=by rfl):QE X (.Call (.Name x p) (e::es) [] pos) (tCall sp [] E t):=⟨pe_dfE D hx hr ha.h hg hdb he hpl⟩
end
abbrev TSX:=Ends->(St->XK)->St->Hp->Prop
section
def xIf (tc:TT) (a b:TSX):TSX:=λD E σ H=>tc σ H λd H1=>if d=true then a D E σ H1 else b D E σ H1
end
def dI (ns:List Int):List PyData:=ns.map PyData.int
def dG (g:List (List Int)):PyData:=.list (g.map λns=>.list (dI ns))
theorem dens_ints {K:W.Frag} {H:Hp}:∀ (ns:List Int),Dens K H (ns.map V.int) (dI ns)
 | []=>.nil
 | o::r=>.cons (.int _) (dens_ints r)
theorem lay_ints:∀ (ns:List Int),PyData.canLayAll0 (dI ns)=true
 | []=>rfl
 | o::r=>by
  show (PyData.canLay0 (.int _)&&PyData.canLayAll0 (dI r))=true
  rw[lay_ints r];rfl
theorem depth_ints:∀ (ns:List Int),PyData.depthAll (dI ns)=0
 | []=>rfl
 | o::r=>by
  show max (PyData.depth (.int _)) (PyData.depthAll (dI r))=0
  rw[depth_ints r];rfl
theorem lay_rows:∀ (g:List (List Int)),PyData.canLayAll0 (g.map λns=>.list (dI ns))=true
 | []=>rfl
 | o::r=>by
  show (PyData.canLayAll0 (dI o)&&PyData.canLayAll0 _)=true
  rw[lay_rows r,lay_ints];rfl
theorem depth_rows:∀ (g:List (List Int)),PyData.depthAll (g.map λns=>.list (dI ns))<=1
 | []=>by show 0<=1;decide
 | o::r=>by
  show max (PyData.depthAll (dI o)+1) (PyData.depthAll _)<=1
  have:=depth_rows r
  rw[depth_ints];lia
theorem lay_dG (g:List (List Int)):(dG g).canLay0=true:=lay_rows g
theorem depth_dG (g:List (List Int)):(dG g).depth<=32:=by
 show PyData.depthAll _+1<=32
 have:=depth_rows g
 lia
section
variable {X:Cx}
theorem qps_par {i j:Nat} {x y:Str} {a b:Expr} {ta:TA} {px py pt pos:Pos} {kt k2 pt2} (hc:X.calm=true) (hN:X.N.Nodup) (hi:X.N[i]?=some x) (hj:X.N[j]?=some y) (hij:i≠j)
  (hx:X.env.scope.names.lookup x=some .local) (hy:X.env.scope.names.lookup y=some .local) (ha:QA X [a,b] ta)
  (hw:swappedStores [.Tuple [.Name x px,.Name y py] kt pt] (.Tuple [a,b] k2 pt2) X.env=pure (some [x,y]))
  (hs:swapsWithSole [.Tuple [.Name x px,.Name y py] kt pt] (.Tuple [a,b] k2 pt2) pos.line X.env=pure false:=by rfl) :
  QS X (.Assign [.Tuple [.Name x px,.Name y py] kt pt] (.Tuple [a,b] k2 pt2) pos) (tPar i j ta):=⟨ps_par hc hN hi hj hij hx hy ha.h hw hs⟩
def rInsert:V->List V->Hp->VK->Prop:=λx vs H Q=>∃ l xs k y,x=.ref l/\vs=[.int k,y]/\H l=some (.lst xs)/\0<=k/\k<=xs.length/\xs.length < sizeLine/\Q .non (upd H l (.lst (xs.take k.toNat++[y]++xs.drop k.toNat)))
theorem mt_insert:MtM X "list.insert" rInsert:=by
 intro pins s σ H x vs v us Q I rx rv h
 obtain ⟨l,xs,k,y,rfl,rfl,hH,h0,h1,hz,q⟩:=h
 cases rx
 obtain ⟨u,w',rfl,ru,rw'⟩:=rv.two
 obtain ⟨t,rfl⟩:=ru
 obtain ⟨z,its,n,r,hl,e⟩:=I.lstM hH
 have h2:k < 2 ^ 63:=by
  have:(sizeLine:Int) < 2 ^ 63:=by decide
  lia
 have hfit:¬ (!Builtin.List.listFitsIndex k)=true:=by
  rw[fitsIndex_both (by lia) h2]
  exact Bool.false_ne_true
 refine call_meets F.slot_list_insert ⟨_,e,rfl⟩ F.entry_list_insert (F.args_list_insert_3 _ _ _) (AutoSeq1.list_insert_list_int_val_1 l its.toArray n k t w' hfit (by rw[size_toArray];lia)) ⟨e,?_⟩
 refine ⟨.non,_,I.lset (its':=its.take k.toNat++[w']++its.drop k.toNat) (ys:=xs.take k.toNat++[y]++xs.drop k.toNat) hH e ?_ (((r.take _).append (.cons rw' .nil)).append (r.drop _)) ?_,rfl,q⟩
 ·show (have k':=if k < 0 then (k+(its.toArray.size:Int)).toNat else min k.toNat its.toArray.size;(its.toArray.extract 0 k').push w'++its.toArray.extract k')=_
  have hk:(if k < 0 then (k+(its.toArray.size:Int)).toNat else min k.toNat its.toArray.size)=k.toNat:=by
   rw[if_neg (by lia),size_toArray];lia
  simp only[hk]
  apply Array.toList_inj.mp
  simp
  rw[List.take_of_length_le (by rw[length_drop];lia)]
 ·rw[length_append,length_append,length_take,length_drop,length_singleton];lia
theorem pm_insertK (K:W.Frag) (hK:X.K=K) {o e1 e2:Expr} {to t1 t2:TE} {apos cpos:Pos} (ho:PE X o to) (h1:PE X e1 t1) (h2:PE X e2 t2) (hs:starEach [e1,e2] X.env=[(false,eval e1 X.env),(false,eval e2 X.env)]) (hs2:starEach [e2] X.env=[(false,eval e2 X.env)]) (hbase:attributeBase o "insert" X.env (eval o X.env)=eval o X.env)
  (hfew:((backTo cpos (starEach [e1,e2] X.env)).all (λx=>!x.1)&&(backToKw cpos (keywordEach [] X.env)).all (λx=>x.1.isSome)
   && decide ([e1,e2].length+([]:List Keyword).length+(if ([]:List Keyword).isEmpty then 0 else 1) < 30))=true)
  (hline:(apos.endLine==cpos.line)=true):PE X (.Call (.Attribute o "insert" apos) [e1,e2] [] cpos) (tBM K "list" rInsert to (tCons t1 (tCons t2 tNil))):=by
 subst hK
 exact pe_bm PySem.F.plainAttrs_list PySem.F.slot_list_insert PySem.F.type_list_insert mt_insert ho (pa_cons h1 (pa_cons h2 pa_nil (by rw[hs2];rfl)) (by rw[hs,hs2])) hbase hfew hline (by rw[hs,hs2]) (by rw[hs2];rfl)
theorem qpm_insertK (K:W.Frag) (hK:X.K=K) {o e1 e2:Expr} {to t1 t2:TE} {apos cpos:Pos} (ho:QE X o to) (h1:QE X e1 t1) (h2:QE X e2 t2) (hs:starEach [e1,e2] X.env=[(false,eval e1 X.env),(false,eval e2 X.env)]) (hs2:starEach [e2] X.env=[(false,eval e2 X.env)]) (hbase:attributeBase o "insert" X.env (eval o X.env)=eval o X.env)
  (hfew:((backTo cpos (starEach [e1,e2] X.env)).all (λx=>!x.1)&&(backToKw cpos (keywordEach [] X.env)).all (λx=>x.1.isSome)
   && decide ([e1,e2].length+([]:List Keyword).length+(if ([]:List Keyword).isEmpty then 0 else 1) < 30))=true)
  (hline:(apos.endLine==cpos.line)=true):QE X (.Call (.Attribute o "insert" apos) [e1,e2] [] cpos) (tBM K "list" rInsert to (tCons t1 (tCons t2 tNil))):=⟨pm_insertK K hK ho.h h1.h h2.h hs hs2 hbase hfew hline⟩
end
def up (p i:Nat):Nat:=if i < p then i else i+1
theorem cut_lo {xs:List V} {p:Nat} (h:p<=xs.length):cutV xs none (some (p:Int))=xs.take p:=by
 unfold cutV
 have:HT.sIx xs.length xs.length (some (p:Int))=p:=by
  show (if (p:Int) < 0 then ((p:Int)+(xs.length:Int)).toNat else min ((p:Int)).toNat xs.length)=p
  rw[if_neg (by lia)];lia
 rw[this]
 show List.take (p - 0) (xs.drop 0)=_
 simp
theorem cut_hi {xs:List V} {p:Int} (h0:0<=p) (h:p<=xs.length):cutV xs (some p) none=xs.drop p.toNat:=by
 unfold cutV
 have:HT.sIx xs.length 0 (some p)=p.toNat:=by
  show (if p < 0 then (p+(xs.length:Int)).toNat else min p.toNat xs.length)=p.toNat
  rw[if_neg (by lia)];lia
 rw[this]
 show List.take (xs.length - p.toNat) (xs.drop p.toNat)=_
 rw[List.take_of_length_le (by rw[length_drop];lia)]
end L2
namespace DL
open PySem PySem.Spec PyProof.Rows L2
abbrev D:=PyData
def muO:HO->Bool
 | .lst _=>true
 | .dK _=>true
 | .dT _=>true
 | _=>false
abbrev MuS:={o:HO // muO o=true}
def Mu (H:Hp) (a:Addr):Prop:=∃ o:MuS,H a=some o.1
theorem Mu.lst {H:Hp} {a:Addr} {us:List V} (h:H a=some (.lst us)):Mu H a:=⟨⟨.lst us,rfl⟩,h⟩
theorem Mu.of {H:Hp} {a:Addr} {o:HO} (h:H a=some o) (m:muO o=true):Mu H a:=⟨⟨o,m⟩,h⟩
theorem Mu.no {H:Hp} {a:Addr} {o:HO} (h:Mu H a) (e:H a=some o) (n:muO o=false):False:=by
 obtain ⟨u,q⟩:=h
 rw[e] at q
 have q:=Option.some.inj q
 have m:=u.2
 rw[<-q,n] at m
 cases m
def keyV:Key->D
 | .inl i=>.int i
 | .inr x=>.str x
def valD:D->Option V
 | .none=>some .non
 | .bool b=>some (.bl b)
 | .int i=>some (.int i)
 | .str x=>some (.str x)
 | _=>Option.none
def DKps:List (Key × V)->List (D × D)->Prop
 | [],[]=>True
 | (k,v)::r,(d,e)::t=>d=keyV k/\valD e=some v/\DKps r t
 | _,_=>False
def DTps:List (List Key × V)->List (D × D)->Prop
 | [],[]=>True
 | (k,v)::r,(d,e)::t=>d=.tuple (k.map keyV)/\valD e=some v/\DTps r t
 | _,_=>False
def DctO:HO->Bool->List (D × D)->Prop
 | .dK kvs,false,kds=>DKps kvs kds
 | .dT kvs,true,kds=>DTps kvs kds
 | _,_,_=>False
def dctD (b:Bool) (kds:List (D × D)):D:=.dict ((.bool false,.bool b)::kds)
theorem DctO.mu {o:HO} {b:Bool} {kds:List (D × D)} (h:DctO o b kds):muO o=true:=by cases o<;>first|rfl|(cases b<;>exact h.elim)
mutual
inductive Dn (K:W.Frag) (H:Hp):V->D->Prop
 | non:Dn K H .non .none
 | bl (b):Dn K H (.bl b) (.bool b)
 | int (i):Dn K H (.int i) (.int i)
 | str (x):Dn K H (.str x) (.str x)
 | lst {a us ds}:H a=some (.lst us)->Dns K H us ds->Dn K H (.ref a) (.list ds)
 | tup {a us ds}:SqT K H a us->Dns K H us ds->Dn K H (.ref a) (.tuple ds)
 | scr {a} (ns:List Int):SqL K H a (ns.map V.int)->Dn K H (.ref a) (.dict [(.none,.list (ns.map .int))])
 | opq (a:Addr):Dn K H (.ref a) (.dict [(.bool true,.int (a:Nat))])
 | dct {a o b kds}:H a=some o->DctO o b kds->Dn K H (.ref a) (.dict ((.bool false,.bool b)::kds))
 | dcf {a kvs kds}:Rd H a (.dK kvs)->DKps kvs kds->Dn K H (.ref a) (.dict ((.int 0,.none)::kds))
 | dcl {a:Addr} {kvs:List (Key × V)} {kds:List (D × D)}:Rd H a (.dK kvs)->kds.map Prod.fst=kvs.map (λp=>keyV p.1)->Dns K H (kvs.map Prod.snd) (kds.map Prod.snd)->Dn K H (.ref a) (.dict ((.int 1,.none)::kds))
inductive Dns (K:W.Frag) (H:Hp):List V->List D->Prop
 | nil:Dns K H [] []
 | cons {v vs d ds}:Dn K H v d->Dns K H vs ds->Dns K H (v::vs) (d::ds)
end
theorem Dn.both {K:W.Frag} {H:Hp} {P:V->D->Prop} {Q:List V->List D->Prop} (c1:P .non .none) (c2:∀ b,P (.bl b) (.bool b)) (c3:∀ i,P (.int i) (.int i)) (c4:∀ x,P (.str x) (.str x))
  (c5:∀ {a us ds},H a=some (.lst us)->Q us ds->P (.ref a) (.list ds)) (c6:∀ {a us ds},SqT K H a us->Q us ds->P (.ref a) (.tuple ds)) (c7:∀ {a} (ns:List Int),SqL K H a (ns.map V.int)->P (.ref a) (.dict [(.none,.list (ns.map .int))]))
  (c8:∀ a:Addr,P (.ref a) (.dict [(.bool true,.int (a:Nat))])) (c9:∀ {a o b kds},H a=some o->DctO o b kds->P (.ref a) (.dict ((.bool false,.bool b)::kds))) (c10:∀ {a kvs kds},Rd H a (.dK kvs)->DKps kvs kds->P (.ref a) (.dict ((.int 0,.none)::kds))) (c11:∀ {a:Addr} {kvs:List (Key × V)} {kds:List (D × D)},Rd H a (.dK kvs)->kds.map Prod.fst=kvs.map (λp=>keyV p.1)->Q (kvs.map Prod.snd) (kds.map Prod.snd)->P (.ref a) (.dict ((.int 1,.none)::kds))) (n0:Q [] []) (n1:∀ {v vs d ds},P v d->Q vs ds->Q (v::vs) (d::ds)) :
  (∀ {v d},Dn K H v d->P v d)/\∀ {vs ds},Dns K H vs ds->Q vs ds :=
 ⟨λh=>Dn.rec (motive_1:=λv d _=>P v d) (motive_2:=λvs ds _=>Q vs ds) c1 c2 c3 c4 (λh _ r=>c5 h r) (λh _ r=>c6 h r) (λns h=>c7 ns h) c8 (λh r=>c9 h r) (λh r=>c10 h r) (λh e _ r=>c11 h e r) n0 (λ_ _ p q=>n1 p q) h,
  λh=>Dns.rec (motive_1:=λv d _=>P v d) (motive_2:=λvs ds _=>Q vs ds) c1 c2 c3 c4 (λh _ r=>c5 h r) (λh _ r=>c6 h r) (λns h=>c7 ns h) c8 (λh r=>c9 h r) (λh r=>c10 h r) (λh e _ r=>c11 h e r) n0 (λ_ _ p q=>n1 p q) h⟩
theorem Dn.same2 {K:W.Frag} {H H':Hp} (e:Same H H'):(∀ {v d},Dn K H v d->Dn K H' v d)/\∀ {vs ds},Dns K H vs ds->Dns K H' vs ds :=
 Dn.both .non .bl .int .str (λh r=>.lst (e _ _ h) r) (λh r=>.tup (e.tup h) r) (λns h=>.scr ns (e.seq h)) .opq (λh r=>.dct (e _ _ h) r) (λh r=>.dcf (h.elim (λh=>.inl (e _ _ h)) λ⟨o,h⟩=>.inr ⟨o,e _ _ h⟩) r) (λh g r=>.dcl (h.elim (λh=>.inl (e _ _ h)) λ⟨o,h⟩=>.inr ⟨o,e _ _ h⟩) g r) .nil λp q=>.cons p q
theorem Dn.same {K:W.Frag} {H H':Hp} (e:Same H H') {v:V} {d:D} (h:Dn K H v d):Dn K H' v d:=(Dn.same2 e).1 h
theorem Dns.same {K:W.Frag} {H H':Hp} (e:Same H H') {vs:List V} {ds:List D} (h:Dns K H vs ds):Dns K H' vs ds:=(Dn.same2 e).2 h
theorem Dn.deep2 {K:W.Frag} {H:Hp}:(∀ {v d},Dn K H v d->d.canLay0=true->Den K H v d)/\∀ {vs ds},Dns K H vs ds->PyData.canLayAll0 ds=true->Dens K H vs ds :=
 Dn.both (λ_=>.non) (λb _=>.bl b) (λb _=>.int b) (λb _=>.str b) (λh r q=>.lst (SqL.of h) (r (by simpa [PyData.canLay0] using q))) (λh r q=>.tup h (r (by simpa [PyData.canLay0] using q)))
  (λns h q=>by simp[PyData.canLay0] at q) (λa q=>by simp[PyData.canLay0] at q) (λh r q=>by simp[PyData.canLay0] at q) (λh r q=>by simp[PyData.canLay0] at q) (λh g r q=>by simp[PyData.canLay0] at q) (λ_=>.nil) λp r q=>by
  simp only[PyData.canLayAll0,Bool.and_eq_true] at q
  exact .cons (p q.1) (r q.2)
theorem Dn.deep {K:W.Frag} {H:Hp} {v:V} {d:D} (h:Dn K H v d) (q:d.canLay0=true):Den K H v d:=Dn.deep2.1 h q
theorem Dns.deep {K:W.Frag} {H:Hp} {vs:List V} {ds:List D} (h:Dns K H vs ds) (q:PyData.canLayAll0 ds=true):Dens K H vs ds:=Dn.deep2.2 h q
theorem Dns.length {K:W.Frag} {H:Hp}:∀ {vs ds},Dns K H vs ds->vs.length=ds.length
 | _,_,.nil=>rfl
 | _,_,.cons _ r=>by rw[length_cons,length_cons,Dns.length r]
theorem Dns.get {K:W.Frag} {H:Hp}:∀ {vs ds} {i:Nat} {d:D},Dns K H vs ds->ds[i]?=some d->∃ v,vs[i]?=some v/\Dn K H v d
 | _,_,0,_,.cons h r,e=>by simp at e;subst e;exact ⟨_,rfl,h⟩
 | _,_,i+1,d,.cons h r,e=>by simp at e ⊢;exact Dns.get r e
theorem Dns.append {K:W.Frag} {H:Hp}:∀ {vs ds us es},Dns K H vs ds->Dns K H us es->Dns K H (vs++us) (ds++es)
 | _,_,_,_,.nil,q=>q
 | _,_,_,_,.cons h r,q=>.cons h (Dns.append r q)
mutual
inductive Ow (K:W.Frag) (H:Hp):V->D->List Addr->Prop
 | non:Ow K H .non .none []
 | bl (b):Ow K H (.bl b) (.bool b) []
 | int (i):Ow K H (.int i) (.int i) []
 | str (x):Ow K H (.str x) (.str x) []
 | lst {a us ds ns}:H a=some (.lst us)->Ows K H us ds ns->Ow K H (.ref a) (.list ds) (a::ns)
 | tup {a us ds ns}:SqT K H a us->Ows K H us ds ns->Ow K H (.ref a) (.tuple ds) ns
 | dct {a o b kds}:H a=some o->DctO o b kds->Ow K H (.ref a) (.dict ((.bool false,.bool b)::kds)) [a]
inductive Ows (K:W.Frag) (H:Hp):List V->List D->List Addr->Prop
 | nil:Ows K H [] [] []
 | cons {v vs d ds ns ms}:Ow K H v d ns->Ows K H vs ds ms->Ows K H (v::vs) (d::ds) (ns++ms)
end
theorem Ow.both {K:W.Frag} {H:Hp} {P:V->D->List Addr->Prop} {Q:List V->List D->List Addr->Prop} (c1:P .non .none []) (c2:∀ b,P (.bl b) (.bool b) []) (c3:∀ i,P (.int i) (.int i) []) (c4:∀ x,P (.str x) (.str x) [])
  (c5:∀ {a us ds ns},H a=some (.lst us)->Q us ds ns->P (.ref a) (.list ds) (a::ns)) (c6:∀ {a us ds ns},SqT K H a us->Q us ds ns->P (.ref a) (.tuple ds) ns)
  (c9:∀ {a o b kds},H a=some o->DctO o b kds->P (.ref a) (.dict ((.bool false,.bool b)::kds)) [a]) (n0:Q [] [] []) (n1:∀ {v vs d ds ns ms},P v d ns->Q vs ds ms->Q (v::vs) (d::ds) (ns++ms)) :
  (∀ {v d ns},Ow K H v d ns->P v d ns)/\∀ {vs ds ns},Ows K H vs ds ns->Q vs ds ns :=
 ⟨λh=>Ow.rec (motive_1:=λv d ns _=>P v d ns) (motive_2:=λvs ds ns _=>Q vs ds ns) c1 c2 c3 c4 (λh _ r=>c5 h r) (λh _ r=>c6 h r) (λh r=>c9 h r) n0 (λ_ _ p q=>n1 p q) h,
  λh=>Ows.rec (motive_1:=λv d ns _=>P v d ns) (motive_2:=λvs ds ns _=>Q vs ds ns) c1 c2 c3 c4 (λh _ r=>c5 h r) (λh _ r=>c6 h r) (λh r=>c9 h r) n0 (λ_ _ p q=>n1 p q) h⟩
theorem Ow.den2 {K:W.Frag} {H:Hp}:(∀ {v d ns},Ow K H v d ns->Dn K H v d)/\∀ {v d ns},Ows K H v d ns->Dns K H v d :=
 Ow.both .non .bl .int .str (λh r=>.lst h r) (λh r=>.tup h r) (λh r=>.dct h r) .nil λp q=>.cons p q
theorem Ow.den {K:W.Frag} {H:Hp} {v:V} {d:D} {ns:List Addr} (h:Ow K H v d ns):Dn K H v d:=Ow.den2.1 h
theorem Ows.den {K:W.Frag} {H:Hp} {v:List V} {d:List D} {ns:List Addr} (h:Ows K H v d ns):Dns K H v d:=Ow.den2.2 h
theorem Ow.there2 {K:W.Frag} {H:Hp}:(∀ {v d ns},Ow K H v d ns->∀ a∈ns,Mu H a)/\∀ {v d ns},Ows K H v d ns->∀ a∈ns,Mu H a :=
 Ow.both (P:=λ_ _ ns=>∀ a∈ns,Mu H a) (Q:=λ_ _ ns=>∀ a∈ns,Mu H a) (λ_ z=>nomatch z) (λ_ _ z=>nomatch z) (λ_ _ z=>nomatch z) (λ_ _ z=>nomatch z) (λh r a ha=>(mem_cons.mp ha).elim (λe=>e ▸ .lst h) (r a)) (λ_ r=>r)
  (λh r a ha=>mem_singleton.mp ha ▸ .of h r.mu) (λ_ z=>nomatch z) λp q a ha=>(mem_append.mp ha).elim (p a) (q a)
theorem Ow.there {K:W.Frag} {H:Hp} {v:V} {d:D} {ns:List Addr} (h:Ow K H v d ns):∀ a∈ns,Mu H a:=Ow.there2.1 h
theorem Ows.there {K:W.Frag} {H:Hp} {v:List V} {d:List D} {ns:List Addr} (h:Ows K H v d ns):∀ a∈ns,Mu H a:=Ow.there2.2 h
def Kept (ns:List Addr) (H H':Hp):Prop:=(∀ a∈ns,H' a=H a)/\∀ a o,H a=some o->muO o=false->H' a=some o
theorem Kept.sqt {K:W.Frag} {ns:List Addr} {H H':Hp} (k:Kept ns H H') {a:Addr} {us:List V} (h:SqT K H a us):SqT K H' a us:=by
 rcases h with (h|⟨o,h⟩)|h
 ·exact .inl (.inl (k.2 _ _ h rfl))
 ·exact .inl (.inr ⟨o,k.2 _ _ h rfl⟩)
 ·exact .inr h
theorem Ow.kept2 {K:W.Frag} {H H':Hp}:(∀ {v d ns},Ow K H v d ns->Kept ns H H'->Ow K H' v d ns)/\∀ {v d ns},Ows K H v d ns->Kept ns H H'->Ows K H' v d ns :=
 Ow.both (P:=λv d ns=>Kept ns H H'->Ow K H' v d ns) (Q:=λv d ns=>Kept ns H H'->Ows K H' v d ns) (λ_=>.non) (λb _=>.bl b) (λb _=>.int b) (λb _=>.str b) (λh r k=>.lst ((k.1 _ mem_cons_self).trans h) (r ⟨λa ha=>k.1 a (mem_cons_of_mem _ ha),k.2⟩))
  (λh r k=>.tup (k.sqt h) (r k)) (λh r k=>.dct ((k.1 _ mem_cons_self).trans h) r) (λ_=>.nil) λp q k=>.cons (p ⟨λa ha=>k.1 a (mem_append_left _ ha),k.2⟩) (q ⟨λa ha=>k.1 a (mem_append_right _ ha),k.2⟩)
theorem Ow.kept {K:W.Frag} {H H':Hp} {v:V} {d:D} {ns:List Addr} (h:Ow K H v d ns) (k:Kept ns H H'):Ow K H' v d ns:=Ow.kept2.1 h k
theorem Ows.kept {K:W.Frag} {H H':Hp} {v:List V} {d:List D} {ns:List Addr} (h:Ows K H v d ns) (k:Kept ns H H'):Ows K H' v d ns:=Ow.kept2.2 h k
theorem Ow.same2 {K:W.Frag} {H H':Hp} (e:Same H H'):(∀ {v d ns},Ow K H v d ns->Ow K H' v d ns)/\∀ {v d ns},Ows K H v d ns->Ows K H' v d ns :=
 Ow.both .non .bl .int .str (λh r=>.lst (e _ _ h) r) (λh r=>.tup (e.tup h) r) (λh r=>.dct (e _ _ h) r) .nil λp q=>.cons p q
theorem Ow.same {K:W.Frag} {H H':Hp} (e:Same H H') {v:V} {d:D} {ns:List Addr} (h:Ow K H v d ns):Ow K H' v d ns:=(Ow.same2 e).1 h
theorem Ows.same {K:W.Frag} {H H':Hp} (e:Same H H') {v:List V} {d:List D} {ns:List Addr} (h:Ows K H v d ns):Ows K H' v d ns:=(Ow.same2 e).2 h
mutual
def flat:D->Bool
 | .none=>true
 | .bool _=>true
 | .int _=>true
 | .str _=>true
 | .list _=>false
 | .tuple ds=>flats ds
 | .dict _=>false
def flats:List D->Bool
 | []=>true
 | d::ds=>flat d&&flats ds
end
theorem ow_flat2 {K:W.Frag} {H:Hp}:(∀ {v d},Dn K H v d->flat d=true->Ow K H v d [])/\∀ {v d},Dns K H v d->flats d=true->Ows K H v d [] :=
 Dn.both (λ_=>.non) (λb _=>.bl b) (λb _=>.int b) (λb _=>.str b) (λ_ _ h=>nomatch h) (λh r q=>.tup h (r q)) (λ_ _ h=>nomatch h) (λ_ h=>nomatch h) (λ_ _ h=>nomatch h) (λ_ _ h=>nomatch h) (λ_ _ _ h=>nomatch h) (λ_=>.nil) λp r q=>by
  rw[flats,Bool.and_eq_true] at q
  exact .cons (ns:=[]) (ms:=[]) (p q.1) (r q.2)
theorem ow_flat {K:W.Frag} {H:Hp} {v:V} {d:D} (h:Dn K H v d) (q:flat d=true):Ow K H v d []:=ow_flat2.1 h q
theorem ows_flat {K:W.Frag} {H:Hp} {v:List V} {d:List D} (h:Dns K H v d) (q:flats d=true):Ows K H v d []:=ow_flat2.2 h q
theorem den_kept2 {K:W.Frag} {H H':Hp} (k:∀ a o,H a=some o->muO o=false->H' a=some o):(∀ {v d},Dn K H v d->flat d=true->Dn K H' v d)/\∀ {v d},Dns K H v d->flats d=true->Dns K H' v d :=
 Dn.both (λ_=>.non) (λb _=>.bl b) (λb _=>.int b) (λb _=>.str b) (λ_ _ h=>nomatch h) (λh r q=>.tup (Kept.sqt (ns:=[]) ⟨λ_ z=>(by cases z),k⟩ h) (r q)) (λ_ _ h=>nomatch h) (λ_ h=>nomatch h) (λ_ _ h=>nomatch h) (λ_ _ h=>nomatch h) (λ_ _ _ h=>nomatch h) (λ_=>.nil) λp r q=>by
  rw[flats,Bool.and_eq_true] at q
  exact .cons (p q.1) (r q.2)
theorem den_kept {K:W.Frag} {H H':Hp} (k:∀ a o,H a=some o->muO o=false->H' a=some o) {v:V} {d:D} (h:Dn K H v d) (q:flat d=true):Dn K H' v d:=(den_kept2 k).1 h q
theorem dens_kept {K:W.Frag} {H H':Hp} (k:∀ a o,H a=some o->muO o=false->H' a=some o) {v:List V} {d:List D} (h:Dns K H v d) (q:flats d=true):Dns K H' v d:=(den_kept2 k).2 h q
open Classical in
noncomputable def hid (Z:Addr->Prop) (H:Hp):Hp:=λa=>if Z a then none else H a
theorem hid_of {Z:Addr->Prop} {H:Hp} {a:Addr} {o:HO} (h:H a=some o) (z:¬ Z a):hid Z H a=some o:=by unfold hid;rw[if_neg z];exact h
theorem of_hid {Z:Addr->Prop} {H:Hp} {a:Addr} {o:HO} (h:hid Z H a=some o):H a=some o/\¬ Z a:=by
 unfold hid at h
 split at h
 ·cases h
 ·exact ⟨h,‹_›⟩
theorem hid_same {Z:Addr->Prop} {H:Hp}:Same (hid Z H) H:=λ_ _ h=>(of_hid h).1
theorem hid_mono {Z:Addr->Prop} {H H':Hp} (e:Same H H'):Same (hid Z H) (hid Z H'):=λb o h=>hid_of (e b o (of_hid h).1) (of_hid h).2
theorem hid_less {Z Z':Addr->Prop} {H:Hp} (h:∀ a,Z' a->Z a):Same (hid Z H) (hid Z' H):=λb o e=>hid_of (of_hid e).1 λz=>(of_hid e).2 (h b z)
theorem den_hid {K:W.Frag} {Z:Addr->Prop} {H:Hp} {v:V} {d:D} (hl:∀ a,Z a->Mu H a) (h:Dn K H v d) (hf:flat d=true):Dn K (hid Z H) v d :=
 den_kept (λa o e n=>hid_of e λz=>(hl a z).no e n) h hf
theorem ow_hid2 {K:W.Frag} {Z:Addr->Prop} {H:Hp} (hl:∀ a,Z a->Mu H a):(∀ {v d ns},Ow K H v d ns->(∀ a∈ns,¬ Z a)->Dn K (hid Z H) v d)/\∀ {v d ns},Ows K H v d ns->(∀ a∈ns,¬ Z a)->Dns K (hid Z H) v d :=
 Ow.both (P:=λv d ns=>(∀ a∈ns,¬ Z a)->Dn K (hid Z H) v d) (Q:=λv d ns=>(∀ a∈ns,¬ Z a)->Dns K (hid Z H) v d) (λ_=>.non) (λb _=>.bl b) (λb _=>.int b) (λb _=>.str b) (λh r k=>.lst (hid_of h (k _ mem_cons_self)) (r λa ha=>k a (mem_cons_of_mem _ ha)))
  (λh r k=>.tup (Kept.sqt (ns:=[]) ⟨λ_ z=>(by cases z),λa o e n=>hid_of e λz=>(hl a z).no e n⟩ h) (r k)) (λh r k=>.dct (hid_of h (k _ mem_cons_self)) r) (λ_=>.nil) λp q k=>.cons (p λa ha=>k a (mem_append_left _ ha)) (q λa ha=>k a (mem_append_right _ ha))
theorem ow_hid {K:W.Frag} {Z:Addr->Prop} {H:Hp} (hl:∀ a,Z a->Mu H a) {v:V} {d:D} {ns:List Addr} (h:Ow K H v d ns) (k:∀ a∈ns,¬ Z a):Dn K (hid Z H) v d:=(ow_hid2 hl).1 h k
theorem ows_hid {K:W.Frag} {Z:Addr->Prop} {H:Hp} (hl:∀ a,Z a->Mu H a) {v:List V} {d:List D} {ns:List Addr} (h:Ows K H v d ns) (k:∀ a∈ns,¬ Z a):Dns K (hid Z H) v d:=(ow_hid2 hl).2 h k
abbrev Ren:=List (Option (Bool × D))
def Z0:Addr->Prop:=λ_=>False
def Hd (Z:Addr->Prop) (ν:Nat->List Addr):Addr->Prop:=λa=>Z a\/∃ i,a∈ν i
structure StOk (K:W.Frag) (Z:Addr->Prop) (H0:Hp) (ν:Nat->List Addr) (ρ:Ren) (σ:L2.St) (H:Hp):Prop where
 sm:Same H0 H
 len:σ.length=ρ.length
 sl:∀ i b d,ρ[i]?=some (some (b,d))->∃ v,σ[i]?=some (some v)/\if b=true then Ow K H v d (ν i) else Dn K (hid (Hd Z ν) H) v d
 nd:∀ i,(ν i).Nodup
 dj:∀ i j a,a∈ν i->a∈ν j->i=j
 fr:∀ i a,a∈ν i->H0 a=none/\¬ Z a/\Mu H a
 zf:∀ a,Z a->H0 a=none/\Mu H a
section
variable {K:W.Frag} {Z:Addr->Prop} {H0 H H':Hp} {ν:Nat->List Addr} {ρ:Ren} {σ:L2.St} {v:V} {d:D}
theorem StOk.hl (S:StOk K Z H0 ν ρ σ H):∀ a,Hd Z ν a->Mu H a:=λa h=>by
 rcases h with h|⟨i,h⟩
 ·exact (S.zf a h).2
 ·exact (S.fr i a h).2.2
theorem StOk.same (S:StOk K Z H0 ν ρ σ H) (e:Same H H'):StOk K Z H0 ν ρ σ H' where
 sm:=S.sm.trans e
 len:=S.len
 sl:=λi b d h=>by
  obtain ⟨v,h1,h2⟩:=S.sl i b d h
  refine ⟨v,h1,?_⟩
  cases b with
  | true=>exact Ow.same e h2
  | false=>exact Dn.same (hid_mono e) h2
 nd:=S.nd
 dj:=S.dj
 fr:=λi a h=>by obtain ⟨h1,h2,us,h3⟩:=S.fr i a h;exact ⟨h1,h2,us,e _ _ h3⟩
 zf:=λa h=>by obtain ⟨h1,us,h3⟩:=S.zf a h;exact ⟨h1,us,e _ _ h3⟩
theorem set_get {α:Type} {l:List α} {i j:Nat} {x y:α} (h:(l.set i x)[j]?=some y):(j=i/\y=x/\i < l.length)\/(j≠i/\l[j]?=some y):=by
 rw[List.getElem?_set] at h
 split at h
 ·split at h
  ·cases h;exact .inl ⟨by lia,rfl,by lia⟩
  ·cases h
 ·exact .inr ⟨by lia,h⟩
theorem StOk.setOld (S:StOk K Z H0 ν ρ σ H) (i:Nat) (h:Dn K (hid (Hd Z ν) H) v d):StOk K Z H0 ν (ρ.set i (some (false,d))) (σ.set i (some v)) H where
 sm:=S.sm
 len:=by rw[length_set,length_set];exact S.len
 sl:=λj b e hj=>by
  rcases set_get hj with ⟨rfl,h1,h2⟩|⟨h1,h2⟩
  ·cases h1
   exact ⟨v,by rw[List.getElem?_set_self (by rw[S.len];exact h2)],h⟩
  ·obtain ⟨u,q1,q2⟩:=S.sl j b e h2
   exact ⟨u,by rw[List.getElem?_set_ne (Ne.symm h1)];exact q1,q2⟩
 nd:=S.nd
 dj:=S.dj
 fr:=S.fr
 zf:=S.zf
def dropS (ρ:Ren):List Nat->Ren
 | []=>ρ
 | i::r=>dropS (ρ.set i none) r
theorem dropS_len:∀ (s:List Nat) (ρ:Ren),(dropS ρ s).length=ρ.length
 | [],_=>rfl
 | i::r,ρ=>by unfold dropS;rw[dropS_len r,length_set]
theorem dropS_get:∀ (s:List Nat) {ρ:Ren} {i:Nat} {x:Bool × D},(dropS ρ s)[i]?=some (some x)->i∉s/\ρ[i]?=some (some x)
 | [],_,_,_,h=>⟨by simp,h⟩
 | j::r,ρ,i,x,h=>by
  obtain ⟨h1,h2⟩:=dropS_get r h
  rcases set_get h2 with ⟨rfl,q,_⟩|⟨q1,q2⟩
  ·cases q
  ·exact ⟨by simp[h1,q1],q2⟩
theorem StOk.setOwn (S:StOk K Z H0 ν ρ σ H) (s:List Nat) (i:Nat) {ms:List Addr} (e:Same H H') (h:Ow K H' v d ms) (nd:ms.Nodup) (fr:∀ a∈ms,H a=none\/∃ j∈s,a∈ν j) :
  StOk K Z H0 (λj=>if j=i then ms else if j∈s then [] else ν j) ((dropS ρ s).set i (some (true,d))) (σ.set i (some v)) H' where
 sm:=S.sm.trans e
 len:=by rw[length_set,length_set,dropS_len];exact S.len
 sl:=λj b c hj=>by
  rcases set_get hj with ⟨rfl,h1,h2⟩|⟨h1,h2⟩
  ·cases h1
   exact ⟨v,by rw[List.getElem?_set_self (by rw[S.len];rw[dropS_len] at h2;exact h2)],by rw[if_pos rfl];rw[if_pos rfl];exact h⟩
  ·obtain ⟨h3,h4⟩:=dropS_get s h2
   obtain ⟨u,q1,q2⟩:=S.sl j b c h4
   refine ⟨u,by rw[List.getElem?_set_ne (Ne.symm h1)];exact q1,?_⟩
   cases b with
   | true =>
    rw[if_pos rfl,if_neg h1,if_neg h3]
    exact Ow.same e q2
   | false =>
    refine Dn.same (λa o ha=>?_) q2
    obtain ⟨g1,g2⟩:=of_hid ha
    refine hid_of (e _ _ g1) λz=>?_
    rcases z with z|⟨k,z⟩
    ·exact g2 (.inl z)
    ·dsimp only at z
     split at z
     ·rcases fr a z with z|⟨l,_,z⟩
      ·rw[g1] at z;cases z
      ·exact g2 (.inr ⟨l,z⟩)
     ·split at z
      ·cases z
      ·exact g2 (.inr ⟨k,z⟩)
 nd:=λj=>by
  split
  ·exact nd
  ·split
   ·exact nodup_nil
   ·exact S.nd j
 dj:=λj k a hj hk=>by
  have key:∀ l,l∉s->a∈ν l->a∉ms:=λl hl ha hm=>by
   rcases fr a hm with z|⟨m,hm,z⟩
   ·obtain ⟨_,_,us,q⟩:=S.fr l a ha
    rw[z] at q;cases q
   ·rw[S.dj l m a ha z] at hl;exact hl hm
  split at hj
  ·split at hk
   ·lia
   ·split at hk
    ·cases hk
    ·exact absurd hj (key k ‹_› hk)
  ·split at hj
   ·cases hj
   ·split at hk
    ·exact absurd hk (key j ‹_› hj)
    ·split at hk
     ·cases hk
     ·exact S.dj j k a hj hk
 fr:=λj a ha=>by
  split at ha
  ·have ht:=h.there a ha
   rcases fr a ha with z|⟨m,_,z⟩
   ·exact ⟨S.sm.gone z,(λq=>by obtain ⟨_,us,q⟩:=S.zf a q;rw[z] at q;cases q),ht⟩
   ·obtain ⟨q1,q2,us,q3⟩:=S.fr m a z
    exact ⟨q1,q2,us,e _ _ q3⟩
  ·split at ha
   ·cases ha
   ·obtain ⟨q1,q2,us,q3⟩:=S.fr j a ha
    exact ⟨q1,q2,us,e _ _ q3⟩
 zf:=λa h=>by obtain ⟨h1,us,h3⟩:=S.zf a h;exact ⟨h1,us,e _ _ h3⟩
def frz (ρ:Ren):Ren:=ρ.map λx=>x.map λy=>(false,y.2)
theorem frz_get {ρ:Ren} {i:Nat} {b:Bool} {d:D} (h:(frz ρ)[i]?=some (some (b,d))):b=false/\∃ c,ρ[i]?=some (some (c,d)):=by
 unfold frz at h
 rw[List.getElem?_map] at h
 cases q:ρ[i]? with
 | none=>rw[q] at h;cases h
 | some x =>
  rw[q] at h
  cases x with
  | none=>cases h
  | some y=>cases h;exact ⟨rfl,y.1,rfl⟩
theorem StOk.frz (S:StOk K Z H0 ν ρ σ H):StOk K Z H0 (λ_=>[]) (frz ρ) σ H where
 sm:=S.sm
 len:=by unfold DL.frz;rw[length_map];exact S.len
 sl:=λi b d h=>by
  obtain ⟨rfl,c,h⟩:=frz_get h
  obtain ⟨v,h1,h2⟩:=S.sl i c d h
  refine ⟨v,h1,?_⟩
  have hl:∀ a,Hd Z (λ_=>[]) a->Mu H a:=λa z=>by
   rcases z with z|⟨_,z⟩
   ·exact (S.zf a z).2
   ·cases z
  cases c with
  | true =>
   refine ow_hid hl h2 λa ha z=>?_
   rcases z with z|⟨_,z⟩
   ·exact (S.fr i a ha).2.1 z
   ·cases z
  | false=>exact Dn.same (hid_less λa z=>by rcases z with z|⟨_,z⟩;exact .inl z;cases z) h2
 nd:=λ_=>nodup_nil
 dj:=λ_ _ _ z=>by cases z
 fr:=λ_ _ z=>by cases z
 zf:=S.zf
def frz1 (i:Nat) (ρ:Ren):Ren:=match ρ[i]? with
 | some (some (_,d))=>ρ.set i (some (false,d))
 | _=>ρ
theorem StOk.frz1 (S:StOk K Z H0 ν ρ σ H) (i:Nat):StOk K Z H0 (λj=>if j=i then [] else ν j) (frz1 i ρ) σ H:=by
 have hl:∀ a,Hd Z (λj=>if j=i then [] else ν j) a->Hd Z ν a:=λa z=>by
  rcases z with z|⟨j,z⟩
  ·exact .inl z
  ·dsimp only at z
   split at z
   ·cases z
   ·exact .inr ⟨j,z⟩
 have sl:∀ j b d,ρ[j]?=some (some (b,d))->j≠i->∃ v,σ[j]?=some (some v)/\if b=true then Ow K H v d (if j=i then [] else ν j) else Dn K (hid (Hd Z λj=>if j=i then [] else ν j) H) v d:=λj b d h hj=>by
  obtain ⟨v,h1,h2⟩:=S.sl j b d h
  refine ⟨v,h1,?_⟩
  rw[if_neg hj]
  cases b with
  | true=>exact h2
  | false=>exact Dn.same (hid_less hl) h2
 refine ⟨S.sm,?_,?_,λj=>?_,λj k a hj hk=>?_,λj a ha=>?_,S.zf⟩
 ·unfold DL.frz1
  split
  ·rw[length_set];exact S.len
  ·exact S.len
 ·intro j b d h
  unfold DL.frz1 at h
  split at h
  case h_1 x b' d' e =>
   rcases set_get h with ⟨rfl,h1,h2⟩|⟨h1,h2⟩
   ·cases h1
    obtain ⟨v,h1,h2⟩:=S.sl j b' d e
    refine ⟨v,h1,?_⟩
    cases b' with
    | true =>
     refine ow_hid (λa z=>S.hl a (hl a z)) h2 λa ha z=>?_
     rcases z with z|⟨k,z⟩
     ·exact (S.fr j a ha).2.1 z
     ·dsimp only at z
      split at z
      ·cases z
      ·exact absurd (S.dj _ _ _ z ha) ‹_›
    | false=>exact Dn.same (hid_less hl) h2
   ·exact sl j b d h2 h1
  case h_2 e =>
   by_cases hj:j=i
   ·subst hj;exact absurd h (λq=>e _ _ q)
   ·exact sl j b d h hj
 ·skip
  split
  ·exact nodup_nil
  ·exact S.nd j
 ·skip
  split at hj
  ·cases hj
  ·split at hk
   ·cases hk
   ·exact S.dj _ _ _ hj hk
 ·skip
  split at ha
  ·cases ha
  ·exact S.fr _ _ ha
end
inductive Kd where
 | own (s:List Nat)
 | old
 | mix
def Res (K:W.Frag) (Z:Addr->Prop) (ν:Nat->List Addr) (H H':Hp):Kd->V->D->Prop
 | .own s,v,d=>∃ ms,Ow K H' v d ms/\ms.Nodup/\∀ a∈ms,H a=none\/∃ j∈s,a∈ν j
 | .old,v,d=>Dn K (hid (Hd Z ν) H') v d
 | .mix,v,d=>Dn K H' v d
section
variable {K:W.Frag} {Z:Addr->Prop} {H H1 H':Hp} {ν:Nat->List Addr} {v:V} {d:D} {k:Kd}
theorem Res.den (h:Res K Z ν H H' k v d):Dn K H' v d:=by
 cases k with
 | own s=>obtain ⟨ms,h,_⟩:=h;exact h.den
 | old=>exact Dn.same hid_same h
 | mix=>exact h
theorem Res.same (h:Res K Z ν H H1 k v d) (e:Same H1 H'):Res K Z ν H H' k v d:=by
 cases k with
 | own s=>obtain ⟨ms,h,r⟩:=h;exact ⟨ms,h.same e,r⟩
 | old=>exact Dn.same (hid_mono e) h
 | mix=>exact Dn.same e h
theorem Res.later (h:Res K Z ν H1 H' k v d) (e:Same H H1):Res K Z ν H H' k v d:=by
 cases k with
 | own s =>
  obtain ⟨ms,h,r,f⟩:=h
  exact ⟨ms,h,r,λa ha=>by rcases f a ha with z|z;exact .inl (e.gone z);exact .inr z⟩
 | old=>exact h
 | mix=>exact h
theorem Res.flat (h:Dn K H' v d) (hf:DL.flat d=true) (hl:∀ a,Hd Z ν a->Mu H' a) (k:Kd):Res K Z ν H H' k v d:=by
 cases k with
 | own s=>exact ⟨[],ow_flat h hf,nodup_nil,λ_ z=>by cases z⟩
 | old=>exact den_hid hl h hf
 | mix=>exact h
end
abbrev QD:=D->Kd->Prop
abbrev XD:=Addr->Prop
abbrev TD:=Ren->QD->XD->Prop
abbrev TDT:=Ren->(Bool->Prop)->XD->Prop
abbrev TDA:=Ren->(List D->Kd->Prop)->XD->Prop
def RsL (K:W.Frag) (Z:Addr->Prop) (ν:Nat->List Addr) (H H':Hp):Kd->List V->List D->Prop
 | .own s,v,d=>∃ ms,Ows K H' v d ms/\ms.Nodup/\∀ a∈ms,H a=none\/∃ j∈s,a∈ν j
 | .old,v,d=>Dns K (hid (Hd Z ν) H') v d
 | .mix,v,d=>Dns K H' v d
def LE (K:W.Frag) (E:XK) (t:TD):TE:=λσ H Q=>∃ H0 ν ρ Qd Xd,StOk K Z0 H0 ν ρ σ H/\t ρ Qd Xd/\(∀ d k v H',Qd d k->Same H H'->Res K Z0 ν H H' k v d->Q v H')/\∀ C H',Xd C->Same H0 H'->E (.ref C) none H'
def LT (K:W.Frag) (E:XK) (t:TDT):TT:=λσ H Q=>∃ H0 ν ρ Qd Xd,StOk K Z0 H0 ν ρ σ H/\t ρ Qd Xd/\(∀ b H',Qd b->Same H H'->Q b H')/\∀ C H',Xd C->Same H0 H'->E (.ref C) none H'
def LA (K:W.Frag) (E:XK) (t:TDA):TA:=λσ H Q=>∃ H0 ν ρ Qd Xd,StOk K Z0 H0 ν ρ σ H/\t ρ Qd Xd/\(∀ ds k vs H',Qd ds k->Same H H'->RsL K Z0 ν H H' k vs ds->Q vs H')/\∀ C H',Xd C->Same H0 H'->E (.ref C) none H'
structure DE (X:Cx) (K:W.Frag) (E:XK) (e:Expr) (t:TD):Prop where
 q:QE X e (LE K E t)
structure DT (X:Cx) (K:W.Frag) (E:XK) (e:Expr) (t:TDT):Prop where
 q:QT X e (LT K E t)
structure DW (X:Cx) (K:W.Frag) (E:XK) (e:Expr) (t:TDT):Prop where
 q:QW X e (LT K E t)
structure DA (X:Cx) (K:W.Frag) (E:XK) (e:List Expr) (t:TDA):Prop where
 q:QA X e (LA K E t)
theorem qe_imp {X:Cx} {e:Expr} {t t':TE} (h:QE X e t) (i:∀ σ H Q,t' σ H Q->t σ H Q):QE X e t':=⟨λpins s σ H Q I w=>h.h pins s σ H Q I (i σ H Q w)⟩
theorem qt_imp {X:Cx} {e:Expr} {t t':TT} (h:QT X e t) (i:∀ σ H Q,t' σ H Q->t σ H Q):QT X e t':=⟨λpins s σ H Q I w=>h.h pins s σ H Q I (i σ H Q w)⟩
theorem qw_imp {X:Cx} {e:Expr} {t t':TT} (h:QW X e t) (i:∀ σ H Q,t' σ H Q->t σ H Q):QW X e t':=⟨λwh pins s σ H Q I w=>h.h wh pins s σ H Q I (i σ H Q w)⟩
theorem qa_imp {X:Cx} {e:List Expr} {t t':TA} (h:QA X e t) (i:∀ σ H Q,t' σ H Q->t σ H Q):QA X e t':=⟨λpos pins s σ H Q I w=>h.h pos pins s σ H Q I (i σ H Q w)⟩
theorem qs_imp {X:Cx} {e:Stmt} {t t':TS} (h:QS X e t) (i:∀ D σ H,t' D σ H->t D σ H):QS X e t':=⟨λpins s σ H D I w=>h.h pins s σ H D I (i D σ H w)⟩
theorem qss_imp {X:Cx} {e:List Stmt} {t t':TS} (h:QSs X e t) (i:∀ D σ H,t' D σ H->t D σ H):QSs X e t':=⟨λpins s σ H D I w=>h.h pins s σ H D I (i D σ H w)⟩
section
variable {X:Cx} {K:W.Frag} {E:XK} {pos:Pos}
def dVar (i:Nat):TD:=λρ Q _=>∃ b d,ρ[i]?=some (some (b,d))/\Q d (if b=true then .own [i] else .old)
theorem dpv (i:Nat) {x:Str} (hN:X.N[i]?=some x:=by rfl) (hv:Vis X.env.scope x:=by first|exact Or.inl rfl|exact Or.inr (Or.inl rfl)|exact Or.inr (Or.inr rfl)) (hd:(x==("__debug__":Str))=false:=by decide)
  (hcd:(x==("__classdict__":Str))=false:=by decide):DE X K E (.Name x pos) (dVar i):=⟨qe_imp (qpv i hN hv hd hcd) λσ H Q h=>by
 obtain ⟨H0,ν,ρ,Qd,Xd,S,⟨b,d,h1,h2⟩,q,_⟩:=h
 obtain ⟨v,g1,g2⟩:=S.sl i b d h1
 refine ⟨v,g1,q d _ v H h2 (Same.refl H) ?_⟩
 cases b with
 | true=>exact ⟨ν i,g2,S.nd i,λa ha=>.inr ⟨i,by simp,ha⟩⟩
 | false=>exact g2⟩
def dC (d:D):TD:=λ_ Q _=>Q d .old
theorem dc_of {e:Expr} {v:V} {d:D} (h:QE X e (tC v)) (hd:∀ H,Dn K H v d):DE X K E e (dC d):=⟨qe_imp h λσ H Q h=>by
 obtain ⟨H0,ν,ρ,Qd,Xd,S,h1,q,_⟩:=h
 exact q d _ v H h1 (Same.refl H) (hd _)⟩
theorem dpe_int {i:Int} {j}:DE X K E (.Constant (.int i) j pos) (dC (.int i)):=dc_of qpe_int λ_=>.int _
theorem dpe_str {x:Str} {j}:DE X K E (.Constant (.str x) j pos) (dC (.str x)):=dc_of qpe_str λ_=>.str _
abbrev F2:=D->Kd->D->Kd->QD->Prop
def Prim2 (K:W.Frag) (r:R2) (f:F2):Prop:=∀ (Z:Addr->Prop) (ν:Nat->List Addr) (Hs H:Hp) (x y:V) (d:D) (k:Kd) (e:D) (l:Kd) (Qf:QD) (Q:VK),(∀ a,Hd Z ν a->Mu H a)->(∀ a,Hd Z ν a->Mu Hs a)->Same Hs H->Res K Z ν Hs H k x d->Res K Z ν Hs H l y e ->
 f d k e l Qf->(∀ d k v H',Qf d k->Same H H'->Res K Z ν Hs H' k v d->Q v H')->r x y H Q
structure DOp (X:Cx) (K:W.Frag) (f:Value->Value->Sem Value) (g:F2):Prop where
 ex:∃ r,OpR X f r/\Prim2 K r g
structure DIx (X:Cx) (K:W.Frag) (g:F2):Prop where
 ex:∃ r,IxR X r/\Prim2 K r g
def dOp (f:F2) (ta tb:TD):TD:=λρ Q Xd=>ta ρ (λd k=>tb ρ (λe l=>f d k e l Q) Xd) Xd
theorem le_two {r:R2} {f:F2} {ta tb:TD} (p:Prim2 K r f):∀ σ H Q,LE K E (dOp f ta tb) σ H Q->tOp r (LE K E ta) (LE K E tb) σ H Q:=λσ H Q h=>by
 obtain ⟨H0,ν,ρ,Qd,Xd,S,h1,q,x⟩:=h
 refine ⟨H0,ν,ρ,_,Xd,S,h1,λd k v H1 hd e1 r1=>?_,x⟩
 refine ⟨H0,ν,ρ,_,Xd,S.same e1,hd,λd2 k2 v2 H2 hd2 e2 r2=>?_,x⟩
 refine p Z0 ν H H2 v v2 d k d2 k2 Qd Q (S.same (e1.trans e2)).hl S.hl (e1.trans e2) (r1.same e2) (r2.later e1) hd2 λd3 k3 v3 H3 g1 g2 g3=>q d3 k3 v3 H3 g1 ((e1.trans e2).trans g2) g3
theorem dpe_op {op:Operator} {f:F2} {a b:Expr} {ta tb:TD} (ho:DOp X K (binaryOp op) f) (ha:DE X K E a ta) (hb:DE X K E b tb):DE X K E (.BinOp a op b pos) (dOp f ta tb):=by
 obtain ⟨r,o,p⟩:=ho.ex
 exact ⟨qe_imp (qpe_op o ha.q hb.q) (le_two p)⟩
theorem dpe_cmp {op:CmpOp} {f:F2} {a b:Expr} {ta tb:TD} (ho:DOp X K (compareOp op) f) (ha:DE X K E a ta) (hb:DE X K E b tb) (hm:behindInMarks op b=false):DE X K E (.Compare a [op] [b] pos) (dOp f ta tb):=by
 obtain ⟨r,o,p⟩:=ho.ex
 exact ⟨qe_imp (qpe_cmpR o ha.q hb.q hm) (le_two p)⟩
theorem dpe_ix {f:F2} {a b:Expr} {ta tb:TD} (ho:DIx X K f) (ha:DE X K E a ta) (hb:DE X K E b tb) (hs:PlainIx b):DE X K E (.Subscript a b pos) (dOp f ta tb):=by
 obtain ⟨r,o,p⟩:=ho.ex
 exact ⟨qe_imp (qpe_ix o ha.q hb.q hs) (le_two p)⟩
theorem DOp.or {h:Value->Value->Sem Value} {f g:F2} (a:DOp X K h f) (b:DOp X K h g):DOp X K h (λd k e l Q=>f d k e l Q\/g d k e l Q):=by
 obtain ⟨r,o,p⟩:=a.ex
 obtain ⟨r',o',p'⟩:=b.ex
 refine ⟨_,o.or o',λZ ν Hs H x y d k e l Qf Q h1 h0 h2 h3 h4 h5 h6=>?_⟩
 rcases h5 with h5|h5
 ·exact .inl (p Z ν Hs H x y d k e l Qf Q h1 h0 h2 h3 h4 h5 h6)
 ·exact .inr (p' Z ν Hs H x y d k e l Qf Q h1 h0 h2 h3 h4 h5 h6)
theorem DOp.mono {h:Value->Value->Sem Value} {f g:F2} (a:DOp X K h f) (i:∀ d k e l Q,g d k e l Q->f d k e l Q):DOp X K h g:=by
 obtain ⟨r,o,p⟩:=a.ex
 exact ⟨r,o,λZ ν Hs H x y d k e l Qf Q h1 h0 h2 h3 h4 h5 h6=>p Z ν Hs H x y d k e l Qf Q h1 h0 h2 h3 h4 (i _ _ _ _ _ h5) h6⟩
def fI (C:Int->Int->Prop) (g:Int->Int->D):F2:=λd _ e _ Q=>match d,e with
 | .int i,.int j=>C i j/\Q (g i j) .old
 | _,_=>False
theorem prim_int {C:Int->Int->Prop} {g:Int->Int->Int}:Prim2 K (rI C λi j=>.int (g i j)) (fI C λi j=>.int (g i j)):=λZ ν Hs H x y d k e l Qf Q _ _ _ h3 h4 h5 h6=>by
 unfold fI at h5
 split at h5
 ·have a:=h3.den
  have b:=h4.den
  cases a
  cases b
  exact ⟨_,_,rfl,rfl,h5.1,h6 _ _ _ _ h5.2 (Same.refl H) (.int _)⟩
 ·exact h5.elim
def T2 (_ _:Int):Prop:=True
theorem prim_int0 {g:Int->Int->Int}:Prim2 K (rI0 λi j=>.int (g i j)) (fI T2 λi j=>.int (g i j)):=λZ ν Hs H x y d k e l Qf Q _ _ _ h3 h4 h5 h6=>by
 unfold fI at h5
 split at h5
 ·have a:=h3.den
  have b:=h4.den
  cases a
  cases b
  exact ⟨_,_,rfl,rfl,h6 _ _ _ _ h5.2 (Same.refl H) (.int _)⟩
 ·exact h5.elim
theorem prim_bool0 {g:Int->Int->Bool}:Prim2 K (rI0 λi j=>.bl (g i j)) (fI T2 λi j=>.bool (g i j)):=λZ ν Hs H x y d k e l Qf Q _ _ _ h3 h4 h5 h6=>by
 unfold fI at h5
 split at h5
 ·have a:=h3.den
  have b:=h4.den
  cases a
  cases b
  exact ⟨_,_,rfl,rfl,h6 _ _ _ _ h5.2 (Same.refl H) (.bl _)⟩
 ·exact h5.elim
theorem dop_sub:DOp X K (binaryOp .Sub) (fI T2 λi j=>.int (i - j)):=⟨_,op_sub,prim_int0⟩
theorem dop_mul:DOp X K (binaryOp .Mult) (fI IntMulOk λi j=>.int (i*j)):=⟨_,op_mulB,prim_int⟩
theorem dop_fdiv:DOp X K (binaryOp .FloorDiv) (fI CDiv λi j=>.int (i / j)):=⟨_,op_fdiv,prim_int⟩
theorem dop_mod:DOp X K (binaryOp .Mod) (fI (λ_ j=>0 < j) λi j=>.int (i % j)):=⟨_,op_mod,prim_int⟩
theorem dop_modN:DOp X K (binaryOp .Mod) (fI (λ_ j=>j≠0) λi j=>.int (i.fmod j)):=⟨_,op_modN,prim_int⟩
theorem dop_pow:DOp X K (binaryOp .Pow) (fI CPow λi j=>.int (i ^ j.toNat)):=⟨_,op_pow,prim_int⟩
theorem dop_lt:DOp X K (compareOp .Lt) (fI T2 λi j=>.bool (decide (i < j))):=⟨_,op_lt,prim_bool0⟩
theorem dop_gt:DOp X K (compareOp .Gt) (fI T2 λi j=>.bool (decide (j < i))):=⟨_,op_gt,prim_bool0⟩
theorem dop_ge:DOp X K (compareOp .GtE) (fI T2 λi j=>.bool (decide (j<=i))):=⟨_,op_ge,prim_bool0⟩
def fEq (f:Bool->Bool):F2:=λd _ e _ Q=>d.canLay0=true/\e.canLay0=true/\d.depth<=32/\Q (.bool (f (PyData.eqv d e))) .old
theorem prim_eq {f:Bool->Bool}:Prim2 K (rEqD K f) (fEq f):=λZ ν Hs H x y d k e l Qf Q _ _ _ h3 h4 h5 h6 =>
 ⟨d,e,h3.den.deep h5.1,h4.den.deep h5.2.1,h5.1,h5.2.1,h5.2.2.1,h6 _ _ _ _ h5.2.2.2 (Same.refl H) (.bl _)⟩
theorem dop_eq (hK:X.K=K) (hu:X.A.units+64 < cLine):DOp X K (compareOp .Eq) (fEq id):=⟨_,op_eqK K hK hu,prim_eq⟩
theorem dop_ne (hK:X.K=K) (hu:X.A.units+64 < cLine):DOp X K (compareOp .NotEq) (fEq not):=⟨_,op_neK K hK hu,prim_eq⟩
end
def Kd.isOld:Kd->Bool
 | .old=>true
 | .own []=>true
 | _=>false
def kels (ds:List D) (k:Kd):Kd:=if flats ds=true then .own [] else if k.isOld=true then .old else .mix
def kels2 (ds:List D) (k:Kd) (es:List D) (l:Kd):Kd:=if (flats ds&&flats es)=true then .own [] else if (k.isOld&&l.isOld)=true then .old else .mix
def Kd.sub:Kd->Kd
 | .own []=>.own []
 | .old=>.old
 | _=>.mix
section
variable {K:W.Frag} {Z:Addr->Prop} {Hs H:Hp} {ν:Nat->List Addr} {v:V} {d:D} {k l:Kd} {us vs:List V} {ds es:List D} {a p:Addr}
theorem Res.old (hl:∀ a,Hd Z ν a->Mu H a) (hn:∀ a,Hd Z ν a->Mu Hs a) (h:Res K Z ν Hs H k v d) (hk:k.isOld=true):Dn K (hid (Hd Z ν) H) v d:=by
 cases k with
 | own s =>
  cases s with
  | nil =>
   obtain ⟨ms,h1,_,h3⟩:=h
   refine ow_hid hl h1 λa ha z=>?_
   rcases h3 a ha with q|⟨j,q,_⟩
   ·obtain ⟨us,z⟩:=hn a z;rw[q] at z;cases z
   ·cases q
  | cons=>cases hk
 | old=>exact h
 | mix=>cases hk
theorem RsL.dens (h:RsL K Z ν Hs H k vs ds):Dns K H vs ds:=by
 cases k with
 | own s=>obtain ⟨ms,h,_⟩:=h;exact h.den
 | old=>exact Dns.same hid_same h
 | mix=>exact h
theorem res_newL (hl:∀ a,Hd Z ν a->Mu H a) (hs:Same Hs H) (hp:H p=none) (h:RsL K Z ν Hs H k vs ds):Res K Z ν Hs (upd H p (.lst vs)) k (.ref p) (.list ds):=by
 have sm:Same H (upd H p (.lst vs)):=Same.new hp
 cases k with
 | own s =>
  obtain ⟨ms,h1,h2,h3⟩:=h
  refine ⟨p::ms,.lst upd_same (h1.same sm),nodup_cons.mpr ⟨λhm=>?_,h2⟩,λa ha=>?_⟩
  ·obtain ⟨us,q⟩:=h1.there p hm;rw[hp] at q;cases q
  ·rcases mem_cons.mp ha with rfl|ha
   ·exact .inl (hs.gone hp)
   ·exact h3 a ha
 | old =>
  have hz:¬ Hd Z ν p:=λz=>by obtain ⟨us,q⟩:=hl p z;rw[hp] at q;cases q
  exact .lst (hid_of upd_same hz) (Dns.same (hid_mono sm) h)
 | mix=>exact .lst upd_same (Dns.same sm h)
theorem res_newT (hl:∀ a,Hd Z ν a->Mu H a) (hs:Same Hs H) (hp:H p=none) (h:RsL K Z ν Hs H k vs ds):Res K Z ν Hs (upd H p (.tup vs)) k (.ref p) (.tuple ds):=by
 have sm:Same H (upd H p (.tup vs)):=Same.new hp
 cases k with
 | own s =>
  obtain ⟨ms,h1,h2,h3⟩:=h
  exact ⟨ms,.tup (SqT.of upd_same) (h1.same sm),h2,h3⟩
 | old =>
  have hz:¬ Hd Z ν p:=λz=>by obtain ⟨us,q⟩:=hl p z;rw[hp] at q;cases q
  exact .tup (SqT.of (hid_of upd_same hz)) (Dns.same (hid_mono sm) h)
 | mix=>exact .tup (SqT.of upd_same) (Dns.same sm h)
theorem dns_of_lst {v:V} (h:Dn K H v (.list ds)):∃ a us,v=.ref a/\H a=some (.lst us)/\Dns K H us ds:=by
 cases h with
 | lst h r=>exact ⟨_,_,rfl,h,r⟩
theorem dns_of_tup {v:V} (h:Dn K H v (.tuple ds)):∃ a us,v=.ref a/\SqT K H a us/\Dns K H us ds:=by
 cases h with
 | tup h r=>exact ⟨_,_,rfl,h,r⟩
theorem res_list (hl:∀ a,Hd Z ν a->Mu H a) (hn:∀ a,Hd Z ν a->Mu Hs a) (h:Res K Z ν Hs H k v (.list ds)):∃ a us,v=.ref a/\H a=some (.lst us)/\Dns K H us ds/\RsL K Z ν Hs H (kels ds k) us ds:=by
 obtain ⟨a,us,rfl,h1,h2⟩:=dns_of_lst h.den
 refine ⟨a,us,rfl,h1,h2,?_⟩
 unfold kels
 split
 ·exact ⟨[],ows_flat h2 ‹_›,nodup_nil,λ_ z=>by cases z⟩
 ·split
  ·have q:=h.old hl hn ‹_›
   obtain ⟨a',us',e,q1,q2⟩:=dns_of_lst q
   cases e
   have:=(of_hid q1).1
   rw[h1] at this;cases this
   exact q2
  ·exact h2
theorem dns_hid {Z:Addr->Prop} (hl:∀ a,Z a->Mu H a) (h:Dns K H us ds) (hf:flats ds=true):Dns K (hid Z H) us ds :=
 dens_kept (λa o e n=>hid_of e λz=>(hl a z).no e n) h hf
theorem flats_app:flats ds=true->flats es=true->flats (ds++es)=true:=by
 intro h1 h2
 induction ds with
 | nil=>exact h2
 | cons x r ih =>
  simp only[flats,Bool.and_eq_true] at h1
  show (flat x&&flats (r++es))=true
  rw[h1.1,ih h1.2];rfl
theorem rsl_old (hl:∀ a,Hd Z ν a->Mu H a) (hk:k.isOld=true) (h:RsL K Z ν Hs H (kels ds k) us ds):Dns K (hid (Hd Z ν) H) us ds:=by
 have A:=h.dens
 unfold kels at h
 split at h
 ·exact dns_hid hl A ‹_›
 ·exact h
theorem rsl_app (hl:∀ a,Hd Z ν a->Mu H a) (h:RsL K Z ν Hs H (kels ds k) us ds) (g:RsL K Z ν Hs H (kels es l) vs es):RsL K Z ν Hs H (kels2 ds k es l) (us++vs) (ds++es):=by
 have A:=h.dens
 have B:=g.dens
 unfold kels2
 split
 case isTrue e =>
  rw[Bool.and_eq_true] at e
  exact ⟨[],ows_flat (A.append B) (flats_app e.1 e.2),nodup_nil,λ_ z=>by cases z⟩
 case isFalse e =>
  split
  case isFalse=>exact A.append B
  case isTrue q =>
   rw[Bool.and_eq_true] at q
   exact (rsl_old hl q.1 h).append (rsl_old hl q.2 g)
end
section
variable {X:Cx} {K:W.Frag} {E:XK} {pos:Pos}
def fCat:F2:=λd k e l Q=>match d,e with
 | .list ds,.list es=>ds.length+es.length<=1000000/\Q (.list (ds++es)) (kels2 ds k es l)
 | _,_=>False
theorem million:(1000000:Nat)<=sizeLine:=by decide
theorem prim_cat:Prim2 K rCat fCat:=λZ ν Hs H x y d k e l Qf Q hl hn hs h3 h4 h5 h6=>by
 unfold fCat at h5
 split at h5
 ·obtain ⟨a,us,rfl,a1,a2,a3⟩:=res_list hl hn h3
  obtain ⟨b,vs,rfl,b1,b2,b3⟩:=res_list hl hn h4
  refine ⟨a,b,us,vs,rfl,rfl,a1,b1,?_,λp hp=>?_⟩
  ·rw[a2.length,b2.length];exact Nat.le_trans h5.1 million
  ·exact h6 _ _ _ _ h5.2 (Same.new hp) (res_newL hl hs hp (rsl_app hl a3 b3))
 ·exact h5.elim
def fStr:F2:=λd _ e _ Q=>match d,e with
 | .str x,.str y=>x.length+y.length<=1000000/\Q (.str (x++y)) .old
 | _,_=>False
theorem dop_addS:DOp X K (binaryOp .Add) fStr:=⟨_,op_add_str,λZ ν Hs H x y d k e l Qf Q _ _ _ h3 h4 h5 h6=>by
 unfold fStr at h5
 split at h5
 ·have a:=h3.den
  have b:=h4.den
  cases a
  cases b
  exact ⟨_,_,rfl,rfl,Nat.le_trans h5.1 million,h6 _ _ _ _ h5.2 (Same.refl H) (.str _)⟩
 ·exact h5.elim⟩
def fAdd:F2:=λd k e l Q=>match d,e with
 | .int i,.int j=>Q (.int (i+j)) .old
 | .list ds,.list es=>ds.length+es.length<=1000000/\Q (.list (ds++es)) (kels2 ds k es l)
 | .str x,.str y=>x.length+y.length<=1000000/\Q (.str (x++y)) .old
 | _,_=>False
theorem dop_add:DOp X K (binaryOp .Add) fAdd:=DOp.mono (DOp.or ⟨_,op_add,prim_int0⟩ (DOp.or ⟨_,op_cat,prim_cat⟩ dop_addS)) λd k e l Q h=>by
 unfold fAdd at h
 split at h
 ·exact .inl ⟨trivial,h⟩
 ·exact .inr (.inl h)
 ·exact .inr (.inr h)
 ·exact h.elim
def fIx:F2:=λd k e _ Q=>match d,e with
 | .list ds,.int i=>∃ x,atI ds i=some x/\Q x k.sub
 | .tuple ds,.int i=>∃ x,atI ds i=some x/\Q x k.sub
 | .str z,.int i=>z.length<=1000000/\∃ c,atI z.cps.toList i=some c/\Q (.str ⟨#[c]⟩) .old
 | .dict [(.none,.list ds)],.int i=>∃ x,atI ds i=some x/\Q x .old
 | _,_=>False
theorem ows_get {H:Hp}:∀ {us:List V} {ds:List D} {ns:List Addr} {j:Nat} {x:D},Ows K H us ds ns->ds[j]?=some x->∃ u ms,us[j]?=some u/\Ow K H u x ms/\(∀ a∈ms,a∈ns)/\(ns.Nodup->ms.Nodup)
 | _,_,_,0,x,.cons h r,e=>by simp at e;subst e;exact ⟨_,_,rfl,h,λa ha=>mem_append_left _ ha,λn=>(nodup_append.mp n).1⟩
 | _,_,_,j+1,x,.cons h r,e=>by
  simp at e
  obtain ⟨u,ms,h1,h2,h3,h4⟩:=ows_get r e
  exact ⟨u,ms,by simpa using h1,h2,λa ha=>mem_append_right _ (h3 a ha),λn=>h4 (nodup_append.mp n).2.1⟩
theorem atI_nth {α:Type} {xs:List α} {i:Int} {x:α} (h:atI xs i=some x):∃ j,ixN xs.length i=some j/\xs[j]?=some x:=by
 unfold atI at h
 cases e:ixN xs.length i with
 | none=>rw[e] at h;cases h
 | some j=>rw[e] at h;exact ⟨j,rfl,h⟩
theorem atI_of {α:Type} {xs:List α} {i:Int} {j:Nat} {x:α} (h:ixN xs.length i=some j) (g:xs[j]?=some x):atI xs i=some x:=by
 unfold atI;rw[h];exact g
theorem items_own {Z:Addr->Prop} {ν:Nat->List Addr} {Hs H:Hp} {us:List V} {ds:List D} {ms:List Addr} (h:Ows K H us ds ms) (nd:ms.Nodup) (fr:∀ a∈ms,Hs a=none\/∃ j∈([]:List Nat),a∈ν j):∀ (j:Nat) x,ds[j]?=some x->∃ u,us[j]?=some u/\Res K Z ν Hs H (.own []) u x:=λj x e=>by
 obtain ⟨u,ns,r1,r2,r3,r4⟩:=ows_get h e
 exact ⟨u,r1,ns,r2,r4 nd,λa ha=>fr a (r3 a ha)⟩
theorem items_den {H:Hp} {us:List V} {ds:List D} (h:Dns K H us ds):∀ (j:Nat) x,ds[j]?=some x->∃ u,us[j]?=some u/\Dn K H u x:=λj x e=>h.get e
theorem res_itemsT {Z:Addr->Prop} {ν:Nat->List Addr} {Hs H:Hp} {k:Kd} {v:V} {ds:List D} (h:Res K Z ν Hs H k v (.tuple ds)):∃ a us,v=.ref a/\SqT K H a us/\us.length=ds.length/\Dns K H us ds/\∀ (j:Nat) x,ds[j]?=some x->∃ u,us[j]?=some u/\Res K Z ν Hs H k.sub u x:=by
 unfold Kd.sub
 split
 ·obtain ⟨ms,h1,h2,h3⟩:=h
  cases h1 with
  | tup q1 q2=>exact ⟨_,_,rfl,q1,q2.den.length,q2.den,items_own q2 h2 h3⟩
 ·obtain ⟨a,us,rfl,q1,q2⟩:=dns_of_tup (show Dn K _ _ _ from h)
  exact ⟨a,us,rfl,Same.tup hid_same q1,q2.length,Dns.same hid_same q2,items_den q2⟩
 ·obtain ⟨a,us,rfl,q1,q2⟩:=dns_of_tup h.den
  exact ⟨a,us,rfl,q1,q2.length,q2,items_den q2⟩
theorem res_itemsL {Z:Addr->Prop} {ν:Nat->List Addr} {Hs H:Hp} {k:Kd} {v:V} {ds:List D} (h:Res K Z ν Hs H k v (.list ds)):∃ a us,v=.ref a/\H a=some (.lst us)/\us.length=ds.length/\Dns K H us ds/\∀ (j:Nat) x,ds[j]?=some x->∃ u,us[j]?=some u/\Res K Z ν Hs H k.sub u x:=by
 unfold Kd.sub
 split
 ·obtain ⟨ms,h1,h2,h3⟩:=h
  cases h1 with
  | lst q1 q2=>exact ⟨_,_,rfl,q1,q2.den.length,q2.den,items_own q2 (nodup_cons.mp h2).2 λa ha=>h3 a (mem_cons_of_mem _ ha)⟩
 ·obtain ⟨a,us,rfl,q1,q2⟩:=dns_of_lst (show Dn K _ _ _ from h)
  exact ⟨a,us,rfl,(of_hid q1).1,q2.length,Dns.same hid_same q2,items_den q2⟩
 ·obtain ⟨a,us,rfl,q1,q2⟩:=dns_of_lst h.den
  exact ⟨a,us,rfl,q1,q2.length,q2,items_den q2⟩
theorem dix (hK:X.K=K):DIx X K fIx:=by
 subst hK
 refine ⟨_,ix_seq,λZ ν Hs H x y d k e l Qf Q hl hn hs h3 h4 h5 h6=>?_⟩
 unfold fIx at h5
 split at h5
 ·obtain ⟨z,e1,q⟩:=h5
  obtain ⟨j,e2,e3⟩:=atI_nth e1
  obtain ⟨a,us,rfl,g1,g2,_,g3⟩:=res_itemsL h3
  obtain ⟨u,g4,g5⟩:=g3 j z e3
  have:=h4.den
  cases this
  exact .inl ⟨a,us,_,u,rfl,rfl,SqL.of g1,atI_of (by rw[g2];exact e2) g4,h6 _ _ _ _ q (Same.refl H) g5⟩
 ·obtain ⟨z,e1,q⟩:=h5
  obtain ⟨j,e2,e3⟩:=atI_nth e1
  obtain ⟨a,us,rfl,g1,g2,_,g3⟩:=res_itemsT h3
  obtain ⟨u,g4,g5⟩:=g3 j z e3
  have:=h4.den
  cases this
  exact .inr (.inl ⟨a,us,_,u,rfl,rfl,g1,atI_of (by rw[g2];exact e2) g4,h6 _ _ _ _ q (Same.refl H) g5⟩)
 ·have a:=h3.den
  have b:=h4.den
  cases a
  cases b
  obtain ⟨h0,c,e1,q⟩:=h5
  exact .inr (.inr ⟨_,_,c,rfl,rfl,Nat.le_trans h0 million,e1,h6 _ _ _ _ q (Same.refl H) (.str _)⟩)
 ·obtain ⟨z,e1,q⟩:=h5
  obtain ⟨j,e2,e3⟩:=atI_nth e1
  have b:=h4.den
  cases b
  have a:=h3.den
  cases a with
  | scr ns h =>
   rw[List.getElem?_map] at e3
   cases en:ns[j]? with
   | none=>rw[en] at e3;cases e3
   | some n =>
    rw[en] at e3;cases e3
    exact .inl ⟨_,_,_,V.int n,rfl,rfl,h,atI_of (by rw[length_map];rw[length_map] at e2;exact e2) (by rw[List.getElem?_map,en];rfl),h6 _ _ _ _ q (Same.refl H) (.int _)⟩
 ·exact h5.elim
theorem Dns.take {H:Hp}:∀ {us:List V} {ds:List D} (n:Nat),Dns K H us ds->Dns K H (us.take n) (ds.take n)
 | _,_,0,_=>by rw[List.take_zero,List.take_zero];exact .nil
 | _,_,n+1,.nil=>.nil
 | _,_,n+1,.cons h r=>.cons h (Dns.take n r)
theorem Dns.drop {H:Hp}:∀ {us:List V} {ds:List D} (n:Nat),Dns K H us ds->Dns K H (us.drop n) (ds.drop n)
 | _,_,0,h=>h
 | _,_,n+1,.nil=>.nil
 | _,_,n+1,.cons h r=>Dns.drop n r
theorem flats_iff:∀ {ds:List D},flats ds=true ↔ ∀ d∈ds,flat d=true
 | []=>by simp[flats]
 | d::r=>by simp[flats,flats_iff (ds:=r)]
abbrev F3:=D->Kd->Option Int->Option Int->QD->Prop
def disj (s t:List Nat):Bool:=s.all λi=>!t.contains i
def kcons (d:D) (k:Kd) (l:Kd):Kd:=match (if flat d=true then Kd.own [] else k),l with
 | .own s,.own t=>if disj s t=true then .own (s++t) else .mix
 | .own [],.old=>.old
 | .old,.own []=>.old
 | .old,.old=>.old
 | _,_=>.mix
def dNil:TDA:=λ_ Q _=>Q [] (.own [])
def dCons (ta:TD) (tr:TDA):TDA:=λρ Q Xd=>ta ρ (λd k=>tr ρ (λds l=>Q (d::ds) (kcons d k l)) Xd) Xd
theorem RsL.old0 {Z:Addr->Prop} {ν:Nat->List Addr} {Hs H:Hp} {k:Kd} {us:List V} {ds:List D} (hl:∀ a,Hd Z ν a->Mu H a) (hn:∀ a,Hd Z ν a->Mu Hs a) (h:RsL K Z ν Hs H k us ds) (hk:k.isOld=true):Dns K (hid (Hd Z ν) H) us ds:=by
 cases k with
 | own s =>
  cases s with
  | nil =>
   obtain ⟨ms,h1,_,h3⟩:=h
   refine ows_hid hl h1 λa ha z=>?_
   rcases h3 a ha with q|⟨j,q,_⟩
   ·obtain ⟨us,z⟩:=hn a z;rw[q] at z;cases z
   ·cases q
  | cons=>cases hk
 | old=>exact h
 | mix=>cases hk
theorem rsl_cons {Z:Addr->Prop} {ν:Nat->List Addr} {Hs H1 H2:Hp} {k l:Kd} {v:V} {d:D} {us:List V} {ds:List D} (hn:∀ a,Hd Z ν a->Mu Hs a) (dj:∀ i j a,a∈ν i->a∈ν j->i=j) (e1:Same Hs H1) (e2:Same H1 H2) (h:Res K Z ν Hs H1 k v d) (g:RsL K Z ν H1 H2 l us ds) :
  RsL K Z ν Hs H2 (kcons d k l) (v::us) (d::ds):=by
 have hl1:∀ a,Hd Z ν a->Mu H1 a:=λa z=>by obtain ⟨us,q⟩:=hn a z;exact ⟨us,e1 _ _ q⟩
 have hl2:∀ a,Hd Z ν a->Mu H2 a:=λa z=>by obtain ⟨us,q⟩:=hl1 a z;exact ⟨us,e2 _ _ q⟩
 have h':Res K Z ν Hs H1 (if flat d=true then Kd.own [] else k) v d:=by
  split
  ·exact Res.flat h.den ‹_› hl1 _
  ·exact h
 have all:Dns K H2 (v::us) (d::ds):=.cons (Dn.same e2 h.den) g.dens
 have old:∀ {k':Kd},Res K Z ν Hs H1 k' v d->k'.isOld=true->l.isOld=true->Dns K (hid (Hd Z ν) H2) (v::us) (d::ds):=λ{k'} r1 q1 q2=>.cons ((r1.same e2).old hl2 hn q1) (g.old0 hl2 hl1 q2)
 unfold kcons
 generalize (if flat d=true then Kd.own [] else k)=k' at h'
 split
 ·split
  case isTrue q =>
   obtain ⟨ms,a1,a2,a3⟩:=h'
   obtain ⟨ns,b1,b2,b3⟩:=g
   rename_i s t
   refine ⟨ms++ns,.cons (a1.same e2) b1,nodup_append.mpr ⟨a2,b2,λx hx y hy e=>?_⟩,λa ha=>?_⟩
   ·subst e
    obtain ⟨us',z1⟩:=a1.there x hx
    rcases b3 x hy with z|⟨j,hj,z⟩
    ·rw[z1] at z;cases z
    ·rcases a3 x hx with z'|⟨i,hi,z'⟩
     ·obtain ⟨us'',z''⟩:=hn x (.inr ⟨j,z⟩)
      rw[z'] at z'';cases z''
     ·have:=dj i j x z' z
      subst this
      unfold disj at q
      have:=all_eq_true.mp q i hi
      simp at this
      exact this hj
   ·rcases mem_append.mp ha with ha|ha
    ·rcases a3 a ha with z|⟨j,hj,z⟩
     ·exact .inl z
     ·exact .inr ⟨j,mem_append_left _ hj,z⟩
    ·rcases b3 a ha with z|⟨j,hj,z⟩
     ·exact .inl (e1.gone z)
     ·exact .inr ⟨j,mem_append_right _ hj,z⟩
  case isFalse=>exact all
 ·exact old h' rfl rfl
 ·exact old h' rfl rfl
 ·exact old h' rfl rfl
 ·exact all
theorem dpa_nil:DA X K E [] dNil:=⟨qa_imp qpa_nil λσ H Q h=>by
 obtain ⟨H0,ν,ρ,Qd,Xd,S,h1,q,x⟩:=h
 exact q _ _ _ _ h1 (Same.refl H) ⟨[],.nil,nodup_nil,λ_ z=>by cases z⟩⟩
theorem dpa_cons {e:Expr} {es:List Expr} {te:TD} {t:TDA} (ha:DE X K E e te) (hr:DA X K E es t) (hs:starEach (e::es) X.env=(false,eval e X.env)::starEach es X.env:=by rfl):DA X K E (e::es) (dCons te t):=⟨qa_imp (qpa_cons ha.q hr.q hs) λσ H Q h=>by
 obtain ⟨H0,ν,ρ,Qd,Xd,S,h1,q,x⟩:=h
 refine ⟨H0,ν,ρ,_,Xd,S,h1,λd k v H1 g1 e1 r1=>?_,x⟩
 refine ⟨H0,ν,ρ,_,Xd,S.same e1,g1,λds l us H2 g2 e2 r2=>?_,x⟩
 exact q _ _ _ _ g2 (e1.trans e2) (rsl_cons S.hl S.dj e1 e2 r1 r2)⟩
def dTup (t:TDA):TD:=λρ Q Xd=>t ρ (λds k=>ds.length<=1000/\Q (.tuple ds) k) Xd
def dLst (t:TDA):TD:=λρ Q Xd=>t ρ (λds k=>ds.length<=1000/\Q (.list ds) k) Xd
theorem dpe_tup {es:List Expr} {t:TDA} {x1} (h:DA X K E es t):DE X K E (.Tuple es x1 pos) (dTup t):=⟨qe_imp (qpe_tup h.q) λσ H Q h=>by
 obtain ⟨H0,ν,ρ,Qd,Xd,S,h1,q,x⟩:=h
 refine ⟨H0,ν,ρ,_,Xd,S,h1,λds k us H1 g1 e1 r1=>?_,x⟩
 refine ⟨by rw[r1.dens.length];exact Nat.le_trans g1.1 (by decide),λp hp=>q _ _ _ _ g1.2 (e1.trans (Same.new hp)) (res_newT (S.same e1).hl e1 hp r1)⟩⟩
theorem dpe_lst {es:List Expr} {t:TDA} (h:DA X K E es t):DE X K E (.List es pos) (dLst t):=⟨qe_imp (qpe_lst h.q) λσ H Q h=>by
 obtain ⟨H0,ν,ρ,Qd,Xd,S,h1,q,x⟩:=h
 refine ⟨H0,ν,ρ,_,Xd,S,h1,λds k us H1 g1 e1 r1=>?_,x⟩
 refine ⟨by rw[r1.dens.length];exact Nat.le_trans g1.1 (by decide),λp hp=>q _ _ _ _ g1.2 (e1.trans (Same.new hp)) (res_newL (S.same e1).hl e1 hp r1)⟩⟩
end
section
variable {X:Cx} {K:W.Frag} {E:XK} {pos:Pos} {a b c e:Expr} {rest:List Expr} {ta tb:TD} {tA tB:TDT}
theorem dn_bool {H:Hp} {v:V} {x:Bool} (h:Dn K H v (.bool x)):v=.bl x:=by cases h;rfl
theorem dn_int {H:Hp} {v:V} {x:Int} (h:Dn K H v (.int x)):v=.int x:=by cases h;rfl
def dNeg (ta:TD):TD:=λρ Q Xd=>ta ρ (λd _=>match d with|.int i=>Q (.int (-i)) .old|_=>False) Xd
theorem dpe_neg (ha:DE X K E a ta):DE X K E (.UnaryOp .USub a pos) (dNeg ta):=⟨qe_imp (qpe_un un_neg ha.q) λσ H Q h=>by
 obtain ⟨H0,ν,ρ,Qd,Xd,S,h1,q,x⟩:=h
 refine ⟨H0,ν,ρ,_,Xd,S,h1,λd k v H' g1 g2 g3=>?_,x⟩
 cases d with
 | int i=>exact ⟨i,dn_int g3.den,q _ _ _ _ g1 g2 (.int _)⟩
 | _=>exact g1.elim⟩
def dNotV (ta:TD):TD:=λρ Q Xd=>ta ρ (λd _=>match d with|.bool i=>Q (.bool (!i)) .old|_=>False) Xd
def dOrV (ta tb:TD):TD:=λρ Q Xd=>ta ρ (λd _=>match d with|.bool i=>if i=true then Q (.bool true) .old else tb ρ Q Xd|_=>False) Xd
theorem dpe_one {op} (h:DE X K E a ta):DE X K E (.BoolOp op [a] pos) ta:=⟨qpe_one h.q⟩
theorem dpe_or (ha:DE X K E a ta) (hb:DE X K E (.BoolOp .Or (b::rest) pos) tb):DE X K E (.BoolOp .Or (a::b::rest) pos) (dOrV ta tb):=⟨qe_imp (qpe_or ha.q hb.q) λσ H Q h=>by
 obtain ⟨H0,ν,ρ,Qd,Xd,S,h1,q,x⟩:=h
 refine ⟨H0,ν,ρ,_,Xd,S,h1,λd k v H' g1 g2 g3=>?_,x⟩
 cases d with
 | bool i =>
  refine ⟨i,dn_bool g3.den,?_⟩
  cases i with
  | false=>exact ⟨H0,ν,ρ,Qd,Xd,S.same g2,g1,λd k v H'' a1 a2 a3=>q d k v H'' a1 (g2.trans a2) (a3.later g2),x⟩
  | true=>exact q _ _ _ _ g1 g2 (.bl _)
 | _=>exact g1.elim⟩
def dB (ta:TD):TDT:=λρ Q Xd=>ta ρ (λd _=>match d with|.bool i=>Q i|_=>False) Xd
theorem le_b:∀ {σ:L2.St} {H:Hp} {Q:Bool->Hp->Prop},LT K E (dB ta) σ H Q->L2.tB (LE K E ta) σ H Q:=λ{σ H Q} h=>by
 obtain ⟨H0,ν,ρ,Qd,Xd,S,h1,q,x⟩:=h
 refine ⟨H0,ν,ρ,_,Xd,S,h1,λd k v H' g1 g2 g3=>?_,x⟩
 cases d with
 | bool i=>exact ⟨i,dn_bool g3.den,q _ _ g1 g2⟩
 | _=>exact g1.elim
theorem dpt_val (h:DE X K E e ta) (he:∀ whole,isTrue e X.env whole=(do let v <- whole;standAt e.pos;holding [v] (truthy v)):=by intro _;rfl):DT X K E e (dB ta):=⟨qt_imp (qpt_val h.q he) λσ H Q h=>le_b h⟩
theorem dpt_cmp {op:CmpOp} {f:F2} (ho:DOp X K (compareOp op) f) (ha:DE X K E a ta) (hb:DE X K E b tb) (hm:behindInMarks op b=false):DT X K E (.Compare a [op] [b] pos) (dB (dOp f ta tb)):=by
 obtain ⟨r,o,p⟩:=ho.ex
 refine ⟨qt_imp (qpt_cmpR o ha.q hb.q hm) λσ H Q h=>?_⟩
 obtain ⟨H0,ν,ρ,Qd,Xd,S,h1,q,x⟩:=h
 refine le_two p σ H _ ⟨H0,ν,ρ,_,Xd,S,h1,λd k v H' g1 g2 g3=>?_,x⟩
 cases d with
 | bool i=>exact ⟨i,dn_bool g3.den,q _ _ g1 g2⟩
 | _=>exact g1.elim
def dAnd (tA tB:TDT):TDT:=λρ Q Xd=>tA ρ (λb=>if b=true then tB ρ Q Xd else Q false) Xd
def dNot (tA:TDT):TDT:=λρ Q Xd=>tA ρ (λb=>Q (!b)) Xd
theorem dPWpt (h:DW X K E e tA):DT X K E e tA:=⟨qPWpt h.q⟩
theorem dpw_and1 (ha:DT X K E a tA):DW X K E (.BoolOp .And [a] pos) tA:=⟨qpw_and1 ha.q⟩
theorem lt_and:∀ σ H Q,LT K E (dAnd tA tB) σ H Q->tAnd (LT K E tA) (LT K E tB) σ H Q:=λσ H Q h=>by
 obtain ⟨H0,ν,ρ,Qd,Xd,S,h1,q,x⟩:=h
 refine ⟨H0,ν,ρ,_,Xd,S,h1,λb H' g1 g2=>?_,x⟩
 cases b with
 | true=>exact ⟨H0,ν,ρ,Qd,Xd,S.same g2,g1,λb H'' a1 a2=>q b H'' a1 (g2.trans a2),x⟩
 | false=>exact q _ _ g1 g2
theorem dpw_and (ha:DT X K E a tA) (hb:DW X K E (.BoolOp .And (b::rest) pos) tB):DW X K E (.BoolOp .And (a::b::rest) pos) (dAnd tA tB):=⟨qw_imp (qpw_and ha.q hb.q) lt_and⟩
theorem dpt_not (ha:DT X K E a tA):DT X K E (.UnaryOp .Not a pos) (dNot tA):=⟨qt_imp (qpt_not ha.q) λσ H Q h=>by
 obtain ⟨H0,ν,ρ,Qd,Xd,S,h1,q,x⟩:=h
 exact ⟨H0,ν,ρ,_,Xd,S,h1,λb H' g1 g2=>q _ _ g1 g2,x⟩⟩
def dIf (tA:TDT) (ta tb:TD):TD:=λρ Q Xd=>tA ρ (λb=>if b=true then ta ρ Q Xd else tb ρ Q Xd) Xd
theorem dpe_ifExp (hc:DT X K E c tA) (ha:DE X K E a ta) (hb:DE X K E b tb):DE X K E (.IfExp c a b pos) (dIf tA ta tb):=⟨qe_imp (qpe_ifExp hc.q ha.q hb.q) λσ H Q h=>by
 obtain ⟨H0,ν,ρ,Qd,Xd,S,h1,q,x⟩:=h
 refine ⟨H0,ν,ρ,_,Xd,S,h1,λb H' g1 g2=>?_,x⟩
 cases b with
 | true=>exact ⟨H0,ν,ρ,Qd,Xd,S.same g2,g1,λd k v H'' a1 a2 a3=>q d k v H'' a1 (g2.trans a2) (a3.later g2),x⟩
 | false=>exact ⟨H0,ν,ρ,Qd,Xd,S.same g2,g1,λd k v H'' a1 a2 a3=>q d k v H'' a1 (g2.trans a2) (a3.later g2),x⟩⟩
abbrev SpD:=List D->(D->Bool->Prop)->XD->Prop
def RR (K:W.Frag) (H H':Hp):Bool->V->D->Prop
 | true,v,d=>∃ ms,Ow K H' v d ms/\ms.Nodup/\∀ a∈ms,H a=none
 | false,v,d=>Dn K H' v d
def SpL (K:W.Frag) (sp:SpD):Sp:=λvs H Q E=>∃ ds Qd Xd,Dns K H vs ds/\sp ds Qd Xd/\(∀ d o v H',Qd d o->Same H H'->RR K H H' o v d->Q v H')/\∀ C H',Xd C->Same H H'->E (.ref C) none H'
def kRet (o:Bool):Kd:=if o=true then .own [] else .mix
def dCall (sp:SpD) (t:TDA):TD:=λρ Q Xd=>t ρ (λds _=>sp ds (λd o=>Q d (kRet o)) Xd) Xd
theorem rr_res {Z:Addr->Prop} {ν:Nat->List Addr} {Hs H H':Hp} {o:Bool} {v:V} {d:D} (e:Same Hs H) (h:RR K H H' o v d):Res K Z ν Hs H' (kRet o) v d:=by
 cases o with
 | true=>obtain ⟨ms,h1,h2,h3⟩:=h;exact ⟨ms,h1,h2,λa ha=>.inl (e.gone (h3 a ha))⟩
 | false=>exact h
theorem le_call {sp:SpD} {t:TDA}:∀ σ H Q,LE K E (dCall sp t) σ H Q->LA K E t σ H λvs H1=>SpL K sp vs H1 Q E:=λσ H Q h=>by
 obtain ⟨H0,ν,ρ,Qd,Xd,S,h1,q,x⟩:=h
 refine ⟨H0,ν,ρ,_,Xd,S,h1,λds k vs H1 g1 e1 r1=>?_,x⟩
 exact ⟨ds,_,Xd,r1.dens,g1,λd o v H' a1 a2 a3=>q _ _ _ _ a1 (e1.trans a2) (rr_res e1 a3),λC H' a1 a2=>x C H' a1 ((S.sm.trans e1).trans a2)⟩
def dCall0 (sp:SpD) (t:TDA):TD:=λρ Q Xd=>t ρ (λds _=>sp ds (λd o=>Q d (kRet o)) (λ_=>False)) Xd
theorem le_call0 {sp:SpD} {t:TDA}:∀ σ H Q,LE K E (dCall0 sp t) σ H Q->LA K E t σ H λvs H1=>SpL K sp vs H1 Q E0:=λσ H Q h=>by
 obtain ⟨H0,ν,ρ,Qd,Xd,S,h1,q,x⟩:=h
 refine ⟨H0,ν,ρ,_,Xd,S,h1,λds k vs H1 g1 e1 r1=>?_,x⟩
 exact ⟨ds,_,_,r1.dens,g1,λd o v H' a1 a2 a3=>q _ _ _ _ a1 (e1.trans a2) (rr_res e1 a3),λC H' z _=>z.elim⟩
theorem dpe_df {x:Str} {ps:List Str} {k:Nat} {sp:SpD} {p:Pos} {es:List Expr} {t:TDA} (D:Df X.prog X.w X.K X.mg X.base x ps k (SpL K sp)) (hr:Room k X.A) (ha:DA X K E (e::es) t) (hg:Gl X x:=by rfl) (hdb:(x==("__debug__":Str))=false:=by decide)
  (he:starEach (e::es) X.env=(false,eval e X.env)::starEach es X.env:=by rfl) (hpl:(backTo pos (starEach es X.env)).any (·.1)=false:=by rfl):DE X K E (.Call (.Name x p) (e::es) [] pos) (dCall0 sp t) :=
 ⟨qe_imp (qpe_df D hr ha.q hg hdb he hpl) λσ H Q h=>by
  show LA K E t σ H λvs H1=>SpL K sp (vs++[]) H1 Q E0
  simp only[append_nil]
  exact le_call0 σ H Q h⟩
theorem dpe_dfE {x:Str} {ps:List Str} {k:Nat} {sp:SpD} {p:Pos} {es:List Expr} {t:TDA} (D:DfE X.prog X.w X.K X.mg X.base x ps k (SpL K sp)) (hx:Passes (CXE X.prog X.w X.base) X E) (hr:Room k X.A) (ha:DA X K E (e::es) t) (hg:Gl X x:=by rfl) (hdb:(x==("__debug__":Str))=false:=by decide)
  (he:starEach (e::es) X.env=(false,eval e X.env)::starEach es X.env:=by rfl) (hpl:(backTo pos (starEach es X.env)).any (·.1)=false:=by rfl):DE X K E (.Call (.Name x p) (e::es) [] pos) (dCall sp t) :=
 ⟨qe_imp (qpe_dfE D hx hr ha.q hg hdb he hpl) λσ H Q h=>by
  show LA K E t σ H λvs H1=>SpL K sp (vs++[]) H1 Q E
  simp only[append_nil]
  exact le_call σ H Q h⟩
abbrev FA:=List D->Kd->QD->Prop
def PrimA (K:W.Frag) (r:List V->Hp->VK->Prop) (f:FA):Prop:=∀ (Z:Addr->Prop) (ν:Nat->List Addr) (Hs H:Hp) (xs:List V) (ds:List D) (k:Kd) (Qf:QD) (Q:VK),(∀ a,Hd Z ν a->Mu H a)->(∀ a,Hd Z ν a->Mu Hs a)->Same Hs H->RsL K Z ν Hs H k xs ds ->
 f ds k Qf->(∀ d k v H',Qf d k->Same H H'->Res K Z ν Hs H' k v d->Q v H')->r xs H Q
structure DCl (X:Cx) (K:W.Frag) (f:Value) (g:FA):Prop where
 ex:∃ r,CallR X f r/\PrimA K r g
def dCB (g:FA) (t:TDA):TD:=λρ Q Xd=>t ρ (λds k=>g ds k Q) Xd
theorem le_cb {r:List V->Hp->VK->Prop} {g:FA} {t:TDA} (p:PrimA K r g):∀ σ H Q,LE K E (dCB g t) σ H Q->tCB r (LA K E t) σ H Q:=λσ H Q h=>by
 obtain ⟨H0,ν,ρ,Qd,Xd,S,h1,q,x⟩:=h
 refine ⟨H0,ν,ρ,_,Xd,S,h1,λds k vs H1 g1 e1 r1=>?_,x⟩
 exact p Z0 ν H H1 vs ds k _ _ (S.same e1).hl S.hl e1 r1 g1 λd k v H' a1 a2 a3=>q d k v H' a1 (e1.trans a2) a3
theorem dpe_callB {id:String} {g:FA} {x:Str} {p:Pos} {es:List Expr} {t:TDA} (hc:DCl X K (.builtin id) g) (hg:Gl X x) (hm:X.mg x=none) (hv:bootBuiltins x=some (.builtin id)) (ha:DA X K E (e::es) t) (hn:x≠"__name__":=by decide) (hdb:(x==("__debug__":Str))=false:=by decide)
  (he:starEach (e::es) X.env=(false,eval e X.env)::starEach es X.env:=by rfl) (hpl:(backTo pos (starEach es X.env)).any (·.1)=false:=by rfl):DE X K E (.Call (.Name x p) (e::es) [] pos) (dCB g t):=by
 obtain ⟨r,c,pr⟩:=hc.ex
 exact ⟨qe_imp (qpe_callB c hg hm hv ha.q hn hdb he hpl) (le_cb pr)⟩
theorem dpe_callTy {T:String} {g:FA} {x:Str} {p:Pos} {es:List Expr} {t:TDA} (hc:DCl X K (.type T) g) (hg:Gl X x) (hm:X.mg x=none) (hv:bootBuiltins x=some (.type T)) (ha:DA X K E (e::es) t) (hn:x≠"__name__":=by decide) (hdb:(x==("__debug__":Str))=false:=by decide)
  (he:starEach (e::es) X.env=(false,eval e X.env)::starEach es X.env:=by rfl) (hpl:(backTo pos (starEach es X.env)).any (·.1)=false:=by rfl):DE X K E (.Call (.Name x p) (e::es) [] pos) (dCB g t):=by
 obtain ⟨r,c,pr⟩:=hc.ex
 exact ⟨qe_imp (qpe_callTy c hg hm hv ha.q hn hdb he hpl) (le_cb pr)⟩
theorem dns1 {H:Hp} {xs:List V} {d:D} (h:Dns K H xs [d]):∃ v,xs=[v]/\Dn K H v d:=by
 cases h with
 | cons h r=>cases r;exact ⟨_,rfl,h⟩
theorem dns2 {H:Hp} {xs:List V} {d e:D} (h:Dns K H xs [d,e]):∃ v w',xs=[v,w']/\Dn K H v d/\Dn K H w' e:=by
 cases h with
 | cons h r=>obtain ⟨v,rfl,g⟩:=dns1 r;exact ⟨_,_,rfl,h,g⟩
def fLen:FA:=λds _ Q=>match ds with
 | [.list xs]=>Q (.int xs.length) .old
 | [.tuple xs]=>Q (.int xs.length) .old
 | [.dict [(.none,.list xs)]]=>Q (.int xs.length) .old
 | _=>False
theorem dns_of_scr {H:Hp} {v:V} {ds:List D} (h:Dn K H v (.dict [(.none,.list ds)])):∃ (a:Addr) (ns:List Int),v=.ref a/\SqL K H a (ns.map V.int)/\ds=ns.map PyData.int:=by
 cases h with
 | scr ns h=>exact ⟨_,_,rfl,h,rfl⟩
theorem dcl_len (hK:X.K=K):DCl X K (.builtin "len") fLen:=⟨_,call_lenK K hK,λZ ν Hs H xs ds k Qf Q _ _ _ h g q=>by
 unfold fLen at g
 split at g
 ·obtain ⟨v,rfl,h1⟩:=dns1 h.dens
  obtain ⟨a,us,rfl,g1,g2⟩:=dns_of_lst h1
  exact ⟨a,us,rfl,.inl (SqL.of g1),q _ _ _ _ g (Same.refl H) (by rw[g2.length];exact .int _)⟩
 ·obtain ⟨v,rfl,h1⟩:=dns1 h.dens
  obtain ⟨a,us,rfl,g1,g2⟩:=dns_of_tup h1
  exact ⟨a,us,rfl,.inr g1,q _ _ _ _ g (Same.refl H) (by rw[g2.length];exact .int _)⟩
 ·obtain ⟨v,rfl,h1⟩:=dns1 h.dens
  obtain ⟨a,ns,rfl,g1,rfl⟩:=dns_of_scr h1
  exact ⟨a,_,rfl,.inl g1,q _ _ _ _ g (Same.refl H) (by rw[length_map,length_map];exact .int _)⟩
 ·exact g.elim⟩
def intsD:List D->Option (List Int)
 | []=>some []
 | .int i::r=>(intsD r).map (i::·)
 | _=>Option.none
def boolsD:List D->Option (List Bool)
 | []=>some []
 | .bool i::r=>(boolsD r).map (i::·)
 | _=>Option.none
theorem dns_ints {H:Hp}:∀ {us:List V} {ds:List D} {ns:List Int},Dns K H us ds->intsD ds=some ns->us=ns.map V.int
 | _,_,_,.nil,e=>by cases e;rfl
 | _,_,ns,.cons h r,e=>by
  cases h<;>first|(simp only[dctD,intsD] at e;first|cases e|(rw[Option.map_eq_some_iff] at e;obtain ⟨ms,e1,rfl⟩:=e;rw[dns_ints r e1];rfl))
theorem dns_bools {H:Hp}:∀ {us:List V} {ds:List D} {ns:List Bool},Dns K H us ds->boolsD ds=some ns->us=ns.map V.bl
 | _,_,_,.nil,e=>by cases e;rfl
 | _,_,ns,.cons h r,e=>by
  cases h<;>first|(simp only[dctD,boolsD] at e;first|cases e|(rw[Option.map_eq_some_iff] at e;obtain ⟨ms,e1,rfl⟩:=e;rw[dns_bools r e1];rfl))
def fSum:FA:=λds _ Q=>match ds with
 | [.list xs]=>∃ ns,intsD xs=some ns/\Q (.int ns.sum) .old
 | _=>False
theorem dcl_sum (hK:X.K=K) (hc:X.calm=true):DCl X K (.builtin "sum") fSum:=⟨_,call_sumK K hK hc,λZ ν Hs H xs ds k Qf Q _ _ _ h g q=>by
 unfold fSum at g
 split at g
 ·obtain ⟨v,rfl,h1⟩:=dns1 h.dens
  obtain ⟨a,us,rfl,g1,g2⟩:=dns_of_lst h1
  obtain ⟨ns,e,g⟩:=g
  exact ⟨a,ns,rfl,SqL.of (by rw[g1,dns_ints g2 e]),q _ _ _ _ g (Same.refl H) (.int _)⟩
 ·exact g.elim⟩
def fBls (f:List Bool->Bool):FA:=λds _ Q=>match ds with
 | [.list xs]=>∃ ns,boolsD xs=some ns/\Q (.bool (f ns)) .old
 | _=>False
theorem dcl_all (hK:X.K=K) (hc:X.calm=true):DCl X K (.builtin "all") (fBls λl=>l.all id):=⟨_,call_allK K hK hc,λZ ν Hs H xs ds k Qf Q _ _ _ h g q=>by
 unfold fBls at g
 split at g
 ·obtain ⟨v,rfl,h1⟩:=dns1 h.dens
  obtain ⟨a,us,rfl,g1,g2⟩:=dns_of_lst h1
  obtain ⟨ns,e,g⟩:=g
  exact ⟨a,ns,rfl,SqL.of (by rw[g1,dns_bools g2 e]),q _ _ _ _ g (Same.refl H) (.bl _)⟩
 ·exact g.elim⟩
def fAbs:FA:=λds _ Q=>match ds with
 | [.int i]=>Q (.int (if i < 0 then -i else i)) .old
 | _=>False
theorem dcl_abs:DCl X K (.builtin "abs") fAbs:=⟨_,call_abs,λZ ν Hs H xs ds k Qf Q _ _ _ h g q=>by
 unfold fAbs at g
 split at g
 ·obtain ⟨v,rfl,h1⟩:=dns1 h.dens
  exact ⟨_,by rw[dn_int h1],q _ _ _ _ g (Same.refl H) (.int _)⟩
 ·exact g.elim⟩
theorem rsl_one {Z:Addr->Prop} {ν:Nat->List Addr} {Hs H:Hp} {k:Kd} {v:V} {d:D} (h:RsL K Z ν Hs H k [v] [d]):Res K Z ν Hs H k v d:=by
 cases k with
 | own s =>
  obtain ⟨ms,h1,h2,h3⟩:=h
  cases h1 with
  | cons h r=>cases r;rw[append_nil] at h2 h3;exact ⟨_,h,h2,h3⟩
 | old=>cases (show Dns K _ [v] [d] from h) with|cons h r=>exact h
 | mix=>cases (show Dns K _ [v] [d] from h) with|cons h r=>exact h
def fList:FA:=λds k Q=>match ds with
 | [.list xs]=>Q (.list xs) (kels xs k)
 | _=>False
theorem dcl_list (hK:X.K=K):DCl X K (.type "list") fList:=⟨_,call_listK K hK,λZ ν Hs H xs ds k Qf Q hl hn hs h g q=>by
 unfold fList at g
 split at g
 ·obtain ⟨v,rfl,_⟩:=dns1 h.dens
  obtain ⟨a,us,rfl,g1,g2,g3⟩:=res_list hl hn (rsl_one h)
  exact ⟨a,us,rfl,.inl (SqL.of g1),λp hp=>q _ _ _ _ g (Same.new hp) (res_newL hl hs hp g3)⟩
 ·exact g.elim⟩
def isInt:D->Bool
 | .int _=>true
 | .bool _=>true
 | _=>false
def isList:D->Bool
 | .list _=>true
 | _=>false
end
structure EndsD where
 nx:Ren->Prop
 rt:D->Bool->Prop
 bk:Ren->Prop:=λ_=>False
 ct:Ren->Prop:=λ_=>False
abbrev TSD:=EndsD->Ren->XD->Prop
structure EndsOk (K:W.Frag) (H0:Hp) (En:Ends) (Dd:EndsD):Prop where
 nx:∀ ν ρ σ H,Dd.nx ρ->StOk K Z0 H0 ν ρ σ H->En.nx σ H
 bk:∀ ν ρ σ H,Dd.bk ρ->StOk K Z0 H0 ν ρ σ H->En.bk σ H
 ct:∀ ν ρ σ H,Dd.ct ρ->StOk K Z0 H0 ν ρ σ H->En.ct σ H
 rt:∀ d o v H,Dd.rt d o->Same H0 H->RR K H0 H o v d->En.rt v H
def LS (K:W.Frag) (E:XK) (t:TSD):TS:=λEn σ H=>∃ H0 ν ρ Dd Xd,StOk K Z0 H0 ν ρ σ H/\t Dd ρ Xd/\EndsOk K H0 En Dd/\∀ C H',Xd C->Same H0 H'->E (.ref C) none H'
structure DS (X:Cx) (K:W.Frag) (E:XK) (s:Stmt) (t:TSD):Prop where
 q:QS X s (LS K E t)
structure DSs (X:Cx) (K:W.Frag) (E:XK) (s:List Stmt) (t:TSD):Prop where
 q:QSs X s (LS K E t)
def setK (ρ:Ren) (i:Nat) (d:D) (k:Kd):Ren:=if flat d=true then ρ.set i (some (false,d)) else match k with
 | .own s=>(dropS ρ s).set i (some (true,d))
 | .old=>ρ.set i (some (false,d))
 | .mix=>(frz ρ).set i (some (false,d))
section
variable {K:W.Frag} {H0 H H':Hp} {ν:Nat->List Addr} {ρ:Ren} {σ:L2.St} {v:V} {d:D} {k:Kd}
theorem hid_z0 {H:Hp}:Same H (hid (Hd Z0 λ_=>[]) H):=λa o h=>hid_of h λz=>by
 rcases z with z|⟨_,z⟩
 ·exact z
 ·cases z
theorem StOk.setK (S:StOk K Z0 H0 ν ρ σ H) (e:Same H H') (h:Res K Z0 ν H H' k v d) (i:Nat):∃ ν',StOk K Z0 H0 ν' (setK ρ i d k) (σ.set i (some v)) H':=by
 unfold DL.setK
 split
 ·exact ⟨_,(S.same e).setOld i (den_hid (S.same e).hl h.den ‹_›)⟩
 ·cases k with
  | own s =>
   obtain ⟨ms,h1,h2,h3⟩:=h
   exact ⟨_,S.setOwn s i e h1 h2 h3⟩
  | old=>exact ⟨_,(S.same e).setOld i h⟩
  | mix=>exact ⟨_,(S.same e).frz.setOld i (Dn.same hid_z0 h)⟩
def rtK (d:D) (k:Kd):Bool:=flat d||match k with
 | .own _=>true
 | _=>false
theorem rr_of (S:StOk K Z0 H0 ν ρ σ H) (e:Same H H') (h:Res K Z0 ν H H' k v d):RR K H0 H' (rtK d k) v d:=by
 unfold rtK
 cases hf:flat d with
 | true=>exact ⟨[],ow_flat h.den hf,nodup_nil,λ_ z=>by cases z⟩
 | false =>
  cases k with
  | own s =>
   obtain ⟨ms,h1,h2,h3⟩:=h
   refine ⟨ms,h1,h2,λa ha=>?_⟩
   rcases h3 a ha with z|⟨j,_,z⟩
   ·exact S.sm.gone z
   ·exact (S.fr j a z).1
  | old=>exact Dn.same hid_same h
  | mix=>exact h
theorem StOk.low {Z:Addr->Prop} {H1:Hp} (S:StOk K Z H1 ν ρ σ H) (e:Same H0 H1):StOk K Z H0 ν ρ σ H :=
 ⟨e.trans S.sm,S.len,S.sl,S.nd,S.dj,λi a h=>⟨e.gone (S.fr i a h).1,(S.fr i a h).2⟩,λa h=>⟨e.gone (S.zf a h).1,(S.zf a h).2⟩⟩
theorem StOk.base {Z:Addr->Prop} (S:StOk K Z H0 ν ρ σ H):Same H0 (hid (Hd Z ν) H):=λa o h=>hid_of (S.sm a o h) λz=>by
 rcases z with z|⟨i,z⟩
 ·rw[(S.zf a z).1] at h;cases h
 ·rw[(S.fr i a z).1] at h;cases h
theorem StOk.high {Z:Addr->Prop} (S:StOk K Z H0 ν ρ σ H):StOk K Z (hid (Hd Z ν) H) ν ρ σ H :=
 ⟨hid_same,S.len,S.sl,S.nd,S.dj,λi a h=>⟨by unfold hid;rw[if_pos (.inr ⟨i,h⟩)],(S.fr i a h).2⟩,λa h=>⟨by unfold hid;rw[if_pos (.inl h)],(S.zf a h).2⟩⟩
theorem RR.low {H1:Hp} {o:Bool} (h:RR K H1 H o v d) (e:Same H0 H1):RR K H0 H o v d:=by
 cases o with
 | true=>obtain ⟨ms,h1,h2,h3⟩:=h;exact ⟨ms,h1,h2,λa ha=>e.gone (h3 a ha)⟩
 | false=>exact h
theorem EndsOk.high {En:Ends} {Dd:EndsD} {H1:Hp} (h:EndsOk K H0 En Dd) (e:Same H0 H1):EndsOk K H1 En Dd :=
 ⟨λν ρ σ H a S=>h.nx ν ρ σ H a (S.low e),λν ρ σ H a S=>h.bk ν ρ σ H a (S.low e),λν ρ σ H a S=>h.ct ν ρ σ H a (S.low e),λd o v H a b c=>h.rt d o v H a (e.trans b) (c.low e)⟩
end
section
variable {X:Cx} {K:W.Frag} {E:XK} {pos:Pos} {a b c e:Expr} {te:TD} {tA:TDT} {t u:TSD}
def dSet (i:Nat) (te:TD):TSD:=λDd ρ Xd=>te ρ (λd k=>Dd.nx (setK ρ i d k)) Xd
theorem dpset (i:Nat) {x:Str} {pos':Pos} (hN:X.N.Nodup) (he:DE X K E e te) (hi:X.N[i]?=some x:=by rfl) (hx:Loc X.env.scope x:=by first|exact Or.inl rfl|exact Or.inr rfl) (hs:swapsWith e (some (.Name x pos')) pos.line X.env=pure false:=by rfl) (hf:X.fn x=true\/X.env.scope.names.lookup x=some .local:=by first|exact .inl rfl|exact .inr rfl|assumption) :
  DS X K E (.Assign [.Name x pos'] e pos) (dSet i te):=⟨qs_imp (qpset i hN he.q hi hx hs hf) λEn σ H h=>by
 obtain ⟨H0,ν,ρ,Dd,Xd,S,h1,ok,x⟩:=h
 refine ⟨H0,ν,ρ,_,Xd,S,h1,λd k v H' g1 g2 g3=>?_,x⟩
 obtain ⟨ν',S'⟩:=S.setK g2 g3 i
 exact ok.nx _ _ _ _ g1 S'⟩
def dRet (te:TD):TSD:=λDd ρ Xd=>te ρ (λd k=>Dd.rt d (rtK d k)) Xd
theorem dps_ret (he:DE X K E e te):DS X K E (.Return (some e) pos) (dRet te):=⟨qs_imp (qps_ret he.q) λEn σ H h=>by
 obtain ⟨H0,ν,ρ,Dd,Xd,S,h1,ok,x⟩:=h
 exact ⟨H0,ν,ρ,_,Xd,S,h1,λd k v H' g1 g2 g3=>ok.rt _ _ _ _ g1 (S.sm.trans g2) (rr_of S g2 g3),x⟩⟩
def dDrop (te:TD):TSD:=λDd ρ Xd=>te ρ (λ_ _=>Dd.nx ρ) Xd
theorem dps_expr (he:DE X K E e te) (hs:swapsWith e none pos.line X.env=pure false:=by rfl):DS X K E (.Expr e pos) (dDrop te):=⟨qs_imp (qps_expr he.q hs) λEn σ H h=>by
 obtain ⟨H0,ν,ρ,Dd,Xd,S,h1,ok,x⟩:=h
 exact ⟨H0,ν,ρ,_,Xd,S,h1,λd k v H' g1 g2 g3=>ok.nx _ _ _ _ g1 (S.same g2),x⟩⟩
def dNext:TSD:=λDd ρ _=>Dd.nx ρ
def dIfS (tA:TDT) (t u:TSD):TSD:=λDd ρ Xd=>tA ρ (λb=>if b=true then t Dd ρ Xd else u Dd ρ Xd) Xd
theorem dps_if {as bs:List Stmt} (hc:DT X K E c tA) (ha:DSs X K E as t) (hb:DSs X K E bs u):DS X K E (.If c as bs pos) (dIfS tA t u):=⟨qs_imp (qps_if hc.q ha.q hb.q) λEn σ H h=>by
 obtain ⟨H0,ν,ρ,Dd,Xd,S,h1,ok,x⟩:=h
 refine ⟨H0,ν,ρ,_,Xd,S,h1,λb H' g1 g2=>?_,x⟩
 cases b with
 | true=>exact ⟨H0,ν,ρ,Dd,Xd,S.same g2,g1,ok,x⟩
 | false=>exact ⟨H0,ν,ρ,Dd,Xd,S.same g2,g1,ok,x⟩⟩
def dSeq (t u:TSD):TSD:=λDd ρ Xd=>t { Dd with nx:=λρ'=>u Dd ρ' Xd } ρ Xd
theorem dpss_nil:DSs X K E [] dNext:=⟨qss_imp qpss_nil λEn σ H h=>by
 obtain ⟨H0,ν,ρ,Dd,Xd,S,h1,ok,x⟩:=h
 exact ok.nx _ _ _ _ h1 S⟩
theorem dpss_one {st:Stmt} (h1:DS X K E st t):DSs X K E [st] t:=⟨qpss_one h1.q⟩
theorem dpss_cons {st:Stmt} {rest:List Stmt} (h1:DS X K E st t) (h2:DSs X K E rest u):DSs X K E (st::rest) (dSeq t u):=⟨qss_imp (qpss_cons h1.q h2.q) λEn σ H h=>by
 obtain ⟨H0,ν,ρ,Dd,Xd,S,h1,ok,x⟩:=h
 exact ⟨H0,ν,ρ,_,Xd,S,h1,⟨λν' ρ' σ' H' a S'=>⟨H0,ν',ρ',Dd,Xd,S',a,ok,x⟩,ok.bk,ok.ct,ok.rt⟩,x⟩⟩
def dFrz (i:Nat) (t:TSD):TSD:=λDd ρ Xd=>t Dd (frz1 i ρ) Xd
theorem dps_frz (i:Nat) {s:Stmt} (h:DS X K E s t):DS X K E s (dFrz i t):=⟨qs_imp h.q λEn σ H h=>by
 obtain ⟨H0,ν,ρ,Dd,Xd,S,h1,ok,x⟩:=h
 exact ⟨H0,_,_,Dd,Xd,S.frz1 i,h1,ok,x⟩⟩
def dRaise (C:Addr) (t:TDA):TSD:=λ_ ρ Xd=>t ρ (λds _=>ds.length<=1000/\Xd C) Xd
theorem dps_raise {x:Str} {C:Addr} {e0:Expr} {es:List Expr} {t:TDA} {np cpos:Pos} (hx:RaiseOk X E) (hc:X.calm=true) (c:ExC X.K X.mg x C) (hg:Gl X x) (ha:DA X K E (e0::es) t) (hdb:(x==("__debug__":Str))=false:=by decide)
  (he:starEach (e0::es) X.env=(false,eval e0 X.env)::starEach es X.env:=by rfl) (hpl:(backTo cpos (starEach es X.env)).any (·.1)=false:=by rfl) :
  DS X K E (.Raise (some (.Call (.Name x np) (e0::es) [] cpos)) none pos) (dRaise C t):=⟨qs_imp (qps_raise hx hc c hg ha.q hdb he hpl) λEn σ H h=>by
 obtain ⟨H0,ν,ρ,Dd,Xd,S,h1,ok,x⟩:=h
 refine ⟨H0,ν,ρ,_,Xd,S,h1,λds k vs H' g1 g2 g3=>?_,x⟩
 exact ⟨by rw[g3.dens.length];exact Nat.le_trans g1.1 (by decide),x C H' g1.2 (S.sm.trans g2)⟩⟩
def dWhile (tc:TDT) (tb:TSD):TSD:=λDd ρ Xd=>∃ W:Nat->Ren->Prop,(∃ m,W m ρ)/\∀ m ρ,W m ρ->tc ρ (λb=>if b=true then tb { Dd with nx:=λρ'=>∃ m',m' < m/\W m' ρ',ct:=λρ'=>∃ m',m' < m/\W m' ρ',bk:=Dd.nx } ρ Xd else Dd.nx ρ) Xd
theorem dps_while {body:List Stmt} {tb:TSD} (hp:PassesOwn (model X.prog X.w) X.A X.env X.xe) (hc:DT X K E c tA) (hb:DSs X K E body tb):DS X K E (.While c body [] pos) (dWhile tA tb):=⟨qs_imp (qps_while hp hc.q hb.q) λEn σ H h=>by
 obtain ⟨H0,ν,ρ,Dd,Xd,S,⟨W,⟨m0,w0⟩,turn⟩,ok,x⟩:=h
 refine ⟨λm σ H=>∃ ν ρ,StOk K Z0 H0 ν ρ σ H/\W m ρ,⟨m0,ν,ρ,S,w0⟩,?_⟩
 rintro m σ1 H1 ⟨ν1,ρ1,S1,w1⟩
 refine ⟨H0,ν1,ρ1,_,Xd,S1,turn m ρ1 w1,λb H' g1 g2=>?_,x⟩
 cases b with
 | true =>
  rw[if_pos rfl] at g1 ⊢
  refine ⟨λσ' H'=>∃ m',m' < m/\∃ ν ρ,StOk K Z0 H0 ν ρ σ' H'/\W m' ρ,λσ' H' z=>z,H0,ν1,ρ1,_,Xd,S1.same g2,g1,⟨λν ρ σ H a S=>?_,λν ρ σ H a S=>ok.nx ν ρ σ H a S,λν ρ σ H a S=>?_,ok.rt⟩,x⟩
  ·obtain ⟨m',hm,w'⟩:=a;exact ⟨m',hm,ν,ρ,S,w'⟩
  ·obtain ⟨m',hm,w'⟩:=a;exact ⟨m',hm,ν,ρ,S,w'⟩
 | false =>
  rw[if_neg Bool.false_ne_true] at g1 ⊢
  exact ok.nx _ _ _ _ g1 (S1.same g2)⟩
end
abbrev TGD:=D->Ren->(Ren->Prop)->Prop
abbrev TGsD:=List D->Ren->(Ren->Prop)->Prop
def noOwn (ρ:Ren):Prop:=∀ (i:Nat) d,ρ[i]?≠some (some (true,d))
theorem noOwn_set {ρ:Ren} (h:noOwn ρ) (i:Nat) (d:D):noOwn (ρ.set i (some (false,d))):=λj e z=>by
 rcases set_get z with ⟨_,z,_⟩|⟨_,z⟩
 ·cases z
 ·exact h j e z
def Agr (T:List Nat) (ρ ρ':Ren):Prop:=ρ'.length=ρ.length/\∀ i,i∉T->ρ'[i]?=ρ[i]?
def BndOk (K:W.Frag) (g:TG) (T:List Nat) (bnd:TGD):Prop:=∀ (H0:Hp) (ν:Nat->List Addr) (ρ:Ren) (σ:L2.St) (H:Hp) (v:V) (d:D) (Qd:Ren->Prop) (Q:L2.St->Hp->Prop),StOk K Z0 H0 ν ρ σ H->Dn K (hid (Hd Z0 ν) H) v d->bnd d ρ Qd ->
 (∀ ρ' σ',Qd ρ'->StOk K Z0 H0 ν ρ' σ' H->Agr T ρ ρ'->(noOwn ρ->noOwn ρ')->Q σ' H)->g v σ H Q
def BndsOk (K:W.Frag) (g:TGs) (T:List Nat) (bnd:TGsD):Prop:=∀ (H0:Hp) (ν:Nat->List Addr) (ρ:Ren) (σ:L2.St) (H:Hp) (vs:List V) (ds:List D) (Qd:Ren->Prop) (Q:L2.St->Hp->Prop),StOk K Z0 H0 ν ρ σ H->Dns K (hid (Hd Z0 ν) H) vs ds->bnd ds ρ Qd ->
 (∀ ρ' σ',Qd ρ'->StOk K Z0 H0 ν ρ' σ' H->Agr T ρ ρ'->(noOwn ρ->noOwn ρ')->Q σ' H)->g vs σ H Q
structure DG (X:Cx) (K:W.Frag) (tg:Expr) (T:List Nat) (bnd:TGD):Prop where
 ex:∃ g,QG X tg g/\BndOk K g T bnd
structure DGs (X:Cx) (K:W.Frag) (tg:List Expr) (T:List Nat) (bnd:TGsD):Prop where
 ex:∃ g,QGs X tg g/\BndsOk K g T bnd
def bName (i:Nat):TGD:=λd ρ Q=>Q (ρ.set i (some (false,d)))
def bNil:TGsD:=λds ρ Q=>ds=[]/\Q ρ
def bCons (b:TGD) (bs:TGsD):TGsD:=λds ρ Q=>match ds with
 | d::r=>b d ρ λρ'=>bs r ρ' Q
 | []=>False
def bTup (n:Nat) (bs:TGsD):TGD:=λd ρ Q=>match d with
 | .tuple ds=>ds.length=n/\bs ds ρ Q
 | _=>False
section
variable {X:Cx} {K:W.Frag} {pos:Pos}
theorem Agr.trans {T U:List Nat} {a b c:Ren} (h:Agr T a b) (g:Agr U b c):Agr (T++U) a c:=⟨g.1.trans h.1,λi hi=>by
 rw[mem_append,not_or] at hi
 rw[g.2 i hi.2,h.2 i hi.1]⟩
theorem dpgn (i:Nat) {x:Str} (hN:X.N.Nodup) (hi:X.N[i]?=some x:=by rfl) (hx:Loc X.env.scope x:=by first|exact Or.inl rfl|exact Or.inr rfl) (hf:X.fn x=true\/X.env.scope.names.lookup x=some .local:=by first|exact .inl rfl|exact .inr rfl|assumption):DG X K (.Name x pos) [i] (bName i) :=
 ⟨_,qpgn i hN hi hx hf,λH0 ν ρ σ H v d Qd Q S h b q=>q _ _ b (S.setOld i h) ⟨length_set,λj hj=>List.getElem?_set_ne (by simpa using Ne.symm (by simpa using hj))⟩ λn=>noOwn_set n i d⟩
theorem dpgs_nil:DGs X K [] [] bNil:=⟨_,qpgs_nil,λH0 ν ρ σ H vs ds Qd Q S h b q=>by
 obtain ⟨rfl,b⟩:=b
 cases h
 exact ⟨rfl,q _ _ b S ⟨rfl,λ_ _=>rfl⟩ id⟩⟩
theorem dpgs_cons {e:Expr} {es:List Expr} {T U:List Nat} {b:TGD} {bs:TGsD} (h1:DG X K e T b) (h2:DGs X K es U bs) (hs:(assignEach (e::es) X.env).map (·.2)=assign e X.env::(assignEach es X.env).map (·.2):=by rfl):DGs X K (e::es) (T++U) (bCons b bs):=by
 obtain ⟨g,q1,o1⟩:=h1.ex
 obtain ⟨gs,q2,o2⟩:=h2.ex
 refine ⟨_,qpgs_cons q1 q2 hs,λH0 ν ρ σ H vs ds Qd Q S h b q=>?_⟩
 cases h with
 | nil=>exact b.elim
 | cons h r =>
  refine ⟨_,_,rfl,o1 H0 ν ρ σ H _ _ _ _ S h b λρ' σ' b' S' A n1=>?_⟩
  exact o2 H0 ν ρ' σ' H _ _ _ _ S' r b' λρ'' σ'' b'' S'' A' n2=>q _ _ b'' S'' (A.trans A') λn=>n2 (n1 n)
theorem dpg_tup (n:Nat) {es:List Expr} {k:Nat} {T:List Nat} {bs:TGsD} (hK:X.K=K) (hc:X.calm=true) (h:DGs X K es T bs) (hn:(assignEach es X.env).length=n) (hst:(assignEach es X.env).findIdx? (·.1)=none):DG X K (.Tuple es k pos) T (bTup n bs):=by
 obtain ⟨gs,q1,o1⟩:=h.ex
 refine ⟨_,qpg_tupK K n hK hc q1 hn hst,λH0 ν ρ σ H v d Qd Q S h b q=>?_⟩
 unfold bTup at b
 split at b
 ·obtain ⟨a,us,rfl,g1,g2⟩:=dns_of_tup h
  exact ⟨a,us,rfl,Same.tup hid_same g1,by rw[g2.length];exact b.1,o1 H0 ν ρ σ H _ _ _ _ S g2 b.2 q⟩
 ·exact b.elim
end
def ItOk (K:W.Frag) (F0:Hp) (J:It) (ds:List D):Prop:=∀ (W:Addr->Prop) (H2:Hp),(∀ a,W a->Mu H2 a)->Same F0 (hid W H2) ->
 J.stop ds.length H2/\∀ i d,ds[i]?=some d->J.go i H2/\∀ x H',J.yld i H2 x H'->Same H2 H'/\Dn K (hid W H') x d
abbrev TDI:=Ren->(List D->Bool->Prop)->XD->Prop
noncomputable def fz (b:Bool) (ν:Nat->List Addr) (H:Hp):Hp:=if b=true then hid (Hd Z0 ν) H else H
def LI (K:W.Frag) (E:XK) (t:TDI):TI:=λσ H R=>∃ H0 ν ρ Qd Xd,StOk K Z0 H0 ν ρ σ H/\t ρ Qd Xd/\(∀ ds b J H1,Qd ds b->Same H H1->ItOk K (fz b ν H1) J ds->R J H1)/\∀ C H',Xd C->Same H0 H'->E (.ref C) none H'
structure DI (X:Cx) (K:W.Frag) (E:XK) (tg e:Expr) (t:TDI):Prop where
 q:QI X tg e (LI K E t)
theorem qi_imp {X:Cx} {tg e:Expr} {t t':TI} (h:QI X tg e t) (i:∀ σ H Q,t' σ H Q->t σ H Q):QI X tg e t':=⟨λpins s σ H Q I w=>h.h pins s σ H Q I (i σ H Q w)⟩
section
variable {X:Cx} {K:W.Frag} {E:XK} {pos:Pos} {tg l:Expr} {te:TD} {ta:TDA}
theorem itok_list {F0:Hp} {a:Addr} {us:List V} {ds:List D} (h:F0 a=some (.lst us)) (r:Dns K F0 us ds):ItOk K F0 (Itl K a) ds:=λW H2 hl sm=>by
 have h2:H2 a=some (.lst us):=(of_hid (sm _ _ h)).1
 refine ⟨⟨us,SqL.of h2,by rw[r.length];exact Nat.le_refl _⟩,λi d hd=>?_⟩
 obtain ⟨u,h3,h4⟩:=r.get hd
 refine ⟨⟨us,u,SqL.of h2,h3⟩,λx H' y=>?_⟩
 obtain ⟨rfl,y⟩:=y
 have:=y us (SqL.of h2)
 rw[h3] at this;cases this
 exact ⟨Same.refl _,Dn.same sm h4⟩
theorem res_fz {ν:Nat->List Addr} {Hs H:Hp} {k:Kd} {v:V} {d:D} (hl:∀ a,Hd Z0 ν a->Mu H a) (hn:∀ a,Hd Z0 ν a->Mu Hs a) (h:Res K Z0 ν Hs H k v d):Dn K (fz k.isOld ν H) v d:=by
 unfold fz
 split
 ·exact h.old hl hn ‹_›
 ·exact h.den
def iL (te:TD):TDI:=λρ Q Xd=>te ρ (λd k=>match d with
 | .list ds=>Q ds k.isOld
 | _=>False) Xd
theorem dpi_list (hK:X.K=K) (hl:DE X K E l te):DI X K E tg l (iL te):=⟨qi_imp (qpi_listK K hK hl.q) λσ H R h=>by
 obtain ⟨H0,ν,ρ,Qd,Xd,S,h1,q,x⟩:=h
 refine ⟨H0,ν,ρ,_,Xd,S,h1,λd k v H' g1 g2 g3=>?_,x⟩
 cases d with
 | list ds =>
  have hf:=res_fz (S.same g2).hl S.hl g3
  obtain ⟨a,us,rfl,q1,q2⟩:=dns_of_lst hf
  have q0:H' a=some (.lst us):=by unfold fz at q1;split at q1;exact (of_hid q1).1;exact q1
  exact ⟨a,rfl,⟨us,SqL.of q0⟩,q ds _ _ H' g1 g2 (itok_list q1 q2)⟩
 | _=>exact g1.elim⟩
def rngD (lo:Int) (n:Nat):List D:=(List.range n).map λ(i:Nat)=>PyData.int (lo+i)
theorem itok_rng {F0:Hp} {lo:Int} {n:Nat}:ItOk K F0 (Itr lo n) (rngD lo n):=λW H2 hl sm=>by
 refine ⟨?_,λi d hd=>?_⟩
 ·show n<=_
  unfold rngD;rw[length_map,length_range];exact Nat.le_refl _
 ·unfold rngD at hd
  rw[List.getElem?_map] at hd
  cases e:(List.range n)[i]? with
  | none=>rw[e] at hd;cases hd
  | some j =>
   rw[e] at hd;cases hd
   obtain ⟨h1,h2⟩:=List.getElem?_eq_some_iff.mp e
   rw[List.getElem_range] at h2
   subst h2
   rw[length_range] at h1
   refine ⟨h1,λx H' y=>?_⟩
   obtain ⟨rfl,rfl⟩:=y
   exact ⟨Same.refl _,.int _⟩
def iR1 (ta:TDA):TDI:=λρ Q Xd=>ta ρ (λds _=>match ds with
 | [.int j]=>-(2 ^ 62)<=j/\j < 2 ^ 62/\Q (rngD 0 j.toNat) true
 | _=>False) Xd
def iR2 (ta:TDA):TDI:=λρ Q Xd=>ta ρ (λds _=>match ds with
 | [.int i,.int j]=>(-(2 ^ 62)<=i/\i < 2 ^ 62/\-(2 ^ 62)<=j/\j < 2 ^ 62)/\Q (rngD i (j - i).toNat) true
 | _=>False) Xd
theorem dpi_range1 {a:Expr} {p:Pos} (hg:Gl X "range") (hm:X.mg "range"=none) (ha:DA X K E [a] ta) (hs:starEach [a] X.env=[(false,eval a X.env)]:=by rfl):DI X K E tg (.Call (.Name "range" p) [a] [] pos) (iR1 ta):=⟨qi_imp (qpi_range1 hg hm ha.q hs) λσ H R h=>by
 obtain ⟨H0,ν,ρ,Qd,Xd,S,h1,q,x⟩:=h
 refine ⟨H0,ν,ρ,_,Xd,S,h1,λds k vs H' g1 g2 g3=>?_,x⟩
 split at g1
 ·obtain ⟨v,rfl,h2⟩:=dns1 g3.dens
  exact ⟨_,by rw[dn_int h2],g1.1,g1.2.1,q _ _ _ H' g1.2.2 g2 itok_rng⟩
 ·exact g1.elim⟩
theorem dpi_range2 {a b:Expr} {p:Pos} (hg:Gl X "range") (hm:X.mg "range"=none) (ha:DA X K E [a,b] ta) (hs:starEach [a,b] X.env=[(false,eval a X.env),(false,eval b X.env)]:=by rfl) (hs2:starEach [b] X.env=[(false,eval b X.env)]:=by rfl):DI X K E tg (.Call (.Name "range" p) [a,b] [] pos) (iR2 ta):=⟨qi_imp (qpi_range2 hg hm ha.q hs hs2) λσ H R h=>by
 obtain ⟨H0,ν,ρ,Qd,Xd,S,h1,q,x⟩:=h
 refine ⟨H0,ν,ρ,_,Xd,S,h1,λds k vs H' g1 g2 g3=>?_,x⟩
 split at g1
 ·obtain ⟨v,w',rfl,h2,h3⟩:=dns2 g3.dens
  exact ⟨_,_,by rw[dn_int h2,dn_int h3],g1.1,q _ _ _ H' g1.2 g2 itok_rng⟩
 ·exact g1.elim⟩
theorem rsl_fz {ν:Nat->List Addr} {Hs H:Hp} {k:Kd} {vs:List V} {ds:List D} (hl:∀ a,Hd Z0 ν a->Mu H a) (hn:∀ a,Hd Z0 ν a->Mu Hs a) (h:RsL K Z0 ν Hs H k vs ds):Dns K (fz k.isOld ν H) vs ds:=by
 unfold fz
 split
 ·exact h.old0 hl hn ‹_›
 ·exact h.dens
theorem fz_lst {b:Bool} {ν:Nat->List Addr} {H:Hp} {a:Addr} {us:List V} (h:fz b ν H a=some (.lst us)):H a=some (.lst us):=by
 unfold fz at h
 split at h
 ·exact (of_hid h).1
 ·exact h
def enumD:Nat->List D->List D
 | _,[]=>[]
 | i,d::r=>.tuple [.int i,d]::enumD (i+1) r
theorem enumD_get:∀ {n i:Nat} {ds:List D} {x:D},(enumD n ds)[i]?=some x->∃ d,ds[i]?=some d/\x=.tuple [.int ((n+i:Nat):Int),d]
 | n,0,d::r,x,h=>by simp[enumD] at h;exact ⟨d,rfl,h.symm⟩
 | n,i+1,d::r,x,h=>by
  simp[enumD] at h
  obtain ⟨e,h1,h2⟩:=enumD_get h
  exact ⟨e,by simpa using h1,by rw[h2];simp;lia⟩
 | n,i,[],x,h=>by simp[enumD] at h
theorem enumD_len:∀ (n:Nat) (ds:List D),(enumD n ds).length=ds.length
 | _,[]=>rfl
 | n,d::r=>by simp[enumD,enumD_len (n+1) r]
theorem new_tup {W:Addr->Prop} {H:Hp} {p:Addr} {vs:List V} {ds:List D} (hl:∀ a,W a->Mu H a) (hp:H p=none) (h:Dns K (hid W H) vs ds):Same H (upd H p (.tup vs))/\Dn K (hid W (upd H p (.tup vs))) (.ref p) (.tuple ds):=by
 have hz:¬ W p:=λz=>by obtain ⟨us,q⟩:=hl p z;rw[hp] at q;cases q
 exact ⟨Same.new hp,.tup (SqT.of (hid_of upd_same hz)) (Dns.same (hid_mono (Same.new hp)) h)⟩
theorem itok_enum {F0:Hp} {a:Addr} {us:List V} {ds:List D} (h:F0 a=some (.lst us)) (r:Dns K F0 us ds):ItOk K F0 (Ite K a) (enumD 0 ds):=λW H2 hl sm=>by
 have h2:H2 a=some (.lst us):=(of_hid (sm _ _ h)).1
 refine ⟨⟨us,SqL.of h2,by rw[r.length,enumD_len];exact Nat.le_refl _⟩,λi d hd=>?_⟩
 obtain ⟨e,hd2,rfl⟩:=enumD_get hd
 obtain ⟨u,h3,h4⟩:=r.get hd2
 refine ⟨⟨us,u,SqL.of h2,h3⟩,λx H' y=>?_⟩
 obtain ⟨p,z,hp,hy,rfl,rfl⟩:=y
 have:=hy us (SqL.of h2)
 rw[h3] at this;cases this
 refine new_tup hl hp (.cons ?_ (.cons (Dn.same sm h4) .nil))
 rw[Nat.zero_add];exact .int _
def iEn (ta:TDA):TDI:=λρ Q Xd=>ta ρ (λds k=>match ds with
 | [.list xs]=>Q (enumD 0 xs) k.isOld
 | _=>False) Xd
theorem dpi_enum {a:Expr} {p:Pos} {elts:List Expr} {x1} {tp:Pos} (hK:X.K=K) (hg:Gl X "enumerate") (hm:X.mg "enumerate"=none) (ha:DA X K E [a] ta) (hs:starEach [a] X.env=[(false,eval a X.env)]):DI X K E (.Tuple elts x1 tp) (.Call (.Name "enumerate" p) [a] [] pos) (iEn ta):=⟨qi_imp (qpi_enumK K hK hg hm ha.q hs) λσ H R h=>by
 obtain ⟨H0,ν,ρ,Qd,Xd,S,h1,q,x⟩:=h
 refine ⟨H0,ν,ρ,_,Xd,S,h1,λds k vs H' g1 g2 g3=>?_,x⟩
 split at g1
 ·obtain ⟨v,rfl,h2⟩:=dns1 (rsl_fz (S.same g2).hl S.hl g3)
  obtain ⟨a,us,rfl,q1,q2⟩:=dns_of_lst h2
  exact ⟨a,rfl,⟨us,SqL.of (fz_lst q1)⟩,q _ _ _ H' g1 g2 (itok_enum q1 q2)⟩
 ·exact g1.elim⟩
def zipD:List D->List D->List D
 | d::r,e::s=>.tuple [d,e]::zipD r s
 | _,_=>[]
theorem zipD_get:∀ {i:Nat} {ds es:List D} {x:D},(zipD ds es)[i]?=some x->∃ d e,ds[i]?=some d/\es[i]?=some e/\x=.tuple [d,e]
 | 0,d::r,e::s,x,h=>by simp[zipD] at h;exact ⟨d,e,rfl,rfl,h.symm⟩
 | i+1,d::r,e::s,x,h=>by
  simp[zipD] at h
  obtain ⟨d',e',h1,h2,h3⟩:=zipD_get h
  exact ⟨d',e',by simpa using h1,by simpa using h2,h3⟩
 | i,[],es,x,h=>by simp[zipD] at h
 | i,d::r,[],x,h=>by simp[zipD] at h
theorem zipD_len:∀ (ds es:List D),ds.length<=(zipD ds es).length\/es.length<=(zipD ds es).length
 | [],es=>.inl (Nat.zero_le _)
 | d::r,[]=>.inr (Nat.zero_le _)
 | d::r,e::s=>by
  rcases zipD_len r s with h|h
  ·exact .inl (by simp[zipD];exact h)
  ·exact .inr (by simp[zipD];exact h)
theorem itok_zip {F0:Hp} {a b:Addr} {us vs:List V} {ds es:List D} (h:F0 a=some (.lst us)) (r:Dns K F0 us ds) (h':F0 b=some (.lst vs)) (r':Dns K F0 vs es):ItOk K F0 (Itz K a b) (zipD ds es):=λW H2 hl sm=>by
 have h2:H2 a=some (.lst us):=(of_hid (sm _ _ h)).1
 have h2':H2 b=some (.lst vs):=(of_hid (sm _ _ h')).1
 refine ⟨⟨us,vs,SqL.of h2,SqL.of h2',by rw[r.length,r'.length];exact zipD_len ds es⟩,λi d hd=>?_⟩
 obtain ⟨e,e',hd2,hd',rfl⟩:=zipD_get hd
 obtain ⟨u,h3,h4⟩:=r.get hd2
 obtain ⟨u',h3',h4'⟩:=r'.get hd'
 refine ⟨⟨us,vs,u,u',SqL.of h2,SqL.of h2',h3,h3'⟩,λx H' y=>?_⟩
 obtain ⟨p,z,z',hp,hy,hy',rfl,rfl⟩:=y
 have:=hy us (SqL.of h2)
 rw[h3] at this;cases this
 have:=hy' vs (SqL.of h2')
 rw[h3'] at this;cases this
 exact new_tup hl hp (.cons (Dn.same sm h4) (.cons (Dn.same sm h4') .nil))
def iZp (ta:TDA):TDI:=λρ Q Xd=>ta ρ (λds k=>match ds with
 | [.list xs,.list ys]=>Q (zipD xs ys) k.isOld
 | _=>False) Xd
theorem dpi_zip {a b:Expr} {p:Pos} {elts:List Expr} {x1} {tp:Pos} (hK:X.K=K) (hg:Gl X "zip") (hm:X.mg "zip"=none) (ha:DA X K E [a,b] ta) (hs:starEach [a,b] X.env=[(false,eval a X.env),(false,eval b X.env)]:=by rfl) (hs2:starEach [b] X.env=[(false,eval b X.env)]:=by rfl):DI X K E (.Tuple elts x1 tp) (.Call (.Name "zip" p) [a,b] [] pos) (iZp ta):=⟨qi_imp (qpi_zipK K hK hg hm ha.q hs hs2) λσ H R h=>by
 obtain ⟨H0,ν,ρ,Qd,Xd,S,h1,q,x⟩:=h
 refine ⟨H0,ν,ρ,_,Xd,S,h1,λds k vs H' g1 g2 g3=>?_,x⟩
 split at g1
 ·obtain ⟨v,w',rfl,h2,h3⟩:=dns2 (rsl_fz (S.same g2).hl S.hl g3)
  obtain ⟨a,us,rfl,q1,q2⟩:=dns_of_lst h2
  obtain ⟨b,us',rfl,q3,q4⟩:=dns_of_lst h3
  exact ⟨a,b,rfl,⟨us,SqL.of (fz_lst q1)⟩,⟨us',SqL.of (fz_lst q3)⟩,q _ _ _ H' g1 g2 (itok_zip q1 q2 q3 q4)⟩
 ·exact g1.elim⟩
def dFor (ti:TDI) (bnd:TGD) (tb:TSD):TSD:=λDd ρ Xd=>ti ρ (λds b=>b=true/\∃ W:Nat->Ren->Prop,W 0 ρ/\(∀ i d ρ,ds[i]?=some d->W i ρ->bnd d ρ λρ'=>tb { Dd with nx:=W (i+1),ct:=W (i+1),bk:=Dd.nx } ρ' Xd)/\∀ ρ,W ds.length ρ->Dd.nx ρ) Xd
theorem dps_for {iter:Expr} {body:List Stmt} {ti:TDI} {T:List Nat} {bnd:TGD} {tb:TSD} (hp:PassesOwn (model X.prog X.w) X.A X.env X.xe) (hc:X.calm=true) (hi:DI X K E tg iter ti) (hg:DG X K tg T bnd) (hb:DSs X K E body tb) (hs:∀ x,foldedSetIterable iter X.env x=pure x:=by intro _;rfl) :
  DS X K E (.For tg iter body [] pos) (dFor ti bnd tb):=by
 obtain ⟨g,qg,og⟩:=hg.ex
 refine ⟨qs_imp (qps_for hp hc hi.q qg hb.q hs) λEn σ H h=>?_⟩
 obtain ⟨H0,ν,ρ,Dd,Xd,S,h1,ok,x⟩:=h
 refine ⟨H0,ν,ρ,_,Xd,S,h1,λds b J H1 g1 e1 it=>?_,x⟩
 obtain ⟨rfl,W,w0,step,done⟩:=g1
 have S1:=(S.same e1).high
 have eb:Same H0 (hid (Hd Z0 ν) H1):=(S.same e1).base
 have ok1:=ok.high eb
 have x1:∀ C H',Xd C->Same (hid (Hd Z0 ν) H1) H'->E (.ref C) none H':=λC H' a b=>x C H' a (eb.trans b)
 have it:ItOk K (hid (Hd Z0 ν) H1) J ds:=it
 refine ⟨λi m σ H=>m=ds.length - i/\i<=ds.length/\∃ ν' ρ',StOk K Z0 (hid (Hd Z0 ν) H1) ν' ρ' σ H/\W i ρ',⟨ds.length,by simp,Nat.zero_le _,ν,ρ,S1,w0⟩,?_⟩
 rintro i m σ2 H2 ⟨rfl,hi,ν2,ρ2,S2,w2⟩
 obtain ⟨i1,i2⟩:=it (Hd Z0 ν2) H2 S2.hl S2.base
 by_cases hlt:i < ds.length
 ·obtain ⟨j1,j2⟩:=i2 i ds[i] (List.getElem?_eq_getElem hlt)
  refine .inr ⟨j1,λσ' H'=>∃ ν' ρ',StOk K Z0 (hid (Hd Z0 ν) H1) ν' ρ' σ' H'/\W (i+1) ρ',λσ' H' ⟨ν',ρ',S',w'⟩=>⟨_,by lia,rfl,hlt,ν',ρ',S',w'⟩,λy H' hy=>?_⟩
  obtain ⟨k1,k2⟩:=j2 y H' hy
  refine og _ ν2 ρ2 σ2 H' y _ _ _ (S2.same k1) k2 (step i _ ρ2 (List.getElem?_eq_getElem hlt) w2) λρ3 σ3 b3 S3 A _=>?_
  exact ⟨_,ν2,ρ3,_,Xd,S3,b3,⟨λν ρ σ H a S=>⟨ν,ρ,S,a⟩,λν ρ σ H a S=>ok1.nx ν ρ σ H a S,λν ρ σ H a S=>⟨ν,ρ,S,a⟩,ok1.rt⟩,x1⟩
 ·have e:i=ds.length:=by lia
  subst e
  exact .inl ⟨i1,ok1.nx _ _ _ _ (done ρ2 w2) S2⟩
end
abbrev Els:=List (D × Bool)
abbrev TB:=Ren->Els->(Els->Prop)->Prop
def Xf:XD:=λ_=>False
structure In (K:W.Frag) (Hs Hm H0:Hp) (ν:Nat->List Addr) (acc:Addr) (ρ:Ren) (σ:L2.St) (H:Hp) (es:Els):Prop where
 st:StOk K Z0 H0 ν ρ σ H
 sm:Same Hm H
 nm:Hm acc=none
 hs:∃ o,Hs acc=some o
 sh:∀ a,H a=none->Hs a=none
 hd:∃ j,acc∈ν j
 no:noOwn ρ
 ac:∃ us,H acc=some (.lst us)/\Dns K (hid (Hd Z0 ν) H) us (es.map (·.1))/\(es.all (·.2)=true->∃ ms,Ows K H us (es.map (·.1)) ms/\ms.Nodup/\∀ a∈ms,Hs a=none)
section
variable {K:W.Frag} {Hs Hm H0 H H':Hp} {ν:Nat->List Addr} {acc:Addr} {ρ ρ':Ren} {σ:L2.St} {es:Els}
theorem In.same (I:In K Hs Hm H0 ν acc ρ σ H es) (e:Same H H'):In K Hs Hm H0 ν acc ρ σ H' es:=by
 obtain ⟨us,h1,h2,h3⟩:=I.ac
 refine ⟨I.st.same e,I.sm.trans e,I.nm,I.hs,λa h=>I.sh a (e.gone h),I.hd,I.no,us,e _ _ h1,Dns.same (hid_mono e) h2,λq=>?_⟩
 obtain ⟨ms,g1,g2,g3⟩:=h3 q
 exact ⟨ms,g1.same e,g2,g3⟩
theorem In.ren {σ':L2.St} (I:In K Hs Hm H0 ν acc ρ σ H es) (S:StOk K Z0 H0 ν ρ' σ' H) (no:noOwn ρ'):In K Hs Hm H0 ν acc ρ' σ' H es:=⟨S,I.sm,I.nm,I.hs,I.sh,I.hd,no,I.ac⟩
theorem ows_snoc {vs:List V} {ds:List D} {v:V} {d:D} {ns ms:List Addr} (h:Ow K H v d ns) (r:Ows K H vs ds ms):Ows K H (vs++[v]) (ds++[d]) (ms++ns):=by
 induction vs generalizing ds ms with
 | nil =>
  cases r
  rw[nil_append,nil_append,nil_append]
  have:=Ows.cons h (.nil (K:=K) (H:=H))
  rw[append_nil] at this;exact this
 | cons u us ih =>
  cases r with
  | cons a b=>rw[append_assoc];exact .cons a (ih b)
theorem StOk.updH {ws:List V} (S:StOk K Z0 H0 ν ρ σ H) (hd:∃ j,acc∈ν j) (no:noOwn ρ):StOk K Z0 H0 ν ρ σ (upd H acc (.lst ws)) where
 sm:=by obtain ⟨j,hj⟩:=hd;exact S.sm.put (S.fr j acc hj).1
 len:=S.len
 sl:=λi b d h=>by
  obtain ⟨v,h1,h2⟩:=S.sl i b d h
  refine ⟨v,h1,?_⟩
  cases b with
  | true=>exact absurd h (no i d)
  | false =>
   refine Dn.same (λa o ha=>?_) h2
   obtain ⟨g1,g2⟩:=of_hid ha
   have:a≠acc:=λz=>g2 (.inr (by rw[z];exact hd))
   exact hid_of (by rw[upd_ne this];exact g1) g2
 nd:=S.nd
 dj:=S.dj
 fr:=λi a h=>by
  obtain ⟨g1,g2,us,g3⟩:=S.fr i a h
  by_cases z:a=acc
  ·subst z;exact ⟨g1,g2,Mu.lst upd_same⟩
  ·exact ⟨g1,g2,us,by rw[upd_ne z];exact g3⟩
 zf:=λa h=>h.elim
theorem In.emit {He:Hp} {k:Kd} {v:V} {d:D} (I:In K Hs Hm H0 ν acc ρ σ H es) (e:Same H H') (r:Res K Z0 ν H H' k v d) (hk:(if flat d=true then Kd.own [] else k).isOld=true) (b:Bool) (hb:b=true->(if flat d=true then Kd.own [] else k)=.own []) :
  ∃ us,H' acc=some (.lst us)/\us.length=es.length/\In K Hs Hm H0 ν acc ρ σ (upd H' acc (.lst (us++[v]))) (es++[(d,b)]):=by
 have I':=I.same e
 obtain ⟨us,h1,h2,h3⟩:=I'.ac
 have hl:=I'.st.hl
 have r':Res K Z0 ν H H' (if flat d=true then Kd.own [] else k) v d:=by
  split
  ·exact Res.flat r.den ‹_› hl _
  ·exact r
 generalize (if flat d=true then Kd.own [] else k)=k' at hk hb r'
 refine ⟨us,h1,by rw[h2.length,length_map],I'.st.updH I'.hd I'.no,I'.sm.put I'.nm,I'.nm,I'.hs,λa h=>?_,I'.hd,I'.no,us++[v],upd_same,?_,λq=>?_⟩
 ·by_cases z:a=acc
  ·subst z;rw[upd_same] at h;cases h
  ·rw[upd_ne z] at h;exact I'.sh a h
 ·rw[map_append]
  have ho:=r'.old hl I.st.hl hk
  have all:Dns K (hid (Hd Z0 ν) H') (us++[v]) (es.map (·.1)++[d]):=h2.append (.cons ho .nil)
  refine Dns.same (λa o ha=>?_) all
  obtain ⟨g1,g2⟩:=of_hid ha
  have:a≠acc:=λz=>g2 (.inr (by rw[z];exact I'.hd))
  exact hid_of (by rw[upd_ne this];exact g1) g2
 ·rw[List.all_append,Bool.and_eq_true] at q
  obtain ⟨q1,q2⟩:=q
  have hb':=hb (by simpa using q2)
  subst hb'
  obtain ⟨ms,g1,g2,g3⟩:=h3 q1
  obtain ⟨ns,k1,k2,k3⟩:=r'
  have frn:∀ a∈ns,H a=none:=λa ha=>by
   rcases k3 a ha with z|⟨j,z,_⟩
   ·exact z
   ·cases z
  obtain ⟨us0,_,_,h30⟩:=I.ac
  obtain ⟨ms0,g10,g20,g30⟩:=h30 q1
  refine ⟨ms0++ns,?_,nodup_append.mpr ⟨g20,k2,λx hx y hy e'=>?_⟩,λa ha=>?_⟩
  ·have hu:us0=us:=by
    obtain ⟨us1,z1,_⟩:=I.ac
    have z2:=e _ _ z1
    rw[h1] at z2;cases z2
    rename_i hh _
    have:H acc=some (.lst us0):=by assumption
    rw[z1] at this;cases this;rfl
   subst hu
   rw[map_append]
   have hacc:∀ a∈ms0++ns,a≠acc:=λa ha z=>by
    obtain ⟨o,ho⟩:=I.hs
    rcases mem_append.mp ha with ha|ha
    ·have:=g30 a ha;rw[z,ho] at this;cases this
    ·have:=I.sh a (frn a ha);rw[z,ho] at this;cases this
   refine (ows_snoc k1 (g10.same e)).kept ⟨λa ha=>upd_ne (hacc a ha),λa o ha hn=>?_⟩
   have:a≠acc:=λz=>by rw[z,h1] at ha;cases ha;cases (show true=false from hn)
   rw[upd_ne this];exact ha
  ·subst e'
   obtain ⟨ws,z⟩:=g10.there x hx
   rw[frn x hy] at z;cases z
  ·rcases mem_append.mp ha with ha|ha
   ·exact g30 a ha
   ·exact I.sh a (frn a ha)
end
def go (f:D->Els->(Els->Prop)->Prop):List D->Els->(Els->Prop)->Prop
 | [],es,Q=>Q es
 | d::r,es,Q=>f d es λes'=>go f r es' Q
def LB (K:W.Frag) (acc:Addr) (T:List Nat) (tb:TB):TS:=λEn σ H=>∃ Hs Hm H0 ν ρ es Qd,In K Hs Hm H0 ν acc ρ σ H es/\tb ρ es Qd/\∀ es' ρ' σ' H',Qd es'->In K Hs Hm H0 ν acc ρ' σ' H' es'->Agr T ρ ρ'->En.nx σ' H'
def LG (K:W.Frag) (T:List Nat) (bnd:TGD):TG:=λv σ H Q=>∃ H0 ν ρ d Qd,StOk K Z0 H0 ν ρ σ H/\Dn K (hid (Hd Z0 ν) H) v d/\bnd d ρ Qd/\∀ ρ' σ',Qd ρ'->StOk K Z0 H0 ν ρ' σ' H->Agr T ρ ρ'->(noOwn ρ->noOwn ρ')->Q σ' H
structure DB (Y:Cx) (K:W.Frag) (elt:Expr) (gens:List Comprehension) (scope:Scope) (pos:Pos) (d:Nat) (acc:Addr) (T:List Nat) (tb:TB):Prop where
 q:QB Y elt gens scope pos d acc (LB K acc T tb)
structure DTs (Y:Cx) (K:W.Frag) (ifs:List Expr) (t:TDT):Prop where
 q:QTs Y ifs (LT K E0 t)
theorem qg_imp {X:Cx} {e:Expr} {g g':TG} (h:QG X e g) (i:∀ v σ H Q,g' v σ H Q->g v σ H Q):QG X e g':=⟨λpins s σ H x u Q I r w=>h.h pins s σ H x u Q I r (i x σ H Q w)⟩
theorem qb_imp {Y:Cx} {elt:Expr} {gens:List Comprehension} {scope:Scope} {pos:Pos} {d:Nat} {acc:Addr} {t t':TS} (h:QB Y elt gens scope pos d acc t) (i:∀ En σ H,t' En σ H->t En σ H):QB Y elt gens scope pos d acc t':=⟨λpins s σ H D I w=>h.h pins s σ H D I (i D σ H w)⟩
theorem DG.lift {X:Cx} {K:W.Frag} {tg:Expr} {T:List Nat} {bnd:TGD} (h:DG X K tg T bnd):QG X tg (LG K T bnd):=by
 obtain ⟨g,q,o⟩:=h.ex
 refine qg_imp q λv σ H Q w=>?_
 obtain ⟨H0,ν,ρ,d,Qd,S,h1,h2,h3⟩:=w
 exact o H0 ν ρ σ H v d Qd Q S h1 h2 h3
def dTrue:TDT:=λ_ Q _=>Q true
def isOwnK:Kd->Bool
 | .own []=>true
 | _=>false
def eff (d:D) (k:Kd):Kd:=if flat d=true then Kd.own [] else k
def dEmit (te:TD):TB:=λρ es Q=>te ρ (λd k=>es.length < 1000000/\(eff d k).isOld=true/\Q (es++[(d,isOwnK (eff d k))])) Xf
def bFor (ti:TDI) (T:List Nat) (bnd:TGD) (tif:TDT) (tb:TB):TB:=λρ es Q=>ti ρ (λds b=>b=true/\go (λd es Q'=>bnd d (dropS ρ T) λρ'=>tif ρ' (λc=>if c=true then tb ρ' es Q' else Q' es) Xf) ds es Q) Xf
section
variable {Y:Cx} {K:W.Frag} {pos:Pos} {elt:Expr} {gens:List Comprehension} {scope:Scope} {dep:Nat} {acc:Addr}
theorem dpts_nil:DTs Y K [] dTrue:=⟨⟨λpins s σ H Q I h=>qpts_nil.h pins s σ H Q I (by
 obtain ⟨H0,ν,ρ,Qd,Xd,S,h1,q,x⟩:=h
 exact q _ _ h1 (Same.refl H))⟩⟩
theorem dpts_one {c:Expr} {t:TDT} (h:DT Y K E0 c t):DTs Y K [c] t:=⟨qpts_one h.q⟩
theorem dpb_emit {te:TD} (hg:gens[dep+1]?=none) (hx:Y.xe=λ_ _=>False) (he:DE Y K E0 elt te):DB Y K elt gens scope pos dep acc [] (dEmit te):=⟨qb_imp (qpb_emit hg hx he.q) λEn σ H h=>by
 obtain ⟨Hs,Hm,H0,ν,ρ,es,Qd,I,h1,q⟩:=h
 refine ⟨H0,ν,ρ,_,_,I.st,h1,λd k v H' g1 g2 g3=>?_,λC H' z _=>z.elim⟩
 obtain ⟨g0,g4,g5⟩:=g1
 obtain ⟨us,k1,k2,I'⟩:=I.emit (He:=H) g2 g3 g4 (isOwnK (eff d k)) (λz=>by
  change eff d k=_
  generalize eff d k=k' at z
  unfold isOwnK at z
  split at z
  ·rfl
  ·cases z)
 exact ⟨us,k1,by rw[k2];exact Nat.lt_of_lt_of_le g0 million,q _ _ _ _ g5 I' ⟨rfl,λ_ _=>rfl⟩⟩⟩
theorem noOwn_drop {ρ:Ren} {T:List Nat} (h:noOwn ρ):noOwn (dropS ρ T):=λi d z=>h i d (dropS_get T z).2
theorem StOk.agr {H0:Hp} {ν:Nat->List Addr} {ρ ρ':Ren} {σ:L2.St} {H:Hp} {T:List Nat} (S:StOk K Z0 H0 ν ρ' σ H) (A:Agr T ρ ρ'):StOk K Z0 H0 ν (dropS ρ T) σ H :=
 ⟨S.sm,by rw[dropS_len,S.len,A.1],λi b d h=>by
  obtain ⟨h1,h2⟩:=dropS_get T h
  exact S.sl i b d (by rw[A.2 i h1];exact h2),S.nd,S.dj,S.fr,S.zf⟩
theorem Agr.drop {ρ:Ren} {T:List Nat}:Agr T ρ (dropS ρ T):=by
 refine ⟨dropS_len T ρ,λi hi=>?_⟩
 induction T generalizing ρ with
 | nil=>rfl
 | cons j r ih =>
  rw[mem_cons,not_or] at hi
  show (dropS (ρ.set j none) r)[i]?=_
  rw[ih hi.2,List.getElem?_set_ne (Ne.symm hi.1)]
theorem Agr.same {ρ ρ' ρ'':Ren} {T:List Nat} (h:Agr T ρ ρ') (g:Agr T ρ' ρ''):Agr T ρ ρ'':=⟨g.1.trans h.1,λi hi=>by rw[g.2 i hi,h.2 i hi]⟩
theorem Agr.less {ρ ρ':Ren} {T U:List Nat} (h:Agr T ρ ρ') (s:∀ i∈T,i∈U):Agr U ρ ρ':=⟨h.1,λi hi=>h.2 i λz=>hi (s i z)⟩
theorem In.low {Hs Hm H0 H1 H:Hp} {ν:Nat->List Addr} {ρ:Ren} {σ:L2.St} {es:Els} (I:In K Hs Hm H1 ν acc ρ σ H es) (e:Same H0 H1):In K Hs Hm H0 ν acc ρ σ H es:=⟨I.st.low e,I.sm,I.nm,I.hs,I.sh,I.hd,I.no,I.ac⟩
theorem In.high {Hs Hm H0 H:Hp} {ν:Nat->List Addr} {ρ:Ren} {σ:L2.St} {es:Els} (I:In K Hs Hm H0 ν acc ρ σ H es):In K Hs Hm (hid (Hd Z0 ν) H) ν acc ρ σ H es:=⟨I.st.high,I.sm,I.nm,I.hs,I.sh,I.hd,I.no,I.ac⟩
theorem In.agr {Hs Hm H0 H:Hp} {ν:Nat->List Addr} {ρ ρ':Ren} {σ:L2.St} {es:Els} {T:List Nat} (I:In K Hs Hm H0 ν acc ρ' σ H es) (A:Agr T ρ ρ') (n:noOwn ρ):In K Hs Hm H0 ν acc (dropS ρ T) σ H es:=I.ren (I.st.agr A) (noOwn_drop n)
theorem go_loop {Hs Hm H0 H F0:Hp} {ν:Nat->List Addr} {ρ:Ren} {σ:L2.St} {es:Els} {J:It} {ds:List D} {T Tb:List Nat} {bnd:TGD} {tif:TDT} {tb:TB} {Qd:Els->Prop} {En:Ends} (I:In K Hs Hm H0 ν acc ρ σ H es) (it:ItOk K F0 J ds) (hf:Same F0 H0) (hT:∀ i∈T,i∈T++Tb)
  (h:go (λd es Q'=>bnd d (dropS ρ (T++Tb)) λρ'=>tif ρ' (λc=>if c=true then tb ρ' es Q' else Q' es) Xf) ds es Qd)
  (q:∀ es' ρ' σ' H',Qd es'->In K Hs Hm H0 ν acc ρ' σ' H' es'->Agr (T++Tb) ρ ρ'->En.nx σ' H') :
  loopT J (LG K T bnd) (tIfB (LT K E0 tif) (LB K acc Tb tb)) En σ H:=by
 refine ⟨λi m σ H=>m=ds.length - i/\i<=ds.length/\∃ es,In K Hs Hm H0 ν acc (dropS ρ (T++Tb)) σ H es/\go (λd es Q'=>bnd d (dropS ρ (T++Tb)) λρ'=>tif ρ' (λc=>if c=true then tb ρ' es Q' else Q' es) Xf) (ds.drop i) es Qd,
  ⟨ds.length,by simp,Nat.zero_le _,es,I.ren (I.st.agr ⟨rfl,λ_ _=>rfl⟩) (noOwn_drop I.no),by simpa using h⟩,?_⟩
 rintro i m σ2 H2 ⟨rfl,hi,es2,I2,w2⟩
 obtain ⟨i1,i2⟩:=it (Hd Z0 ν) H2 I2.st.hl (hf.trans I2.st.base)
 by_cases hlt:i < ds.length
 ·obtain ⟨j1,j2⟩:=i2 i ds[i] (List.getElem?_eq_getElem hlt)
  rw[List.drop_eq_getElem_cons hlt] at w2
  have back:∀ es3 ρ3 σ3 H3,go (λd es Q'=>bnd d (dropS ρ (T++Tb)) λρ'=>tif ρ' (λc=>if c=true then tb ρ' es Q' else Q' es) Xf) (ds.drop (i+1)) es3 Qd->In K Hs Hm H0 ν acc ρ3 σ3 H3 es3->Agr (T++Tb) (dropS ρ (T++Tb)) ρ3 ->
    ∃ es,In K Hs Hm H0 ν acc (dropS ρ (T++Tb)) σ3 H3 es/\go (λd es Q'=>bnd d (dropS ρ (T++Tb)) λρ'=>tif ρ' (λc=>if c=true then tb ρ' es Q' else Q' es) Xf) (ds.drop (i+1)) es Qd:=λes3 ρ3 σ3 H3 g3 I3 A3=>⟨es3,I3.agr (Agr.same Agr.drop A3) I.no,g3⟩
  refine .inr ⟨j1,λσ' H'=>∃ es,In K Hs Hm H0 ν acc (dropS ρ (T++Tb)) σ' H' es/\go (λd es Q'=>bnd d (dropS ρ (T++Tb)) λρ'=>tif ρ' (λc=>if c=true then tb ρ' es Q' else Q' es) Xf) (ds.drop (i+1)) es Qd,λσ' H' ⟨es',a,b⟩=>⟨_,by lia,rfl,hlt,es',a,b⟩,λy H' hy=>?_⟩
  obtain ⟨k1,k2⟩:=j2 y H' hy
  refine ⟨H0,ν,_,_,_,(I2.same k1).st,k2,w2,λρ3 σ3 b3 S3 A3 n3=>?_⟩
  have I3:=(I2.same k1).ren S3 (n3 I2.no)
  have A3':Agr (T++Tb) (dropS ρ (T++Tb)) ρ3:=A3.less hT
  refine ⟨H0,ν,ρ3,_,_,S3,b3,λc H4 g4 e4=>?_,λC H' z _=>z.elim⟩
  cases c with
  | true =>
   rw[if_pos rfl] at g4 ⊢
   exact ⟨Hs,Hm,H0,ν,ρ3,es2,_,I3.same e4,g4,λes5 ρ5 σ5 H5 g5 I5 A5=>back es5 ρ5 σ5 H5 g5 I5 (Agr.same A3' (A5.less λi hi=>mem_append_right _ hi))⟩
  | false =>
   rw[if_neg Bool.false_ne_true] at g4 ⊢
   exact back es2 ρ3 σ3 H4 g4 (I3.same e4) A3'
 ·have e:i=ds.length:=by lia
  subst e
  rw[List.drop_length] at w2
  exact .inl ⟨i1,q es2 _ σ2 H2 w2 I2 Agr.drop⟩
theorem dpb_for {tg iter:Expr} {ifs:List Expr} {ti:TDI} {T Tb:List Nat} {bnd:TGD} {tif:TDT} {tb:TB} (hgd:gens[dep+1]?=some ⟨tg,iter,ifs,0⟩) (hx:Y.xe=λ_ _=>False) (hc:Y.calm=true) (hs:∀ x,foldedSetIterable iter Y.env x=pure x) (hi:DI Y K E0 tg iter ti) (hg:DG Y K tg T bnd) (ht:DTs Y K ifs tif) (hb:DB Y K elt gens scope pos (dep+1) acc Tb tb) :
  DB Y K elt gens scope pos dep acc (T++Tb) (bFor ti (T++Tb) bnd tif tb):=⟨qb_imp (qpb_for hgd hx hc hs hi.q hg.lift ht.q hb.q) λEn σ H h=>by
 obtain ⟨Hs,Hm,H0,ν,ρ,es,Qd,I,h1,q⟩:=h
 refine ⟨H0,ν,ρ,_,_,I.st,h1,λds b J H1 g1 e1 it=>?_,λC H' z _=>z.elim⟩
 obtain ⟨rfl,g1⟩:=g1
 have I1:=I.same e1
 exact go_loop I1.high it (Same.refl _) (λi hi=>mem_append_left _ hi) g1 λes' ρ' σ' H' a I' A=>q es' ρ' σ' H' a (I'.low I1.st.base) A⟩
end
def capR (own:List Str) (cap:List (Str × Nat)) (ρ:Ren):Ren:=own.map (λ_=>none)++cap.map λp=>((ρ[p.2]?).join).map λy=>(false,y.2)
def capOk (cap:List (Str × Nat)) (ρ:Ren):Bool:=cap.all λp=>match (ρ[p.2]?).join with
 | some (true,_)=>false
 | _=>true
def dLC (ti:TDI) (T:List Nat) (bnd:TGD) (tif:TDT) (tb:TB) (own:List Str) (cap:List (Str × Nat)):TD:=λρ Q Xd=>ti ρ (λds b =>
 go (λd es Q'=>bnd d (dropS (capR own cap ρ) T) λρ'=>tif ρ' (λc=>if c=true then tb ρ' es Q' else Q' es) Xf) ds [] λes=>Q (.list (es.map (·.1))) (if es.all (·.2)=true then .own [] else if (b&&capOk cap ρ)=true then .old else .mix)) Xd
section
variable {K:W.Frag}
theorem capR_get {own:List Str} {cap:List (Str × Nat)} {ρ:Ren} {i:Nat} {b:Bool} {d:D} (h:(capR own cap ρ)[i]?=some (some (b,d))):b=false/\∃ p c,cap[i - own.length]?=some p/\own.length<=i/\ρ[p.2]?=some (some (c,d)):=by
 unfold capR at h
 by_cases hi:i < own.length
 ·rw[List.getElem?_append_left (by simpa using hi),List.getElem?_map] at h
  cases e:own[i]? with
  | none=>rw[e] at h;cases h
  | some _=>rw[e] at h;cases h
 ·rw[List.getElem?_append_right (by simpa using Nat.le_of_not_lt hi),length_map,List.getElem?_map] at h
  cases e:cap[i - own.length]? with
  | none=>rw[e] at h;cases h
  | some p =>
   rw[e] at h
   simp only[Option.map_some,Option.some.injEq] at h
   cases e2:ρ[p.2]? with
   | none=>rw[e2] at h;cases h
   | some x =>
    rw[e2] at h
    cases x with
    | none=>cases h
    | some y=>cases h;exact ⟨rfl,p,y.1,rfl,Nat.le_of_not_lt hi,e2⟩
theorem capS_get {own:List Str} {cap:List (Str × Nat)} {σ:L2.St} {i:Nat} {p:Str × Nat} {v:V} (h:cap[i - own.length]?=some p) (hi:own.length<=i) (hv:σ[p.2]?=some (some v)):(capS own cap σ)[i]?=some (some v):=by
 unfold capS
 rw[List.getElem?_append_right (by simpa using hi),length_map,List.getElem?_map,h]
 simp[hv]
theorem capR_no {own:List Str} {cap:List (Str × Nat)} {ρ:Ren}:noOwn (capR own cap ρ):=λi d h=>by
 have:=(capR_get h).1;cases this
def capN (ok:Bool) (acc:Addr) (ν:Nat->List Addr):Nat->List Addr
 | 0=>[acc]
 | i+1=>if ok=true then ν i else []
theorem capN_succ {ok:Bool} {acc:Addr} {ν:Nat->List Addr} {i:Nat}:capN ok acc ν (i+1)=if ok=true then ν i else []:=rfl
theorem lc_start {own:List Str} {cap:List (Str × Nat)} {H0 H1:Hp} {ν:Nat->List Addr} {ρ:Ren} {σ:L2.St} {acc:Addr} (S:StOk K Z0 H0 ν ρ σ H1) (ha:H1 acc=none) (ok:Bool) (hok:ok=true->capOk cap ρ=true) :
  In K (upd H1 acc (.lst [])) H1 (fz ok ν H1) (capN ok acc ν) acc (capR own cap ρ) (capS own cap σ) (upd H1 acc (.lst [])) []:=by
 have sm:Same H1 (upd H1 acc (.lst [])):=Same.new ha
 have fzs:Same (fz ok ν H1) H1:=by unfold fz;split;exact hid_same;exact Same.refl _
 have nacc:∀ i,acc∉ν i:=λi z=>by obtain ⟨_,_,us,q⟩:=S.fr i acc z;rw[ha] at q;cases q
 refine ⟨⟨fzs.trans sm,?_,?_,?_,?_,?_,λa z=>z.elim⟩,sm,ha,⟨_,upd_same⟩,λa h=>h,⟨0,by simp[capN]⟩,capR_no,[],upd_same,.nil,λ_=>⟨[],.nil,nodup_nil,λ_ z=>by cases z⟩⟩
 ·unfold capS capR;simp
 ·intro i b d h
  obtain ⟨rfl,p,c,h1,h2,h3⟩:=capR_get h
  obtain ⟨v,g1,g2⟩:=S.sl p.2 c d h3
  refine ⟨v,capS_get h1 h2 g1,?_⟩
  cases ok with
  | true =>
   have hc:=hok rfl
   unfold capOk at hc
   have hc:=all_eq_true.mp hc p (mem_of_getElem? h1)
   rw[h3] at hc
   cases c with
   | true=>cases hc
   | false =>
    refine Dn.same (λa o q=>?_) (show Dn K (hid (Hd Z0 ν) H1) v d from g2)
    obtain ⟨q1,q2⟩:=of_hid q
    refine hid_of (sm _ _ q1) λz=>?_
    rcases z with z|⟨j,z⟩
    ·exact z
    ·cases j with
     | zero=>rw[show capN true acc ν 0=[acc] from rfl,mem_singleton] at z;rw[z,ha] at q1;cases q1
     | succ j=>exact q2 (.inr ⟨j,z⟩)
  | false =>
   have gd:Dn K H1 v d:=by
    cases c with
    | true=>exact Ow.den g2
    | false=>exact Dn.same hid_same g2
   refine Dn.same (λa o q=>?_) gd
   refine hid_of (sm _ _ q) λz=>?_
   rcases z with z|⟨j,z⟩
   ·exact z
   ·cases j with
    | zero=>rw[show capN false acc ν 0=[acc] from rfl,mem_singleton] at z;rw[z,ha] at q;cases q
    | succ j=>cases z
 ·intro i
  cases i with
  | zero=>simp[capN]
  | succ i=>rw[capN_succ];split;exact S.nd i;exact nodup_nil
 ·intro i j a hi hj
  cases i with
  | zero =>
   have e:a=acc:=by simpa [capN] using hi
   cases j with
   | zero=>rfl
   | succ j =>
    rw[capN_succ] at hj
    split at hj
    ·rw[e] at hj;exact absurd hj (nacc j)
    ·cases hj
  | succ i =>
   rw[capN_succ] at hi
   split at hi
   case isFalse=>cases hi
   case isTrue =>
    cases j with
    | zero =>
     have e:a=acc:=by simpa [capN] using hj
     rw[e] at hi;exact absurd hi (nacc i)
    | succ j =>
     rename_i hk
     rw[capN_succ,if_pos hk] at hj
     rw[S.dj i j a hi hj]
 ·intro i a h
  cases i with
  | zero =>
   have e:a=acc:=by simpa [capN] using h
   subst e
   exact ⟨fzs.gone ha,λz=>z,Mu.lst upd_same⟩
  | succ i =>
   rw[capN_succ] at h
   split at h
   case isFalse=>cases h
   case isTrue hk =>
    obtain ⟨_,_,us,q⟩:=S.fr i a h
    refine ⟨?_,λz=>z,us,sm _ _ q⟩
    unfold fz;rw[if_pos hk];unfold hid;rw[if_pos (.inr ⟨i,h⟩)]
theorem lc_end {H0 Hs H1 H' Hq:Hp} {ν:Nat->List Addr} {ρ ρr:Ren} {σ σr:L2.St} {acc:Addr} {es:Els} {ok:Bool} (S:StOk K Z0 H0 ν ρ σ Hs) (e1:Same Hs H1) (ha:H1 acc=none) (I:In K (upd H1 acc (.lst [])) H1 Hq (capN ok acc ν) acc ρr σr H' es) :
  Res K Z0 ν Hs H' (if es.all (·.2)=true then .own [] else if ok=true then .old else .mix) (.ref acc) (.list (es.map (·.1))):=by
 obtain ⟨us,h1,h2,h3⟩:=I.ac
 split
 ·obtain ⟨ms,g1,g2,g3⟩:=h3 ‹_›
  refine ⟨acc::ms,.lst h1 g1,nodup_cons.mpr ⟨λz=>?_,g2⟩,λa hm=>.inl ?_⟩
  ·have:=g3 acc z;rw[upd_same] at this;cases this
  ·rcases mem_cons.mp hm with rfl|hm
   ·exact e1.gone ha
   ·have:=g3 a hm
    by_cases z:a=acc
    ·subst z;exact e1.gone ha
    ·rw[upd_ne z] at this;exact e1.gone this
 ·split
  case isTrue hk =>
   have hz:¬ Hd Z0 ν acc:=λz=>by obtain ⟨us,q⟩:=S.hl acc z;rw[e1.gone ha] at q;cases q
   refine .lst (hid_of h1 hz) (Dns.same (hid_less λa z=>?_) h2)
   rcases z with z|⟨j,z⟩
   ·exact z.elim
   ·exact .inr ⟨j+1,by rw[capN_succ,if_pos hk];exact z⟩
  case isFalse=>exact .lst h1 (Dns.same hid_same h2)
end
section
variable {X:Cx} {K:W.Frag} {E:XK} {pos:Pos} {elt tg iter:Expr} {ifs:List Expr} {rest:List Comprehension} {scope:Scope} {ti:TDI} {T Tb:List Nat} {bnd:TGD} {tif:TDT} {tb:TB}
theorem le_lc {own:List Str} {cap:List (Str × Nat)}:∀ σ H Q,LE K E (dLC ti (T++Tb) bnd tif tb own cap) σ H Q->tLC (LI K E ti) (LG K T bnd) (LT K E0 tif) (λacc=>LB K acc Tb tb) own cap σ H Q:=λσ H Q h=>by
 obtain ⟨H0,ν,ρ,Qd,Xd,S,h1,q,x⟩:=h
 refine ⟨H0,ν,ρ,_,Xd,S,h1,λds b J H1 g1 e1 it=>?_,x⟩
 intro acc ha
 obtain ⟨ok,hk⟩:∃ ok,ok=(b&&capOk cap ρ):=⟨_,rfl⟩
 have I:=lc_start (own:=own) (S.same e1) ha ok (λz=>by rw[hk,Bool.and_eq_true] at z;exact z.2)
 have hf:Same (fz b ν H1) (fz ok ν H1):=by
  cases ok with
  | true =>
   have:b=true:=by rw[Eq.comm,Bool.and_eq_true] at hk;exact hk.1
   rw[this];exact Same.refl _
  | false=>unfold fz;split;exact hid_same;exact Same.refl _
 refine go_loop I it hf (λi hi=>mem_append_left _ hi) g1 λes' ρ' σ' H' a I' A=>?_
 rw[<-hk] at a
 exact q _ _ _ H' a (e1.trans I'.sm) (lc_end S e1 ha I')
theorem dpe_lc (own:List Str) (cap:List (Str × Nat)) (hc:X.calm=true) (L:LcScope X scope own cap) (hi:DI X K E tg iter ti)
  (hin:∀ (s₃:Shared) (H₃:Hp) (fp:List Addr) (acc:Addr),DG (X.inn scope (L2.capN own cap) s₃ H₃ fp) K tg T bnd/\DTs (X.inn scope (L2.capN own cap) s₃ H₃ fp) K ifs tif/\DB (X.inn scope (L2.capN own cap) s₃ H₃ fp) K elt (⟨tg,iter,ifs,0⟩::rest) scope pos 0 acc Tb tb)
  (hs:∀ x,foldedSetIterable iter X.env x=pure x:=by intro _;rfl):DE X K E (.ListComp elt (⟨tg,iter,ifs,0⟩::rest) scope pos) (dLC ti (T++Tb) bnd tif tb own cap) :=
 ⟨qe_imp (qpe_lc own cap hc L hi.q (λa b c d=>⟨(hin a b c d).1.lift,(hin a b c d).2.1.q,(hin a b c d).2.2.q⟩) hs) le_lc⟩
theorem dps_setlc {i:Nat} {y:Str} {py spos:Pos} (own:List Str) (cap:List (Str × Nat)) (hN:X.N.Nodup) (hyi:X.N[i]?=some y) (hy:X.env.scope.names.lookup y=some .local) (hc:X.calm=true) (L:LcScope X scope own cap) (hi:DI X K E tg iter ti)
  (hin:∀ (s₃:Shared) (H₃:Hp) (fp:List Addr) (acc:Addr),DG (X.inn scope (L2.capN own cap) s₃ H₃ fp) K tg T bnd/\DTs (X.inn scope (L2.capN own cap) s₃ H₃ fp) K ifs tif/\DB (X.inn scope (L2.capN own cap) s₃ H₃ fp) K elt (⟨tg,iter,ifs,0⟩::rest) scope pos 0 acc Tb tb)
  (hsw:swapsWith (.ListComp elt (⟨tg,iter,ifs,0⟩::rest) scope pos) (some (.Name y py)) spos.line X.env=pure true:=by rfl) (hs:∀ x,foldedSetIterable iter X.env x=pure x:=by intro _;rfl) :
  DS X K E (.Assign [.Name y py] (.ListComp elt (⟨tg,iter,ifs,0⟩::rest) scope pos) spos) (dSet i (dLC ti (T++Tb) bnd tif tb own cap)) :=
 ⟨qs_imp (qps_setlc own cap hN hyi hy hc L hi.q (λa b c d=>⟨(hin a b c d).1.lift,(hin a b c d).2.1.q,(hin a b c d).2.2.q⟩) hsw hs) λEn σ H h=>by
  obtain ⟨H0,ν,ρ,Dd,Xd,S,h1,ok,x⟩:=h
  refine le_lc σ H _ ⟨H0,ν,ρ,_,Xd,S,h1,λd k v H' g1 g2 g3=>?_,x⟩
  obtain ⟨ν',S'⟩:=S.setK g2 g3 i
  exact ok.nx _ _ _ _ g1 S'⟩
end
section
variable {K:W.Frag} {H0 H H':Hp} {ν:Nat->List Addr} {ρ:Ren} {σ:L2.St} {v:V} {d:D}
theorem StOk.mut (S:StOk K Z0 H0 ν ρ σ H) (s:List Nat) (i:Nat) {ms:List Addr} (hi:σ[i]?=some (some v)) (hr:i < ρ.length) (k:∀ a o,H a=some o->a∉ν i->H' a=some o) (h:Ow K H' v d ms) (nd:ms.Nodup) (fr:∀ a∈ms,a∈ν i\/H a=none\/∃ j∈s,a∈ν j) (hs:i∉s)
  (gone:∀ j∈s,∀ a∈ν j,Mu H' a) :
  StOk K Z0 H0 (λj=>if j=i then ms else if j∈s then [] else ν j) ((dropS ρ s).set i (some (true,d))) σ H' where
 sm:=λa o ha=>k a o (S.sm a o ha) λz=>by rw[(S.fr i a z).1] at ha;cases ha
 len:=by rw[length_set,dropS_len];exact S.len
 sl:=λj b c hj=>by
  rcases set_get hj with ⟨rfl,h1,h2⟩|⟨h1,h2⟩
  ·cases h1
   exact ⟨v,hi,by rw[if_pos rfl];rw[if_pos rfl];exact h⟩
  ·obtain ⟨h3,h4⟩:=dropS_get s h2
   obtain ⟨u,q1,q2⟩:=S.sl j b c h4
   refine ⟨u,q1,?_⟩
   cases b with
   | true =>
    rw[if_pos rfl,if_neg h1,if_neg h3]
    have q2:Ow K H u c (ν j):=q2
    refine q2.kept ⟨λa ha=>?_,λa o ha hn=>k a o ha λz=>?_⟩
    ·obtain ⟨us,q⟩:=q2.there a ha
     rw[k a _ q λz=>h1 (S.dj j i a ha z),q]
    ·exact (S.fr i a z).2.2.no ha hn
   | false =>
    refine Dn.same (λa o ha=>?_) q2
    obtain ⟨g1,g2⟩:=of_hid ha
    refine hid_of (k a o g1 λz=>g2 (.inr ⟨i,z⟩)) λz=>?_
    rcases z with z|⟨l,z⟩
    ·exact z
    ·have z:a∈(if l=i then ms else if l∈s then [] else ν l):=z
     split at z
     ·rcases fr a z with z|z|⟨l,_,z⟩
      ·exact g2 (.inr ⟨i,z⟩)
      ·rw[g1] at z;cases z
      ·exact g2 (.inr ⟨l,z⟩)
     ·split at z
      ·cases z
      ·exact g2 (.inr ⟨l,z⟩)
 nd:=λj=>by
  split
  ·exact nd
  ·split
   ·exact nodup_nil
   ·exact S.nd j
 dj:=λj l a hj hl=>by
  have key:∀ m,m≠i->m∉s->a∈ν m->a∉ms:=λm hm hms ha hz=>by
   rcases fr a hz with z|z|⟨n,hn,z⟩
   ·exact hm (S.dj m i a ha z)
   ·obtain ⟨_,_,us,q⟩:=S.fr m a ha;rw[z] at q;cases q
   ·rw[S.dj m n a ha z] at hms;exact hms hn
  split at hj
  ·split at hl
   ·lia
   ·split at hl
    ·cases hl
    ·exact absurd hj (key l ‹_› ‹_› hl)
  ·split at hj
   ·cases hj
   ·split at hl
    ·exact absurd hl (key j ‹_› ‹_› hj)
    ·split at hl
     ·cases hl
     ·exact S.dj j l a hj hl
 fr:=λj a ha=>by
  split at ha
  ·have ht:=h.there a ha
   rcases fr a ha with z|z|⟨m,_,z⟩
   ·exact ⟨(S.fr i a z).1,(λq=>q),ht⟩
   ·exact ⟨S.sm.gone z,(λq=>q),ht⟩
   ·exact ⟨(S.fr m a z).1,(λq=>q),ht⟩
  ·split at ha
   ·cases ha
   ·obtain ⟨q1,q2,us,q3⟩:=S.fr j a ha
    exact ⟨q1,q2,us,k a _ q3 λz=>absurd (S.dj j i a ha z) ‹_›⟩
 zf:=λa h=>h.elim
theorem eff_own {k:Kd} {s:List Nat} {Hs:Hp} (e:eff d k=.own s) (hl:∀ a,Hd Z0 ν a->Mu H a) (h:Res K Z0 ν Hs H k v d):∃ ms,Ow K H v d ms/\ms.Nodup/\∀ a∈ms,Hs a=none\/∃ j∈s,a∈ν j:=by
 have h':Res K Z0 ν Hs H (eff d k) v d:=by
  unfold eff
  split
  ·exact Res.flat h.den ‹_› hl _
  ·exact h
 rw[e] at h'
 exact h'
end
section
variable {X:Cx} {K:W.Frag} {E:XK} {pos apos cpos:Pos} {e:Expr} {te:TD}
def dApp (i:Nat) (te:TD):TSD:=λDd ρ Xd=>∃ ds,ρ[i]?=some (some (true,.list ds))/\ds.length < 1000000/\te ρ (λd k=>match eff d k with
 | .own s=>i∉s/\Dd.nx ((dropS ρ s).set i (some (true,.list (ds++[d]))))
 | _=>False) Xd
theorem own_list {H0 H:Hp} {ν:Nat->List Addr} {ρ:Ren} {σ:L2.St} {i:Nat} {ds:List D} (S:StOk K Z0 H0 ν ρ σ H) (h:ρ[i]?=some (some (true,.list ds))):∃ a us ns,σ[i]?=some (some (.ref a))/\H a=some (.lst us)/\Ows K H us ds ns/\ν i=a::ns/\a∉ns/\ns.Nodup:=by
 obtain ⟨v,h1,h2⟩:=S.sl i true _ h
 have h2:Ow K H v (.list ds) (ν i):=h2
 have hn:=S.nd i
 generalize hv:ν i=n at h2 hn
 cases h2 with
 | lst h r=>exact ⟨_,_,_,h1,h,r,rfl,(nodup_cons.mp hn).1,(nodup_cons.mp hn).2⟩
theorem len_of {α:Type} {l:List α} {i:Nat} {x:α} (h:l[i]?=some x):i < l.length:=(List.getElem?_eq_some_iff.mp h).1
theorem dps_append (i:Nat) {x:Str} {px:Pos} (hK:X.K=K) (ho:QE X (.Name x px) (tVar i)) (he:DE X K E e te) (hs:starEach [e] X.env=[(false,eval e X.env)]) (hbase:attributeBase (.Name x px) "append" X.env (eval (.Name x px) X.env)=eval (.Name x px) X.env) (hline:(apos.endLine==cpos.line)=true)
  (hsw:swapsWith (.Call (.Attribute (.Name x px) "append" apos) [e] [] cpos) none pos.line X.env=pure false:=by rfl):DS X K E (.Expr (.Call (.Attribute (.Name x px) "append" apos) [e] [] cpos) pos) (dApp i te):=⟨qs_imp (qps_expr (qpm_appendK K hK ho he.q hs hbase hline) hsw) λEn σ H h=>by
 obtain ⟨H0,ν,ρ,Dd,Xd,S,⟨ds,h1,h2,h3⟩,ok,x⟩:=h
 obtain ⟨a,us,ns,g1,g2,g3,g4,g5,g6⟩:=own_list S h1
 refine ⟨_,g1,tyl (SqL.of g2),H0,ν,ρ,_,Xd,S,h3,λd k v H1 q1 e1 r1=>?_,x⟩
 split at q1
 case h_2=>exact q1.elim
 case h_1 s es =>
  obtain ⟨ms,m1,m2,m3⟩:=eff_own es (S.same e1).hl r1
  have ha1:H1 a=some (.lst us):=e1 _ _ g2
  have nm:∀ b∈ms,b∉ν i:=λb hb z=>by
   rcases m3 b hb with y|⟨j,hj,y⟩
   ·obtain ⟨_,_,us,w⟩:=S.fr i b z;rw[y] at w;cases w
   ·rw[S.dj i j b z y] at q1;exact q1.1 hj
  have ham:a∉ms:=λz=>nm a z (by rw[g4];exact mem_cons_self)
  refine ⟨a,us,v,rfl,rfl,ha1,by rw[g3.den.length];exact Nat.lt_of_lt_of_le h2 million,?_⟩
  have S1:=S.same e1
  refine ok.nx _ _ _ _ q1.2 (S.mut s i (ms:=a::(ns++ms)) (v:=.ref a) g1 (len_of h1) (λb o hb hn=>?_) ?_ ?_ ?_ q1.1 ?_)
  ·rw[upd_ne (λz=>hn (by rw[z,g4];exact mem_cons_self))];exact e1 _ _ hb
  ·have kp:∀ l:List Addr,(∀ b∈l,b≠a)->Kept l H1 (upd H1 a (.lst (us++[v]))):=λl hl=>⟨λb hb=>upd_ne (hl b hb),λb o hb hn=>by
    have:b≠a:=λz=>by rw[z,ha1] at hb;cases hb;cases (show true=false from hn)
    rw[upd_ne this];exact hb⟩
   have A:=(g3.same e1).kept (kp ns λb hb z=>g5 (z ▸ hb))
   have B:=m1.kept (kp ms λb hb z=>ham (z ▸ hb))
   exact .lst upd_same (ows_snoc B A)
  ·refine nodup_cons.mpr ⟨λz=>?_,nodup_append.mpr ⟨g6,m2,λy hy z hz e=>?_⟩⟩
   ·rcases mem_append.mp z with z|z
    ·exact g5 z
    ·exact ham z
   ·subst e;exact nm y hz (by rw[g4];exact mem_cons_of_mem _ hy)
  ·intro b hb
   rcases mem_cons.mp hb with rfl|hb
   ·exact .inl (by rw[g4];exact mem_cons_self)
   ·rcases mem_append.mp hb with hb|hb
    ·exact .inl (by rw[g4];exact mem_cons_of_mem _ hb)
    ·rcases m3 b hb with y|y
     ·exact .inr (.inl y)
     ·exact .inr (.inr y)
  ·intro j hj b hb
   obtain ⟨_,_,us',w⟩:=S1.fr j b hb
   have:b≠a:=λz=>by
    have:=S.dj i j b (by rw[g4,z];exact mem_cons_self) hb
    rw[this] at q1;exact q1.1 hj
   exact ⟨us',by rw[upd_ne this];exact w⟩⟩
end
section
variable {K:W.Frag}
theorem ows_split {H:Hp}:∀ {us:List V} {ds:List D} {ns:List Addr} {j:Nat} {c:D},Ows K H us ds ns->ds[j]?=some c->∃ n1 n2 n3 u,ns=n1++(n2++n3)/\us[j]?=some u/\Ow K H u c n2 /\
  (∀ H',Kept n1 H H'->Kept n3 H H'->∀ v d ms,Ow K H' v d ms->Ows K H' (us.set j v) (ds.set j d) (n1++(ms++n3)))/\∀ H',Kept n1 H H'->Kept n3 H H'->Ows K H' (us.eraseIdx j) (ds.eraseIdx j) (n1++n3)
 | _,_,_,0,c,.cons (ns:=n) (ms:=m) h r,e=>by
  simp at e;subst e
  exact ⟨[],n,m,_,rfl,rfl,h,λH' _ k v d ms q=>by simpa using Ows.cons q (r.kept k),λH' _ k=>by simpa using r.kept k⟩
 | _,_,_,j+1,c,.cons (ns:=n) (ms:=m) h r,e=>by
  simp at e
  obtain ⟨n1,n2,n3,u,e1,e2,e3,e4,e5⟩:=ows_split r e
  refine ⟨n++n1,n2,n3,u,by rw[e1];simp,by simpa using e2,e3,λH' k1 k3 v d ms q=>?_,λH' k1 k3=>?_⟩
  ·have:=Ows.cons (h.kept ⟨λa ha=>k1.1 a (mem_append_left _ ha),k1.2⟩) (e4 H' ⟨λa ha=>k1.1 a (mem_append_right _ ha),k1.2⟩ k3 v d ms q)
   simpa using this
  ·have:=Ows.cons (h.kept ⟨λa ha=>k1.1 a (mem_append_left _ ha),k1.2⟩) (e5 H' ⟨λa ha=>k1.1 a (mem_append_right _ ha),k1.2⟩ k3)
   simpa using this
theorem kept_upd {H H1:Hp} {b:Addr} {o ow:HO} {l:List Addr} (e:Same H H1) (hb:H b=some ow) (hl:∀ a∈l,(Mu H a)/\a≠b) (mb:muO ow=true:=by rfl):Kept l H (upd H1 b o):=⟨λa ha=>by
 obtain ⟨⟨us,q⟩,z⟩:=hl a ha
 rw[upd_ne z,q];exact e _ _ q,λa o' ha hn=>by
 have:a≠b:=λz=>by rw[z,hb] at ha;cases ha;rw[mb] at hn;cases hn
 rw[upd_ne this];exact e _ _ ha⟩
theorem kept_upd1 {H1:Hp} {b:Addr} {o ow:HO} {l:List Addr} (hb:H1 b=some ow) (hl:∀ a∈l,a≠b) (mb:muO ow=true:=by rfl):Kept l H1 (upd H1 b o):=⟨λa ha=>upd_ne (hl a ha),λa o' ha hn=>by
 have:a≠b:=λz=>by rw[z,hb] at ha;cases ha;rw[mb] at hn;cases hn
 rw[upd_ne this];exact ha⟩
theorem new_out {H0 H:Hp} {ν:Nat->List Addr} {ρ:Ren} {σ:L2.St} {i:Nat} {s:List Nat} {ms:List Addr} (S:StOk K Z0 H0 ν ρ σ H) (m3:∀ b∈ms,H b=none\/∃ l∈s,b∈ν l) (hs:i∉s):∀ b∈ms,b∉ν i:=λb hb z=>by
 rcases m3 b hb with y|⟨j,hj,y⟩
 ·obtain ⟨_,_,us,w⟩:=S.fr i b z;rw[y] at w;cases w
 ·rw[S.dj i j b z y] at hs;exact hs hj
theorem gone_ok {H0 H H2:Hp} {ν:Nat->List Addr} {ρ:Ren} {σ:L2.St} {i:Nat} {s:List Nat} {a:Addr} {o:HO} (S:StOk K Z0 H0 ν ρ σ H) (hs:i∉s) (e:Same H H2) (ha:a∈ν i):∀ j∈s,∀ b∈ν j,Mu (upd H2 a o) b:=λj hj b hb=>by
 obtain ⟨_,_,us',w⟩:=S.fr j b hb
 have:b≠a:=λz=>by
  have:=S.dj i j b (by rw[z];exact ha) hb
  rw[this] at hs;exact hs hj
 exact ⟨us',by rw[upd_ne this];exact e _ _ w⟩
theorem StOk.put1 {H0 H H1 H2:Hp} {ν:Nat->List Addr} {ρ:Ren} {σ:L2.St} {i j:Nat} {ds:List D} {a:Addr} {us:List V} {ns ms:List Addr} {s:List Nat} {v:V} {d c:D} (S:StOk K Z0 H0 ν ρ σ H) (h1:ρ[i]?=some (some (true,.list ds))) (g1:σ[i]?=some (some (.ref a))) (g2:H a=some (.lst us)) (g3:Ows K H us ds ns) (g4:ν i=a::ns) (g5:a∉ns) (g6:ns.Nodup)
  (hj:ds[j]?=some c) (e1:Same H H1) (m1:Ow K H1 v d ms) (m2:ms.Nodup) (m3:∀ b∈ms,H b=none\/∃ l∈s,b∈ν l) (hs:i∉s) (e2:Same H1 H2) :
  ∃ ν',StOk K Z0 H0 ν' ((dropS ρ s).set i (some (true,.list (ds.set j d)))) σ (upd H2 a (.lst (us.set j v))):=by
 obtain ⟨n1,n2,n3,u,q1,q2,q3,q4,_⟩:=ows_split g3 hj
 have e:=e1.trans e2
 have nm:=new_out S m3 hs
 have ham:a∉ms:=λz=>nm a z (by rw[g4];exact mem_cons_self)
 have inI:∀ b,b∈n1\/b∈n3->b∈ns:=λb hb=>by rw[q1];rcases hb with hb|hb<;>simp[hb]
 have nu:=g6
 rw[q1,nodup_append,nodup_append] at nu
 have k1:∀ l:List Addr,(∀ b∈l,b∈ns)->Kept l H (upd H2 a (.lst (us.set j v))):=λl hl=>kept_upd e g2 λb hb=>⟨g3.there b (hl b hb),λz=>g5 (z ▸ hl b hb)⟩
 have B:=(m1.same e2).kept (kept_upd1 (o:=.lst (us.set j v)) (e _ _ g2) λb hb z=>ham (z ▸ hb))
 refine ⟨_,S.mut s i (ms:=a::(n1++(ms++n3))) (v:=.ref a) g1 (len_of h1) (λb o hb hn=>?_) (.lst upd_same (q4 _ (k1 n1 λb hb=>inI b (.inl hb)) (k1 n3 λb hb=>inI b (.inr hb)) v d ms B)) ?_ ?_ hs (gone_ok S hs e (by rw[g4];exact mem_cons_self))⟩
 ·rw[upd_ne (λz=>hn (by rw[z,g4];exact mem_cons_self))];exact e _ _ hb
 ·refine nodup_cons.mpr ⟨λz=>?_,nodup_append.mpr ⟨nu.1,nodup_append.mpr ⟨m2,nu.2.1.2.1,λx hx y hy z=>?_⟩,λx hx y hy z=>?_⟩⟩
  ·rcases mem_append.mp z with z|z
   ·exact g5 (inI a (.inl z))
   ·rcases mem_append.mp z with z|z
    ·exact ham z
    ·exact g5 (inI a (.inr z))
  ·subst z;exact nm x hx (by rw[g4];exact mem_cons_of_mem _ (inI x (.inr hy)))
  ·subst z
   rcases mem_append.mp hy with hy|hy
   ·exact nm x hy (by rw[g4];exact mem_cons_of_mem _ (inI x (.inl hx)))
   ·exact nu.2.2 x hx x (mem_append_right _ hy) rfl
 ·intro b hb
  rcases mem_cons.mp hb with rfl|hb
  ·exact .inl (by rw[g4];exact mem_cons_self)
  ·rcases mem_append.mp hb with hb|hb
   ·exact .inl (by rw[g4];exact mem_cons_of_mem _ (inI b (.inl hb)))
   ·rcases mem_append.mp hb with hb|hb
    ·exact .inr (m3 b hb)
    ·exact .inl (by rw[g4];exact mem_cons_of_mem _ (inI b (.inr hb)))
theorem StOk.put2 {H0 H H1 H2:Hp} {ν:Nat->List Addr} {ρ:Ren} {σ:L2.St} {i j l:Nat} {ds es:List D} {a:Addr} {us:List V} {ns ms:List Addr} {s:List Nat} {v:V} {d c:D} (S:StOk K Z0 H0 ν ρ σ H) (h1:ρ[i]?=some (some (true,.list ds))) (g1:σ[i]?=some (some (.ref a))) (g2:H a=some (.lst us)) (g3:Ows K H us ds ns) (g4:ν i=a::ns) (g5:a∉ns) (g6:ns.Nodup)
  (hj:ds[j]?=some (.list es)) (hl:es[l]?=some c) (e1:Same H H1) (m1:Ow K H1 v d ms) (m2:ms.Nodup) (m3:∀ b∈ms,H b=none\/∃ l∈s,b∈ν l) (hs:i∉s) (e2:Same H1 H2) :
  ∃ b ws,us[j]?=some (.ref b)/\H b=some (.lst ws)/\ws.length=es.length/\∃ ν',StOk K Z0 H0 ν' ((dropS ρ s).set i (some (true,.list (ds.set j (.list (es.set l d)))))) σ (upd H2 b (.lst (ws.set l v))):=by
 obtain ⟨n1,n2,n3,u,q1,q2,q3,q4,_⟩:=ows_split g3 hj
 have e:=e1.trans e2
 have nm:=new_out S m3 hs
 have nu:=g6
 rw[q1,nodup_append,nodup_append] at nu
 cases q3 with
 | lst hb r =>
  rename_i b ws n2
  obtain ⟨p1,p2,p3,u',r1,r2,r3,r4,_⟩:=ows_split r hl
  have nb:=nodup_cons.mp nu.2.1.1
  have hbn:b∈ns:=by rw[q1];simp
  have inI:∀ y,y∈n1\/y∈n3\/y∈p1\/y∈p3->y∈ns:=λy hy=>by rw[q1,r1];rcases hy with hy|hy|hy|hy<;>simp[hy]
  have bne:∀ y,y∈n1\/y∈n3\/y∈p1\/y∈p3->y≠b:=λy hy z=>by
   subst z
   rcases hy with hy|hy|hy|hy
   ·exact nu.2.2 y hy y (by simp) rfl
   ·exact nu.2.1.2.2 y (by simp) y hy rfl
   ·exact nb.1 (by rw[r1];simp[hy])
   ·exact nb.1 (by rw[r1];simp[hy])
  have hbm:b∉ms:=λz=>nm b z (by rw[g4];exact mem_cons_of_mem _ hbn)
  have hab:a≠b:=λz=>g5 (z ▸ hbn)
  have k1:∀ (w:List V) (l:List Addr),(∀ y∈l,y∈n1\/y∈n3\/y∈p1\/y∈p3)->Kept l H (upd H2 b (.lst w)):=λw l hl=>kept_upd e hb λy hy=>⟨g3.there y (inI y (hl y hy)),bne y (hl y hy)⟩
  have B:=(m1.same e2).kept (kept_upd1 (o:=.lst (ws.set l v)) (e _ _ hb) λy hy z=>hbm (z ▸ hy))
  have C:Ow K (upd H2 b (.lst (ws.set l v))) (.ref b) (.list (es.set l d)) (b::(p1++(ms++p3))):=.lst upd_same (r4 _ (k1 _ p1 λy hy=>.inr (.inr (.inl hy))) (k1 _ p3 λy hy=>.inr (.inr (.inr hy))) v d ms B)
  have us':us.set j (.ref b)=us:=by
   apply List.ext_getElem?
   intro m
   by_cases z:m=j
   ·subst z;rw[List.getElem?_set_self (len_of q2),q2]
   ·rw[List.getElem?_set_ne (Ne.symm z)]
  have A:=q4 _ (k1 (ws.set l v) n1 λy hy=>.inl hy) (k1 _ n3 λy hy=>.inr (.inl hy)) (.ref b) _ _ C
  rw[us'] at A
  have np:=nb.2
  rw[r1,nodup_append,nodup_append] at np
  refine ⟨b,ws,q2,hb,r.den.length,_,S.mut s i (ms:=a::(n1++((b::(p1++(ms++p3)))++n3))) (v:=.ref a) g1 (len_of h1) (λy o hy hn=>?_) (.lst (by rw[upd_ne hab];exact e _ _ g2) A) ?_ ?_ hs (gone_ok S hs e (by rw[g4];exact mem_cons_of_mem _ hbn))⟩
  ·rw[upd_ne (λz=>hn (by rw[z,g4];exact mem_cons_of_mem _ hbn))];exact e _ _ hy
  ·have inn:∀ y,y∈p1\/y∈p3->y∈n2:=λy hy=>by rw[r1];rcases hy with hy|hy<;>simp[hy]
   have out:∀ y∈ms,y∉ns:=λy hy z=>nm y hy (by rw[g4];exact mem_cons_of_mem _ z)
   have nin:(b::(p1++(ms++p3))).Nodup:=by
    refine nodup_cons.mpr ⟨λz=>?_,nodup_append.mpr ⟨np.1,nodup_append.mpr ⟨m2,np.2.1.2.1,λx hx y hy z=>?_⟩,λx hx y hy z=>?_⟩⟩
    ·rcases mem_append.mp z with z|z
     ·exact bne b (.inr (.inr (.inl z))) rfl
     ·rcases mem_append.mp z with z|z
      ·exact hbm z
      ·exact bne b (.inr (.inr (.inr z))) rfl
    ·subst z;exact out x hx (inI x (.inr (.inr (.inr hy))))
    ·subst z
     rcases mem_append.mp hy with hy|hy
     ·exact out x hy (inI x (.inr (.inr (.inl hx))))
     ·exact np.2.2 x hx x (mem_append_right _ hy) rfl
   have cls:∀ y∈b::(p1++(ms++p3)),y∈b::n2\/y∈ms:=λy hy=>by
    rcases mem_cons.mp hy with rfl|hy
    ·exact .inl mem_cons_self
    ·rcases mem_append.mp hy with hy|hy
     ·exact .inl (mem_cons_of_mem _ (inn y (.inl hy)))
     ·rcases mem_append.mp hy with hy|hy
      ·exact .inr hy
      ·exact .inl (mem_cons_of_mem _ (inn y (.inr hy)))
   refine nodup_cons.mpr ⟨λz=>?_,nodup_append.mpr ⟨nu.1,nodup_append.mpr ⟨nin,nu.2.1.2.1,λx hx y hy z=>?_⟩,λx hx y hy z=>?_⟩⟩
   ·rcases mem_append.mp z with z|z
    ·exact g5 (inI a (.inl z))
    ·rcases mem_append.mp z with z|z
     ·rcases cls a z with z|z
      ·exact g5 (by rw[q1];exact mem_append_right _ (mem_append_left _ z))
      ·exact nm a z (by rw[g4];exact mem_cons_self)
     ·exact g5 (inI a (.inr (.inl z)))
   ·subst z
    rcases cls x hx with w|w
    ·exact nu.2.1.2.2 x w x hy rfl
    ·exact out x w (inI x (.inr (.inl hy)))
   ·subst z
    rcases mem_append.mp hy with hy|hy
    ·rcases cls x hy with w|w
     ·exact nu.2.2 x hx x (mem_append_left _ w) rfl
     ·exact out x w (inI x (.inl hx))
    ·exact nu.2.2 x hx x (mem_append_right _ hy) rfl
  ·intro y hy
   have mine:y∈ns->y∈ν i:=λz=>by rw[g4];exact mem_cons_of_mem _ z
   rcases mem_cons.mp hy with rfl|hy
   ·exact .inl (by rw[g4];exact mem_cons_self)
   ·rcases mem_append.mp hy with hy|hy
    ·exact .inl (mine (inI y (.inl hy)))
    ·rcases mem_append.mp hy with hy|hy
     ·rcases mem_cons.mp hy with rfl|hy
      ·exact .inl (mine hbn)
      ·rcases mem_append.mp hy with hy|hy
       ·exact .inl (mine (inI y (.inr (.inr (.inl hy)))))
       ·rcases mem_append.mp hy with hy|hy
        ·exact .inr (m3 y hy)
        ·exact .inl (mine (inI y (.inr (.inr (.inr hy)))))
     ·exact .inl (mine (inI y (.inr (.inl hy))))
end
section
variable {X:Cx} {K:W.Frag} {E:XK} {pos p1 p2 px:Pos} {e e1 e2:Expr} {te t1 t2:TD} {x:Str}
theorem some_of_lt {α:Type} {l:List α} {j:Nat} (h:j < l.length):∃ c,l[j]?=some c:=⟨_,List.getElem?_eq_getElem h⟩
theorem ixN_lt {n:Nat} {z:Int} {j:Nat} (h:ixN n z=some j):j < n:=(ixN_seq h).2.1
def dPut1 (i:Nat) (t1 te:TD):TSD:=λDd ρ Xd=>te ρ (λd k=>∃ ds,ρ[i]?=some (some (true,.list ds))/\t1 ρ (λy _=>∃ z j,y=.int z/\ixN ds.length z=some j/\match eff d k with
 | .own s=>i∉s/\Dd.nx ((dropS ρ s).set i (some (true,.list (ds.set j d))))
 | _=>False) Xd) Xd
theorem dps_put1 (i:Nat) (ho:QE X (.Name x px) (tVar i)) (h1:DE X K E e1 t1) (he:DE X K E e te)
  (ha:∀ v,assign (.Subscript (.Name x px) e1 p1) X.env v=(do
   let ov <- holding [v] (eval (.Name x px) X.env)
   let iv <- holding [v,ov] (eval e1 X.env)
   standAt p1
   holding [v,ov,iv] (setItem ov iv v)
   release [v,ov,iv] []):=by intro _;rfl)
  (hs:swapsWithSole [.Subscript (.Name x px) e1 p1] e pos.line X.env=pure false:=by rfl) (hw:swappedStores [.Subscript (.Name x px) e1 p1] e X.env=pure none:=by rfl) (h2:(assignEach [.Subscript (.Name x px) e1 p1] X.env).map (·.2)=[assign (.Subscript (.Name x px) e1 p1) X.env]:=by rfl) :
  DS X K E (.Assign [.Subscript (.Name x px) e1 p1] e pos) (dPut1 i t1 te):=⟨qs_imp (qps_asg he.q (qpg_sub ho h1.q set_list ha) hs hw h2) λEn σ H h=>by
 obtain ⟨H0,ν,ρ,Dd,Xd,S,h1,ok,x⟩:=h
 refine ⟨H0,ν,ρ,_,Xd,S,h1,λd k v H1 q1 e1 r1=>?_,x⟩
 obtain ⟨ds,h1,q1⟩:=q1
 obtain ⟨a,us,ns,g1,g2,g3,g4,g5,g6⟩:=own_list S h1
 refine ⟨_,g1,H0,ν,ρ,_,Xd,S.same e1,q1,λy l w H2 q2 e2 r2=>?_,x⟩
 obtain ⟨z,j,rfl,hj,q2⟩:=q2
 split at q2
 case h_2=>exact q2.elim
 case h_1 s es =>
  obtain ⟨ms,m1,m2,m3⟩:=eff_own es (S.same e1).hl r1
  obtain ⟨c,hc⟩:=some_of_lt (ixN_lt hj)
  obtain ⟨ν',S'⟩:=S.put1 h1 g1 g2 g3 g4 g5 g6 hc e1 m1 m2 m3 q2.1 e2
  exact ⟨a,us,z,j,rfl,dn_int r2.den,(e1.trans e2) _ _ g2,by rw[g3.den.length];exact hj,ok.nx _ _ _ _ q2.2 S'⟩⟩
def dPut2 (i:Nat) (t1 t2 te:TD):TSD:=λDd ρ Xd=>te ρ (λd k=>∃ ds,ρ[i]?=some (some (true,.list ds))/\t1 ρ (λy1 _=>∃ z1 j1 es,y1=.int z1/\ixN ds.length z1=some j1/\ds[j1]?=some (.list es)/\t2 ρ (λy2 _=>∃ z2 j2,y2=.int z2/\ixN es.length z2=some j2/\match eff d k with
 | .own s=>i∉s/\Dd.nx ((dropS ρ s).set i (some (true,.list (ds.set j1 (.list (es.set j2 d))))))
 | _=>False) Xd) Xd) Xd
theorem dps_put2 (i:Nat) (hK:X.K=K) (ho:QE X (.Name x px) (tVar i)) (h1:DE X K E e1 t1) (h2':DE X K E e2 t2) (he:DE X K E e te) (hpl:PlainIx e1)
  (ha:∀ v,assign (.Subscript (.Subscript (.Name x px) e1 p1) e2 p2) X.env v=(do
   let ov <- holding [v] (eval (.Subscript (.Name x px) e1 p1) X.env)
   let iv <- holding [v,ov] (eval e2 X.env)
   standAt p2
   holding [v,ov,iv] (setItem ov iv v)
   release [v,ov,iv] []):=by intro _;rfl)
  (hs:swapsWithSole [.Subscript (.Subscript (.Name x px) e1 p1) e2 p2] e pos.line X.env=pure false:=by rfl) (hw:swappedStores [.Subscript (.Subscript (.Name x px) e1 p1) e2 p2] e X.env=pure none:=by rfl) (h2:(assignEach [.Subscript (.Subscript (.Name x px) e1 p1) e2 p2] X.env).map (·.2)=[assign (.Subscript (.Subscript (.Name x px) e1 p1) e2 p2) X.env]:=by rfl) :
  DS X K E (.Assign [.Subscript (.Subscript (.Name x px) e1 p1) e2 p2] e pos) (dPut2 i t1 t2 te):=⟨qs_imp (qps_asg he.q (qpg_sub (qpe_ix (ix_listK K hK) ho h1.q hpl) h2'.q set_list ha) hs hw h2) λEn σ H h=>by
 obtain ⟨H0,ν,ρ,Dd,Xd,S,h1,ok,x⟩:=h
 refine ⟨H0,ν,ρ,_,Xd,S,h1,λd k v H1 q1 e1 r1=>?_,x⟩
 obtain ⟨ds,h1,q1⟩:=q1
 obtain ⟨a,us,ns,g1,g2,g3,g4,g5,g6⟩:=own_list S h1
 refine ⟨_,g1,H0,ν,ρ,_,Xd,S.same e1,q1,λy l w H2 q2 e2 r2=>?_,x⟩
 obtain ⟨z,j,es,rfl,hj,hes,q2⟩:=q2
 obtain ⟨n1,n2,n3,u,_,hu,hw,_⟩:=ows_split g3 hes
 refine ⟨a,us,z,u,rfl,dn_int r2.den,SqL.of ((e1.trans e2) _ _ g2),atI_of (by rw[g3.den.length];exact hj) hu,H0,ν,ρ,_,Xd,S.same (e1.trans e2),q2,λy3 l3 w3 H3 q3 e3 r3=>?_,x⟩
 obtain ⟨z2,j2,rfl,hj2,q3⟩:=q3
 split at q3
 case h_2=>exact q3.elim
 case h_1 s ee =>
  obtain ⟨ms,m1,m2,m3⟩:=eff_own ee (S.same e1).hl r1
  obtain ⟨c,hc⟩:=some_of_lt (ixN_lt hj2)
  obtain ⟨b,ws,k1,k2,k3,ν',S'⟩:=S.put2 h1 g1 g2 g3 g4 g5 g6 hes hc e1 m1 m2 m3 q3.1 (e2.trans e3)
  rw[hu] at k1
  cases k1
  exact ⟨b,ws,z2,j2,rfl,dn_int r3.den,(e1.trans (e2.trans e3)) _ _ k2,by rw[k3];exact hj2,ok.nx _ _ _ _ q3.2 S'⟩⟩
theorem ixN_nat {n j:Nat} (h:j < n):ixN n (j:Int)=some j:=by
 unfold ixN
 rw[if_pos (by lia),if_pos (by lia)];simp
end
def startR (N:List Str) (ds:List D):Ren:=ds.map (λd=>some (false,d))++List.replicate (N.length - ds.length) none
theorem start_ok {K:W.Frag} {H:Hp} {vs:List V} {ds:List D} {N:List Str} (h:Dns K H vs ds):StOk K Z0 H (λ_=>[]) (startR N ds) (start N vs) H:=by
 have hl:=h.length
 refine ⟨Same.refl H,?_,λi b d hi=>?_,λ_=>nodup_nil,(λ_ _ _ z=>by cases z),(λ_ _ z=>by cases z),λ_ z=>False.elim z⟩
 ·unfold startR L2.start;simp[hl]
 ·unfold startR at hi
  by_cases hlt:i < ds.length
  ·rw[List.getElem?_append_left (by simpa using hlt),List.getElem?_map] at hi
   cases e:ds[i]? with
   | none=>rw[e] at hi;cases hi
   | some c =>
    rw[e] at hi;cases hi
    obtain ⟨v,g1,g2⟩:=h.get e
    refine ⟨v,?_,Dn.same hid_z0 g2⟩
    unfold L2.start
    rw[List.getElem?_append_left (by rw[length_map,hl];exact hlt),List.getElem?_map,g1];rfl
  ·rw[List.getElem?_append_right (by simpa using Nat.le_of_not_lt hlt),List.getElem?_replicate] at hi
   split at hi<;>cases hi
theorem dmk {X:Cx} {K:W.Frag} {E:XK} {b:List Stmt} {t:TSD} {N:List Str} {vs:List V} {H:Hp} {Q:VK} {ds:List D} {Qd:D->Bool->Prop} {Xd:XD} (h:DSs X K E b t) (hd:Dns K H vs ds) (q:∀ d o v H',Qd d o->Same H H'->RR K H H' o v d->Q v H') (x:∀ C H',Xd C->Same H H'->E (.ref C) none H')
  (r:t { nx:=λ_=>Qd .none true,rt:=Qd } (startR N ds) Xd):∃ t,PSs X b t/\t { nx:=λ_ H'=>Q .non H',rt:=Q } (start N vs) H :=
 ⟨_,h.q.h,H,_,_,_,Xd,start_ok hd,r,⟨λν ρ σ H' a S=>q _ _ _ _ a S.sm ⟨[],.non,nodup_nil,λ_ z=>by cases z⟩,λ_ _ _ _ z=>z.elim,λ_ _ _ _ z=>z.elim,q⟩,x⟩
theorem ok0 {P:Program} {w:World} {K:W.Frag} {mg:Str->Option Value} {base:Heap} {x qual:Str} {st:Stmt} {f:Addr} {fd:FuncData} {N ps:List Str} {k:Nat} {sp:SpD} (F:Fun K x qual st f fd) (S:FnScope N ps (defScope st)) (len:∀ ds Q X,sp ds Q X->ds.length=ps.length)
  (hbody:∀ (cdv:Value) (A:Around) (outer:List Env) (s:Shared) (H:Hp) (E:XK),Room k (A.deeper (envOfC qual (defScope st) s.heap.objs.size f cdv))->∃ t,DSs (cxOf CX0 P w K mg base N qual (defScope st) f cdv A outer s H E).nox K E0 (defBody st) t/\∀ ds Qd,sp ds Qd Xf->t { nx:=λ_=>Qd .none true,rt:=Qd } (startR N ds) Xf)
  (hx:∀ ds Qd Xd,sp ds Qd Xd->sp ds Qd Xf):FnOk P w K mg base CX0 (k+1) f fd ps (SpL K sp):=by
 refine F.ok S (λvs H Q E h=>?_) (λcdv A outer s H vs Q E hr h=>?_)
 ·obtain ⟨ds,Qd,Xd,h1,h2,_⟩:=h
  rw[h1.length];exact len ds Qd Xd h2
 ·obtain ⟨ds,Qd,Xd,h1,h2,h3,h4⟩:=h
  obtain ⟨t,D,r⟩:=hbody cdv A outer s H E hr
  exact dmk D h1 h3 (λ_ _ z _=>z.elim) (r ds Qd (hx _ _ _ h2))
theorem okE {P:Program} {w:World} {K:W.Frag} {mg:Str->Option Value} {base:Heap} {x qual:Str} {st:Stmt} {f:Addr} {fd:FuncData} {N ps:List Str} {k:Nat} {sp:SpD} (F:Fun K x qual st f fd) (S:FnScope N ps (defScope st)) (len:∀ ds Q X,sp ds Q X->ds.length=ps.length)
  (hbody:∀ (cdv:Value) (A:Around) (outer:List Env) (s:Shared) (H:Hp) (E:XK),Room k (A.deeper (envOfC qual (defScope st) s.heap.objs.size f cdv))->∃ t,DSs (cxOf (CXE P w base) P w K mg base N qual (defScope st) f cdv A outer s H E) K E (defBody st) t/\∀ ds Qd Xd,sp ds Qd Xd->t { nx:=λ_=>Qd .none true,rt:=Qd } (startR N ds) Xd) :
  FnOk P w K mg base (CXE P w base) (k+1) f fd ps (SpL K sp):=by
 refine F.okE S (λvs H Q E h=>?_) (λcdv A outer s H vs Q E hr h=>?_)
 ·obtain ⟨ds,Qd,Xd,h1,h2,_⟩:=h
  rw[h1.length];exact len ds Qd Xd h2
 ·obtain ⟨ds,Qd,Xd,h1,h2,h3,h4⟩:=h
  obtain ⟨t,D,r⟩:=hbody cdv A outer s H E hr
  exact dmk D h1 h3 h4 (r ds Qd Xd h2)
section
variable {X:Cx} {K:W.Frag} {E:XK} {pos p2 px apos cpos:Pos} {e e1:Expr} {te:TD} {x:Str}
theorem dnS {s:Stmt} {t:TSD} (h:DS X.nox K E s t):DS X K E s t:=⟨qnS h.q⟩
theorem dnT {e:Expr} {t:TDT} (h:DT X.nox K E e t):DT X K E e t:=⟨qnT h.q⟩
theorem StOk.popped {H0 H H1:Hp} {ν:Nat->List Addr} {ρ:Ren} {σ:L2.St} {i j:Nat} {ds:List D} {a:Addr} {us:List V} {ns:List Addr} {c:D} (S:StOk K Z0 H0 ν ρ σ H) (h1:ρ[i]?=some (some (true,.list ds))) (g1:σ[i]?=some (some (.ref a))) (g2:H a=some (.lst us)) (g3:Ows K H us ds ns) (g4:ν i=a::ns) (g5:a∉ns) (g6:ns.Nodup)
  (hj:ds[j]?=some c) (e1:Same H H1):∃ ν' u,us[j]?=some u/\StOk K Z0 H0 ν' (ρ.set i (some (true,.list (ds.eraseIdx j)))) σ (upd H1 a (.lst (us.eraseIdx j)))/\Dn K (hid (Hd Z0 ν') (upd H1 a (.lst (us.eraseIdx j)))) u c:=by
 obtain ⟨n1,n2,n3,u,q1,q2,q3,_,q4⟩:=ows_split g3 hj
 have nu:=g6
 rw[q1,nodup_append,nodup_append] at nu
 have inI:∀ b,b∈n1\/b∈n2\/b∈n3->b∈ns:=λb hb=>by rw[q1];rcases hb with hb|hb|hb<;>simp[hb]
 have k1:∀ l:List Addr,(∀ b∈l,b∈ns)->Kept l H (upd H1 a (.lst (us.eraseIdx j))):=λl hl=>kept_upd e1 g2 λb hb=>⟨g3.there b (hl b hb),λz=>g5 (z ▸ hl b hb)⟩
 have S':=S.mut [] i (ms:=a::(n1++n3)) (H':=upd H1 a (.lst (us.eraseIdx j))) (v:=.ref a) g1 (len_of h1) (λb o hb hn=>by rw[upd_ne (λz=>hn (by rw[z,g4];exact mem_cons_self))];exact e1 _ _ hb)
  (.lst upd_same (q4 _ (k1 n1 λb hb=>inI b (.inl hb)) (k1 n3 λb hb=>inI b (.inr (.inr hb)))))
  (nodup_cons.mpr ⟨λz=>by rcases mem_append.mp z with z|z;exact g5 (inI a (.inl z));exact g5 (inI a (.inr (.inr z))),nodup_append.mpr ⟨nu.1,nu.2.1.2.1,λx hx y hy z=>nu.2.2 x hx y (mem_append_right _ hy) z⟩⟩)
  (λb hb=>.inl (by
   rw[g4]
   rcases mem_cons.mp hb with rfl|hb
   ·exact mem_cons_self
   ·refine mem_cons_of_mem _ ?_
    rcases mem_append.mp hb with hb|hb
    ·exact inI b (.inl hb)
    ·exact inI b (.inr (.inr hb)))) (by simp) (λ_ z=>by cases z)
 refine ⟨_,u,q2,S',ow_hid S'.hl (q3.kept (k1 n2 λb hb=>inI b (.inr (.inl hb)))) λb hb z=>?_⟩
 rcases z with z|⟨l,z⟩
 ·exact z
 ·have z:b∈(if l=i then a::(n1++n3) else if l∈([]:List Nat) then [] else ν l):=z
  split at z
  ·rcases mem_cons.mp z with z|z
   ·exact g5 (z ▸ inI b (.inr (.inl hb)))
   ·rcases mem_append.mp z with z|z
    ·exact nu.2.2 b z b (mem_append_left _ hb) rfl
    ·exact nu.2.1.2.2 b hb b z rfl
  ·split at z
   ·cases z
   ·exact absurd (S.dj l i b z (by rw[g4];exact mem_cons_of_mem _ (inI b (.inr (.inl hb))))) ‹_›
theorem popAt {H0 H:Hp} {ν:Nat->List Addr} {ρ:Ren} {σ:L2.St} {i:Nat} {ds:List D} (S:StOk K Z0 H0 ν ρ σ H) (h1:ρ[i]?=some (some (true,.list ds))) (hz:ds.length<=1000000) {z:Int} {j:Nat} {c:D} (hj:ixN ds.length z=some j) (hc:ds[j]?=some c) {a:Addr} (ha:σ[i]?=some (some (.ref a))) {H1:Hp} (e1:Same H H1) {Q:VK}
  (q:∀ ν' u H',StOk K Z0 H0 ν' (ρ.set i (some (true,.list (ds.eraseIdx j)))) σ H'->Dn K (hid (Hd Z0 ν') H') u c->Q u H'):rPopAt (.ref a) [.int z] H1 Q:=by
 obtain ⟨a',us,ns,g1,g2,g3,g4,g5,g6⟩:=own_list S h1
 rw[ha] at g1;cases g1
 obtain ⟨ν',u,q1,q2,q3⟩:=S.popped h1 ha g2 g3 g4 g5 g6 hc e1
 obtain ⟨k1,k2,k3,k4⟩:=ixN_seq hj
 have hl:=g3.den.length
 exact ⟨a,us,z,j,u,rfl,rfl,e1 _ _ g2,by lia,by lia,by rw[hl];exact k1,q1,q _ _ _ q2 q3⟩
def dAppPop (i l:Nat) (te:TD):TSD:=λDd ρ Xd=>∃ ds es,ρ[i]?=some (some (true,.list ds))/\i≠l/\ρ[l]?=some (some (true,.list es))/\es.length<=1000000/\ds.length < 1000000/\te ρ (λy _=>∃ z j c,y=.int z/\ixN es.length z=some j/\es[j]?=some c/\flat c=true/\Dd.nx ((ρ.set l (some (true,.list (es.eraseIdx j)))).set i (some (true,.list (ds++[c]))))) Xd
theorem dps_appPop (i l:Nat) {y:Str} {py apos2 cpos2:Pos} (hK:X.K=K) (ho:QE X (.Name x px) (tVar i)) (ho2:QE X (.Name y py) (tVar l)) (he:DE X K E e te) (hs:starEach [e] X.env=[(false,eval e X.env)]) (hbase:attributeBase (.Name y py) "pop" X.env (eval (.Name y py) X.env)=eval (.Name y py) X.env) (hline:(apos2.endLine==cpos2.line)=true)
  (hs2:starEach [.Call (.Attribute (.Name y py) "pop" apos2) [e] [] cpos2] X.env=[(false,eval (.Call (.Attribute (.Name y py) "pop" apos2) [e] [] cpos2) X.env)]) (hbase2:attributeBase (.Name x px) "append" X.env (eval (.Name x px) X.env)=eval (.Name x px) X.env) (hline2:(apos.endLine==cpos.line)=true)
  (hsw:swapsWith (.Call (.Attribute (.Name x px) "append" apos) [.Call (.Attribute (.Name y py) "pop" apos2) [e] [] cpos2] [] cpos) none pos.line X.env=pure false:=by rfl) :
  DS X K E (.Expr (.Call (.Attribute (.Name x px) "append" apos) [.Call (.Attribute (.Name y py) "pop" apos2) [e] [] cpos2] [] cpos) pos) (dAppPop i l te):=⟨qs_imp (qps_expr (qpm_appendK K hK ho (qpm_popAtK K hK ho2 he.q hs hbase hline) hs2 hbase2 hline2) hsw) λEn σ H h=>by
 obtain ⟨H0,ν,ρ,Dd,Xd,S,⟨ds,es,h1,hil,h2,hz,hz2,h3⟩,ok,x⟩:=h
 obtain ⟨a,us,ns,g1,g2,g3,g4,g5,g6⟩:=own_list S h1
 obtain ⟨b,ws,ms,k1,k2,k3,k4,k5,k6⟩:=own_list S h2
 refine ⟨_,g1,tyl (SqL.of g2),_,k1,tyl (SqL.of k2),H0,ν,ρ,_,Xd,S,h3,λy m w H1 q1 e1 r1=>?_,x⟩
 obtain ⟨z,j,c,rfl,hj,hc,hf,q1⟩:=q1
 have:=dn_int r1.den
 subst this
 refine popAt S h2 hz hj hc k1 e1 λν' u H' S' hd=>?_
 have h1':(ρ.set l (some (true,.list (es.eraseIdx j))))[i]?=some (some (true,.list ds)):=by rw[List.getElem?_set_ne (Ne.symm hil)];exact h1
 obtain ⟨a',us',ns',g1',g2',g3',g4',g5',g6'⟩:=own_list S' h1'
 rw[g1] at g1';cases g1'
 have C:=ow_flat (Dn.same hid_same hd) hf
 refine ⟨a,us',u,rfl,rfl,g2',by rw[g3'.den.length];exact Nat.lt_of_lt_of_le hz2 million,?_⟩
 have S3:=S'.mut [] i (ms:=a::(ns'++[])) (H':=upd H' a (.lst (us'++[u]))) (v:=.ref a) (d:=.list (ds++[c])) g1 (len_of h1') (λb o hb hn=>by rw[upd_ne (λz=>hn (by rw[z,g4'];exact mem_cons_self))];exact hb)
  (.lst upd_same (ows_snoc (C.kept (kept_upd1 g2' λ_ z=>by cases z)) (g3'.kept (kept_upd1 g2' λb hb z=>g5' (z ▸ hb))))) (by rw[append_nil];exact nodup_cons.mpr ⟨g5',g6'⟩) (λb hb=>.inl (by rw[append_nil] at hb;rw[g4'];exact hb)) (by simp) (λ_ z=>by cases z)
 exact ok.nx _ _ _ _ q1 S3⟩
def setAll (b:Bool):Ren->List Nat->List D->Ren
 | ρ,i::is,d::ds=>setAll b (ρ.set i (some (b&&!flat d,d))) is ds
 | ρ,_,_=>ρ
def unpK (ρ:Ren) (is:List Nat) (ds:List D) (k:Kd):Ren:=match eff (.tuple ds) k with
 | .own []=>setAll true ρ is ds
 | .old=>setAll false ρ is ds
 | _=>setAll false (frz ρ) is ds
def sets:L2.St->List Nat->List V->L2.St
 | σ,i::is,v::vs=>sets (σ.set i (some v)) is vs
 | σ,_,_=>σ
theorem all_old {H0 H:Hp} {ν:Nat->List Addr}:∀ {is:List Nat} {vs:List V} {ds:List D} {ρ:Ren} {σ:L2.St},StOk K Z0 H0 ν ρ σ H->Dns K (hid (Hd Z0 ν) H) vs ds->StOk K Z0 H0 ν (setAll false ρ is ds) (sets σ is vs) H
 | [],_,_,_,_,S,_=>S
 | i::is,_,_,_,_,S,.nil=>S
 | i::is,_,_,_,_,S,.cons h r=>by
  have:=all_old (is:=is) (S.setOld i h) r
  exact this
theorem all_own {H0 H':Hp}:∀ (is:List Nat) {vs:List V} {ds:List D} {ρ:Ren} {σ:L2.St} {ν:Nat->List Addr} {ms:List Addr},StOk K Z0 H0 ν ρ σ (hid (·∈ms) H')->Ows K H' vs ds ms->ms.Nodup->∃ ν',StOk K Z0 H0 ν' (setAll true ρ is ds) (sets σ is vs) H':=by
 intro is
 induction is with
 | nil=>intro vs ds ρ σ ν ms S _ _;exact ⟨ν,by unfold setAll sets;exact S.same hid_same⟩
 | cons i is ih =>
  intro vs ds ρ σ ν ms S r0 nd
  cases r0 with
  | nil=>exact ⟨ν,S.same hid_same⟩
  | cons h r =>
   rename_i v vs d ds n m
   rw[nodup_append] at nd
   have sm:Same (hid (·∈n++m) H') (hid (·∈m) H'):=hid_less λa z=>mem_append_right _ z
   have nt:∀ a o,H' a=some o->muO o=false->hid (·∈m) H' a=some o:=λa o ha hn=>hid_of ha λz=>by
    exact (r.there a z).no ha hn
   have hk:Kept n H' (hid (·∈m) H'):=⟨λa ha=>by
    unfold hid
    rw[if_neg λz=>nd.2.2 a ha a z rfl],nt⟩
   show ∃ ν',StOk K Z0 H0 ν' (setAll true (ρ.set i (some (true&&!flat d,d))) is _) (sets (σ.set i (some v)) is _) H'
   cases hf:flat d with
   | true =>
    have S1:=(S.same sm).setOld i (v:=v) (d:=d) (den_hid (S.same sm).hl (den_kept nt h.den hf) hf)
    exact ih S1 r nd.2.1
   | false =>
    have S1:=S.setOwn [] i sm (h.kept hk) nd.1 λa ha=>.inl (by unfold hid;rw[if_pos (mem_append_left _ ha)])
    exact ih S1 r nd.2.1
theorem unp_ok {H0 H H':Hp} {ν:Nat->List Addr} {ρ:Ren} {σ:L2.St} {k:Kd} {a:Addr} {ds:List D} (S:StOk K Z0 H0 ν ρ σ H) (e:Same H H') (h:Res K Z0 ν H H' k (.ref a) (.tuple ds)) (is:List Nat):∃ us ν',SqT K H' a us/\us.length=ds.length/\StOk K Z0 H0 ν' (unpK ρ is ds k) (sets σ is us) H':=by
 have h':Res K Z0 ν H H' (eff (.tuple ds) k) (.ref a) (.tuple ds):=by
  unfold eff
  split
  ·exact Res.flat h.den ‹_› (S.same e).hl _
  ·exact h
 have frzc:∃ us ν',SqT K H' a us/\us.length=ds.length/\StOk K Z0 H0 ν' (setAll false (frz ρ) is ds) (sets σ is us) H':=by
  obtain ⟨a',us,q,q1,q2⟩:=dns_of_tup h.den
  cases q
  exact ⟨us,_,q1,q2.length,all_old (S.same e).frz (Dns.same hid_z0 q2)⟩
 unfold unpK
 generalize eff (.tuple ds) k=k' at h'
 split
 ·obtain ⟨ms,m1,m2,m3⟩:=h'
  cases m1 with
  | tup q1 q2 =>
   have sm:Same H (hid (·∈ms) H'):=λb o hb=>hid_of (e _ _ hb) λz=>by
    rcases m3 b z with y|⟨_,y,_⟩
    ·rw[hb] at y;cases y
    ·cases y
   obtain ⟨ν',S'⟩:=all_own is (S.same sm) q2 m2
   exact ⟨_,ν',q1,q2.den.length,S'⟩
 ·obtain ⟨a',us,q,q1,q2⟩:=dns_of_tup (show Dn K _ _ _ from h')
  cases q
  exact ⟨us,ν,Same.tup hid_same q1,q2.length,all_old (S.same e) q2⟩
 ·exact frzc
def gNames:List Nat->TGs
 | []=>gNil
 | i::is=>gCons (gName i) (gNames is)
theorem gNames_of:∀ (is:List Nat) (vs:List V) (σ:L2.St) (H:Hp) (Q:L2.St->Hp->Prop),vs.length=is.length->Q (sets σ is vs) H->gNames is vs σ H Q
 | [],[],σ,H,Q,_,q=>⟨rfl,q⟩
 | i::is,v::vs,σ,H,Q,hl,q=>⟨v,vs,rfl,gNames_of is vs _ H Q (by simpa using hl) q⟩
 | [],_::_,_,_,_,hl,_=>by cases hl
 | _::_,[],_,_,_,hl,_=>by cases hl
def dUnp (is:List Nat) (te:TD):TSD:=λDd ρ Xd=>te ρ (λd k=>match d with
 | .tuple ds=>ds.length=is.length/\Dd.nx (unpK ρ is ds k)
 | _=>False) Xd
theorem dps_unp (is:List Nat) (n:Nat) {es:List Expr} {kt:Nat} {pt:Pos} (hn':is.length=n) (hK:X.K=K) (hc:X.calm=true) (hg:QGs X es (gNames is)) (hn:(assignEach es X.env).length=n) (hst:(assignEach es X.env).findIdx? (·.1)=none) (he:DE X K E e te)
  (hs:swapsWithSole [.Tuple es kt pt] e pos.line X.env=pure false:=by rfl) (hw:swappedStores [.Tuple es kt pt] e X.env=pure none:=by rfl) (h1:(assignEach [.Tuple es kt pt] X.env).map (·.2)=[assign (.Tuple es kt pt) X.env]:=by rfl) :
  DS X K E (.Assign [.Tuple es kt pt] e pos) (dUnp is te):=⟨qs_imp (qps_asg he.q (qpg_tupK K n hK hc hg hn hst) hs hw h1) λEn σ H h=>by
 obtain ⟨H0,ν,ρ,Dd,Xd,S,h1,ok,x⟩:=h
 refine ⟨H0,ν,ρ,_,Xd,S,h1,λd k v H' q1 e1 r1=>?_,x⟩
 cases d with
 | tuple ds =>
  obtain ⟨a,us0,rfl,_,_⟩:=dns_of_tup r1.den
  obtain ⟨us,ν',k1,k2,S'⟩:=unp_ok S e1 r1 is
  exact ⟨a,us,rfl,k1,by rw[k2,q1.1,hn'],gNames_of is us σ H' _ (by rw[k2,q1.1]) (ok.nx _ _ _ _ q1.2 S')⟩
 | _=>exact q1.elim⟩
theorem flats_ints {ns:List Int}:flats (ns.map PyData.int)=true:=flats_iff.mpr λd hd=>by
 obtain ⟨n,_,rfl⟩:=mem_map.mp hd
 rfl
theorem dns_of_ints {H:Hp}:∀ (ns:List Int),Dns K H (ns.map V.int) (ns.map PyData.int)
 | []=>.nil
 | n::r=>.cons (.int n) (dns_of_ints r)
def dInts (ns:List Int):TDA:=λ_ Q _=>Q (ns.map PyData.int) (.own [])
theorem dpa_ints {es:List Expr} {ns:List Int} (h:intsOf es=some ns):DA X K E es (dInts ns):=⟨qa_imp (qpa_ints h) λσ H Q h=>by
 obtain ⟨H0,ν,ρ,Qd,Xd,S,h1,q,x⟩:=h
 exact q _ _ _ H h1 (Same.refl H) ⟨[],ows_flat (dns_of_ints ns) flats_ints,nodup_nil,λ_ z=>by cases z⟩⟩
def dLR (ta:TDA):TD:=λρ Q Xd=>ta ρ (λds _=>match ds with
 | [.int z]=>∃ n:Nat,z=n/\n<=1000000/\Q (.list ((List.range n).map λ(i:Nat)=>PyData.int (i:Int))) (.own [])
 | _=>False) Xd
theorem dpe_listrange {a:Expr} {ta:TDA} {p p2 pos2:Pos} (hc:X.calm=true) (hg:Gl X "list") (hm:X.mg "list"=none) (hg2:Gl X "range") (hm2:X.mg "range"=none) (ha:DA X K E [a] ta) (hs:starEach [a] X.env=[(false,eval a X.env)]:=by rfl) (hs2:starEach [(.Call (.Name "range" p2) [a] [] pos2)] X.env=[(false,eval (.Call (.Name "range" p2) [a] [] pos2) X.env)]:=by rfl) :
  DE X K E (.Call (.Name "list" p) [.Call (.Name "range" p2) [a] [] pos2] [] pos) (dLR ta):=⟨qe_imp (qpe_listrange hc hg hm hg2 hm2 ha.q hs hs2) λσ H Q h=>by
 obtain ⟨H0,ν,ρ,Qd,Xd,S,h1,q,x⟩:=h
 refine ⟨H0,ν,ρ,_,Xd,S,h1,λds k vs H' q1 e1 r1=>?_,x⟩
 split at q1
 ·obtain ⟨v,rfl,h2⟩:=dns1 r1.dens
  obtain ⟨n,rfl,hn,q1⟩:=q1
  refine ⟨n,by rw[dn_int h2],hn,λl hl=>q _ _ _ _ q1 (e1.trans (Same.new hl)) (res_newL (S.same e1).hl e1 hl ⟨[],?_,nodup_nil,λ_ z=>by cases z⟩)⟩
  have:=dns_of_ints (K:=K) (H:=H') ((List.range n).map λ(i:Nat)=>(i:Int))
  rw[map_map,map_map] at this
  refine ows_flat this ?_
  have:=flats_ints (ns:=(List.range n).map λ(i:Nat)=>(i:Int))
  rw[map_map] at this
  exact this
 ·exact q1.elim⟩
end
def iD (r:List Int):D:=.list (r.map PyData.int)
def gD (g:List (List Int)):D:=.list (g.map iD)
theorem flat_int {i:Int}:flat (.int i)=true:=rfl
theorem flat_bool {i:Bool}:flat (.bool i)=true:=rfl
theorem flat_str {i:Str}:flat (.str i)=true:=rfl
theorem flat_non:flat .none=true:=rfl
theorem flat_list {l:List D}:flat (.list l)=false:=rfl
theorem flat_tuple {l:List D}:flat (.tuple l)=flats l:=rfl
theorem flats_nil:flats []=true:=rfl
theorem flats_cons {d:D} {l:List D}:flats (d::l)=(flat d&&flats l):=rfl
theorem flat_iD {r:List Int}:flat (iD r)=false:=rfl
theorem flat_gD {r:List (List Int)}:flat (gD r)=false:=rfl
def lpD (ds:List D) (bnd:TGD) (tb:TSD):TSD:=λDd ρ Xd=>∃ W:Nat->Ren->Prop,W 0 ρ/\(∀ i d ρ,ds[i]?=some d->W i ρ->bnd d ρ λρ'=>tb { Dd with nx:=W (i+1),ct:=W (i+1),bk:=Dd.nx } ρ' Xd)/\∀ ρ,W ds.length ρ->Dd.nx ρ
theorem lp_list {ds:List D} {bnd:TGD} {tb:TSD} {Dd:EndsD} {ρ:Ren} {Xd:XD} (W:Nat->Ren->Prop) (h0:W 0 ρ) (hs:∀ i d ρ,ds[i]?=some d->W i ρ->bnd d ρ λρ'=>tb { Dd with nx:=W (i+1),ct:=W (i+1),bk:=Dd.nx } ρ' Xd) (hd:∀ ρ,W ds.length ρ->Dd.nx ρ):lpD ds bnd tb Dd ρ Xd:=⟨W,h0,hs,hd⟩
theorem rngD_get {lo:Int} {n i:Nat} {d:D} (h:(rngD lo n)[i]?=some d):i < n/\d=.int (lo+i):=by
 unfold rngD at h
 rw[List.getElem?_map] at h
 cases e:(List.range n)[i]? with
 | none=>rw[e] at h;cases h
 | some j =>
  rw[e] at h;cases h
  obtain ⟨h1,h2⟩:=List.getElem?_eq_some_iff.mp e
  rw[List.getElem_range] at h2
  rw[length_range] at h1
  exact ⟨h1,by rw[h2]⟩
theorem rngD_len {lo:Int} {n:Nat}:(rngD lo n).length=n:=by unfold rngD;rw[length_map,length_range]
theorem lp_rng {lo:Int} {n:Nat} {bnd:TGD} {tb:TSD} {Dd:EndsD} {ρ:Ren} {Xd:XD} (W:Nat->Ren->Prop) (h0:W 0 ρ) (hs:∀ (i:Nat) ρ,i < n->W i ρ->bnd (.int (lo+i)) ρ λρ'=>tb { Dd with nx:=W (i+1),ct:=W (i+1),bk:=Dd.nx } ρ' Xd) (hd:∀ ρ,W n ρ->Dd.nx ρ):lpD (rngD lo n) bnd tb Dd ρ Xd :=
 ⟨W,h0,λi d ρ e w=>by obtain ⟨h1,rfl⟩:=rngD_get e;exact hs i ρ h1 w,λρ w=>hd ρ (by rw[rngD_len] at w;exact w)⟩
theorem go_flat {f:D->Els->(Els->Prop)->Prop} {Q:Els->Prop} (h:D->Els) (m:Nat):∀ {ds:List D} {es:Els},(∀ d∈ds,∀ es (Q':Els->Prop),es.length+(h d).length<=m->Q' (es++h d)->f d es Q')->es.length+(ds.flatMap h).length<=m->Q (es++ds.flatMap h)->go f ds es Q
 | [],es,_,_,q=>by
  show Q es
  simpa using q
 | d::r,es,hs,hm,q=>by
  rw[List.flatMap_cons,length_append] at hm
  refine hs d mem_cons_self es _ (by lia) (go_flat h m (λd hd=>hs d (mem_cons_of_mem _ hd)) ?_ ?_)
  ·rw[length_append];lia
  ·rw[append_assoc];rw[List.flatMap_cons] at q;exact q
theorem flatMap_one {α β:Type} (h:α->β) (l:List α):(l.flatMap λa=>[h a])=l.map h:=by
 induction l with
 | nil=>rfl
 | cons a r ih=>rw[List.flatMap_cons,ih];rfl
theorem go_map {f:D->Els->(Els->Prop)->Prop} {Q:Els->Prop} (h:D->D × Bool) {ds:List D} (hs:∀ d∈ds,∀ es (Q':Els->Prop),es.length < 1000000->Q' (es++[h d])->f d es Q') (hm:ds.length<=1000000) (q:Q (ds.map h)):go f ds [] Q:=by
 refine go_flat (λd=>[h d]) 1000000 (λd hd es Q' hl q=>hs d hd es Q' ?_ q) ?_ ?_
 ·simp only[length_cons,List.length_nil] at hl;lia
 ·rw[flatMap_one,length_map];simpa using hm
 ·rw[flatMap_one];exact q
def onB (d:D) (Q:Bool->Prop):Prop:=match d with|.bool i=>Q i|_=>False
def onI (d:D) (Q:Int->Prop):Prop:=match d with|.int i=>Q i|_=>False
def onL (d:D) (Q:List D->Prop):Prop:=match d with|.list l=>Q l|_=>False
def onT (d:D) (Q:List D->Prop):Prop:=match d with|.tuple l=>Q l|_=>False
section
variable {t u:TSD} {te ta tb:TD} {tA tB:TDT} {tl:TDA} {Dd:EndsD} {ρ:Ren} {Xd:XD} {Q:QD} {QT:Bool->Prop} {QA:List D->Kd->Prop} {i:Nat} {d e:D} {k l:Kd}
theorem w_onB {b:Bool} {Q:Bool->Prop} (h:Q b):onB (.bool b) Q:=h
theorem w_onI {b:Int} {Q:Int->Prop} (h:Q b):onI (.int b) Q:=h
theorem w_onLi {b:List Int} {Q:List D->Prop} (h:Q (b.map PyData.int)):onL (iD b) Q:=h
theorem w_onLg {b:List (List Int)} {Q:List D->Prop} (h:Q (b.map iD)):onL (gD b) Q:=h
theorem w_onT {b:List D} {Q:List D->Prop} (h:Q b):onT (.tuple b) Q:=h
theorem w_seq (h:t { Dd with nx:=λρ'=>u Dd ρ' Xd } ρ Xd):dSeq t u Dd ρ Xd:=h
theorem w_set (h:te ρ (λd k=>Dd.nx (setK ρ i d k)) Xd):dSet i te Dd ρ Xd:=h
theorem w_ret (h:te ρ (λd k=>Dd.rt d (rtK d k)) Xd):dRet te Dd ρ Xd:=h
theorem w_drop (h:te ρ (λ_ _=>Dd.nx ρ) Xd):dDrop te Dd ρ Xd:=h
theorem w_next (h:Dd.nx ρ):dNext Dd ρ Xd:=h
theorem w_ifS (h:tA ρ (λb=>if b=true then t Dd ρ Xd else u Dd ρ Xd) Xd):dIfS tA t u Dd ρ Xd:=h
theorem w_nx {f b c:Ren->Prop} {r:D->Bool->Prop} (h:f ρ):EndsD.nx ⟨f,r,b,c⟩ ρ:=h
theorem w_rt {f b c:Ren->Prop} {r:D->Bool->Prop} {o:Bool} (h:r d o):EndsD.rt ⟨f,r,b,c⟩ d o:=h
theorem w_frz (h:t Dd (frz1 i ρ) Xd):dFrz i t Dd ρ Xd:=h
theorem w_c (h:Q d .old):dC d ρ Q Xd:=h
theorem w_op {f:F2} (h:ta ρ (λd k=>tb ρ (λe l=>f d k e l Q) Xd) Xd):dOp f ta tb ρ Q Xd:=h
theorem w_fI0 {g:Int->Int->D} {x y:Int} (h:Q (g x y) .old):fI T2 g (.int x) k (.int y) l Q:=⟨trivial,h⟩
theorem w_fI {C:Int->Int->Prop} {g:Int->Int->D} {x y:Int} (h:C x y/\Q (g x y) .old):fI C g (.int x) k (.int y) l Q:=h
theorem w_addI {x y:Int} (h:Q (.int (x+y)) .old):fAdd (.int x) k (.int y) l Q:=h
def IxD (ds:List D) (i:Int) (Q:D->Prop):Prop:=∃ x,atI ds i=some x/\Q x
theorem w_ixLi {x:List Int} {y:Int} (h:IxD (x.map PyData.int) y λd=>Q d k.sub):fIx (iD x) k (.int y) l Q:=h
theorem w_ixLg {x:List (List Int)} {y:Int} (h:IxD (x.map iD) y λd=>Q d k.sub):fIx (gD x) k (.int y) l Q:=h
theorem w_ixT {x:List D} {y:Int} (h:IxD x y λd=>Q d k.sub):fIx (.tuple x) k (.int y) l Q:=h
theorem w_eq {f:Bool->Bool} (h:(d.canLay0=true/\e.canLay0=true/\d.depth<=32)/\Q (.bool (f (PyData.eqv d e))) .old):fEq f d k e l Q:=⟨h.1.1,h.1.2.1,h.1.2.2,h.2⟩
theorem w_eqI {f:Bool->Bool} {x y:Int} (h:Q (.bool (f (x==y))) .old):fEq f (.int x) k (.int y) l Q:=⟨rfl,rfl,Nat.zero_le _,h⟩
theorem w_neg (h:ta ρ (λd _=>onI d λi=>Q (.int (-i)) .old) Xd):dNeg ta ρ Q Xd:=h
theorem w_orV (h:ta ρ (λd _=>onB d λi=>if i=true then Q (.bool true) .old else tb ρ Q Xd) Xd):dOrV ta tb ρ Q Xd:=h
theorem w_B (h:ta ρ (λd _=>onB d QT) Xd):dB ta ρ QT Xd:=h
theorem w_and (h:tA ρ (λb=>if b=true then tB ρ QT Xd else QT false) Xd):dAnd tA tB ρ QT Xd:=h
theorem w_not (h:tA ρ (λb=>QT (!b)) Xd):dNot tA ρ QT Xd:=h
theorem w_true (h:QT true):dTrue ρ QT Xd:=h
theorem w_if (h:tA ρ (λb=>if b=true then ta ρ Q Xd else tb ρ Q Xd) Xd):dIf tA ta tb ρ Q Xd:=h
theorem w_nil (h:QA [] (.own [])):dNil ρ QA Xd:=h
theorem w_cons (h:ta ρ (λd k=>tl ρ (λds l=>QA (d::ds) (kcons d k l)) Xd) Xd):dCons ta tl ρ QA Xd:=h
theorem w_ints {ns:List Int} (h:QA (ns.map PyData.int) (.own [])):dInts ns ρ QA Xd:=h
theorem w_tup (h:tl ρ (λds k=>ds.length<=1000/\Q (.tuple ds) k) Xd):dTup tl ρ Q Xd:=h
theorem w_lst (h:tl ρ (λds k=>ds.length<=1000/\Q (.list ds) k) Xd):dLst tl ρ Q Xd:=h
theorem w_call {sp:SpD} (h:tl ρ (λds _=>sp ds (λd o=>Q d (kRet o)) Xd) Xd):dCall sp tl ρ Q Xd:=h
theorem w_call0 {sp:SpD} (h:tl ρ (λds _=>sp ds (λd o=>Q d (kRet o)) Xf) Xd):dCall0 sp tl ρ Q Xd:=h
theorem w_cb {g:FA} (h:tl ρ (λds k=>g ds k Q) Xd):dCB g tl ρ Q Xd:=h
theorem w_lenI {x:List Int} (h:Q (.int x.length) .old):fLen [iD x] k Q:=by show Q (.int (x.map PyData.int).length) .old;rw[length_map];exact h
theorem w_lenG {x:List (List Int)} (h:Q (.int x.length) .old):fLen [gD x] k Q:=by show Q (.int (x.map iD).length) .old;rw[length_map];exact h
theorem w_lenS {x:List D} (h:Q (.int x.length) .old):fLen [.dict [(.none,.list x)]] k Q:=h
theorem intsD_map:∀ (ns:List Int),intsD (ns.map PyData.int)=some ns
 | []=>rfl
 | n::r=>by show (intsD (r.map PyData.int)).map (n::·)=_;rw[intsD_map r];rfl
theorem w_sumI {x:List Int} (h:Q (.int x.sum) .old):fSum [iD x] k Q:=⟨x,intsD_map x,h⟩
theorem w_bls {f:List Bool->Bool} {x:List D} (h:∃ ns,boolsD x=some ns/\Q (.bool (f ns)) .old):fBls f [.list x] k Q:=h
theorem w_abs {x:Int} (h:Q (.int (if x < 0 then -x else x)) .old):fAbs [.int x] k Q:=h
theorem w_listI {x:List Int} (h:Q (iD x) (.own [])):fList [iD x] k Q:=by
 show Q (.list _) (kels _ k)
 unfold kels;rw[if_pos flats_ints];exact h
theorem w_bName {Q:Ren->Prop} (h:Q (ρ.set i (some (false,d)))):bName i d ρ Q:=h
theorem w_bTup {n:Nat} {bs:TGsD} {ds:List D} {Q:Ren->Prop} (h:ds.length=n/\bs ds ρ Q):bTup n bs (.tuple ds) ρ Q:=h
theorem w_bCons {b:TGD} {bs:TGsD} {ds:List D} {Q:Ren->Prop} (h:b d ρ λρ'=>bs ds ρ' Q):bCons b bs (d::ds) ρ Q:=h
theorem w_bNil {Q:Ren->Prop} (h:Q ρ):bNil [] ρ Q:=⟨rfl,h⟩
theorem w_for {ti:TDI} {bnd:TGD} (h:ti ρ (λds b=>b=true/\lpD ds bnd t Dd ρ Xd) Xd):dFor ti bnd t Dd ρ Xd:=h
theorem w_iL {Q:List D->Bool->Prop} (h:te ρ (λd k=>onL d λds=>Q ds k.isOld) Xd):iL te ρ Q Xd:=h
def on1I (ds:List D) (Q:Int->Prop):Prop:=match ds with|[.int j]=>Q j|_=>False
def on2I (ds:List D) (Q:Int->Int->Prop):Prop:=match ds with|[.int i,.int j]=>Q i j|_=>False
def on1L (ds:List D) (Q:List D->Prop):Prop:=match ds with|[.list j]=>Q j|_=>False
def on2L (ds:List D) (Q:List D->List D->Prop):Prop:=match ds with|[.list i,.list j]=>Q i j|_=>False
theorem w_on1I {x:Int} {Q:Int->Prop} (h:Q x):on1I [.int x] Q:=h
theorem w_on2I {x y:Int} {Q:Int->Int->Prop} (h:Q x y):on2I [.int x,.int y] Q:=h
theorem w_on1Li {x:List Int} {Q:List D->Prop} (h:Q (x.map PyData.int)):on1L [iD x] Q:=h
theorem w_on1Lg {x:List (List Int)} {Q:List D->Prop} (h:Q (x.map iD)):on1L [gD x] Q:=h
theorem w_on2L {x y:List D} {Q:List D->List D->Prop} (h:Q x y):on2L [.list x,.list y] Q:=h
theorem w_on2Li {x y:List Int} {Q:List D->List D->Prop} (h:Q (x.map PyData.int) (y.map PyData.int)):on2L [iD x,iD y] Q:=h
theorem w_iR1 {Q:List D->Bool->Prop} (h:tl ρ (λds _=>on1I ds λj=>(-(2 ^ 62)<=j/\j < 2 ^ 62)/\Q (rngD 0 j.toNat) true) Xd):iR1 tl ρ Q Xd:=by
 have e:(λ(ds:List D) (_:Kd)=>on1I ds λj=>(-(2 ^ 62)<=j/\j < 2 ^ 62)/\Q (rngD 0 j.toNat) true)=(λds _=>match ds with|[.int j]=>-(2 ^ 62)<=j/\j < 2 ^ 62/\Q (rngD 0 j.toNat) true|_=>False):=by
  funext ds _
  unfold on1I
  split
  ·exact propext and_assoc
  ·rfl
 rw[e] at h
 exact h
theorem w_iR2 {Q:List D->Bool->Prop} (h:tl ρ (λds _=>on2I ds λi j=>(-(2 ^ 62)<=i/\i < 2 ^ 62/\-(2 ^ 62)<=j/\j < 2 ^ 62)/\Q (rngD i (j - i).toNat) true) Xd):iR2 tl ρ Q Xd:=h
theorem w_iEn {Q:List D->Bool->Prop} (h:tl ρ (λds k=>on1L ds λx=>Q (enumD 0 x) k.isOld) Xd):iEn tl ρ Q Xd:=h
theorem w_iZp {Q:List D->Bool->Prop} (h:tl ρ (λds k=>on2L ds λx y=>Q (zipD x y) k.isOld) Xd):iZp tl ρ Q Xd:=h
theorem w_lr (h:tl ρ (λds _=>on1I ds λz=>∃ n:Nat,z=n/\n<=1000000/\Q (.list ((List.range n).map λ(i:Nat)=>PyData.int (i:Int))) (.own [])) Xd):dLR tl ρ Q Xd:=h
theorem w_unp {is:List Nat} (h:te ρ (λd k=>onT d λds=>ds.length=is.length/\Dd.nx (unpK ρ is ds k)) Xd):dUnp is te Dd ρ Xd:=h
def LcD (f:D->Els->(Els->Prop)->Prop) (ds:List D) (ok:Bool) (Q:QD):Prop:=go f ds [] λes=>Q (.list (es.map (·.1))) (if es.all (·.2)=true then .own [] else if ok=true then .old else .mix)
theorem w_lc {ti:TDI} {T:List Nat} {bnd:TGD} {tif:TDT} {tb:TB} {own:List Str} {cap:List (Str × Nat)} (h:ti ρ (λds b=>LcD (λd es Q'=>bnd d (dropS (capR own cap ρ) T) λρ'=>tif ρ' (λc=>if c=true then tb ρ' es Q' else Q' es) Xf) ds (b&&capOk cap ρ) Q) Xd):dLC ti T bnd tif tb own cap ρ Q Xd:=h
theorem w_emit {es:Els} {Q:Els->Prop} (h:te ρ (λd k=>es.length < 1000000/\(eff d k).isOld=true/\Q (es++[(d,isOwnK (eff d k))])) Xf):dEmit te ρ es Q:=h
theorem w_bFor {ti:TDI} {T:List Nat} {bnd:TGD} {tif:TDT} {tb:TB} {es:Els} {Q:Els->Prop} (h:ti ρ (λds b=>b=true/\go (λd es Q'=>bnd d (dropS ρ T) λρ'=>tif ρ' (λc=>if c=true then tb ρ' es Q' else Q' es) Xf) ds es Q) Xf):bFor ti T bnd tif tb ρ es Q:=h
theorem w_ift {A B:Prop} (h:A):if (true:Bool)=true then A else B:=h
theorem w_iff {A B:Prop} (h:B):if (false:Bool)=true then A else B:=by rw[if_neg Bool.false_ne_true];exact h
theorem setK_int {x:Int}:setK ρ i (.int x) k=ρ.set i (some (false,.int x)):=rfl
theorem setK_bool {x:Bool}:setK ρ i (.bool x) k=ρ.set i (some (false,.bool x)):=rfl
theorem setK_str {x:Str}:setK ρ i (.str x) k=ρ.set i (some (false,.str x)):=rfl
theorem setK_non:setK ρ i .none k=ρ.set i (some (false,.none)):=rfl
theorem setK_own {x:List D} {s:List Nat}:setK ρ i (.list x) (.own s)=(dropS ρ s).set i (some (true,.list x)):=rfl
theorem setK_old {x:List D}:setK ρ i (.list x) .old=ρ.set i (some (false,.list x)):=rfl
theorem setK_mix {x:List D}:setK ρ i (.list x) .mix=(frz ρ).set i (some (false,.list x)):=rfl
theorem setK_ownI {x:List Int} {s:List Nat}:setK ρ i (iD x) (.own s)=(dropS ρ s).set i (some (true,iD x)):=rfl
theorem setK_oldI {x:List Int}:setK ρ i (iD x) .old=ρ.set i (some (false,iD x)):=rfl
theorem setK_mixI {x:List Int}:setK ρ i (iD x) .mix=(frz ρ).set i (some (false,iD x)):=rfl
theorem setK_ownG {x:List (List Int)} {s:List Nat}:setK ρ i (gD x) (.own s)=(dropS ρ s).set i (some (true,gD x)):=rfl
theorem setK_oldG {x:List (List Int)}:setK ρ i (gD x) .old=ρ.set i (some (false,gD x)):=rfl
theorem setK_mixG {x:List (List Int)}:setK ρ i (gD x) .mix=(frz ρ).set i (some (false,gD x)):=rfl
theorem setK_tup {x:List D} (h:flats x=true):setK ρ i (.tuple x) k=ρ.set i (some (false,.tuple x)):=by unfold setK;rw[flat_tuple,if_pos h]
theorem rtK_int {x:Int}:rtK (.int x) k=true:=rfl
theorem rtK_bool {x:Bool}:rtK (.bool x) k=true:=rfl
theorem rtK_str {x:Str}:rtK (.str x) k=true:=rfl
theorem rtK_non:rtK .none k=true:=rfl
theorem rtK_own {s:List Nat}:rtK d (.own s)=true:=by unfold rtK;rw[Bool.or_true]
theorem rtK_tup {x:List D} (h:flats x=true):rtK (.tuple x) k=true:=by unfold rtK;rw[flat_tuple,h];rfl
theorem kcons_flat (h:flat d=true):kcons d k (.own [])=.own []:=by unfold kcons;rw[if_pos h];rfl
theorem kcons_own {s:List Nat} (h:flat d=false):kcons d (.own s) (.own [])=.own (s++[]):=by
 unfold kcons;rw[h,if_neg Bool.false_ne_true]
 show (if disj s []=true then Kd.own (s++[]) else .mix)=_
 rw[if_pos (by unfold disj;simp)]
theorem kcons_old (h:flat d=false):kcons d .old (.own [])=.old:=by unfold kcons;rw[h];rfl
theorem frz_nil:frz []=[]:=rfl
theorem frz_some {b:Bool} {r:Ren}:frz (some (b,d)::r)=some (false,d)::frz r:=rfl
theorem frz_none {r:Ren}:frz (none::r)=none::frz r:=rfl
theorem dropS_nil:dropS ρ []=ρ:=rfl
theorem dropS_cons {s:List Nat}:dropS ρ (i::s)=dropS (ρ.set i none) s:=rfl
theorem kRet_t:kRet true=.own []:=rfl
theorem kRet_f:kRet false=.mix:=rfl
theorem sub_own:Kd.sub (.own [])=.own []:=rfl
theorem sub_old:Kd.sub .old=.old:=rfl
theorem sub_ownc {s:List Nat}:Kd.sub (.own (i::s))=.mix:=rfl
theorem sub_mix:Kd.sub .mix=.mix:=rfl
theorem isOld_own:Kd.isOld (.own [])=true:=rfl
theorem isOld_old:Kd.isOld .old=true:=rfl
theorem isOld_mix:Kd.isOld .mix=false:=rfl
theorem isOld_ownc {s:List Nat}:Kd.isOld (.own (i::s))=false:=rfl
theorem eff_int {x:Int}:eff (.int x) k=.own []:=rfl
theorem eff_bool {x:Bool}:eff (.bool x) k=.own []:=rfl
theorem eff_str {x:Str}:eff (.str x) k=.own []:=rfl
theorem eff_tup {x:List D} (h:flats x=true):eff (.tuple x) k=.own []:=by unfold eff;rw[flat_tuple,h];rfl
theorem eff_ltc {x:List D}:eff (.list x) k=k:=rfl
theorem eff_iD {x:List Int}:eff (iD x) k=k:=rfl
theorem eff_gD {x:List (List Int)}:eff (gD x) k=k:=rfl
theorem isOwnK_own:isOwnK (.own [])=true:=rfl
theorem isOwnK_old:isOwnK .old=false:=rfl
theorem w_v0 {r:Ren} (q:Q d .old):dVar 0 (some (false,d)::r) Q Xd:=⟨false,d,rfl,q⟩
theorem w_v1 {x0:Option (Bool × D)} {r:Ren} (q:Q d .old):dVar 1 (x0::some (false,d)::r) Q Xd:=⟨false,d,rfl,q⟩
theorem w_o1 {x0:Option (Bool × D)} {r:Ren} (q:Q d (.own [1])):dVar 1 (x0::some (true,d)::r) Q Xd:=⟨true,d,rfl,q⟩
theorem w_v2 {x0 x1:Option (Bool × D)} {r:Ren} (q:Q d .old):dVar 2 (x0::x1::some (false,d)::r) Q Xd:=⟨false,d,rfl,q⟩
theorem w_o2 {x0 x1:Option (Bool × D)} {r:Ren} (q:Q d (.own [2])):dVar 2 (x0::x1::some (true,d)::r) Q Xd:=⟨true,d,rfl,q⟩
theorem w_v3 {x0 x1 x2:Option (Bool × D)} {r:Ren} (q:Q d .old):dVar 3 (x0::x1::x2::some (false,d)::r) Q Xd:=⟨false,d,rfl,q⟩
theorem w_o3 {x0 x1 x2:Option (Bool × D)} {r:Ren} (q:Q d (.own [3])):dVar 3 (x0::x1::x2::some (true,d)::r) Q Xd:=⟨true,d,rfl,q⟩
theorem w_v4 {x0 x1 x2 x3:Option (Bool × D)} {r:Ren} (q:Q d .old):dVar 4 (x0::x1::x2::x3::some (false,d)::r) Q Xd:=⟨false,d,rfl,q⟩
theorem w_o4 {x0 x1 x2 x3:Option (Bool × D)} {r:Ren} (q:Q d (.own [4])):dVar 4 (x0::x1::x2::x3::some (true,d)::r) Q Xd:=⟨true,d,rfl,q⟩
theorem w_v5 {x0 x1 x2 x3 x4:Option (Bool × D)} {r:Ren} (q:Q d .old):dVar 5 (x0::x1::x2::x3::x4::some (false,d)::r) Q Xd:=⟨false,d,rfl,q⟩
theorem w_o5 {x0 x1 x2 x3 x4:Option (Bool × D)} {r:Ren} (q:Q d (.own [5])):dVar 5 (x0::x1::x2::x3::x4::some (true,d)::r) Q Xd:=⟨true,d,rfl,q⟩
theorem w_v6 {x0 x1 x2 x3 x4 x5:Option (Bool × D)} {r:Ren} (q:Q d .old):dVar 6 (x0::x1::x2::x3::x4::x5::some (false,d)::r) Q Xd:=⟨false,d,rfl,q⟩
theorem w_o6 {x0 x1 x2 x3 x4 x5:Option (Bool × D)} {r:Ren} (q:Q d (.own [6])):dVar 6 (x0::x1::x2::x3::x4::x5::some (true,d)::r) Q Xd:=⟨true,d,rfl,q⟩
theorem w_v7 {x0 x1 x2 x3 x4 x5 x6:Option (Bool × D)} {r:Ren} (q:Q d .old):dVar 7 (x0::x1::x2::x3::x4::x5::x6::some (false,d)::r) Q Xd:=⟨false,d,rfl,q⟩
theorem w_v8 {x0 x1 x2 x3 x4 x5 x6 x7:Option (Bool × D)} {r:Ren} (q:Q d .old):dVar 8 (x0::x1::x2::x3::x4::x5::x6::x7::some (false,d)::r) Q Xd:=⟨false,d,rfl,q⟩
theorem w_v9 {x0 x1 x2 x3 x4 x5 x6 x7 x8:Option (Bool × D)} {r:Ren} (q:Q d .old):dVar 9 (x0::x1::x2::x3::x4::x5::x6::x7::x8::some (false,d)::r) Q Xd:=⟨false,d,rfl,q⟩
theorem w_o9 {x0 x1 x2 x3 x4 x5 x6 x7 x8:Option (Bool × D)} {r:Ren} (q:Q d (.own [9])):dVar 9 (x0::x1::x2::x3::x4::x5::x6::x7::x8::some (true,d)::r) Q Xd:=⟨true,d,rfl,q⟩
theorem w_v10 {x0 x1 x2 x3 x4 x5 x6 x7 x8 x9:Option (Bool × D)} {r:Ren} (q:Q d .old):dVar 10 (x0::x1::x2::x3::x4::x5::x6::x7::x8::x9::some (false,d)::r) Q Xd:=⟨false,d,rfl,q⟩
theorem w_v11 {x0 x1 x2 x3 x4 x5 x6 x7 x8 x9 x10:Option (Bool × D)} {r:Ren} (q:Q d .old):dVar 11 (x0::x1::x2::x3::x4::x5::x6::x7::x8::x9::x10::some (false,d)::r) Q Xd:=⟨false,d,rfl,q⟩
theorem w_o11 {x0 x1 x2 x3 x4 x5 x6 x7 x8 x9 x10:Option (Bool × D)} {r:Ren} (q:Q d (.own [11])):dVar 11 (x0::x1::x2::x3::x4::x5::x6::x7::x8::x9::x10::some (true,d)::r) Q Xd:=⟨true,d,rfl,q⟩
theorem w_o12 {x0 x1 x2 x3 x4 x5 x6 x7 x8 x9 x10 x11:Option (Bool × D)} {r:Ren} (q:Q d (.own [12])):dVar 12 (x0::x1::x2::x3::x4::x5::x6::x7::x8::x9::x10::x11::some (true,d)::r) Q Xd:=⟨true,d,rfl,q⟩
end
abbrev TSDX:=EndsD->Ren->(Ren->Addr->Prop)->Prop
section
def xIf (tc:TDT) (a b:TSDX):TSDX:=λDd ρ Xr=>tc ρ (λc=>if c=true then a Dd ρ Xr else b Dd ρ Xr) Xf
def opq (a:Addr):D:=.dict [(.bool true,.int (a:Nat))]
end
theorem lc_map {f:D->Els->(Els->Prop)->Prop} {ds:List D} {ok:Bool} {Q:QD} (h:D->D) (hs:∀ d∈ds,∀ es (Q':Els->Prop),es.length < 1000000->Q' (es++[(h d,true)])->f d es Q') (hm:ds.length<=1000000) (q:Q (.list (ds.map h)) (.own [])):LcD f ds ok Q:=by
 refine go_map (λd=>(h d,true)) hs hm ?_
 have e1:((ds.map λd=>(h d,true)).map (·.1))=ds.map h:=by rw[map_map];rfl
 have e2:((ds.map λd=>(h d,true)).all (·.2))=true:=by rw[List.all_map];exact all_eq_true.mpr λ_ _=>rfl
 rw[e1,if_pos e2];exact q
section
theorem list_iD {x:List Int}:PyData.list (x.map PyData.int)=iD x:=rfl
theorem list_gD {x:List (List Int)}:PyData.list (x.map iD)=gD x:=rfl
theorem zip_ints:∀ (x y:List Int),zipD (x.map PyData.int) (y.map PyData.int)=(x.zip y).map λp=>PyData.tuple [.int p.1,.int p.2]
 | [],_=>rfl
 | _::_,[]=>rfl
 | a::x,b::y=>by
  show PyData.tuple [.int a,.int b]::zipD _ _=_
  rw[zip_ints x y];rfl
end
section
variable {te t1:TD} {Dd:EndsD} {ρ:Ren} {Xd:XD} {i:Nat} {d e:D} {k:Kd}
def AppK (ds:List D) (i:Nat) (ρ:Ren) (Dd:EndsD) (d:D):Kd->Prop
 | .own s=>i∉s/\Dd.nx ((dropS ρ s).set i (some (true,.list (ds++[d]))))
 | _=>False
theorem w_app {ds:List D} (e:ρ[i]?=some (some (true,.list ds))) (hl:ds.length < 1000000) (h:te ρ (λd k=>AppK ds i ρ Dd d (eff d k)) Xd):dApp i te Dd ρ Xd:=by
 refine ⟨ds,e,hl,?_⟩
 have:(λd k=>AppK ds i ρ Dd d (eff d k))=(λd k=>match eff d k with
  | .own s=>i∉s/\Dd.nx ((dropS ρ s).set i (some (true,.list (ds++[d]))))
  | _=>False):=by
  funext d k
  cases eff d k<;>rfl
 rw[this] at h
 exact h
theorem w_appK {ds:List D} {s:List Nat} (h:i∉s/\Dd.nx ((dropS ρ s).set i (some (true,.list (ds++[d]))))):AppK ds i ρ Dd d (.own s):=h
def PutK (i:Nat) (ρ:Ren) (Dd:EndsD) (x:D):Kd->Prop
 | .own s=>i∉s/\Dd.nx ((dropS ρ s).set i (some (true,x)))
 | _=>False
theorem w_putK {x:D} {s:List Nat} (h:i∉s/\Dd.nx ((dropS ρ s).set i (some (true,x)))):PutK i ρ Dd x (.own s):=h
theorem w_put1 (h:te ρ (λd k=>∃ ds,ρ[i]?=some (some (true,.list ds))/\t1 ρ (λy _=>onI y λz=>∃ j,ixN ds.length z=some j/\PutK i ρ Dd (.list (ds.set j d)) (eff d k)) Xd) Xd):dPut1 i t1 te Dd ρ Xd:=by
 have e:(λ(d:D) (k:Kd)=>∃ ds,ρ[i]?=some (some (true,.list ds))/\t1 ρ (λy _=>onI y λz=>∃ j,ixN ds.length z=some j/\PutK i ρ Dd (.list (ds.set j d)) (eff d k)) Xd)=λd k=>∃ ds,ρ[i]?=some (some (true,.list ds))/\t1 ρ (λy _=>∃ z j,y=.int z/\ixN ds.length z=some j/\match eff d k with
  | .own s=>i∉s/\Dd.nx ((dropS ρ s).set i (some (true,.list (ds.set j d))))
  | _=>False) Xd:=by
  funext d k
  congr 1
  funext ds
  congr 2
  funext y _
  refine propext ⟨λh=>?_,λh=>?_⟩
  ·cases y with
   | int z =>
    obtain ⟨j,h1,h2⟩:=h
    refine ⟨z,j,rfl,h1,?_⟩
    cases he:eff d k<;>rw[he] at h2<;>exact h2
   | _=>exact h.elim
  ·obtain ⟨z,j,rfl,h1,h2⟩:=h
   refine ⟨j,h1,?_⟩
   cases he:eff d k<;>rw[he] at h2<;>exact h2
 rw[e] at h
 exact h
theorem unpK_own {is:List Nat} {ds:List D}:unpK ρ is ds (.own [])=setAll true ρ is ds:=by
 unfold unpK eff
 split<;>first|rfl|(split at*<;> simp_all)
theorem unpK_flat {is:List Nat} {ds:List D} (h:flats ds=true):unpK ρ is ds k=setAll true ρ is ds:=by
 unfold unpK
 have:eff (.tuple ds) k=.own []:=eff_tup h
 rw[this]
theorem setAll_cons {b:Bool} {is:List Nat} {ds:List D}:setAll b ρ (i::is) (d::ds)=setAll b (ρ.set i (some (b&&!flat d,d))) is ds:=rfl
theorem setAll_nil {b:Bool} {ds:List D}:setAll b ρ [] ds=ρ:=rfl
theorem app_iD {r:List Int} {x:Int}:PyData.list (r.map .int++[.int x])=iD (r++[x]):=by unfold iD;rw[map_append];rfl
theorem app_gD {g:List (List Int)} {r:List Int}:PyData.list (g.map iD++[iD r])=gD (g++[r]):=by unfold gD;rw[map_append];rfl
end
variable {α:Type}
theorem go_fltA {f:D->Els->(Els->Prop)->Prop} {Q:Els->Prop} (F G:α->D) (p:α->Bool):∀ (L:List α) (es:Els),(∀ a∈L,∀ es (Q':Els->Prop),es.length < 1000000->Q' (if p a=true then es++[(G a,true)] else es)->f (F a) es Q')->es.length+L.length<=1000000->Q (es++(L.filter p).map λa=>(G a,true))->go f (L.map F) es Q
 | [],es,_,_,q=>by
  show Q es
  simpa using q
 | a::r,es,hs,hm,q=>by
  rw[length_cons] at hm
  refine hs a mem_cons_self es _ (by lia) ?_
  refine go_fltA F G p r _ (λb hb=>hs b (mem_cons_of_mem _ hb)) ?_ ?_
  ·split
   ·rw[length_append,length_singleton];lia
   ·lia
  ·rw[List.filter_cons] at q
   by_cases hp:p a=true
   ·rw[if_pos hp] at q ⊢
    rw[append_assoc];exact q
   ·rw[if_neg hp] at q ⊢;exact q
theorem lc_fltA {f:D->Els->(Els->Prop)->Prop} {ok:Bool} {Q:QD} {L:List α} (F G:α->D) (p:α->Bool) (hs:∀ a∈L,∀ es (Q':Els->Prop),es.length < 1000000->Q' (if p a=true then es++[(G a,true)] else es)->f (F a) es Q') (hm:L.length<=1000000) (q:Q (.list ((L.filter p).map G)) (.own [])):LcD f (L.map F) ok Q:=by
 refine go_fltA F G p L [] hs (by simpa using hm) ?_
 have e1:((((L.filter p).map λa=>(G a,true)):Els).map (·.1))=(L.filter p).map G:=by rw[map_map];rfl
 have e2:((((L.filter p).map λa=>(G a,true)):Els).all (·.2))=true:=by rw[List.all_map];exact all_eq_true.mpr λ_ _=>rfl
 rw[nil_append,e1,if_pos e2];exact q
theorem lc_mapA {f:D->Els->(Els->Prop)->Prop} {ok:Bool} {Q:QD} {L:List α} (F G:α->D) (hs:∀ a∈L,∀ es (Q':Els->Prop),es.length < 1000000->Q' (es++[(G a,true)])->f (F a) es Q') (hm:L.length<=1000000) (q:Q (.list (L.map G)) (.own [])):LcD f (L.map F) ok Q :=
 lc_fltA F G (λ_=>true) hs hm (by rw[List.filter_eq_self.mpr λ_ _=>rfl];exact q)
def dJn (t:TSD):TSD:=t
theorem dps_jn {X:Cx} {K:W.Frag} {E:XK} {s:Stmt} {t:TSD} (h:DS X K E s t):DS X K E s (dJn t):=h
theorem w_jn {t:TSD} {Dd:EndsD} {ρ:Ren} {Xd:XD} (I:Ren->Prop) (h1:∀ N:Ren->Prop,(∀ ρ',I ρ'->N ρ')->t { Dd with nx:=N } ρ Xd) (h2:∀ ρ',I ρ'->Dd.nx ρ'):dJn t Dd ρ Xd:=h1 Dd.nx h2
theorem bools_map (f:α->Bool):∀ (L:List α),boolsD (L.map λa=>PyData.bool (f a))=some (L.map f)
 | []=>rfl
 | a::L=>by
  have:=bools_map f L
  simp[boolsD,this]
theorem w_put2 {i:Nat} {t1 t2 te:TD} {Dd:EndsD} {ρ:Ren} {Xd:XD} (h:te ρ (λd k=>∃ ds,ρ[i]?=some (some (true,.list ds))/\t1 ρ (λy1 _=>∃ z1 j1 es,y1=.int z1/\ixN ds.length z1=some j1/\ds[j1]?=some (.list es)/\t2 ρ (λy2 _=>∃ z2 j2,y2=.int z2/\ixN es.length z2=some j2/\PutK i ρ Dd (.list (ds.set j1 (.list (es.set j2 d)))) (eff d k)) Xd) Xd) Xd):dPut2 i t1 t2 te Dd ρ Xd:=h
theorem lay_gD (g:List (List Int)):(gD g).canLay0=true:=lay_dG g
theorem depth_gD (g:List (List Int)):(gD g).depth<=32:=depth_dG g
theorem frz1_0 {b:Bool} {d:D} {r:Ren}:frz1 0 (some (b,d)::r)=some (false,d)::r:=rfl
theorem frz1_s {i:Nat} {x:Option (Bool × D)} {r:Ren}:frz1 (i+1) (x::r)=x::frz1 i r:=by
 unfold frz1
 rw[List.getElem?_cons_succ]
 cases h:r[i]? with
 | none=>rfl
 | some y=>cases y with
  | none=>rfl
  | some p=>rfl
section
variable {k:Expr}
theorem lay_iD (r:List Int):(iD r).canLay0=true:=lay_ints r
theorem depth_iD (r:List Int):(iD r).depth<=32:=by
 show PyData.depthAll _+1<=32
 have:PyData.depthAll (r.map PyData.int)=0:=depth_ints r
 lia
theorem eqv_iD (r:List Int):PyData.eqv (iD r) (iD r)=true:=SeqAt.eqv_refl _ (lay_iD r)
theorem kcons_int {x:Int} {k:Kd}:kcons (.int x) k (.own [])=.own []:=kcons_flat rfl
theorem kcons_boo {x:Bool} {k:Kd}:kcons (.bool x) k (.own [])=.own []:=kcons_flat rfl
theorem kcons_st {x:Str} {k:Kd}:kcons (.str x) k (.own [])=.own []:=kcons_flat rfl
theorem kcons_nn {k:Kd}:kcons .none k (.own [])=.own []:=kcons_flat rfl
theorem one_iD {x:Int}:PyData.list [PyData.int x]=iD [x]:=rfl
theorem two_iD {x y:Int}:PyData.list [PyData.int x,PyData.int y]=iD [x,y]:=rfl
end
end DL
namespace L2
open PySem PySem.Spec PyProof.Rows
end L2
namespace DL
open PySem PySem.Spec PyProof.Rows L2
end DL
namespace L2
open PySem PySem.Spec PyProof.Rows
end L2
namespace DL
open PySem PySem.Spec PyProof.Rows L2
section
variable {κ:Type} [DecidableEq κ]
def look (es:List (κ × D)) (k:κ):Option D:=(es.find? λp=>decide (p.1=k)).map (·.2)
end
abbrev KeyR:=Sum Key (List Key)
abbrev TKy:=Ren->(KeyR->Prop)->XD->Prop
end DL
namespace L2
open PySem PySem.Spec PyProof.Rows
end L2
namespace DL
open PySem PySem.Spec PyProof.Rows L2
end DL
namespace L2
open PySem PySem.Spec PyProof.Rows PySem.W
open PySem.Calls
def sameK:V->V->Bool
 | .int _,.int _=>true
 | .str _,.str _=>true
 | _,_=>false
def sameKs:List V->List V->Bool
 | [],[]=>true
 | a::r,b::t=>sameK a b&&sameKs r t
 | _,_=>false
theorem sameK.symm {a b:V} (h:sameK a b=true):sameK b a=true:=by cases a<;>cases b<;>first|rfl|cases h
theorem sameK.trans {a b c:V} (h:sameK a b=true) (g:sameK b c=true):sameK a c=true:=by cases a<;>cases b<;>first|(cases h;done)|(cases c<;>first|rfl|(cases g;done))
theorem sameKs.symm:∀ {a b:List V},sameKs a b=true->sameKs b a=true
 | [],[],_=>rfl
 | _::_,_::_,h=>by
  rw[sameKs,Bool.and_eq_true] at h ⊢
  exact ⟨sameK.symm h.1,sameKs.symm h.2⟩
 | [],_::_,h=>by cases h
 | _::_,[],h=>by cases h
theorem sameKs.trans:∀ {a b c:List V},sameKs a b=true->sameKs b c=true->sameKs a c=true
 | [],[],[],_,_=>rfl
 | _::_,_::_,_::_,h,g=>by
  rw[sameKs,Bool.and_eq_true] at h g ⊢
  exact ⟨sameK.trans h.1 g.1,sameKs.trans h.2 g.2⟩
 | [],_::_,_,h,_=>by cases h
 | _::_,[],_,h,_=>by cases h
 | _,[],_::_,_,g=>by cases g
 | _,_::_,[],_,g=>by cases g
end L2
namespace DL
open PySem PySem.Spec PyProof.Rows L2
variable {α:Type}
end DL
namespace L2
open PySem PySem.Spec PyProof.Rows
end L2
namespace DL
open PySem PySem.Spec PyProof.Rows L2
end DL
namespace L2
open PySem PySem.Spec PyProof.Rows PySem.W PySem.Calls
end L2
namespace DL
open PySem PySem.Spec PyProof.Rows L2
end DL
namespace L2
open PySem PySem.Spec PyProof.Rows PySem.W PySem.Calls
end L2
namespace DL
open PySem PySem.Spec PyProof.Rows L2
end DL
namespace L2
open PySem PySem.Spec PyProof.Rows
end L2
namespace DL
open PySem PySem.Spec PyProof.Rows L2
section
variable {ρ:Ren} {d:D} {q:Nat}
def lk (q:Nat) (d:D) (ρ:Ren):Ren:=(frz ρ).set q (some (false,d))
end
end DL
namespace L2
open PySem PySem.Spec PyProof.Rows
open HT
end L2
namespace DL
open PySem PySem.Spec PyProof.Rows L2
end DL
namespace L2
open PySem PySem.Spec PyProof.Rows
end L2
namespace DL
open PySem PySem.Spec PyProof.Rows L2
end DL
namespace L2
open PySem PySem.Spec PyProof.Rows HT
end L2
namespace DL
open PySem PySem.Spec PyProof.Rows L2
end DL
namespace L2
open PySem PySem.Spec PyProof.Rows
theorem rel_one {v v':V} {u:Value} (h:RelV v u) (h':RelV v' u):v=v':=by
 cases v<;>cases v'<;>simp only[RelV] at h h'<;>first
  | (subst h;cases h';rfl)
  | (subst h;cases h';done)
  | (obtain ⟨t,rfl⟩:=h;obtain ⟨t',e⟩:=h';cases e;rfl)
  | (obtain ⟨t,rfl⟩:=h;obtain ⟨t',e⟩:=h';cases e;done)
  | (obtain ⟨t,rfl⟩:=h;cases h';done)
  | (subst h;obtain ⟨t,e⟩:=h';cases e;done)
  | rfl
section
variable {X:Cx} {pins:List (Addr × Obj)} {σ:St} {H:Hp} {s:Shared}
theorem no_both (I:Inv X pins σ H s) {a:Addr} {us ws:List V} (h:SqL X.K H a us) (h':SqT X.K H a ws):False:=by
 obtain ⟨its,_,pl,_⟩:=I.list h
 obtain ⟨its',_,t,_⟩:=I.tuple h'
 obtain ⟨o,e1,c1,_⟩:=pl.isList
 obtain ⟨o',e2,c2,_⟩:=t
 rw[e1] at e2
 cases e2
 rw[c1] at c2
 exact absurd (Value.type.inj c2) (by decide)
mutual
theorem Den.one (I:Inv X pins σ H s):∀ {v d d'},Den X.K H v d->Den X.K H v d'->d=d'
 | _,_,_,.non,q=>by cases q;rfl
 | _,_,_,.bl _,q=>by cases q;rfl
 | _,_,_,.int _,q=>by cases q;rfl
 | _,_,_,.str _,q=>by cases q;rfl
 | _,_,_,.lst h r,q=>by
  cases q with
  | lst h' r' =>
   have e:=I.list_inj h h'
   subst e
   rw[Dens.one I r r']
  | tup h' _=>exact (no_both I h h').elim
 | _,_,_,.tup h r,q=>by
  cases q with
  | lst h' _=>exact (no_both I h' h).elim
  | tup h' r' =>
   have e:=I.tuple_inj h h'
   subst e
   rw[Dens.one I r r']
theorem Dens.one (I:Inv X pins σ H s):∀ {v d d'},Dens X.K H v d->Dens X.K H v d'->d=d'
 | _,_,_,.nil,q=>by cases q;rfl
 | _,_,_,.cons h r,q=>by
  cases q with
  | cons h' r'=>rw[Den.one I h h',Dens.one I r r']
end
open Classical in
noncomputable def eIn (K:W.Frag) (H:Hp) (dx:PyData) (y:Value):Bool:=decide (∃ v d,RelV v y/\Den K H v d/\PyData.eqv d dx=true)
open Classical in
theorem eIn_eq (I:Inv X pins σ H s) {dx d:PyData} {v:V} {y:Value} (r:RelV v y) (h:Den X.K H v d):eIn X.K H dx y=PyData.eqv d dx:=by
 unfold eIn
 cases e:PyData.eqv d dx with
 | true=>exact decide_eq_true ⟨v,d,r,h,e⟩
 | false =>
  refine decide_eq_false λ⟨v',d',r',h',e'⟩=>?_
  have:=rel_one r r'
  subst this
  rw[<-Den.one I h h',e] at e'
  cases e'
theorem mem_eIn (I:Inv X pins σ H s) {dx:PyData} {x:Value} {xs:List Addr} {A:Around} (hx:Reads s.heap x dx xs) (cx:dx.canLay0=true) (hd:dx.depth<=32) (hu:A.units+32 < cLine):∀ {vs:List V} {ds:List PyData} {its:List Value},Vals vs its->Dens X.K H vs ds->PyData.canLayAll0 ds=true->∀ y∈its,SeqAt.EqAt A s y x (eIn X.K H dx y)
 | _,_,_,.nil,.nil,_,y,hy=>by cases hy
 | _,_,_,.cons r t,.cons h u,c,y,hy=>by
  simp only[PyData.canLayAll0,Bool.and_eq_true] at c
  rcases mem_cons.mp hy with rfl|hy
  ·rw[eIn_eq I r h]
   obtain ⟨as,ra⟩:=h.reads I r
   exact SeqAt.eqAt_reads _ _ A s _ _ _ _ ra hx c.1 cx (by lia)
  ·exact mem_eIn I hx cx hd hu t u c.2 y hy
end
end L2
namespace DL
open PySem PySem.Spec PyProof.Rows L2
section
variable {X:Cx} {K:W.Frag} {E:XK} {pos:Pos} {x y:Str}
def dPar (i j:Nat) (ta:TDA):TSD:=λDd ρ Xd=>ta ρ (λds k=>k=.own []/\ds.length=2/\Dd.nx (setAll true ρ [i,j] ds)) Xd
theorem dps_par (i j:Nat) {a b:Expr} {ta:TDA} {px py pt:Pos} {kt k2 pt2} (hc:X.calm=true) (hN:X.N.Nodup) (hi:X.N[i]?=some x) (hj:X.N[j]?=some y) (hij:i≠j)
  (hx:X.env.scope.names.lookup x=some .local) (hy:X.env.scope.names.lookup y=some .local) (ha:DA X K E [a,b] ta)
  (hw:swappedStores [.Tuple [.Name x px,.Name y py] kt pt] (.Tuple [a,b] k2 pt2) X.env=pure (some [x,y]))
  (hs:swapsWithSole [.Tuple [.Name x px,.Name y py] kt pt] (.Tuple [a,b] k2 pt2) pos.line X.env=pure false:=by rfl) :
  DS X K E (.Assign [.Tuple [.Name x px,.Name y py] kt pt] (.Tuple [a,b] k2 pt2) pos) (dPar i j ta):=⟨qs_imp (qps_par hc hN hi hj hij hx hy ha.q hw hs) λEn σ H h=>by
 obtain ⟨H0,ν,ρ,Dd,Xd,S,h1,ok,x⟩:=h
 refine ⟨H0,ν,ρ,_,Xd,S,h1,λds k us H1 g1 e1 r1=>?_,x⟩
 obtain ⟨rfl,hl,q⟩:=g1
 obtain ⟨ms,m1,m2,m3⟩:=r1
 have sm:Same H (hid (·∈ms) H1):=λb o hb=>hid_of (e1 _ _ hb) λz=>by
  rcases m3 b z with y|⟨_,y,_⟩
  ·rw[hb] at y;cases y
  ·cases y
 obtain ⟨ν',S'⟩:=all_own [i,j] (S.same sm) m1 m2
 have hl':us.length=2:=by rw[m1.den.length];exact hl
 match us,hl' with
 | [v,w],_=>exact ⟨v,w,rfl,ok.nx _ _ _ _ q S'⟩⟩
theorem w_par {i j:Nat} {ta:TDA} {Dd:EndsD} {ρ:Ren} {Xd:XD} (h:ta ρ (λds k=>k=.own []/\ds.length=2/\Dd.nx (setAll true ρ [i,j] ds)) Xd):dPar i j ta Dd ρ Xd:=h
end
end DL
namespace L2
open PySem PySem.Spec PyProof.Rows PySem.W PySem.Calls
end L2
namespace DL
open PySem PySem.Spec PyProof.Rows L2
end DL
namespace L2
open PySem PySem.Spec PyProof.Rows PySem.W
section
variable {κ:Nat->Int} {p:Array Nat}
def kk (κ:Nat->Int) (p:Array Nat) (i:Nat):Int:=κ (p.getD i 0)
def Dn (κ:Nat->Int) (p:Array Nat) (n:Nat):Prop:=∀ i j,i<=j->j < n->kk κ p j<=kk κ p i
end
open PySem.Calls
end L2
namespace DL
open PySem PySem.Spec PyProof.Rows L2
end DL
namespace L2
open PySem PySem.Spec PyProof.Rows PySem.W PySem.Calls
end L2
namespace DL
open PySem PySem.Spec PyProof.Rows L2
end DL
namespace L2
open PySem PySem.Spec PyProof.Rows
section
variable {X:Cx}
def rCntD (K:W.Frag):V->List V->Hp->VK->Prop:=λl xs H Q=>∃ a x dx vs ds,l=.ref a/\xs=[x]/\Den K H x dx/\SqL K H a vs/\Dens K H vs ds/\dx.canLay0=true/\dx.depth<=32/\PyData.canLayAll0 ds=true/\Q (.int (ds.countP λd=>PyData.eqv d dx:Nat)) H
theorem eIn_count {pins:List (Addr × Obj)} {σ:St} {H:Hp} {s:Shared} (I:Inv X pins σ H s) {dx:PyData} {vs:List V} {ds:List PyData} {its:List Value} (r:Vals vs its) (h:Dens X.K H vs ds):its.countP (eIn X.K H dx)=ds.countP λd=>PyData.eqv d dx:=by
 induction r generalizing ds with
 | nil=>cases h;rfl
 | cons r _ ih =>
  cases h with
  | cons h u=>rw[List.countP_cons,List.countP_cons,eIn_eq I r h,ih u]
theorem mt_countD (hu:X.A.units+64 < cLine):MtR X "list.count" (rCntD X.K):=by
 intro pins s σ H l xs v us Q I rl rv h
 obtain ⟨a,x,dx,vs,ds,rfl,rfl,h1,h2,h3,h4,h5,h6,q⟩:=h
 obtain ⟨u,rfl,ru⟩:=vals1 rv
 cases rl
 obtain ⟨its,r,pl,hz⟩:=I.list h2
 obtain ⟨as,hx⟩:=h1.reads I ru
 have hf:=eIn_count I (dx:=dx) r h3
 obtain ⟨o,n,e1,e2,e3,e4⟩:=id pl
 refine call_meets PySem.F.slot_list_count ⟨_,e1,by rw[e2]⟩ PySem.F.entry_list_count (PySem.F.args_list_count_2 _ _) (SeqAt.list_countAt a its.toArray n o.dict o.slots u (eIn X.K H dx)) ⟨?_,λy hy=>?_,?_⟩
 ·rw[e1]
  obtain ⟨c,d,dt,sl⟩:=o
  simp only at e2 e4
  subst e2 e4
  rfl
 ·exact mem_eIn I hx h4 h5 (by show X.A.units+1+32 < _;lia) r h3 h6 y (by simpa using hy)
 ·refine ⟨.int (ds.countP λd=>PyData.eqv d dx:Nat),H,I.tok _,?_,q⟩
  rw[<-hf]
  exact ⟨_,rfl⟩
end
end L2
namespace DL
open PySem PySem.Spec PyProof.Rows L2
section
variable {X:Cx} {K:W.Frag} {E:XK} {e o:Expr} {te to:TD} {apos cpos:Pos}
def dCnt (to te:TD):TD:=λρ Q Xd=>to ρ (λd _=>onL d λds=>te ρ (λx _=>(x.canLay0=true/\x.depth<=32/\PyData.canLayAll0 ds=true)/\Q (.int (ds.countP λy=>PyData.eqv y x:Nat)) .old) Xd) Xd
theorem dpe_count (hK:X.K=K) (hu:X.A.units+64 < cLine) (ho:DE X K E o to) (he:DE X K E e te)
  (hb:attributeBase o "count" X.env (eval o X.env)=eval o X.env:=by rfl) (hfew:((backTo cpos (starEach [e] X.env)).all (λx=>!x.1)&&(backToKw cpos (keywordEach [] X.env)).all (λx=>x.1.isSome)&&decide (([e]:List Expr).length+([]:List Keyword).length+(if ([]:List Keyword).isEmpty then 0 else 1) < 30))=true:=by rfl) (hline:(apos.endLine==cpos.line)=true:=by rfl) (hs:starEach [e] X.env=(false,eval e X.env)::starEach [] X.env:=by rfl) (hplain:(backTo cpos (starEach [] X.env)).any (·.1)=false:=by rfl) :
  DE X K E (.Call (.Attribute o "count" apos) [e] [] cpos) (dCnt to te):=by
 subst hK
 refine ⟨qe_imp (⟨pe_bm PySem.F.plainAttrs_list PySem.F.slot_list_count PySem.F.type_list_count (mt_countD hu) ho.q.h (qpa_cons he.q qpa_nil hs).h hb hfew hline hs hplain⟩:QE X _ _) λσ H Q h=>?_⟩
 obtain ⟨H0,ν,ρ,Qd,Xd,S,h1,q,x⟩:=h
 refine ⟨H0,ν,ρ,_,Xd,S,h1,λd k u H1 g1 e1 r1=>?_,x⟩
 cases d<;>first|exact g1.elim|skip
 rename_i ds
 obtain ⟨a,us,rfl,l1,l2⟩:=dns_of_lst r1.den
 refine ⟨tyl (SqL.of l1),H0,ν,ρ,_,Xd,S.same e1,g1,λd2 k2 v H2 g2 e2 r2=>?_,x⟩
 obtain ⟨⟨c1,c2,c3⟩,g2⟩:=g2
 exact ⟨a,v,d2,us,ds,rfl,rfl,r2.den.deep c1,SqL.of (e2 _ _ l1),(Dns.same e2 l2).deep c3,c1,c2,c3,q _ _ _ _ g2 (e1.trans e2) (.int _)⟩
theorem w_cnt {ρ:Ren} {Q:QD} {Xd:XD} (h:to ρ (λd _=>onL d λds=>te ρ (λx _=>(x.canLay0=true/\x.depth<=32/\PyData.canLayAll0 ds=true)/\Q (.int (ds.countP λy=>PyData.eqv y x:Nat)) .old) Xd) Xd):dCnt to te ρ Q Xd:=h
end
end DL
namespace L2
open PySem PySem.Spec PyProof.Rows
section
theorem boot_reversed:bootBuiltins "reversed"=some (.type "reversed"):=by decide +kernel
end
end L2
namespace DL
open PySem PySem.Spec PyProof.Rows L2
end DL
namespace L2
open PySem PySem.Spec PyProof.Rows
structure Plain (X:Cx):Prop where
 p:∃ env l,X.stack=env::l/\env.scope.isGenerator=false/\env.scope.isCoroutine=false/\env.builtins=builtinsNs/\env.globals=mainGlobals
theorem op_fdivP {X:Cx} (hX:Plain X) (hT:X.prog.given.tree=none) (hd:X.A.depth+Builtin.pylongFrames < recursionLimit):OpR X (binaryOp .FloorDiv) (rI (λ_ j=>j≠0) λi j=>.int (i.fdiv j)):=by
 intro pins s σ H x y v u Q I rx ry h
 obtain ⟨i,j,rfl,rfl,hc,q⟩:=h
 obtain ⟨t,rfl⟩:=rx
 obtain ⟨t',rfl⟩:=ry
 obtain ⟨env,l,e1,e2,e3,e4,e5⟩:=hX.p
 refine floordiv_int hc ⟨.int (i.fdiv j),H,I.tok _,⟨_,rfl⟩,q⟩ (.inr (PylongRoom.of I.nolimit hd (SeerAt.of (I.ok.mod.seer.keeps I.bk) hT (by rw[I.ok.frames,e1]) e2 e3 e4 e5)))
theorem Room.pyl {k:Nat} {A:Around} (r:Room (k+40) A):A.depth+Builtin.pylongFrames < recursionLimit:=by
 have:=r.dp
 show A.depth+100 < recursionLimit
 lia
end L2
namespace DL
open PySem PySem.Spec PyProof.Rows L2
section
variable {X:Cx} {K:W.Frag}
theorem dop_fdivP (hX:Plain X) (hT:X.prog.given.tree=none) (hd:X.A.depth+Builtin.pylongFrames < recursionLimit):DOp X K (binaryOp .FloorDiv) (fI (λ_ j=>j≠0) λi j=>.int (i.fdiv j)):=⟨_,op_fdivP hX hT hd,prim_int⟩
end
section
variable {X:Cx} {K:W.Frag} {E:XK} {x:Str}
def dAft (i:Nat) (t:TSD):TSD:=λDd ρ Xd=>t { Dd with nx:=λρ'=>Dd.nx (frz1 i ρ') } ρ Xd
theorem dps_aft (i:Nat) {s:Stmt} {t:TSD} (h:DS X K E s t):DS X K E s (dAft i t):=⟨qs_imp h.q λEn σ H h=>by
 obtain ⟨H0,ν,ρ,Dd,Xd,S,h1,ok,x⟩:=h
 exact ⟨H0,ν,ρ,_,Xd,S,h1,⟨λν ρ σ H q S=>ok.nx _ _ _ _ q (S.frz1 i),ok.bk,ok.ct,ok.rt⟩,x⟩⟩
theorem w_aft {i:Nat} {t:TSD} {Dd:EndsD} {ρ:Ren} {Xd:XD} (h:t { Dd with nx:=λρ'=>Dd.nx (frz1 i ρ') } ρ Xd):dAft i t Dd ρ Xd:=h
end
end DL
namespace MDet
def alt:Nat->Int
 | 0=>1
 | n+1=>- alt n
def skip (f i:Nat):Nat:=if i < f then i else i+1
def S:Nat->(Nat->Int)->Int
 | 0,_=>0
 | n+1,f=>S n f+f n
theorem S_congr:∀ {n:Nat} {f g:Nat->Int},(∀ i,i < n->f i=g i)->S n f=S n g
 | 0,_,_,_=>rfl
 | n+1,f,g,h=>by
  show S n f+f n=S n g+g n
  rw[S_congr λi hi=>h i (Nat.lt_succ_of_lt hi),h n (Nat.lt_succ_self n)]
theorem S_lin (x:Int):∀ (n:Nat) (f g:Nat->Int),S n (λi=>x*f i+g i)=x*S n f+S n g
 | 0,_,_=>by simp[S]
 | n+1,f,g=>by
  show S n _+(x*f n+g n)=x*(S n f+f n)+(S n g+g n)
  rw[S_lin x n f g,Int.mul_add];lia
theorem S_zero:∀ {n:Nat} {f:Nat->Int},(∀ i,i < n->f i=0)->S n f=0
 | 0,_,_=>rfl
 | n+1,f,h=>by
  show S n f+f n=0
  rw[S_zero λi hi=>h i (Nat.lt_succ_of_lt hi),h n (Nat.lt_succ_self n)];rfl
theorem S_one:∀ {n:Nat} {f:Nat->Int} (k:Nat),k < n->(∀ i,i < n->i≠k->f i=0)->S n f=f k
 | n+1,f,k,hk,h=>by
  show S n f+f n=f k
  by_cases e:k=n
  ·subst e
   rw[S_zero λi hi=>h i (Nat.lt_succ_of_lt hi) (Nat.ne_of_lt hi)];lia
  ·rw[S_one k (by lia) λi hi hn=>h i (Nat.lt_succ_of_lt hi) hn,h n (Nat.lt_succ_self n) (λz=>e z.symm)];lia
theorem S_two:∀ {n:Nat} {f:Nat->Int} (k l:Nat),k < l->l < n->(∀ i,i < n->i≠k->i≠l->f i=0)->S n f=f k+f l
 | n+1,f,k,l,hkl,hl,h=>by
  show S n f+f n=f k+f l
  by_cases e:l=n
  ·subst e
   rw[S_one k hkl λi hi hn=>h i (Nat.lt_succ_of_lt hi) hn (Nat.ne_of_lt hi)]
  ·rw[S_two k l hkl (by lia) λi hi h1 h2=>h i (Nat.lt_succ_of_lt hi) h1 h2,h n (Nat.lt_succ_self n) (by lia) (λz=>e z.symm)];lia
abbrev Mat:=Nat->Nat->Int
def sub (a:Mat) (i:Nat):Mat:=λr c=>a (skip i r) (c+1)
def det:Nat->Mat->Int
 | 0,_=>1
 | n+1,a=>S (n+1) λi=>alt i*a i 0*det n (sub a i)
theorem det_succ (n:Nat) (a:Mat):det (n+1) a=S (n+1) λi=>alt i*a i 0*det n (sub a i):=rfl
theorem skip_lt {n i r:Nat} (hr:r < n):skip i r < n+1:=by unfold skip;split<;>lia
theorem det_congr:∀ {n:Nat} {a b:Mat},(∀ i j,i < n->j < n->a i j=b i j)->det n a=det n b
 | 0,_,_,_=>rfl
 | n+1,a,b,h=>by
  rw[det_succ,det_succ]
  refine S_congr λi hi=>?_
  rw[h i 0 hi (Nat.succ_pos n)]
  have:det n (sub a i)=det n (sub b i):=det_congr λr c hr hc=>h _ _ (skip_lt hr) (Nat.succ_lt_succ hc)
  rw[this]
def rs (a:Mat) (k:Nat) (u:Nat->Int):Mat:=λi c=>if i=k then u c else a i c
theorem rs_same (a:Mat) (k:Nat):rs a k (a k)=a:=by
 funext i c
 unfold rs
 split
 ·rename_i h;rw[h]
 ·rfl
def un (i k:Nat):Nat:=if k < i then k else k - 1
theorem sub_rs_same (a:Mat) (k:Nat) (u:Nat->Int):sub (rs a k u) k=sub a k:=by
 funext r c
 show rs a k u (skip k r) (c+1)=a (skip k r) (c+1)
 have:skip k r≠k:=by unfold skip;split<;>lia
 unfold rs;rw[if_neg this]
theorem sub_rs {a:Mat} {i k:Nat} (h:i≠k) (u:Nat->Int):sub (rs a k u) i=rs (sub a i) (un i k) λc=>u (c+1):=by
 funext r c
 show (if skip i r=k then u (c+1) else a (skip i r) (c+1))=if r=un i k then u (c+1) else a (skip i r) (c+1)
 have:skip i r=k ↔ r=un i k:=by
  unfold skip un
  constructor
  ·intro e;split at e<;>split<;>lia
  ·intro e;split at e<;>split<;>lia
 simp only[this]
theorem un_lt {n i k:Nat} (h:i≠k) (hi:i < n+1) (hk:k < n+1):un i k < n:=by unfold un;split<;>lia
theorem det_lin (x:Int):∀ {n:Nat} (a:Mat) {k:Nat} (u v:Nat->Int),k < n->det n (rs a k λc=>x*u c+v c)=x*det n (rs a k u)+det n (rs a k v)
 | n+1,a,k,u,v,hk=>by
  rw[det_succ,det_succ,det_succ,<-S_lin]
  refine S_congr λi hi=>?_
  by_cases e:i=k
  ·subst e
   rw[sub_rs_same,sub_rs_same,sub_rs_same]
   show alt i*(if i=i then x*u 0+v 0 else _)*_=x*(alt i*(if i=i then u 0 else _)*_)+alt i*(if i=i then v 0 else _)*_
   rw[if_pos rfl,if_pos rfl,if_pos rfl]
   rw[Int.mul_add,Int.add_mul]
   congr 1
   rw[<-Int.mul_assoc (alt i) x,Int.mul_comm (alt i) x,Int.mul_assoc x,Int.mul_assoc x]
  ·rw[sub_rs e,sub_rs e,sub_rs e,det_lin x (sub a i) _ _ (un_lt e hi hk)]
   have z:∀ w,rs a k w i 0=a i 0:=λw=>by unfold rs;rw[if_neg e]
   rw[z,z,z,Int.mul_add]
   congr 1
   rw[<-Int.mul_assoc,Int.mul_comm _ x,Int.mul_assoc]
theorem det_adj:∀ {n:Nat} {a:Mat} {k:Nat},k+1 < n->(∀ c,a k c=a (k+1) c)->det n a=0
 | n+1,a,k,hk,h=>by
  rw[det_succ,S_two k (k+1) (by lia) hk]
  ·have:sub a (k+1)=sub a k:=by
    funext r c
    show a (skip (k+1) r) (c+1)=a (skip k r) (c+1)
    unfold skip
    by_cases h1:r < k
    ·rw[if_pos h1,if_pos (by lia)]
    ·by_cases h2:r=k
     ·subst h2;rw[if_pos (by lia),if_neg (by lia)];exact h _
     ·rw[if_neg h1,if_neg (by lia)]
   rw[this,<-h 0]
   show alt k*a k 0*_+(- alt k)*a k 0*_=0
   rw[Int.neg_mul,Int.neg_mul];lia
  ·intro i hi h1 h2
   have:det n (sub a i)=0:=by
    by_cases e:i < k
    ·refine det_adj (k:=k - 1) (by lia) λc=>?_
     show a (skip i (k - 1)) _=a (skip i (k - 1+1)) _
     unfold skip
     rw[if_neg (by lia),if_neg (by lia),show k - 1+1=k by lia]
     exact h _
    ·refine det_adj (k:=k) (by lia) λc=>?_
     show a (skip i k) _=a (skip i (k+1)) _
     unfold skip
     rw[if_pos (by lia),if_pos (by lia)]
     exact h _
   rw[this,Int.mul_zero]
def sw (k l i:Nat):Nat:=if i=k then l else if i=l then k else i
theorem swap_of {n:Nat} {k l:Nat} (hk:k < n) (hl:l < n) (hkl:k≠l) (zero:∀ b:Mat,(∀ c,b k c=b l c)->det n b=0) (a:Mat):det n (λi=>a (sw k l i))=- det n a:=by
 have two:∀ (u v:Nat->Int),rs (rs a k u) l v=λi c=>if i=l then v c else if i=k then u c else a i c:=λu v=>rfl
 have s1:∀ (u u' v:Nat->Int),det n (rs (rs a k λc=>1*u c+u' c) l v)=det n (rs (rs a k u) l v)+det n (rs (rs a k u') l v):=λu u' v=>by
  have comm:∀ w,rs (rs a k w) l v=rs (rs a l v) k w:=λw=>by
   funext i c
   unfold rs
   by_cases e:i=l
   ·subst e;rw[if_pos rfl,if_neg (λz=>hkl z.symm),if_pos rfl]
   ·rw[if_neg e]
    by_cases e2:i=k
    ·rw[if_pos e2,if_pos e2]
    ·rw[if_neg e2,if_neg e2,if_neg e]
  rw[comm,comm,comm,det_lin 1 _ _ _ hk,Int.one_mul]
 have s2:∀ (u v v':Nat->Int),det n (rs (rs a k u) l λc=>1*v c+v' c)=det n (rs (rs a k u) l v)+det n (rs (rs a k u) l v'):=λu v v'=>by
  rw[det_lin 1 _ _ _ hl,Int.one_mul]
 have z:∀ u,det n (rs (rs a k u) l u)=0:=λu=>zero _ λc=>by
  unfold rs
  rw[if_neg hkl,if_pos rfl,if_pos rfl]
 have all:=z (λc=>1*a k c+a l c)
 rw[s1,s2,s2,z,z] at all
 have e1:rs (rs a k (a k)) l (a l)=a:=by rw[rs_same,rs_same]
 have e2:rs (rs a k (a l)) l (a k)=λi=>a (sw k l i):=by
  funext i c
  unfold rs sw
  by_cases e:i=l
  ·subst e;rw[if_pos rfl,if_neg (λz=>hkl z.symm),if_pos rfl]
  ·rw[if_neg e]
   by_cases e2:i=k
   ·rw[if_pos e2,if_pos e2]
   ·rw[if_neg e2,if_neg e2,if_neg e]
 rw[e1,e2] at all
 lia
theorem swap_adj {n k:Nat} (hk:k+1 < n) (a:Mat):det n (λi=>a (sw k (k+1) i))=- det n a:=swap_of (by lia) hk (by lia) (λb h=>det_adj hk h) a
theorem det_same {n:Nat}:∀ (m:Nat) {a:Mat} {k:Nat},k+1+m < n->(∀ c,a k c=a (k+1+m) c)->det n a=0
 | 0,a,k,hk,h=>det_adj hk h
 | m+1,a,k,hk,h=>by
  have e:=swap_adj (n:=n) (k:=k+1+m) hk a
  have z:det n (λi=>a (sw (k+1+m) (k+1+m+1) i))=0:=det_same m (k:=k) (by lia) λc=>by
   show a (sw _ _ k) c=a (sw _ _ (k+1+m)) c
   unfold sw
   rw[if_neg (by lia),if_neg (by lia),if_pos rfl]
   exact h c
  lia
theorem det_eq0 {n k l:Nat} {a:Mat} (hk:k < n) (hl:l < n) (hkl:k≠l) (h:∀ c,a k c=a l c):det n a=0:=by
 by_cases e:k < l
 ·exact det_same (l - k - 1) (k:=k) (by lia) λc=>by rw[show k+1+(l - k - 1)=l by lia];exact h c
 ·exact det_same (k - l - 1) (k:=l) (by lia) λc=>by rw[show l+1+(k - l - 1)=k by lia];exact (h c).symm
def mv (f i:Nat):Nat:=if i=0 then f else skip f (i - 1)
def mvt (f t i:Nat):Nat:=if i < f - t then i else if i=f - t then f else if i<=f then i - 1 else i
theorem mvt_step {f t:Nat} (h:t < f) (i:Nat):mvt f (t+1) i=mvt f t (sw (f - t - 1) (f - t) i):=by
 unfold mvt sw
 by_cases h1:i=f - t - 1
 ·rw[if_pos h1,if_neg (by lia),if_pos (by lia),if_neg (by lia),if_pos rfl]
 ·rw[if_neg h1]
  by_cases h2:i=f - t
  ·rw[if_pos h2,if_neg (by lia),if_neg (by lia),if_pos (by lia),if_pos (by lia)];lia
  ·rw[if_neg h2]
   by_cases h3:i < f - t
   ·rw[if_pos (by lia),if_pos h3]
   ·rw[if_neg (by lia),if_neg (by lia),if_neg h3,if_neg h2]
theorem det_col {n:Nat} {a:Mat} (h:∀ i,1<=i->i < n+1->a i 0=0):det (n+1) a=a 0 0*det n (λr c=>a (r+1) (c+1)):=by
 rw[det_succ,S_one 0 (by lia)]
 ·show 1*a 0 0*det n (sub a 0)=_
  rw[Int.one_mul]
  congr 1
 ·intro i hi hn
  rw[h i (by lia) hi,Int.mul_zero,Int.zero_mul]
theorem S_succ (n:Nat) (f:Nat->Int):S (n+1) f=S n f+f n:=rfl
theorem S_head:∀ (n:Nat) (f:Nat->Int),S (n+1) f=f 0+S n (λi=>f (i+1))
 | 0,f=>by rw[S_succ];show 0+f 0=f 0+0;lia
 | n+1,f=>by rw[S_succ,S_head n f,S_succ n (λi=>f (i+1))];lia
theorem S_add (n:Nat) (f g:Nat->Int):S n (λi=>f i+g i)=S n f+S n g:=by
 have:=S_lin 1 n f g
 simpa using this
theorem S_mul (x:Int) (n:Nat) (f:Nat->Int):S n (λi=>x*f i)=x*S n f:=by
 have:=S_lin x n f (λ_=>0)
 rw[S_zero (f:=λ_=>0) λ_ _=>rfl] at this
 simpa using this
theorem S_swap (m:Nat) (f:Nat->Nat->Int):∀ n,S n (λi=>S m (λj=>f i j))=S m (λj=>S n (λi=>f i j))
 | 0=>(S_zero λ_ _=>rfl).symm
 | n+1=>by
  rw[S_succ,S_swap m f n,<-S_add];rfl
def subc (a:Mat) (j:Nat):Mat:=λr c=>a (r+1) (skip j c)
theorem skip_ss (i r:Nat):skip (i+1) (r+1)=skip i r+1:=by unfold skip;split<;>split<;>lia
theorem sub_subc (a:Mat) (i j:Nat):subc (sub a (i+1)) j=sub (subc a (j+1)) i:=by
 funext r c
 show a (skip (i+1) (r+1)) (skip j c+1)=a (skip i r+1) (skip (j+1) (c+1))
 rw[skip_ss,skip_ss]
theorem det_row:∀ (n:Nat) (a:Mat),det (n+1) a=S (n+1) λj=>alt j*a 0 j*det n (subc a j)
 | 0,a=>by rw[det_succ,S_succ,S_succ];rfl
 | n+1,a=>by
  rw[det_succ,S_head,S_head (n+1) λj=>alt j*a 0 j*det (n+1) (subc a j)]
  have e0:sub a 0=subc a 0:=rfl
  rw[e0]
  congr 1
  have l:S (n+1) (λi=>alt (i+1)*a (i+1) 0*det (n+1) (sub a (i+1)))=S (n+1) (λi=>S (n+1) λj=>- (alt i*alt j*a (i+1) 0*a 0 (j+1)*det n (sub (subc a (j+1)) i))):=by
   refine S_congr λi hi=>?_
   rw[det_row n (sub a (i+1)),<-S_mul]
   refine S_congr λj hj=>?_
   rw[sub_subc]
   show (- alt i)*a (i+1) 0*(alt j*a 0 (j+1)*det n (sub (subc a (j+1)) i))=_
   generalize det n (sub (subc a (j+1)) i)=z
   grind
  have r:S (n+1) (λj=>alt (j+1)*a 0 (j+1)*det (n+1) (subc a (j+1)))=S (n+1) (λj=>S (n+1) λi=>- (alt i*alt j*a (i+1) 0*a 0 (j+1)*det n (sub (subc a (j+1)) i))):=by
   refine S_congr λj hj=>?_
   rw[det_succ n (subc a (j+1)),<-S_mul]
   refine S_congr λi hi=>?_
   show (- alt j)*a 0 (j+1)*(alt i*a (i+1) 0*det n (sub (subc a (j+1)) i))=_
   generalize det n (sub (subc a (j+1)) i)=z
   grind
  rw[l,r,S_swap]
theorem S_bd (B:Nat):∀ (n:Nat) (f:Nat->Int),(∀ i,i < n->(f i).natAbs<=B)->(S n f).natAbs<=n*B
 | 0,f,_=>by show (0:Int).natAbs<=_;simp
 | n+1,f,h=>by
  rw[S_succ,Nat.succ_mul]
  have h1:=S_bd B n f λi hi=>h i (by lia)
  have h2:=h n (by lia)
  lia
theorem alt_abs:∀ i,(alt i).natAbs=1
 | 0=>rfl
 | i+1=>by show (- alt i).natAbs=1;rw[Int.natAbs_neg];exact alt_abs i
theorem skip_un {j c:Nat} (h:c≠j):skip j (un j c)=c:=by unfold skip un;split<;>(try split)<;>lia
theorem un_skip (j c:Nat):un j (skip j c)=c:=by unfold skip un;split<;>(try split)<;>lia
theorem skip_ne (j c:Nat):skip j c≠j:=by unfold skip;split<;>lia
theorem det_tr:∀ (n:Nat) (a:Mat),det n (λi j=>a j i)=det n a
 | 0,_=>rfl
 | n+1,a=>by
  rw[det_row n a,det_succ]
  refine S_congr λi hi=>?_
  have e:sub (λi j=>a j i) i=λr c=>(subc a i) c r:=rfl
  rw[e,det_tr n (subc a i)]
structure Alt (n:Nat) (F:Mat->Int):Prop where
 cong:∀ a b:Mat,(∀ i j,i < n->j < n->a i j=b i j)->F a=F b
 lin:∀ (x:Int) (a:Mat) (k:Nat) (u v:Nat->Int),k < n->F (rs a k λc=>x*u c+v c)=x*F (rs a k u)+F (rs a k v)
 eq0:∀ (a:Mat) (k l:Nat),k < n->l < n->k≠l->(∀ c,a k c=a l c)->F a=0
theorem Alt.swap {n:Nat} {F:Mat->Int} (A:Alt n F) {k l:Nat} (hk:k < n) (hl:l < n) (hkl:k≠l) (a:Mat):F (λi=>a (sw k l i))=- F a:=by
 have s1:∀ (u u' v:Nat->Int),F (rs (rs a k λc=>1*u c+u' c) l v)=F (rs (rs a k u) l v)+F (rs (rs a k u') l v):=λu u' v=>by
  have comm:∀ w,rs (rs a k w) l v=rs (rs a l v) k w:=λw=>by
   funext i c
   unfold rs
   by_cases e:i=l
   ·subst e;rw[if_pos rfl,if_neg (λz=>hkl z.symm),if_pos rfl]
   ·rw[if_neg e]
    by_cases e2:i=k
    ·rw[if_pos e2,if_pos e2]
    ·rw[if_neg e2,if_neg e2,if_neg e]
  rw[comm,comm,comm,A.lin 1 _ _ _ _ hk,Int.one_mul]
 have s2:∀ (u v v':Nat->Int),F (rs (rs a k u) l λc=>1*v c+v' c)=F (rs (rs a k u) l v)+F (rs (rs a k u) l v'):=λu v v'=>by
  rw[A.lin 1 _ _ _ _ hl,Int.one_mul]
 have z:∀ u,F (rs (rs a k u) l u)=0:=λu=>A.eq0 _ k l hk hl hkl λc=>by
  unfold rs
  rw[if_neg hkl,if_pos rfl,if_pos rfl]
 have all:=z (λc=>1*a k c+a l c)
 rw[s1,s2,s2,z,z] at all
 have e1:rs (rs a k (a k)) l (a l)=a:=by rw[rs_same,rs_same]
 have e2:rs (rs a k (a l)) l (a k)=λi=>a (sw k l i):=by
  funext i c
  unfold rs sw
  by_cases e:i=l
  ·subst e;rw[if_pos rfl,if_neg (λz=>hkl z.symm),if_pos rfl]
  ·rw[if_neg e]
   by_cases e2:i=k
   ·rw[if_pos e2,if_pos e2]
   ·rw[if_neg e2,if_neg e2,if_neg e]
 rw[e1,e2] at all
 lia
theorem Alt.mvt {n:Nat} {F:Mat->Int} (A:Alt n F) {f:Nat} (hf:f < n) (a:Mat):∀ t,t<=f->F (λi=>a (MDet.mvt f t i))=alt t*F a
 | 0,_=>by
  have:(λi=>a (MDet.mvt f 0 i))=a:=by
   funext i
   congr 1
   unfold MDet.mvt
   split
   ·rfl
   ·split
    ·lia
    ·split<;>lia
  rw[this];show _=1*_;rw[Int.one_mul]
 | t+1,ht=>by
  have e:(λi=>a (MDet.mvt f (t+1) i))=λi=>(λj=>a (MDet.mvt f t j)) (sw (f - t - 1) (f - t) i):=by
   funext i;rw[mvt_step (by lia)]
  have s:=A.swap (k:=f - t - 1) (l:=f - t) (by lia) (by lia) (by lia) (λj=>a (MDet.mvt f t j))
  rw[A.mvt hf a t (by lia)] at s
  rw[e]
  refine s.trans ?_
  show _=- alt t*_
  rw[Int.neg_mul]
theorem Alt.mv {n:Nat} {F:Mat->Int} (A:Alt n F) {f:Nat} (hf:f < n) (a:Mat):F (λi=>a (MDet.mv f i))=alt f*F a:=by
 rw[<-A.mvt hf a f (Nat.le_refl f)]
 congr 1
 funext i
 congr 1
 unfold MDet.mv MDet.mvt skip
 rw[Nat.sub_self]
 by_cases h:i=0
 ·simp[h]
 ·by_cases h2:i<=f
  ·have h3:i - 1 < f:=by lia
   simp[h,h2,h3]
  ·have h3:¬ i - 1 < f:=by lia
   simp[h,h2,h3];lia
def eu (j:Nat):Nat->Int:=λc=>if c=j then 1 else 0
def idm:Mat:=λi j=>if i=j then 1 else 0
theorem Alt.row0 {n:Nat} {F:Mat->Int} (A:Alt (n+1) F) (a:Mat):∀ m,F (rs a 0 λc=>if c < m then a 0 c else 0)=S m λj=>a 0 j*F (rs a 0 (eu j))
 | 0=>by
  have e:=A.lin 1 a 0 (λ_=>0) (λ_=>0) (by lia)
  have e2:(λc:Nat=>(1:Int)*(λ_=>0) c+(λ_=>0) c)=λ_=>0:=by funext c;rfl
  have e3:(λc:Nat=>if c < 0 then a 0 c else 0)=λ_=>0:=by funext c;rw[if_neg (by lia)]
  rw[e2] at e
  rw[e3]
  show _=(0:Int)
  lia
 | m+1=>by
  rw[S_succ,<-A.row0 a m]
  have e:(λc:Nat=>if c < m+1 then a 0 c else 0)=λc=>a 0 m*eu m c+(λc=>if c < m then a 0 c else 0) c:=by
   funext c
   unfold eu
   by_cases h:c=m
   ·subst h;simp
   ·by_cases h2:c < m
    ·have:c < m+1:=by lia
     simp[h,h2,this]
    ·have:¬ c < m+1:=by lia
     simp[h,h2,this]
  rw[e,A.lin (a 0 m) a 0 (eu m) _ (by lia),Int.add_comm]
def insw (j:Nat) (w:Nat->Int):Nat->Int:=λc=>if c=j then 0 else w (un j c)
def ins (j:Nat) (b:Mat):Mat:=λi c=>if i=0 then eu j c else insw j (b (i - 1)) c
theorem Alt.clear {n:Nat} {F:Mat->Int} (A:Alt (n+1) F) (a:Mat) (j:Nat):∀ t,t<=n->F (λi c=>if i=0 then eu j c else if i<=t/\c=j then 0 else a i c)=F (rs a 0 (eu j))
 | 0,_=>by
  congr 1
  funext i c
  unfold rs
  by_cases h:i=0
  ·rw[if_pos h,if_pos h]
  ·rw[if_neg h,if_neg h,if_neg (by lia)]
 | t+1,ht=>by
  rw[<-A.clear a j t (by lia)]
  generalize hM:(λ(i c:Nat)=>if i=0 then eu j c else if i<=t/\c=j then 0 else a i c)=M
  have e:(λ(i c:Nat)=>if i=0 then eu j c else if i<=t+1/\c=j then 0 else a i c)=rs M (t+1) λc=>(- a (t+1) j)*eu j c+M (t+1) c:=by
   funext i c
   subst hM
   unfold rs eu
   dsimp only
   by_cases h:i=t+1
   ·subst h
    by_cases h2:c=j
    ·subst h2;simp;lia
    ·simp[h2]
   ·rw[if_neg h]
    by_cases h2:i=0
    ·rw[if_pos h2,if_pos h2]
    ·rw[if_neg h2,if_neg h2]
     by_cases h3:i<=t/\c=j
     ·rw[if_pos h3,if_pos ⟨by lia,h3.2⟩]
     ·rw[if_neg h3,if_neg (λz=>h3 ⟨by lia,z.2⟩)]
  rw[e,A.lin _ M (t+1) _ _ (by lia),rs_same]
  have z:F (rs M (t+1) (eu j))=0:=A.eq0 _ 0 (t+1) (by lia) (by lia) (by lia) λc=>by
   subst hM
   unfold rs
   dsimp only
   rw[if_neg (by lia),if_pos rfl,if_pos rfl]
  rw[z];lia
theorem ins_rs (j:Nat) (b:Mat) (k:Nat) (w:Nat->Int):ins j (rs b k w)=rs (ins j b) (k+1) (insw j w):=by
 funext i c
 unfold ins rs
 dsimp only
 by_cases h:i=0
 ·rw[if_pos h,if_neg (by lia),if_pos h]
 ·rw[if_neg h]
  by_cases h2:i=k+1
  ·have h3:i - 1=k:=by lia
   rw[if_pos h2];unfold insw;simp only[h3,if_true]
  ·have h3:¬ i - 1=k:=by lia
   rw[if_neg h2,if_neg h];unfold insw;simp only[h3,if_false]
theorem Alt.sub {n:Nat} {F:Mat->Int} (A:Alt (n+1) F) (j:Nat) (hj:j < n+1):Alt n λb=>F (ins j b):=by
 refine ⟨λa b h=>A.cong _ _ λi c hi hc=>?_,λx a k u v hk=>?_,λa k l hk hl hkl h=>A.eq0 _ (k+1) (l+1) (by lia) (by lia) (by lia) λc=>?_⟩
 ·unfold ins insw
  by_cases h0:i=0
  ·rw[if_pos h0,if_pos h0]
  ·rw[if_neg h0,if_neg h0]
   by_cases h1:c=j
   ·rw[if_pos h1,if_pos h1]
   ·rw[if_neg h1,if_neg h1];exact h _ _ (by lia) (un_lt (λz=>h1 z.symm) hj hc)
 ·show F (ins j (rs a k _))=x*F (ins j (rs a k u))+F (ins j (rs a k v))
  rw[ins_rs,ins_rs,ins_rs,<-A.lin x _ _ _ _ (by lia)]
  congr 2
  funext c
  unfold insw
  split<;>simp
 ·show ins j a (k+1) c=ins j a (l+1) c
  have e1:∀ k,ins j a (k+1) c=insw j (a k) c:=λk=>rfl
  rw[e1,e1]
  unfold insw
  split
  ·rfl
  ·exact h _
theorem Alt.uniq:∀ {n:Nat} {F:Mat->Int},Alt n F->∀ a,F a=det n a*F idm
 | 0,F,A,a=>by
  rw[A.cong a idm λi j hi _=>by lia];show _=1*_;rw[Int.one_mul]
 | n+1,F,A,a=>by
  have h1:F a=S (n+1) λj=>a 0 j*F (rs a 0 (eu j)):=by
   rw[<-A.row0 a (n+1)]
   refine A.cong _ _ λi c hi hc=>?_
   unfold rs
   dsimp only
   by_cases h:i=0
   ·subst h;rw[if_pos rfl,if_pos hc]
   ·rw[if_neg h]
  rw[h1,det_row,Int.mul_comm,<-S_mul]
  refine S_congr λj hj=>?_
  have h2:F (rs a 0 (eu j))=F (ins j (subc a j)):=by
   rw[<-A.clear a j n (Nat.le_refl n)]
   refine A.cong _ _ λi c hi hc=>?_
   unfold ins insw
   by_cases h:i=0
   ·rw[if_pos h,if_pos h]
   ·rw[if_neg h,if_neg h]
    by_cases h3:c=j
    ·rw[if_pos ⟨by lia,h3⟩,if_pos h3]
    ·rw[if_neg (λz=>h3 z.2),if_neg h3]
     show a i c=a (i - 1+1) (skip j (un j c))
     rw[skip_un h3,show i - 1+1=i by lia]
  have h3:F (ins j (subc a j))=det n (subc a j)*F (ins j idm):=Alt.uniq (A.sub j hj) (subc a j)
  have h4:ins j idm=λi=>idm (MDet.mv j i):=by
   funext i c
   unfold ins insw idm eu MDet.mv
   by_cases h:i=0
   ·rw[if_pos h,if_pos h]
    by_cases h2:c=j
    ·rw[if_pos h2,if_pos h2.symm]
    ·rw[if_neg h2,if_neg (λz=>h2 z.symm)]
   ·rw[if_neg h,if_neg h]
    by_cases h2:c=j
    ·rw[if_pos h2,if_neg (λz=>skip_ne j _ (z.trans h2))]
    ·rw[if_neg h2]
     by_cases h5:i - 1=un j c
     ·rw[if_pos h5,if_pos (by rw[h5];exact skip_un h2)]
     ·rw[if_neg h5,if_neg (λz=>h5 (by rw[<-z,un_skip]))]
  rw[h2,h3,h4,A.mv hj idm]
  grind
def mulm (n:Nat) (a b:Mat):Mat:=λi j=>S n λk=>a i k*b k j
theorem mulm_rs (n:Nat) (a b:Mat) (k:Nat) (w:Nat->Int):mulm n (rs a k w) b=rs (mulm n a b) k λj=>S n λt=>w t*b t j:=by
 funext i j
 unfold mulm rs
 by_cases h:i=k
 ·rw[if_pos h];refine S_congr λt _=>?_;rw[if_pos h]
 ·rw[if_neg h];refine S_congr λt _=>?_;rw[if_neg h]
theorem det_mul (n:Nat) (a b:Mat):det n (mulm n a b)=det n a*det n b:=by
 have A:Alt n λa=>det n (mulm n a b):=by
  refine ⟨λa a' h=>det_congr λi j hi hj=>S_congr λk hk=>by rw[h i k hi hk],λx a k u v hk=>?_,λa k l hk hl hkl h=>det_eq0 hk hl hkl λc=>S_congr λt _=>by rw[h t]⟩
  show det n (mulm n (rs a k _) b)=x*det n (mulm n (rs a k u) b)+det n (mulm n (rs a k v) b)
  rw[mulm_rs,mulm_rs,mulm_rs,<-det_lin x _ _ _ hk]
  congr 2
  funext j
  rw[<-S_lin]
  exact S_congr λt _=>by rw[Int.add_mul,Int.mul_assoc]
 have h:=A.uniq a
 have e:det n (mulm n idm b)=det n b:=det_congr λi j hi hj=>by
  unfold mulm idm
  rw[S_one i hi λk _ hk=>by rw[if_neg (λz=>hk z.symm),Int.zero_mul]]
  rw[if_pos rfl,Int.one_mul]
 rw[<-e];exact h
theorem det_id:∀ n,det n idm=1
 | 0=>rfl
 | n+1=>by
  rw[det_col λi hi _=>by unfold idm;rw[if_neg (by lia)]]
  have:(λr c=>idm (r+1) (c+1))=idm:=by funext r c;unfold idm;by_cases h:r=c<;>simp[h]
  rw[this,det_id n];rfl
def Pb (V:Nat->Int->Prop) (m:Nat) (M:Mat) (p:Int):Prop:=∀ (r:Nat) (ρ γ:Nat->Nat),r < m->(∀ i,i < r+1->ρ i < m)->(∀ i,i < r+1->γ i < m)->∀ q,det (r+1) (λi j=>M (ρ i) (γ j))=p ^ r*q->V r q
theorem det_bdc (c:Nat):∀ (n:Nat) (a:Mat),n<=8->(∀ i j,i < n->j < n->(a i j).natAbs<=2 ^ c)->(det n a).natAbs<=2 ^ ((c+3)*n)
 | 0,a,_,_=>by show (1:Int).natAbs<=_;simp
 | n+1,a,hn,h=>by
  rw[det_succ]
  refine Nat.le_trans (S_bd (2 ^ (c+(c+3)*n)) (n+1) _ λi hi=>?_) ?_
  ·rw[Int.natAbs_mul,Int.natAbs_mul,alt_abs,Nat.one_mul,Nat.pow_add]
   exact Nat.mul_le_mul (h i 0 hi (by lia)) (det_bdc c n (sub a i) (by lia) λr c hr hc=>h _ _ (skip_lt hr) (by lia))
  ·rw[show (c+3)*(n+1)=(c+(c+3)*n)+3 by rw[Nat.mul_succ];lia,Nat.pow_add 2 (c+(c+3)*n) 3,Nat.mul_comm]
   exact Nat.mul_le_mul_left _ (by lia)
end MDet
namespace M06
open MDet
structure Eu (a b B m s t n u:Int):Prop where
 e1:B=s*a+t*b
 e2:m=n*a+u*b
 B0:B≠0
 dv:∀ d:Int,d ∣ B->d ∣ m->d ∣ a/\d ∣ b
 s1:s.natAbs<=b.natAbs+1
 t1:t.natAbs<=a.natAbs+2*b.natAbs+1
 j1:B.natAbs*n.natAbs+m.natAbs*s.natAbs<=b.natAbs
 j2:B.natAbs*u.natAbs+m.natAbs*t.natAbs<=a.natAbs+2*b.natAbs
 sg:(0<=B/\0<=m)\/(B<=0/\m<=0)\/(0 < B/\m < 0/\B=a/\m=b/\s=1/\t=0/\n=0/\u=1)
theorem Eu.start {a b:Int} (ha:0 < a):Eu a b a b 1 0 0 1 where
 e1:=by lia
 e2:=by lia
 B0:=by lia
 dv:=λd h1 h2=>⟨h1,h2⟩
 s1:=by simp
 t1:=by simp
 j1:=by simp
 j2:=by simp
 sg:=by
  by_cases h:0<=b
  ·exact .inl ⟨by lia,h⟩
  ·exact .inr (.inr ⟨ha,by lia,rfl,rfl,rfl,rfl,rfl,rfl⟩)
theorem mul_le1 {x y z:Nat} (h:x*y<=z) (hx:0 < x):y<=z:=Nat.le_trans (Nat.le_mul_of_pos_left y hx) h
theorem fm_pos {B m:Int} (h:0 < m):0<=B.fmod m/\B.fmod m < m:=⟨Int.fmod_nonneg_of_pos B h,Int.fmod_lt_of_pos B h⟩
theorem fm_neg {B m:Int} (h:m < 0):B.fmod m<=0/\m < B.fmod m:=by
 have e:=Int.neg_fmod_neg (-B) (-m)
 have h1:=@fm_pos (-B) (-m) (by lia)
 rw[Int.neg_neg,Int.neg_neg] at e
 lia
theorem eu_key {M Q R N S X A:Nat} (h3:X<=S+Q*N) (j:(M*Q+R)*N+M*S<=A):M*X+R*N<=A:=by
 have h4:=Nat.mul_le_mul_left M h3
 rw[Nat.mul_add,<-Nat.mul_assoc] at h4
 rw[Nat.add_mul] at j
 lia
theorem eu_lin (a b s t n u q:Int):s*a+t*b - q*(n*a+u*b)=(s - q*n)*a+(t - q*u)*b:=by grind
theorem eu_abs {B m q r:Int} (B0:0<=B) (hm:0 < m) (e:m*q+r=B) (h0:0<=r) (h1:r < m):B.natAbs=m.natAbs*q.natAbs+r.natAbs:=by
 have hq:0<=q:=by
  rcases Int.lt_or_le q 0 with z|z
  ·have:=Int.mul_le_mul_of_nonneg_left (show q<=-1 by lia) (Int.le_of_lt hm);lia
  ·exact z
 have:=Int.natAbs_add_of_nonneg (Int.mul_nonneg (Int.le_of_lt hm) hq) h0
 rw[e,Int.natAbs_mul] at this
 exact this
theorem eu_abs2 {B m q r:Int} (hm:m≠0) (h:(0<=B/\0<=m)\/(B<=0/\m<=0)) (e:m*q+r=B) (hr:(0 < m->0<=r/\r < m)/\(m < 0->r<=0/\m < r)):B.natAbs=m.natAbs*q.natAbs+r.natAbs:=by
 rcases h with ⟨a,b⟩|⟨a,b⟩
 ·have b:0 < m:=by lia
  exact eu_abs a b e (hr.1 b).1 (hr.1 b).2
 ·have b:m < 0:=by lia
  have:=@eu_abs (-B) (-m) q (-r) (by lia) (by lia) (by rw[Int.neg_mul];lia) (by have:=(hr.2 b).1;lia) (by have:=(hr.2 b).2;lia)
  simpa only[Int.natAbs_neg] using this
theorem Eu.step {a b B m s t n u:Int} (E:Eu a b B m s t n u) (hm:m≠0):Eu a b m (B - B.fdiv m*m) n u (s - B.fdiv m*n) (t - B.fdiv m*u)/\(B - B.fdiv m*m).natAbs < m.natAbs:=by
 have hr:(0 < m->0<=B.fmod m/\B.fmod m < m)/\(m < 0->B.fmod m<=0/\m < B.fmod m):=⟨fm_pos,fm_neg⟩
 have hB:=Int.mul_fdiv_add_fmod B m
 have er:B - B.fdiv m*m=B.fmod m:=by rw[Int.mul_comm];lia
 rw[er]
 generalize B.fdiv m=q at *
 generalize B.fmod m=r at *
 have b1:0 < B.natAbs:=by have:=E.B0;clear hB er hr;lia
 have key:∀ {S N:Int} {Z:Nat},B.natAbs*N.natAbs+m.natAbs*S.natAbs<=Z->(0<=B/\0<=m)\/(B<=0/\m<=0)->m.natAbs*(S - q*N).natAbs+r.natAbs*N.natAbs<=Z:=λ{S N Z} j h=>by
  rw[eu_abs2 hm h hB hr] at j
  refine eu_key ?_ j
  rw[<-Int.natAbs_mul]
  exact Int.natAbs_sub_le _ _
 refine ⟨⟨E.e2,?_,hm,λd h1 h2=>E.dv d ?_ h1,?_,?_,?_,?_,?_⟩,?_⟩
 ·rw[<-er,E.e1,E.e2];exact eu_lin a b s t n u q
 ·rw[<-hB];exact Int.dvd_add (Int.dvd_mul_of_dvd_left h1) h2
 ·exact Nat.le_succ_of_le (mul_le1 (Nat.le_trans (Nat.le_add_right _ _) E.j1) b1)
 ·exact Nat.le_succ_of_le (mul_le1 (Nat.le_trans (Nat.le_add_right _ _) E.j2) b1)
 ·rcases E.sg with h|h|⟨_,_,_,rfl,rfl,rfl,rfl,rfl⟩
  ·exact key E.j1 (.inl h)
  ·exact key E.j1 (.inr h)
  ·simp
 ·rcases E.sg with h|h|⟨h1,h2,rfl,rfl,rfl,rfl,rfl,rfl⟩
  ·exact key E.j2 (.inl h)
  ·exact key E.j2 (.inr h)
  ·have:=(hr.2 h2)
   have e3:m.natAbs*q.natAbs=(m*q).natAbs:=(Int.natAbs_mul m q).symm
   simp
   lia
 ·rcases Int.lt_or_gt_of_ne hm with h|h
  ·exact .inr (.inl ⟨Int.le_of_lt h,(hr.2 h).1⟩)
  ·exact .inl ⟨Int.le_of_lt h,(hr.1 h).1⟩
 ·rcases Int.lt_or_gt_of_ne hm with h|h
  ·have:=hr.2 h;clear hB er b1 key;lia
  ·have:=hr.1 h;clear hB er b1 key;lia
structure Shr (a b g s t:Int):Prop where
 g0:0 < g
 eq:g=s*a+t*b
 da:g ∣ a
 db:g ∣ b
 s1:s.natAbs<=b.natAbs+1
 t1:t.natAbs<=a.natAbs+2*b.natAbs+1
theorem Eu.fin {a b B s t n u:Int} (E:Eu a b B 0 s t n u):if B < 0 then Shr a b (-B) (-s) (-t) else Shr a b B s t:=by
 obtain ⟨h1,h2⟩:=E.dv B (Int.dvd_refl B) (Int.dvd_zero B)
 have:=E.B0
 have:=E.e1
 split
 ·exact ⟨by lia,by rw[Int.neg_mul,Int.neg_mul];lia,Int.neg_dvd.mpr h1,Int.neg_dvd.mpr h2,by rw[Int.natAbs_neg];exact E.s1,by rw[Int.natAbs_neg];exact E.t1⟩
 ·exact ⟨by lia,this,h1,h2,E.s1,E.t1⟩
theorem Shr.one {a b:Int} (h:0 < a) (d:a ∣ b):Shr a b a 1 0:=⟨h,by lia,Int.dvd_refl a,d,by simp,by simp⟩
abbrev V:=Nat->Int
inductive Sp (A:V->Prop):V->Prop
 | zero {w:V}:(∀ j,w j=0)->Sp A w
 | lin {u v w:V} (x:Int):A u->Sp A v->(∀ j,w j=x*u j+v j)->Sp A w
section
variable {A B:V->Prop} {u v w:V}
theorem Sp.mem (h:A u):Sp A u:=.lin 1 h (.zero (w:=λ_=>0) λ_=>rfl) λj=>by lia
theorem Sp.comb (x y:Int) (hu:Sp A u) (hv:Sp A v) (e:∀ j,w j=x*u j+y*v j):Sp A w:=by
 have sm:∀ {v w:V},Sp A v->(∀ j,w j=y*v j)->Sp A w:=λ{v w} h=>by
  intro e
  induction h generalizing w with
  | zero z=>exact .zero λj=>by rw[e,z];lia
  | @lin a b c x h1 _ h3 ih=>exact .lin (y*x) h1 (ih (w:=λj=>y*b j) λ_=>rfl) λj=>by rw[e,h3];grind
 induction hu generalizing w with
 | zero z=>exact sm hv λj=>by rw[e,z];lia
 | @lin a b c x' h1 _ h3 ih=>exact .lin (x*x') h1 (ih (w:=λj=>x*b j+y*v j) λ_=>rfl) λj=>by rw[e,h3];grind
theorem Sp.add (hu:Sp A u) (hv:Sp A v) (e:∀ j,w j=u j+v j):Sp A w:=hu.comb 1 1 hv λj=>by rw[e];lia
theorem Sp.mul (x:Int) (hu:Sp A u) (e:∀ j,w j=x*u j):Sp A w:=hu.comb x 0 hu λj=>by rw[e];lia
theorem Sp.trans (h:∀ u,A u->Sp B u) (hw:Sp A w):Sp B w:=by
 induction hw with
 | zero z=>exact .zero z
 | lin x a _ e ih=>exact (h _ a).comb x 1 ih λj=>by rw[e];lia
theorem Sp.mono (h:∀ u,A u->B u) (hw:Sp A w):Sp B w:=hw.trans λu a=>.mem (h u a)
theorem Sp.zeros {j:Nat} (h:∀ u,A u->u j=0) (hw:Sp A w):w j=0:=by
 induction hw with
 | zero q=>exact q j
 | lin x a _ e ih=>rw[e,h _ a,ih];lia
end
abbrev Ls (R:List V):V->Prop:=λv=>v∈R
theorem Sp.cons {v w:V} {R:List V} (h:Sp (Ls (v::R)) w):∃ (x:Int) (w':V),Sp (Ls R) w'/\∀ j,w j=x*v j+w' j:=by
 induction h with
 | zero z=>exact ⟨0,λ_=>0,.zero λ_=>rfl,λj=>by rw[z];show 0=0*v j+0;lia⟩
 | @lin a b c x h1 _ h3 ih =>
  obtain ⟨y,w',s,e⟩:=ih
  rcases mem_cons.mp h1 with rfl|h1
  ·exact ⟨x+y,w',s,λj=>by rw[h3,e];grind⟩
  ·exact ⟨y,λj=>x*a j+w' j,.lin x h1 s λ_=>rfl,λj=>by rw[h3,e];show _=_+(x*a j+w' j);lia⟩
theorem Sp.nil {w:V} (h:Sp (Ls []) w):∀ j,w j=0:=by
 cases h with
 | zero z=>exact z
 | lin x a=>cases a
def ld (wd:Nat) (v:V):Nat:=((List.range wd).find? λj=>v j != 0).getD wd
section
variable {wd:Nat} {v:V}
theorem ld_cases (wd:Nat) (v:V):(ld wd v < wd/\v (ld wd v)≠0/\∀ j,j < ld wd v->v j=0)\/(ld wd v=wd/\∀ j,j < wd->v j=0):=by
 unfold ld
 cases h:(List.range wd).find? λj=>v j != 0 with
 | none =>
  refine .inr ⟨rfl,λj hj=>?_⟩
  have:=List.find?_eq_none.mp h j (mem_range.mpr hj)
  simpa using this
 | some c =>
  obtain ⟨h1,as,bs,h2,h3⟩:=List.find?_eq_some_iff_append.mp h
  have hc:c < wd:=mem_range.mp (by rw[h2];simp)
  refine .inl ⟨hc,by simpa using h1,λj hj=>?_⟩
  have hj:j < c:=hj
  have hl:as.length=c:=by
   have e:(List.range wd)[as.length]?=some c:=by rw[h2];simp
   have hlt:=(List.getElem?_eq_some_iff.mp e).1
   rw[List.getElem?_range (by simpa using hlt)] at e
   simpa using e
  have:j∈as:=by
   have e:(List.range wd)[j]?=some j:=List.getElem?_range (by lia)
   rw[h2,List.getElem?_append_left (by lia)] at e
   exact mem_of_getElem? e
  simpa using h3 j this
theorem ld_le (wd:Nat) (v:V):ld wd v<=wd:=by rcases ld_cases wd v with ⟨h,_⟩|⟨h,_⟩<;>lia
theorem ld_zero {j:Nat} (h:j < ld wd v):v j=0:=by
 rcases ld_cases wd v with ⟨_,_,z⟩|⟨e,z⟩
 ·exact z j h
 ·exact z j (by lia)
theorem ld_ne (h:ld wd v < wd):v (ld wd v)≠0:=by
 rcases ld_cases wd v with ⟨_,z,_⟩|⟨e,z⟩
 ·exact z
 ·lia
theorem ld_of {c:Nat} (hc:c < wd) (h:v c≠0) (z:∀ j,j < c->v j=0):ld wd v=c:=by
 rcases Nat.lt_trichotomy (ld wd v) c with g|g|g
 ·exact absurd (z _ g) (ld_ne (by lia))
 ·exact g
 ·exact absurd (ld_zero g) h
theorem ld_gt {c:Nat} (hc:c<=wd) (z:∀ j,j < c->v j=0):c<=ld wd v:=by
 rcases Nat.lt_or_ge (ld wd v) c with g|g
 ·exact absurd (z _ g) (ld_ne (by lia))
 ·exact g
end
structure Ec (wd:Nat) (H:List V):Prop where
 pos:∀ v∈H,ld wd v < wd/\0 < v (ld wd v)
 pw:H.Pairwise λu v=>ld wd u < ld wd v
def Td (wd:Nat) (H:List V):Prop:=H.Pairwise λu v=>0<=u (ld wd v)/\u (ld wd v) < v (ld wd v)
section
variable {wd:Nat} {H:List V} {u v w:V}
theorem Ec.tail (h:Ec wd (v::H)):Ec wd H:=⟨λu hu=>h.pos u (mem_cons_of_mem _ hu),(List.pairwise_cons.mp h.pw).2⟩
theorem Ec.head (h:Ec wd (v::H)) (hu:u∈H):u (ld wd v)=0:=ld_zero ((List.pairwise_cons.mp h.pw).1 u hu)
theorem Ec.drop (h:Ec wd H) (n:Nat):Ec wd (H.drop n):=⟨λu hu=>h.pos u (mem_of_mem_drop hu),h.pw.sublist (List.drop_sublist n H)⟩
theorem Ec.null (E:Ec wd H) (h:Sp (Ls H) w) (s:∀ v∈H,(w (ld wd v)).natAbs < (v (ld wd v)).natAbs):∀ j,w j=0:=by
 induction H generalizing w with
 | nil=>exact h.nil
 | cons v H ih =>
  obtain ⟨x,w',hw,e⟩:=h.cons
  have z:w' (ld wd v)=0:=hw.zeros λu hu=>E.head hu
  have h1:=s v mem_cons_self
  rw[e,z,Int.add_zero,Int.natAbs_mul] at h1
  have hx:x=0:=by
   rcases Nat.eq_zero_or_pos x.natAbs with g|g
   ·lia
   ·have:=Nat.le_mul_of_pos_left (v (ld wd v)).natAbs g;lia
  subst hx
  have e':∀ j,w j=w' j:=λj=>by rw[e];lia
  intro j
  rw[e']
  exact ih E.tail hw (λu hu=>by rw[<-e'];exact s u (mem_cons_of_mem _ hu)) j
def red (r v:V) (c:Nat):V:=λj=>r j - (r c).fdiv (v c)*v j
def mks (wd:Nat) (r:V):List V->V
 | []=>r
 | v::H=>mks wd (red r v (ld wd v)) H
theorem red_at {r v:V} {c:Nat} (h:0 < v c):0<=red r v c c/\red r v c c < v c:=by
 have e:=Int.mul_fdiv_add_fmod (r c) (v c)
 have:=@fm_pos (r c) (v c) h
 unfold red
 rw[Int.mul_comm ((r c).fdiv (v c))]
 lia
theorem mks_out {j:Nat}:∀ {H:List V} {r:V},(∀ v∈H,v j=0)->mks wd r H j=r j
 | [],_,_=>rfl
 | v::H,r,h=>by
  rw[mks,mks_out λu hu=>h u (mem_cons_of_mem _ hu)]
  show r j - _*v j=r j
  rw[h v mem_cons_self];lia
theorem mks_red:∀ {H:List V} {r:V},Ec wd H->∀ v∈H,0<=mks wd r H (ld wd v)/\mks wd r H (ld wd v) < v (ld wd v)
 | u::H,r,E,v,hv=>by
  rw[mks]
  rcases mem_cons.mp hv with rfl|hv
  ·rw[mks_out λu hu=>E.head hu]
   exact red_at (E.pos _ mem_cons_self).2
  ·exact mks_red E.tail v hv
theorem mks_sp:∀ {H:List V} {r:V},∃ h:V,Sp (Ls H) h/\∀ j,mks wd r H j=r j+h j
 | [],r=>⟨λ_=>0,.zero λ_=>rfl,λj=>by rw[mks];show _=_+0;lia⟩
 | v::H,r=>by
  obtain ⟨h,s,e⟩:=@mks_sp H (red r v (ld wd v))
  refine ⟨λj=>-((r (ld wd v)).fdiv (v (ld wd v)))*v j+h j,.lin _ mem_cons_self (s.mono λu hu=>mem_cons_of_mem _ hu) λ_=>rfl,λj=>?_⟩
  rw[mks,e]
  show r j - _*v j+h j=r j+(-_*v j+h j)
  rw[Int.neg_mul];lia
def Bt (b:Nat) (x:Int):Prop:=x.natAbs < 2 ^ b
theorem Bt.up {b c:Nat} {x:Int} (h:Bt b x) (l:b<=c):Bt c x:=Nat.lt_of_lt_of_le h (Nat.pow_le_pow_right (by decide) l)
theorem Bt.mul {b c:Nat} {x y:Int} (h:Bt b x) (g:Bt c y):Bt (b+c) (x*y):=by
 unfold Bt at *
 rw[Int.natAbs_mul,Nat.pow_add]
 exact Nat.mul_lt_mul'' h g
theorem Bt.add {b c d:Nat} {x y:Int} (h:Bt b x) (g:Bt c y) (l1:b < d) (l2:c < d):Bt d (x+y):=by
 have h1:=h.up (show b<=d - 1 by lia)
 have h2:=g.up (show c<=d - 1 by lia)
 unfold Bt at *
 have:=Int.natAbs_add_le x y
 have e:2 ^ d=2 ^ (d - 1)+2 ^ (d - 1):=by rw[<-Nat.two_mul,<-Nat.pow_succ'];congr 1;lia
 lia
theorem Bt.neg {b:Nat} {x:Int} (h:Bt b x):Bt b (-x):=by unfold Bt at *;rw[Int.natAbs_neg];exact h
theorem Bt.zero {b:Nat}:Bt b 0:=Nat.two_pow_pos b
theorem Bt.fdiv {b:Nat} {x y:Int} (h:Bt b x) (hy:0 < y):Bt (b+1) (x.fdiv y):=by
 unfold Bt at *
 have e:=Int.mul_fdiv_add_fmod x y
 have:=@fm_pos x y hy
 have:(x.fdiv y).natAbs<=x.natAbs+1:=by
  generalize x.fdiv y=q at *
  generalize x.fmod y=r at *
  rcases Int.lt_or_le q 0 with g|g
  ·have:=Int.mul_le_mul_of_nonneg_right (show (1:Int)<=y by lia) (show 0<=-q - 1 by lia)
   have e2:y*(-q - 1)=-(y*q) - y:=by grind
   rw[e2] at this
   lia
  ·have:=Int.mul_le_mul_of_nonneg_right (show (1:Int)<=y by lia) g
   lia
 have:2 ^ (b+1)=2*2 ^ b:=Nat.pow_succ'
 have:=Nat.two_pow_pos b
 lia
theorem red_bt {a x:Nat} {r:V} {c:Nat} (hr:∀ j,j < wd->Bt a (r j)) (hv:∀ j,j < wd->Bt x (v j)) (hc:c < wd) (h0:0 < v c):Bt (a+1) ((r c).fdiv (v c))/\∀ j,j < wd->Bt (a+x+2) (red r v c j):=by
 have t:=(hr c hc).fdiv h0
 refine ⟨t,λj hj=>?_⟩
 unfold red
 rw[Int.sub_eq_add_neg]
 exact (hr j hj).add (t.mul (hv j hj)).neg (by lia) (by lia)
theorem red_be {w t e f:Nat} {r:V} {c:Nat} (ht:Bt t ((r c).fdiv (v c))) (hr:∀ j,j < w->Bt f (r j)) (hv:∀ j,j < w->Bt e (v j)) (hl:t+e<=f):∀ j,j < w->Bt (f+1) (red r v c j):=λj hj=>by
 unfold red
 rw[Int.sub_eq_add_neg]
 exact (hr j hj).add (ht.mul (hv j hj)).neg (by lia) (by lia)
structure Mi (wd w k a x e:Nat) (r:V) (H:List V) (i:Nat) (r':V):Prop where
 eq:∀ j,mks wd r' (H.drop i) j=mks wd r H j
 ra:∀ j,j < wd->Bt (a+i*(x+2)) (r' j)
 re:∀ j,j < w->Bt (e+(a+k*(x+2))+1+i) (r' j)
theorem mks_congr:∀ {H:List V} {r s:V},(∀ j,r j=s j)->∀ j,mks wd r H j=mks wd s H j
 | [],_,_,h=>h
 | v::H,r,s,h=>by
  rw[mks,mks]
  exact mks_congr λj=>by unfold red;rw[h,h]
theorem Mi.start {w k a x e:Nat} {r:V} (hr:∀ j,j < wd->Bt a (r j)) (he:∀ j,j < w->Bt e (r j)):Mi wd w k a x e r H 0 r:=⟨λ_=>rfl,λj hj=>(hr j hj).up (by lia),λj hj=>(he j hj).up (by lia)⟩
theorem Mi.step {w k a x e i:Nat} {r r':V} (M:Mi wd w k a x e r H i r') (hk:H.length<=k) (E:Ec wd H) (hx:∀ v∈H,∀ j,j < wd->Bt x (v j)) (he:∀ v∈H,∀ j,j < w->Bt e (v j)) (hv:H[i]?=some v) :
  Mi wd w k a x e r H (i+1) (red r' v (ld wd v))/\Bt (a+k*(x+2)) ((r' (ld wd v)).fdiv (v (ld wd v))):=by
 have hm:=mem_of_getElem? hv
 have hi:=(List.getElem?_eq_some_iff.mp hv).1
 obtain ⟨p1,p2⟩:=E.pos v hm
 obtain ⟨h1,h2⟩:=red_bt M.ra (hx v hm) p1 p2
 have hle:(i+1)*(x+2)<=k*(x+2):=Nat.mul_le_mul_right _ (by lia)
 rw[Nat.add_mul,Nat.one_mul] at hle
 have h1':Bt (a+k*(x+2)) ((r' (ld wd v)).fdiv (v (ld wd v))):=h1.up (by lia)
 refine ⟨⟨λj=>?_,λj hj=>(h2 j hj).up (by rw[Nat.add_mul];lia),λj hj=>(red_be h1' M.re (he v hm) (by lia) j hj).up (by lia)⟩,h1'⟩
 have e:=M.eq j
 rw[List.drop_eq_getElem_cons hi] at e
 obtain ⟨_,e3⟩:=List.getElem?_eq_some_iff.mp hv
 rw[e3] at e
 exact e
end
theorem Bt.quo {b:Nat} {a g0:Int} (h:Bt b a) (hg:0 < g0) (hd:g0 ∣ a):Bt b (a / g0):=by
 obtain ⟨k,rfl⟩:=hd
 rw[Int.mul_ediv_cancel_left _ (by lia)]
 unfold Bt at *
 rw[Int.natAbs_mul] at h
 have:=Nat.le_mul_of_pos_left k.natAbs (show 0 < g0.natAbs by lia)
 lia
theorem bt_s {D:Nat} {a b s:Int} (hb:Bt D b) (h:s.natAbs<=b.natAbs+1):Bt (D+1) s:=by
 unfold Bt at *
 have:2 ^ (D+1)=2*2 ^ D:=Nat.pow_succ'
 lia
theorem bt_t {D:Nat} {a b t:Int} (ha:Bt D a) (hb:Bt D b) (h:t.natAbs<=a.natAbs+2*b.natAbs+1):Bt (D+2) t:=by
 unfold Bt at *
 have:2 ^ (D+2)=4*2 ^ D:=by rw[Nat.pow_add,Nat.mul_comm]
 lia
theorem pr7 {g s t a b:Int} (g0:0 < g) (h:g=s*(g*a)+t*(g*b)):s*a+t*b=1:=by
 have:g*(s*a+t*b)=g*1:=by rw[Int.mul_add,Int.mul_one];rw[Int.mul_left_comm s,Int.mul_left_comm t] at h;exact h.symm
 exact Int.eq_of_mul_eq_mul_left (Int.ne_of_gt g0) this
theorem pr9 {g a:Int} (g0:0 < g) (h:0 < g*a):0 < a:=by
 rcases Int.lt_or_le 0 a with z|z
 ·exact z
 ·have:=Int.mul_le_mul_of_nonneg_left z (Int.le_of_lt g0);lia
def pv (wd:Nat):List V->Int
 | []=>1
 | v::H=>v (ld wd v)*pv wd H
section
variable {wd w:Nat} {H T:List V} {g u v:V}
theorem le_mul1 {a b:Int} (h:0<=a) (hb:0 < b):a<=a*b:=by
 have:=Int.mul_le_mul_of_nonneg_left (Int.add_one_le_of_lt hb) h
 rwa [Int.zero_add,Int.mul_one] at this
theorem pv_pos:∀ {H:List V},Ec wd H->0 < pv wd H
 | [],_=>show (0:Int) < 1 by decide
 | v::H,E=>Int.mul_pos (E.pos v mem_cons_self).2 (pv_pos E.tail)
theorem pv_dvd:∀ {H:List V} {v:V},v∈H->v (ld wd v) ∣ pv wd H
 | u::H,v,h=>by
  rcases mem_cons.mp h with rfl|h
  ·exact Int.dvd_mul_right _ _
  ·exact Int.dvd_mul_of_dvd_right (pv_dvd h)
theorem le_dvd {a b:Int} (h:a ∣ b) (hb:0 < b):a<=b:=Int.le_of_dvd hb h
theorem Bt.le {b:Nat} {x y:Int} (h:Bt b y) (h0:0<=x) (h1:x<=y):Bt b x:=by unfold Bt at *;lia
theorem piv_bt {D:Nat} (E:Ec wd H) (h:Bt D (pv wd H)) (hv:v∈H):Bt D (v (ld wd v)):=h.le (Int.le_of_lt (E.pos v hv).2) (le_dvd (pv_dvd hv) (pv_pos E))
theorem pv_set:∀ {T:List V} {q:Nat} {u u2:V},T[q]?=some u->pv wd (T.set q u2)*u (ld wd u)=pv wd T*u2 (ld wd u2)
 | v::T,0,u,u2,h=>by
  simp at h;subst h
  show u2 _*pv wd T*v _=v _*pv wd T*u2 _
  grind
 | v::T,q+1,u,u2,h=>by
  have:=@pv_set T q u u2 (by simpa using h)
  show v _*pv wd (T.set q u2)*u _=v _*pv wd T*u2 _
  grind
theorem lds_get {q:Nat} (h:T.map (ld wd)=H.map (ld wd)) {u v:V} (hu:T[q]?=some u) (hv:H[q]?=some v):ld wd u=ld wd v:=by
 have:=congrArg (λl=>l[q]?) h
 simp only[List.getElem?_map,hu,hv] at this
 simpa using this
theorem pw_lt (E:Ec wd H) {i j:Nat} {u v:V} (hu:H[i]?=some u) (hv:H[j]?=some v) (h:i < j):ld wd u < ld wd v:=by
 obtain ⟨h1,e1⟩:=List.getElem?_eq_some_iff.mp hu
 obtain ⟨h2,e2⟩:=List.getElem?_eq_some_iff.mp hv
 have:=List.pairwise_iff_getElem.mp E.pw i j h1 h2 h
 rw[e1,e2] at this
 exact this
theorem ec_of (hp:∀ v∈H,ld wd v < wd/\0 < v (ld wd v)) (h:∀ (i j:Nat) (u v:V),H[i]?=some u->H[j]?=some v->i < j->ld wd u < ld wd v):Ec wd H :=
 ⟨hp,List.pairwise_iff_getElem.mpr λi j hi hj hij=>h i j _ _ (List.getElem?_eq_getElem hi) (List.getElem?_eq_getElem hj) hij⟩
structure Hy (wd:Nat) (H:List V) (g:V) (Y X C D:Nat):Prop where
 ec:Ec wd H
 td:Td wd H
 len:H.length<=8
 prod:Bt D (pv wd H)
 gY:∀ j,j < wd->Bt Y (g j)
 DY:D<=Y
 CC:D+Y+2<=C
 bd:∀ (y:Int) (h u:V),Sp (Ls H) h->(∀ j,j < wd->u j=y*g j+h j)->Bt C y->(∀ v∈H,Bt Y (u (ld wd v)))->∀ j,j < wd->Bt X (u j)
structure PI (wd w:Nat) (H:List V) (g:V) (Y X C D E K p:Nat) (T:List V) (v:V) (x:Int):Prop where
 len:T.length=H.length
 ec:Ec wd T
 lds:T.map (ld wd)=H.map (ld wd)
 ple:p<=H.length
 unt:T.drop p=H.drop p
 low:∀ (i:Nat) (u:V),i < p->H[i]?=some u->ld wd u < ld wd v
 fw:∀ u,u∈H\/u=g->Sp (Ls (v::T)) u
 bw:∀ u∈v::T,Sp (Ls (g::H)) u
 vx:∃ h,Sp (Ls H) h/\∀ j,v j=x*g j+h j
 x1:1<=x
 xp:x*pv wd T=pv wd H
 ys:∀ u∈T,∃ (y:Int) (h:V),Sp (Ls H) h/\Bt C y/\∀ j,u j=y*g j+h j
 rd:∀ (i:Nat) (u:V),p<=i->H[i]?=some u->Bt Y (v (ld wd u))
 bX:∀ u∈v::T,∀ j,j < wd->Bt X (u j)
 bE:∀ u∈v::T,∀ j,j < w->Bt (E+p*K) (u j)
variable {Y X C D E K p:Nat} {x:Int}
theorem td_bt {D:Nat} (hE:Ec wd H) (hT:Td wd H) (hp:Bt D (pv wd H)) {u v:V} (hu:u∈H) (hv:v∈H):Bt D (u (ld wd v)):=by
 obtain ⟨i,hi,rfl⟩:=mem_iff_getElem.mp hu
 obtain ⟨j,hj,rfl⟩:=mem_iff_getElem.mp hv
 have pb:=piv_bt hE hp hv
 rcases Nat.lt_trichotomy i j with g|g|g
 ·have:=List.pairwise_iff_getElem.mp hT i j hi hj g
  exact pb.le this.1 (Int.le_of_lt this.2)
 ·subst g;exact pb
 ·have:=List.pairwise_iff_getElem.mp hE.pw j i hj hi g
  rw[ld_zero this];exact .zero
theorem Hy.hX (h:Hy wd H g Y X C D) (hv:v∈H):∀ j,j < wd->Bt X (v j):=h.bd 0 v v (.mem hv) (λj _=>by lia) .zero λu hu=>(td_bt h.ec h.td h.prod hv hu).up h.DY
theorem Hy.gX (h:Hy wd H g Y X C D):∀ j,j < wd->Bt X (g j):=h.bd 1 (λ_=>0) g (.zero λ_=>rfl) (λj _=>by show g j=1*g j+0;lia) (by
 have:=h.CC
 exact Bt.up (b:=1) (show (1:Int).natAbs < 2 ^ 1 by decide) (by lia)) λu hu=>h.gY _ (h.ec.pos u hu).1
theorem PI.start (h:Hy wd H g Y X C D) (hE:∀ u∈g::H,∀ j,j < w->Bt E (u j)):PI wd w H g Y X C D E K 0 H g 1 where
 len:=rfl
 ec:=h.ec
 lds:=rfl
 ple:=Nat.zero_le _
 unt:=rfl
 low:=λi u hi=>by lia
 fw:=λu hu=>by
  rcases hu with hu|rfl
  ·exact .mem (mem_cons_of_mem _ hu)
  ·exact .mem mem_cons_self
 bw:=λu hu=>.mem hu
 vx:=⟨λ_=>0,.zero λ_=>rfl,λj=>by show g j=1*g j+0;lia⟩
 x1:=by decide
 xp:=by lia
 ys:=λu hu=>⟨0,u,.mem hu,.zero,λj=>by lia⟩
 rd:=λi u _ hu=>h.gY _ (h.ec.pos u (mem_of_getElem? hu)).1
 bX:=λu hu=>by
  rcases mem_cons.mp hu with rfl|hu
  ·exact h.gX
  ·exact h.hX hu
 bE:=λu hu j hj=>(hE u hu j hj).up (by lia)
theorem PI.skip (I:PI wd w H g Y X C D E K p T v x) {q:Nat} (hq:q<=H.length) (hpq:p<=q) (hl:∀ (i:Nat) (u:V),i < q->T[i]?=some u->ld wd u < ld wd v):PI wd w H g Y X C D E K q T v x :=
 { I with
  ple:=hq
  unt:=by
   have:=congrArg (List.drop (q - p)) I.unt
   rw[List.drop_drop,List.drop_drop,show p+(q - p)=q by lia] at this
   exact this
  low:=λi u hi hu=>by
   obtain ⟨t,ht⟩:∃ t,T[i]?=some t:=⟨_,List.getElem?_eq_getElem (by rw[I.len];lia)⟩
   rw[<-lds_get I.lds ht hu]
   exact hl i t hi ht
  rd:=λi u hi hu=>I.rd i u (by lia) hu
  bE:=λu hu j hj=>(I.bE u hu j hj).up (Nat.add_le_add_left (Nat.mul_le_mul_right _ hpq) _) }
theorem PI.xD (I:PI wd w H g Y X C D E K p T v x) (hD:Bt D (pv wd H)):Bt D x:=by
 have h1:0<=x:=Int.le_of_lt I.x1
 exact hD.le h1 (I.xp ▸ le_mul1 h1 (pv_pos I.ec))
theorem get_unt (I:PI wd w H g Y X C D E K p T v x) {i:Nat} (hi:p<=i):T[i]?=H[i]?:=by
 have:=congrArg (λl=>l[i - p]?) I.unt
 simp only[List.getElem?_drop] at this
 rwa [show p+(i - p)=i by lia] at this
theorem pr10 (g a b:Int):a*(g*b)+-b*(g*a)=0:=by grind
theorem pr11 (s t x u g h k:Int):s*u+t*(x*g+h)+k=(t*x)*g+(s*u+t*h+k):=by grind
theorem pr12 (a b x u g h k:Int):a*(x*g+h)+-b*u+k=(x*a)*g+(a*h+-b*u+k):=by grind
theorem pr13 {P Q g a:Int} (x:Int) (g0:0 < g) (h:Q*(g*a)=P*g):x*a*Q=x*P:=by
 have:g*(a*Q)=g*P:=by rw[Int.mul_comm g P,<-h];grind
 rw[Int.mul_assoc,Int.eq_of_mul_eq_mul_left (Int.ne_of_gt g0) this]
theorem pr14 {a b h:Int} (e:a=b+h):b=1*a+-1*h:=by lia
theorem pr15 {s t a b:Int} (u v:Int) (d:s*a+t*b=1):v=b*(s*u+t*v)+s*(a*v+-b*u):=by
 have:v=(s*a+t*b)*v:=by rw[d,Int.one_mul]
 grind
theorem pr16 {s t a b:Int} (u v:Int) (d:s*a+t*b=1):u=a*(s*u+t*v)+-t*(a*v+-b*u):=by
 have:u=(s*a+t*b)*u:=by rw[d,Int.one_mul]
 grind
theorem mem_set2 {T:List V} {p:Nat} {u u2 z:V} (hu:T[p]?=some u) (hz:z∈T):z=u\/z∈T.set p u2:=by
 obtain ⟨i,hi⟩:=List.getElem?_of_mem hz
 by_cases e:i=p
 ·subst e;rw[hu] at hi;exact .inl (Option.some.inj hi).symm
 ·exact .inr (mem_of_getElem? (i:=i) (by rw[List.getElem?_set_ne (Ne.symm e)];exact hi))
theorem drop_mem {H:List V} {i p:Nat} {z:V} (k:p<=i) (hi:H[i]?=some z):z∈H.drop p:=mem_of_getElem? (i:=i - p) (by rw[List.getElem?_drop,Nat.add_sub_cancel' k];exact hi)
theorem drop_set_mem {T:List V} {p:Nat} {u2 z:V} (hz:z∈T.drop (p+1)):z∈T.set p u2:=by
 obtain ⟨i,hi⟩:=List.getElem?_of_mem hz
 rw[List.getElem?_drop] at hi
 exact mem_of_getElem? (i:=p+1+i) (by rw[List.getElem?_set_ne (by lia)];exact hi)
theorem set_mem {T:List V} {p:Nat} {u2:V} (h:p < T.length):u2∈T.set p u2:=mem_of_getElem? (i:=p) (by rw[List.getElem?_set_self h])
theorem gt_of (E:Ec wd T) (hu:T[p]?=some u):∀ z∈T.drop (p+1),ld wd u < ld wd z:=λz hz=>by
 obtain ⟨i,hi⟩:=List.getElem?_of_mem hz
 rw[List.getElem?_drop] at hi
 exact pw_lt E hu hi (by lia)
theorem out_of (E:Ec wd T) (hu:T[p]?=some u) (r:V) {j:Nat} (hj:j<=ld wd u):mks wd r (T.drop (p+1)) j=r j:=mks_out λz hz=>ld_zero (Nat.lt_of_le_of_lt hj (gt_of E hu z hz))
theorem set_lds {T:List V} {p:Nat} {u u2:V} (hu:T[p]?=some u) (hl:ld wd u2=ld wd u):(T.set p u2).map (ld wd)=T.map (ld wd):=by
 refine List.ext_getElem? λi=>?_
 rw[List.getElem?_map,List.getElem?_map,List.getElem?_set]
 split
 ·rename_i e;subst e;rw[if_pos (List.getElem?_eq_some_iff.mp hu).1,hu,Option.map_some,Option.map_some,hl]
 ·rfl
theorem set_ec {T:List V} {p:Nat} {u u2:V} (E:Ec wd T) (hu:T[p]?=some u) (hl:ld wd u2=ld wd u) (h0:0 < u2 (ld wd u2)):Ec wd (T.set p u2):=by
 have hs:=set_lds (wd:=wd) hu hl
 refine ec_of (λz hz=>?_) λi j a b ha hb hij=>?_
 ·rcases mem_or_eq_of_mem_set hz with hz|rfl
  ·exact E.pos z hz
  ·exact ⟨by rw[hl];exact (E.pos u (mem_of_getElem? hu)).1,h0⟩
 ·obtain ⟨a0,ea⟩:∃ a0,T[i]?=some a0:=⟨_,List.getElem?_eq_getElem (by have:=(List.getElem?_eq_some_iff.mp ha).1;rw[length_set] at this;exact this)⟩
  obtain ⟨b0,eb⟩:∃ b0,T[j]?=some b0:=⟨_,List.getElem?_eq_getElem (by have:=(List.getElem?_eq_some_iff.mp hb).1;rw[length_set] at this;exact this)⟩
  rw[lds_get hs ha ea,lds_get hs hb eb]
  exact pw_lt E ea eb hij
theorem Hy.DC (h:Hy wd H g Y X C D):D<=C/\Y+2+D<=C:=by have:=h.CC;lia
theorem PI.pass (h:Hy wd H g Y X C D) (I:PI wd w H g Y X C D E K p T v x) (hK:2*Y+9*X+40<=K) (hu:T[p]?=some u) (hc:ld wd u=ld wd v) {g0 s t:Int} (S:Shr (u (ld wd v)) (v (ld wd v)) g0 s t) {u2 v2:V}
  (e1:∀ j,u2 j=mks wd (λj=>s*u j+t*v j) (T.drop (p+1)) j) (e2:∀ j,v2 j=mks wd (λj=>u (ld wd v) / g0*v j+-(v (ld wd v) / g0)*u j) (T.drop (p+1)) j)
  (b1:∀ j,j < w->Bt (E+p*K+K) (u2 j)) (b2:∀ j,j < w->Bt (E+p*K+K) (v2 j)) :
  PI wd w H g Y X C D E K (p+1) (T.set p u2) v2 (x*(u (ld wd v) / g0)):=by
 have hm:=mem_of_getElem? hu
 have hp:=(List.getElem?_eq_some_iff.mp hu).1
 have hpH:p+1<=H.length:=I.len ▸ hp
 have huH:H[p]?=some u:=by rw[<-get_unt I (Nat.le_refl p)];exact hu
 have humH:=mem_of_getElem? huH
 have pos:=I.ec.pos u hm
 have eB:T.drop (p+1)=H.drop (p+1):=by
  have:=congrArg (List.drop 1) I.unt
  rwa [List.drop_drop,List.drop_drop] at this
 have EB:Ec wd (T.drop (p+1)):=I.ec.drop _
 have BH:∀ z∈T.drop (p+1),z∈H:=λz hz=>by rw[eB] at hz;exact mem_of_mem_drop hz
 have Bout:=λ(r:V) (j:Nat)=>@out_of wd T u p I.ec hu r j
 rw[hc] at pos Bout
 obtain ⟨h1,sp1,es1⟩:=@mks_sp wd (T.drop (p+1)) (λj=>s*u j+t*v j)
 obtain ⟨h2,sp2,es2⟩:=@mks_sp wd (T.drop (p+1)) (λj=>u (ld wd v) / g0*v j+-(v (ld wd v) / g0)*u j)
 have geq:=S.eq
 obtain ⟨a',ea⟩:=S.da
 obtain ⟨b',eb⟩:=S.db
 have qa:u (ld wd v) / g0=a':=by rw[ea];exact Int.mul_ediv_cancel_left _ (Int.ne_of_gt S.g0)
 have qb:v (ld wd v) / g0=b':=by rw[eb];exact Int.mul_ediv_cancel_left _ (Int.ne_of_gt S.g0)
 rw[qa,qb] at es2 e2
 rw[qa]
 rw[ea,eb] at geq
 have d1:=pr7 S.g0 geq
 have a1:0 < a':=pr9 S.g0 (ea ▸ pos.2)
 have z1:∀ j,j < ld wd v->u2 j=0:=λj hj=>by
  rw[e1,Bout _ j (Nat.le_of_lt hj)]
  show s*u j+t*v j=0
  rw[ld_zero hj,ld_zero (hc.symm ▸ hj:j < ld wd u),Int.mul_zero,Int.mul_zero];rfl
 have c1:u2 (ld wd v)=g0:=by
  rw[e1,Bout _ _ (Nat.le_refl _)]
  exact S.eq.symm
 have z2:∀ j,j<=ld wd v->v2 j=0:=λj hj=>by
  rw[e2,Bout _ j hj]
  show a'*v j+-b'*u j=0
  rcases Nat.lt_or_eq_of_le hj with hj|hj
  ·rw[ld_zero hj,ld_zero (hc.symm ▸ hj:j < ld wd u),Int.mul_zero,Int.mul_zero];rfl
  ·rw[hj,ea,eb];exact pr10 _ _ _
 have l1:ld wd u2=ld wd v:=ld_of pos.1 (by rw[c1];exact Int.ne_of_gt S.g0) z1
 have l2:ld wd v+1<=ld wd v2:=ld_gt pos.1 λj hj=>z2 j (Nat.le_of_lt_succ hj)
 have l3:=l1.trans hc.symm
 have ecT':Ec wd (T.set p u2):=set_ec I.ec hu l3 (by rw[l1,c1];exact S.g0)
 have u2m:u2∈T.set p u2:=set_mem hp
 have mset:∀ z∈T.set p u2,z=u2\/z∈T:=λz hz=>(mem_or_eq_of_mem_set hz).symm
 obtain ⟨hh,shh,ehh⟩:=I.vx
 have bb:Bt Y (v (ld wd v)):=by have:=I.rd p u (Nat.le_refl p) huH;rwa [hc] at this
 have aD:Bt D (u (ld wd v)):=by have:=piv_bt h.ec h.prod humH;rwa [hc] at this
 have tb:Bt (Y+2) t:=bt_t (aD.up h.DY) bb S.t1
 have yu:∀ j,u2 j=(t*x)*g j+(s*u j+t*hh j+h1 j):=λj=>by rw[e1,es1,ehh];exact pr11 _ _ _ _ _ _ _
 have su2:Sp (Ls H) (λj=>s*u j+t*hh j+h1 j):=((Sp.mem humH).comb s t shh (w:=λj=>s*u j+t*hh j) λj=>rfl).add (sp1.mono BH) λj=>rfl
 have yv:∀ j,v2 j=(x*a')*g j+(a'*hh j+-b'*u j+h2 j):=λj=>by rw[e2,es2,ehh];exact pr12 _ _ _ _ _ _ _
 have sv2:Sp (Ls H) (λj=>a'*hh j+-b'*u j+h2 j):=(shh.comb a' (-b') (Sp.mem humH) (w:=λj=>a'*hh j+-b'*u j) λj=>rfl).add (sp2.mono BH) λj=>rfl
 have yub:Bt C (t*x):=(tb.mul (I.xD h.prod)).up h.DC.2
 have xp':x*a'*pv wd (T.set p u2)=pv wd H:=by
  have e:=pv_set (wd:=wd) (u2:=u2) hu
  rw[hc,l1,c1,ea] at e
  rw[pr13 x S.g0 e]
  exact I.xp
 have x0:0 < x*a':=Int.mul_pos I.x1 a1
 have yvb:Bt C (x*a'):=(h.prod.le (Int.le_of_lt x0) (xp' ▸ le_mul1 (Int.le_of_lt x0) (pv_pos ecT'))).up h.DC.1
 have cod:∀ (r:V) (i:Nat) (z:V),p+1<=i->H[i]?=some z->Bt Y (mks wd r (T.drop (p+1)) (ld wd z)):=λr i z k hi=>by
  have this:=@mks_red wd _ r EB z (eB.symm ▸ drop_mem k hi)
  exact ((piv_bt h.ec h.prod (mem_of_getElem? hi)).le this.1 (Int.le_of_lt this.2)).up h.DY
 have cou:∀ z∈H,Bt Y (u2 (ld wd z)):=λz hz=>by
  obtain ⟨i,hi⟩:=List.getElem?_of_mem hz
  rcases Nat.lt_trichotomy i p with k|k|k
  ·rw[z1 _ (I.low i z k hi)];exact .zero
  ·subst k;rw[huH] at hi;cases hi
   rw[hc,c1]
   exact (aD.le (Int.le_of_lt S.g0) (le_dvd S.da pos.2)).up h.DY
  ·rw[e1];exact cod _ i z k hi
 have cov:∀ (i:Nat) (z:V),p+1<=i->H[i]?=some z->Bt Y (v2 (ld wd z)):=λi z k hi=>by rw[e2];exact cod _ i z k hi
 have low':∀ (i:Nat) (z:V),i < p+1->H[i]?=some z->ld wd z < ld wd v2:=λi z k hi=>by
  rcases Nat.lt_or_eq_of_le (Nat.le_of_lt_succ k) with k|e
  ·exact Nat.lt_trans (I.low i z k hi) l2
  ·subst e;rw[huH] at hi;cases hi;exact hc.symm ▸ l2
 have covA:∀ z∈H,Bt Y (v2 (ld wd z)):=λz hz=>by
  obtain ⟨i,hi⟩:=List.getElem?_of_mem hz
  rcases Nat.lt_or_ge i (p+1) with k|k
  ·rw[ld_zero (low' i z k hi)];exact .zero
  ·exact cov i z k hi
 have toU:Sp (Ls (v2::T.set p u2)) (λj=>s*u j+t*v j):=(Sp.mem (mem_cons_of_mem _ u2m)).comb 1 (-1) (sp1.mono λz hz=>mem_cons_of_mem _ (drop_set_mem hz)) λj=>pr14 (by rw[e1,es1])
 have toV:Sp (Ls (v2::T.set p u2)) (λj=>a'*v j+-b'*u j):=(Sp.mem mem_cons_self).comb 1 (-1) (sp2.mono λz hz=>mem_cons_of_mem _ (drop_set_mem hz)) λj=>pr14 (by rw[e2,es2])
 refine ⟨length_set.trans I.len,ecT',(set_lds hu l3).trans I.lds,hpH,(List.drop_set_of_lt (Nat.lt_succ_self p)).trans eB,low',λz hz=>(I.fw z hz).trans λz hz=>?_,λz hz=>?_,⟨_,sv2,yv⟩,x0,xp',λz hz=>?_,cov,λz hz=>?_,λz hz j hj=>?_⟩
 ·rcases mem_cons.mp hz with rfl|hz
  ·exact toU.comb b' s toV λj=>pr15 _ _ d1
  ·rcases mem_set2 hu hz with rfl|hz
   ·exact toU.comb a' (-t) toV λj=>pr16 _ _ d1
   ·exact .mem (mem_cons_of_mem _ hz)
 ·have gs:∀ {y:Int} {a:V},Sp (Ls H) a->∀ {b:V},(∀ j,b j=y*g j+a j)->Sp (Ls (g::H)) b:=λ{y a} ha {b} hb=>.lin y mem_cons_self (ha.mono λz hz=>mem_cons_of_mem _ hz) hb
  rcases mem_cons.mp hz with rfl|hz
  ·exact gs sv2 yv
  ·rcases mset z hz with rfl|hz
   ·exact gs su2 yu
   ·exact I.bw z (mem_cons_of_mem _ hz)
 ·rcases mset z hz with rfl|hz
  ·exact ⟨_,_,su2,yub,yu⟩
  ·exact I.ys z hz
 ·rcases mem_cons.mp hz with rfl|hz
  ·exact h.bd _ _ _ sv2 (λj _=>yv j) yvb covA
  ·rcases mset z hz with rfl|hz
   ·exact h.bd _ _ _ su2 (λj _=>yu j) yub cou
   ·exact I.bX z (mem_cons_of_mem _ hz)
 ·rw[Nat.add_mul,Nat.one_mul,<-Nat.add_assoc]
  rcases mem_cons.mp hz with rfl|hz
  ·exact b2 j hj
  ·rcases mset z hz with rfl|hz
   ·exact b1 j hj
   ·exact (I.bE z (mem_cons_of_mem _ hz) j hj).up (Nat.le_add_right _ _)
end
section
variable {wd w:Nat} {H T:List V} {g u v:V} {Y X C D E K p:Nat} {x:Int}
structure Pb (wd w:Nat) (T:List V) (u v:V) (Y X E' p:Nat) (g0 s t:Int):Prop where
 s1:Bt (Y+1) s
 t1:Bt (Y+2) t
 a1:Bt Y (u (ld wd v) / g0)
 b1:Bt Y (v (ld wd v) / g0)
 bB:∀ z∈u::v::T.drop (p+1),(∀ j,j < wd->Bt X (z j))/\∀ j,j < w->Bt E' (z j)
 u1:∀ j,j < wd->Bt (X+Y+3) (s*u j+t*v j)
 v1:∀ j,j < wd->Bt (X+Y+3) (u (ld wd v) / g0*v j+-(v (ld wd v) / g0)*u j)
 ue:∀ j,j < w->Bt (E'+Y+3) (s*u j+t*v j)
 ve:∀ j,j < w->Bt (E'+Y+3) (u (ld wd v) / g0*v j+-(v (ld wd v) / g0)*u j)
theorem pb_u {Y X:Nat} {s t a b:Int} (s1:Bt (Y+1) s) (t1:Bt (Y+2) t) (ha:Bt X a) (hb:Bt X b):Bt (X+Y+3) (s*a+t*b):=(s1.mul ha).add (t1.mul hb) (by lia) (by lia)
theorem pb_v {Y X:Nat} {s t a b:Int} (s1:Bt Y s) (t1:Bt Y t) (ha:Bt X a) (hb:Bt X b):Bt (X+Y+3) (s*a+-t*b):=(s1.mul ha).add (t1.neg.mul hb) (by lia) (by lia)
theorem PI.pb (h:Hy wd H g Y X C D) (I:PI wd w H g Y X C D E K p T v x) (hu:T[p]?=some u) (hc:ld wd u=ld wd v) {g0 s t:Int} (S:Shr (u (ld wd v)) (v (ld wd v)) g0 s t):Pb wd w T u v Y X (E+p*K) p g0 s t:=by
 have hm:=mem_of_getElem? hu
 have huH:H[p]?=some u:=by rw[<-get_unt I (Nat.le_refl p)];exact hu
 have bb:Bt Y (v (ld wd v)):=by have:=I.rd p u (Nat.le_refl p) huH;rwa [hc] at this
 have aD:Bt D (u (ld wd v)):=by have:=piv_bt h.ec h.prod (mem_of_getElem? huH);rwa [hc] at this
 have aY:=aD.up h.DY
 have s1:Bt (Y+1) s:=bt_s (a:=0) bb S.s1
 have t1:Bt (Y+2) t:=bt_t aY bb S.t1
 have a1:=aY.quo S.g0 S.da
 have b1:=bb.quo S.g0 S.db
 have uX:=I.bX u (mem_cons_of_mem _ hm)
 have vX:=I.bX v mem_cons_self
 have uE:=I.bE u (mem_cons_of_mem _ hm)
 have vE:=I.bE v mem_cons_self
 exact ⟨s1,t1,a1,b1,λz hz=>by
  rcases mem_cons.mp hz with rfl|hz
  ·exact ⟨uX,uE⟩
  rcases mem_cons.mp hz with rfl|hz
  ·exact ⟨vX,vE⟩
  ·have:=mem_of_mem_drop hz
   exact ⟨I.bX z (mem_cons_of_mem _ this),I.bE z (mem_cons_of_mem _ this)⟩,
  λj hj=>pb_u s1 t1 (uX j hj) (vX j hj),λj hj=>pb_v a1 b1 (vX j hj) (uX j hj),
  λj hj=>pb_u s1 t1 (uE j hj) (vE j hj),λj hj=>pb_v a1 b1 (vE j hj) (uE j hj)⟩
structure PO (wd w:Nat) (H:List V) (g:V) (X E:Nat) (T:List V) (lo:Option V):Prop where
 ec:Ec wd T
 len:T.length+lo.toList.length=H.length+1
 zr:∀ z∈lo,∀ j,j < wd->z j=0
 fw:∀ u,u∈H\/u=g->Sp (Ls (lo.toList++T)) u
 bw:∀ u∈lo.toList++T,Sp (Ls (g::H)) u
 bX:∀ u∈T,∀ j,j < wd->Bt X (u j)
 bE:∀ u∈lo.toList++T,∀ j,j < w->Bt E (u j)
theorem PI.left (I:PI wd w H g Y X C D E K p T v x) (hl:H.length<=8) (h:¬ ld wd v < wd):PO wd w H g X (E+8*K) T (some v) where
 ec:=I.ec
 len:=by show T.length+1=_;rw[I.len]
 zr:=λz hz j hj=>by cases hz;exact ld_zero (wd:=wd) (by lia)
 fw:=λu hu=>I.fw u hu
 bw:=λu hu=>I.bw u hu
 bX:=λu hu=>I.bX u (mem_cons_of_mem _ hu)
 bE:=λu hu j hj=>(I.bE u hu j hj).up (Nat.add_le_add_left (Nat.mul_le_mul_right _ (Nat.le_trans I.ple hl)) _)
theorem sg_pos {x:Int} (h:x≠0):0 < (if 0 < x then x else -x):=by split<;>lia
theorem sg_sg {g x:Int} (h:g=1\/g=-1):x=g*(g*x):=by rcases h with rfl|rfl<;>lia
theorem ins_ec {T:List V} {c:Nat} {v2:V} (E:Ec wd T) (hpl:p<=T.length) (l2:ld wd v2=c) (hc:c < wd) (p2:0 < v2 (ld wd v2)) (lowT:∀ (i:Nat) (u:V),i < p->T[i]?=some u->ld wd u < c) (hiT:∀ (i:Nat) (u:V),p<=i->T[i]?=some u->c < ld wd u):Ec wd (T.insertIdx p v2):=by
 refine ec_of (λz hz=>?_) λi j a b ha hb hij=>?_
 ·rcases (List.mem_insertIdx hpl).mp hz with rfl|hz
  ·exact ⟨l2 ▸ hc,p2⟩
  ·exact E.pos z hz
 ·rw[List.getElem?_insertIdx] at ha hb
  clear hc p2
  split at ha
  ·rename_i h1
   split at hb
   ·exact pw_lt E ha hb hij
   ·split at hb
    ·rw[if_pos (by lia)] at hb;cases hb;rw[l2];exact lowT i a h1 ha
    ·exact pw_lt E ha hb (by lia)
  ·split at ha
   ·rw[if_pos (by lia)] at ha;cases ha
    rw[if_neg (by lia),if_neg (by lia)] at hb
    rw[l2];exact hiT _ b (by lia) hb
   ·rw[if_neg (by lia),if_neg (by lia)] at hb
    exact pw_lt E ha hb (by lia)
theorem PI.insert (I:PI wd w H g Y X C D E K p T v x) (hl:H.length<=8) (h:ld wd v < wd) (hp:∀ u,T[p]?=some u->ld wd v < ld wd u) {v2:V} (hv:∀ j,v2 j=if 0 < v (ld wd v) then v j else -(v j)):PO wd w H g X (E+8*K) (T.insertIdx p v2) none:=by
 have hpl:p<=T.length:=by rw[I.len];exact I.ple
 obtain ⟨sg,hs1,hs2⟩:∃ sg:Int,(sg=1\/sg=-1)/\∀ j,v2 j=sg*v j:=by
  by_cases z:0 < v (ld wd v)
  ·exact ⟨1,.inl rfl,λj=>by rw[hv,if_pos z,Int.one_mul]⟩
  ·exact ⟨-1,.inr rfl,λj=>by rw[hv,if_neg z,Int.neg_mul,Int.one_mul]⟩
 have p0:0 < v2 (ld wd v):=by rw[hv];exact sg_pos (ld_ne h)
 have l2:ld wd v2=ld wd v:=ld_of h (Int.ne_of_gt p0) λj hj=>by rw[hs2,ld_zero hj,Int.mul_zero]
 have mi:∀ z,z∈T.insertIdx p v2 ↔ z=v2\/z∈T:=λz=>List.mem_insertIdx hpl
 have vb:∀ {b:Nat} {n:Nat},(∀ j,j < n->Bt b (v j))->∀ j,j < n->Bt b (v2 j):=λhb j hj=>by rw[hv];split;exact hb j hj;exact (hb j hj).neg
 have vT:Sp (Ls (T.insertIdx p v2)) v:=(Sp.mem ((mi v2).mpr (.inl rfl))).mul sg λj=>by rw[hs2];exact sg_sg hs1
 refine ⟨ins_ec I.ec hpl l2 h (l2.symm ▸ p0) (λi u hi hu=>?_) λi u hi hu=>?_,?_,λz hz=>(by cases hz),λz hz=>(I.fw z hz).trans λz hz=>?_,λz hz=>?_,λz hz=>?_,λz hz j hj=>?_⟩
 ·obtain ⟨t,ht⟩:∃ t,H[i]?=some t:=⟨_,List.getElem?_eq_getElem (Nat.lt_of_lt_of_le hi I.ple)⟩
  rw[lds_get I.lds hu ht]
  exact I.low i t hi ht
 ·rcases Nat.lt_or_eq_of_le hi with e|e
  ·obtain ⟨t,ht⟩:∃ t,T[p]?=some t:=⟨_,List.getElem?_eq_getElem (Nat.lt_trans e (List.getElem?_eq_some_iff.mp hu).1)⟩
   exact Nat.lt_trans (hp t ht) (pw_lt I.ec ht hu e)
  ·subst e;exact hp u hu
 ·rw[List.length_insertIdx_of_le_length hpl,I.len];rfl
 ·rcases mem_cons.mp hz with rfl|hz
  ·exact vT
  ·exact .mem ((mi z).mpr (.inr hz))
 ·rcases (mi z).mp hz with rfl|hz
  ·exact (I.bw v mem_cons_self).mul sg hs2
  ·exact I.bw z (mem_cons_of_mem _ hz)
 ·rcases (mi z).mp hz with rfl|hz
  ·exact vb (I.bX v mem_cons_self)
  ·exact I.bX z (mem_cons_of_mem _ hz)
 ·refine Bt.up (b:=E+p*K) ?_ (Nat.add_le_add_left (Nat.mul_le_mul_right _ (Nat.le_trans I.ple hl)) _)
  rcases (mi z).mp hz with rfl|hz
  ·exact vb (I.bE v mem_cons_self) j hj
  ·exact I.bE z (mem_cons_of_mem _ hz) j hj
structure Ti (wd w:Nat) (T:List V) (X E K i:Nat) (U:List V):Prop where
 len:U.length=T.length
 ec:Ec wd U
 lds:U.map (ld wd)=T.map (ld wd)
 pvs:∀ (j:Nat) (a b:V),U[j]?=some a->T[j]?=some b->a (ld wd a)=b (ld wd b)
 td:Td wd (U.drop i)
 unt:U.take i=T.take i
 fw:∀ u∈T,Sp (Ls U) u
 bw:∀ u∈U,Sp (Ls T) u
 bX:∀ u∈U,∀ j,j < wd->Bt X (u j)
 bE:∀ u∈U,∀ j,j < w->Bt (E+(T.length - i)*K) (u j)
theorem Ti.start (h:Ec wd T) (hX:∀ u∈T,∀ j,j < wd->Bt X (u j)) (hE:∀ u∈T,∀ j,j < w->Bt E (u j)):Ti wd w T X E K T.length T where
 len:=rfl
 ec:=h
 lds:=rfl
 pvs:=λj a b h1 h2=>by rw[h1] at h2;cases h2;rfl
 td:=by rw[List.drop_length];exact .nil
 unt:=rfl
 fw:=λu hu=>.mem hu
 bw:=λu hu=>.mem hu
 bX:=hX
 bE:=λu hu j hj=>(hE u hu j hj).up (by lia)
theorem sub_one {n i:Nat} (h:i < n):n - i=n - (i+1)+1:=(Nat.succ_pred_eq_of_pos (Nat.sub_pos_of_lt h)).symm
theorem Ti.step {i:Nat} {U:List V} (I:Ti wd w T X E K (i+1) U) (hT:Ec wd T) (hp:Bt D (pv wd T)) (hY:D<=Y) (hb:∀ u,Sp (Ls T) u->(∀ v∈T,Bt Y (u (ld wd v)))->∀ j,j < wd->Bt X (u j)) (hi:i < T.length)
  (hu:U[i]?=some u) {u2:V} (e2:∀ j,u2 j=mks wd u (U.drop (i+1)) j) (b2:∀ j,j < w->Bt (E+(T.length - (i+1))*K+K) (u2 j)):Ti wd w T X E K i (U.set i u2):=by
 have hiU:i < U.length:=by rw[I.len];exact hi
 have EB:Ec wd (U.drop (i+1)):=I.ec.drop _
 have hm:=mem_of_getElem? hu
 obtain ⟨p1,p2⟩:=I.ec.pos u hm
 have out:∀ j,j<=ld wd u->u2 j=u j:=λj hj=>(e2 j).trans (out_of I.ec hu u hj)
 have l2:ld wd u2=ld wd u:=ld_of p1 (by rw[out _ (Nat.le_refl _)];exact Int.ne_of_gt p2) λj hj=>by rw[out j (Nat.le_of_lt hj),ld_zero hj]
 have c2:u2 (ld wd u2)=u (ld wd u):=by rw[l2,out _ (Nat.le_refl _)]
 obtain ⟨h1,sp1,es1⟩:=@mks_sp wd (U.drop (i+1)) u
 have u2m:u2∈U.set i u2:=set_mem hiU
 have bw2:Sp (Ls T) u2:=(I.bw u hm).add (sp1.trans λz hz=>I.bw z (mem_of_mem_drop hz)) λj=>by rw[e2,es1]
 have pvU:∀ z∈U,Bt Y (z (ld wd z)):=λz hz=>by
  obtain ⟨k,hk⟩:=List.getElem?_of_mem hz
  obtain ⟨t,ht⟩:∃ t,T[k]?=some t:=⟨_,List.getElem?_eq_getElem (by rw[<-I.len];exact (List.getElem?_eq_some_iff.mp hk).1)⟩
  rw[I.pvs k z t hk ht]
  exact (piv_bt hT hp (mem_of_getElem? ht)).up hY
 have co:∀ v∈T,Bt Y (u2 (ld wd v)):=λv hv=>by
  obtain ⟨k,hk⟩:=List.getElem?_of_mem hv
  obtain ⟨z,hz⟩:∃ z,U[k]?=some z:=⟨_,List.getElem?_eq_getElem (by rw[I.len];exact (List.getElem?_eq_some_iff.mp hk).1)⟩
  rw[<-lds_get I.lds hz hk]
  rcases Nat.lt_trichotomy k i with g|g|g
  ·have:=pw_lt I.ec hz hu g
   rw[out _ (Nat.le_of_lt this),ld_zero this];exact .zero
  ·subst g;rw[hu] at hz;cases hz
   rw[out _ (Nat.le_refl _)];exact pvU u hm
  ·have hz':z∈U.drop (i+1):=drop_mem g hz
   rw[e2]
   have:=@mks_red wd _ u EB z hz'
   exact (pvU z (mem_of_getElem? hz)).le this.1 (Int.le_of_lt this.2)
 refine ⟨by rw[length_set];exact I.len,set_ec I.ec hu l2 (by rw[c2];exact p2),by rw[set_lds hu l2];exact I.lds,λj a b ha hb'=>?_,?_,?_,λz hz=>(I.fw z hz).trans λz hz=>?_,λz hz=>?_,λz hz=>?_,λz hz j hj=>?_⟩
 ·rw[List.getElem?_set] at ha
  split at ha
  ·rename_i e;subst e;cases ha
   rw[c2];exact I.pvs i u b hu hb'
  ·exact I.pvs j a b ha hb'
 ·rw[List.drop_set,if_neg (Nat.lt_irrefl i),Nat.sub_self,List.drop_eq_getElem_cons hiU]
  show Td wd (u2::U.drop (i+1))
  refine List.pairwise_cons.mpr ⟨λz hz=>?_,I.td⟩
  rw[e2]
  exact mks_red EB z hz
 ·rw[List.take_set_of_le (Nat.le_refl i)]
  have:=congrArg (List.take i) I.unt
  rwa [List.take_take,List.take_take,Nat.min_eq_left (Nat.le_succ i)] at this
 ·rcases mem_set2 hu hz with rfl|hz
  ·exact (Sp.mem u2m).comb 1 (-1) (sp1.mono λz hz=>drop_set_mem hz) λj=>pr14 (by rw[e2,es1])
  ·exact .mem hz
 ·rcases mem_or_eq_of_mem_set hz with hz|rfl
  ·exact I.bw z hz
  ·exact bw2
 ·rcases mem_or_eq_of_mem_set hz with hz|rfl
  ·exact I.bX z hz
  ·exact hb _ bw2 co
 ·rw[sub_one hi,Nat.add_mul,Nat.one_mul,<-Nat.add_assoc]
  rcases mem_or_eq_of_mem_set hz with hz|rfl
  ·exact (I.bE z hz j hj).up (Nat.le_add_right _ _)
  ·exact b2 j hj
end
end M06
namespace MNew
open MDet
theorem det_zrow {n:Nat} (M:Mat) {i:Nat} (hi:i < n):det n (rs M i λ_=>0)=0:=by
 have:=det_lin 1 M (λ_=>0) (λ_=>0) hi
 simp only[Int.mul_zero,Int.add_zero,Int.one_mul] at this
 lia
def cof (n:Nat) (M:Mat) (i j:Nat):Int:=det n (rs M i (eu j))
theorem row_part {n:Nat} (M:Mat) {i:Nat} (hi:i < n) (v:Nat->Int):∀ m,det n (rs M i λc=>if c < m then v c else 0)=S m λj=>v j*cof n M i j
 | 0=>by
  have:(λc=>if c < 0 then v c else 0)=λ_=>(0:Int):=by funext c;rw[if_neg (by lia)]
  rw[this,det_zrow M hi];rfl
 | m+1=>by
  have e:(λc=>if c < m+1 then v c else 0)=λc=>v m*eu m c+(if c < m then v c else 0):=by
   funext c
   unfold eu
   by_cases h1:c=m
   ·subst h1;rw[if_pos (by lia),if_pos rfl,if_neg (by lia)];lia
   ·by_cases h2:c < m
    ·rw[if_pos (by lia),if_neg h1,if_pos h2];lia
    ·rw[if_neg (by lia),if_neg h1,if_neg h2];lia
  rw[e,det_lin _ M _ _ hi,row_part M hi v m,S_succ,Int.add_comm];rfl
theorem row_exp {n:Nat} (M:Mat) {i:Nat} (hi:i < n) (v:Nat->Int):det n (rs M i v)=S n λj=>v j*cof n M i j:=by
 rw[<-row_part M hi v n]
 refine det_congr λr c _ hc=>?_
 unfold rs
 split
 ·show v c=if c < n then v c else 0
  rw[if_pos hc]
 ·rfl
theorem cof_mul {n:Nat} (M:Mat) {i k:Nat} (hi:i < n) (hk:k < n):(S n λj=>M k j*cof n M i j)=if k=i then det n M else 0:=by
 rw[<-row_exp M hi (M k)]
 split
 ·rename_i h
  subst h
  rw[rs_same]
 ·rename_i h
  refine det_eq0 hi hk (λz=>h z.symm) λc=>?_
  unfold rs
  rw[if_pos rfl,if_neg h]
def ev (N:Nat) (c:Nat->Int) (x:Int):Int:=S N λi=>c i*x ^ i
def mx (A:Mat) (x:Int):Mat:=λi j=>idm i j - x*A i j
def ps (n:Nat) (A:Mat) (k:Nat):Int:=S n λi=>M36.mpow n A k i i
end MNew
namespace M06
open MDet
theorem sp_0 {a:Int} (h:a=a+a):a=0:=by lia
theorem det_sp {k:Nat} {A:V->Prop} {J:Int->Prop} (J0:J 0) (Jl:∀ x a b:Int,J a->J b->J (x*a+b)) (γ:Nat->Nat) (h:∀ a:Nat->V,(∀ i,i < k->A (a i))->J (det k λi j=>a i (γ j))) (a:Nat->V) (ha:∀ i,i < k->Sp A (a i)):J (det k λi j=>a i (γ j)):=by
 have P:∀ t,t<=k->∀ a:Nat->V,(∀ i,i < t->Sp A (a i))->(∀ i,t<=i->i < k->A (a i))->J (det k λi j=>a i (γ j)):=by
  intro t
  induction t with
  | zero=>exact λ_ a _ h2=>h a λi hi=>h2 i (Nat.zero_le _) hi
  | succ t ih =>
   intro ht a h1 h2
   have key:∀ u:V,Sp A u->J (det k (rs (λi j=>a i (γ j)) t λj=>u (γ j))):=by
    intro u hu
    induction hu with
    | zero z =>
     rename_i w
     have hl:=det_lin 1 (λi j=>a i (γ j)) (k:=t) (λj=>w (γ j)) (λj=>w (γ j)) ht
     have e:(λc=>1*w (γ c)+w (γ c))=λj=>w (γ j):=by funext c;rw[z];lia
     rw[e] at hl
     have:det k (rs (λi j=>a i (γ j)) t λj=>w (γ j))=0:=by rw[Int.one_mul] at hl;exact sp_0 hl
     rw[this];exact J0
    | @lin u v w x hu _ e ihv =>
     have hl:=det_lin x (λi j=>a i (γ j)) (k:=t) (λj=>u (γ j)) (λj=>v (γ j)) ht
     have e':(λc=>x*u (γ c)+v (γ c))=λj=>w (γ j):=by funext c;rw[e]
     rw[e'] at hl
     rw[hl]
     refine Jl _ _ _ ?_ ihv
     have:=ih (Nat.le_of_succ_le ht) (λi=>if i=t then u else a i) (λi hi=>by rw[if_neg (Nat.ne_of_lt hi)];exact h1 i (Nat.lt_succ_of_lt hi)) (λi hi hk=>by
      by_cases z:i=t
      ·rw[if_pos z];exact hu
      ·rw[if_neg z];exact h2 i (Nat.lt_of_le_of_ne hi (Ne.symm z)) hk)
     have em:(λi j=>(if i=t then u else a i) (γ j))=rs (λi j=>a i (γ j)) t λj=>u (γ j):=by
      funext i j;unfold rs;split<;>rfl
     rw[em] at this
     exact this
   have:=key (a t) (h1 t (Nat.lt_succ_self t))
   have em:rs (λi j=>a i (γ j)) t (λj=>a t (γ j))=λi j=>a i (γ j):=rs_same (λi j=>a i (γ j)) t
   rw[em] at this
   exact this
 exact P k (Nat.le_refl k) a ha λi h1 h2=>absurd h2 (Nat.not_lt_of_le h1)
abbrev nil0:V:=λ_=>0
theorem Sp.coef:∀ {H:List V} {w:V},Sp (Ls H) w->∃ c:Nat->Int,∀ n,H.length<=n->∀ j,w j=S n λl=>c l*(H.getD l nil0) j
 | [],w,h=>⟨λ_=>0,λn _ j=>by rw[h.nil,S_zero λi _=>Int.zero_mul _]⟩
 | v::H,w,h=>by
  obtain ⟨x,w',s,e⟩:=h.cons
  obtain ⟨c,hc⟩:=Sp.coef s
  refine ⟨λl=>if l=0 then x else c (l - 1),λn hn j=>?_⟩
  obtain ⟨m,rfl⟩:∃ m,n=m+1:=⟨n - 1,by rw[length_cons] at hn;lia⟩
  rw[S_head,e,hc m (by rw[length_cons] at hn;lia)]
  rfl
theorem det_upper {wd:Nat}:∀ {H:List V},Ec wd H->det H.length (λi j=>(H.getD i nil0) (ld wd (H.getD j nil0)))=pv wd H
 | [],_=>rfl
 | v::H,E=>by
  rw[length_cons,det_col λi h1 h2=>?_]
  ·show v (ld wd v)*_=v (ld wd v)*pv wd H
   rw[<-det_upper E.tail]
   rfl
  ·obtain ⟨m,rfl⟩:∃ m,i=m+1:=⟨i - 1,by lia⟩
   show (H.getD m nil0) (ld wd v)=0
   have hm:m < H.length:=by lia
   rw[getD_eq_getElem?_getD,List.getElem?_eq_getElem hm]
   exact E.head (List.getElem_mem hm)
theorem det_made {wd k:Nat} {H:List V} (E:Ec wd H) {a:Nat->V} {γ:Nat->Nat} (h:∀ i,i < k->∃ u,Sp (Ls H) u/\∀ j,j < k->a i (γ j)=u (γ j)) (hk:H.length<=k) :
  ∃ c:Int,det k (λi j=>a i (γ j))=c*det k λi j=>(H.getD i nil0) (γ j):=by
 have:∀ i,∃ c:Nat->Int,i < k->∀ j,j < k->a i (γ j)=S k λl=>c l*(H.getD l nil0) (γ j):=λi=>by
  by_cases hi:i < k
  ·obtain ⟨u,s,e⟩:=h i hi
   obtain ⟨c,hc⟩:=s.coef
   exact ⟨c,λ_ j hj=>by rw[e j hj];exact hc k hk (γ j)⟩
  ·exact ⟨λ_=>0,λz=>absurd z hi⟩
 obtain ⟨c,hc⟩:=Classical.axiomOfChoice this
 refine ⟨det k c,?_⟩
 rw[<-det_mul]
 exact det_congr λi j hi hj=>hc i hi j hj
theorem det_more {wd k:Nat} {H:List V} (E:Ec wd H) {a:Nat->V} {γ:Nat->Nat} (h:∀ i,i < k->∃ u,Sp (Ls H) u/\∀ j,j < k->a i (γ j)=u (γ j)) (hk:H.length < k):det k (λi j=>a i (γ j))=0:=by
 obtain ⟨c,hc⟩:=det_made E h (Nat.le_of_lt hk)
 obtain ⟨m,rfl⟩:∃ m,k=m+1:=⟨k - 1,by lia⟩
 rw[hc]
 have:det (m+1) (λi j=>(H.getD i nil0) (γ j))=0:=by
  rw[<-det_tr,]
  have hl:=det_lin 1 (λi j=>(H.getD i nil0) (γ j)) (k:=m) (λ_=>0) (λ_=>0) (by lia:m < m+1)
  have e:rs (λi j=>(H.getD i nil0) (γ j)) m (λ_=>0)=λi j=>(H.getD i nil0) (γ j):=by
   funext i j
   unfold rs
   split
   ·rename_i z
    subst z
    rw[getD_eq_getElem?_getD,List.getElem?_eq_none (by lia)];rfl
   ·rfl
  have e2:(λc:Nat=>1*(λ_=>(0:Int)) c+(λ_=>(0:Int)) c)=λ_=>0:=by funext c;rfl
  rw[e2,e] at hl
  rw[det_tr]
  lia
 rw[this,Int.mul_zero]
theorem Sp.sum {A:V->Prop} {n:Nat} {c:Nat->Int} {f:Nat->V} (h:∀ i,i < n->Sp A (f i)):Sp A (λj=>S n λi=>c i*f i j):=by
 induction n with
 | zero=>exact .zero λ_=>rfl
 | succ n ih=>exact (ih λi hi=>h i (by lia)).comb 1 (c n) (h n (by lia)) λj=>by show S n (λi=>c i*f i j)+c n*f n j=1*S n (λi=>c i*f i j)+c n*f n j;lia
theorem Bt.sum {b n:Nat} {f:Nat->Int} (hn:n<=8) (h:∀ i,i < n->Bt b (f i)):Bt (b+3) (S n f):=by
 have:=S_bd (2 ^ b - 1) n f λi hi=>by have:=h i hi;unfold Bt at this;lia
 have h2:=Nat.two_pow_pos b
 have h3:=Nat.mul_le_mul_right (2 ^ b - 1) hn
 unfold Bt
 rw[Nat.pow_add]
 lia
theorem Bt.det {b n:Nat} {a:Mat} (hn:n<=8) (h:∀ i j,i < n->j < n->Bt b (a i j)):Bt ((b+3)*n+1) (MDet.det n a):=by
 have:=det_bdc b n a hn λi j hi hj=>Nat.le_of_lt (h i j hi hj)
 unfold Bt
 exact Nat.lt_of_le_of_lt this (Nat.pow_lt_pow_right (by decide) (by lia))
theorem ec_len {wd:Nat} {H:List V} (E:Ec wd H):H.length<=wd:=by
 have:∀ (H:List V) (c:Nat),Ec wd H->(∀ v∈H,c<=ld wd v)->H.length+c<=wd\/H=[]:=by
  intro H
  induction H with
  | nil=>intro c _ _;exact .inr rfl
  | cons v H ih =>
   intro c E h
   have h1:=h v mem_cons_self
   have h2:=(E.pos v mem_cons_self).1
   rcases ih (ld wd v+1) E.tail λu hu=>(List.pairwise_cons.mp E.pw).1 u hu with h3|rfl
   ·left;rw[length_cons];lia
   ·left;simp;lia
 rcases this H 0 E (λ_ _=>Nat.zero_le _) with h|rfl
 ·lia
 ·simp
structure Eqv (wd:Nat) (H G:List V):Prop where
 fw:∀ r∈G,∃ h,Sp (Ls H) h/\∀ j,j < wd->r j=h j
 bw:∀ u∈H,∃ r,Sp (Ls G) r/\∀ j,j < wd->u j=r j
theorem getD_mem {H:List V} {i:Nat} (h:i < H.length):H.getD i nil0∈H:=by rw[getD_eq_getElem?_getD,List.getElem?_eq_getElem h];exact List.getElem_mem h
theorem Eqv.sel {wd:Nat} {H G:List V} (e:Eqv wd H G) (E:Ec wd H):∃ a:Nat->V,(∀ i,i < H.length->a i∈G)/\det H.length (λi j=>a i (ld wd (H.getD j nil0)))≠0:=by
 refine Classical.byContradiction λhn=>?_
 have h0:∀ a:Nat->V,(∀ i,i < H.length->a i∈G)->det H.length (λi j=>a i (ld wd (H.getD j nil0)))=0:=λa ha=>Classical.byContradiction λz=>hn ⟨a,ha,z⟩
 have:∀ i,∃ r:V,i < H.length->Sp (Ls G) r/\∀ j,j < wd->(H.getD i nil0) j=r j:=λi=>by
  by_cases hi:i < H.length
  ·obtain ⟨r,h1,h2⟩:=e.bw _ (getD_mem hi)
   exact ⟨r,λ_=>⟨h1,h2⟩⟩
  ·exact ⟨nil0,λz=>absurd z hi⟩
 obtain ⟨b,hb⟩:=Classical.axiomOfChoice this
 have:=det_sp (J:=λx=>x=0) rfl (λx a b h1 h2=>by rw[h1,h2];lia) (λj=>ld wd (H.getD j nil0)) h0 b λi hi=>(hb i hi).1
 have h2:=det_upper E
 rw[det_congr (b:=λi j=>b i (ld wd (H.getD j nil0))) λi j hi hj=>(hb i hi).2 _ (E.pos _ (getD_mem hj)).1] at h2
 exact absurd (h2.symm.trans this) (Int.ne_of_gt (pv_pos E))
theorem le_abs_dvd {a b:Int} (h:a ∣ b) (hb:b≠0) (ha:0 < a):a.natAbs<=b.natAbs:=Nat.le_of_dvd (by lia) (Int.natAbs_dvd_natAbs.mpr h)
theorem sz_0 (d u:Int):d*u+-1*(u*d)=0:=by rw[Int.mul_comm u d];lia
theorem sz_1 {x:Int} (h:0 < x):(0:Int).natAbs < x.natAbs:=by lia
theorem sz_2 {a b:Int} (h:a+-1*b=0):a=b:=by lia
theorem sz_3 {k:Nat} {d x:Int} (hd:d≠0) (h:Bt k (d*x)):Bt k x:=by
 unfold Bt at *
 rw[Int.natAbs_mul] at h
 exact Nat.lt_of_le_of_lt (Nat.le_mul_of_pos_left _ (Int.natAbs_pos.mpr hd)) h
theorem sz_4 (b y n:Nat):y+((b+3)*n+1+b+3)+3<=y+(b+3)*(n+1)+4:=by rw[Nat.mul_add,Nat.mul_one];lia
theorem Eqv.size {wd b:Nat} {H G:List V} (e:Eqv wd H G) (E:Ec wd H) (h8:wd<=8) (b1:1<=b) (hb:∀ r∈G,∀ j,j < wd->Bt b (r j)) :
  Bt ((b+3)*H.length+1) (pv wd H)/\∀ (u:V) (y:Nat),Sp (Ls H) u->(∀ v∈H,Bt y (u (ld wd v)))->∀ j,j < wd->Bt (y+(b+3)*(H.length+1)+4) (u j):=by
 obtain ⟨a,ha,hd⟩:=e.sel E
 have hl8:=Nat.le_trans (ec_len E) h8
 have hp:pv wd H ∣ det H.length (λi j=>a i (ld wd (H.getD j nil0))):=by
  obtain ⟨c,hc⟩:=det_made (k:=H.length) (γ:=λj=>ld wd (H.getD j nil0)) (a:=a) E (λi hi=>by
   obtain ⟨h,h1,h2⟩:=e.fw _ (ha i hi)
   exact ⟨h,h1,λj hj=>h2 _ (E.pos _ (getD_mem hj)).1⟩) (Nat.le_refl _)
  rw[det_upper E] at hc
  exact ⟨c,by rw[hc,Int.mul_comm]⟩
 have hba:∀ i j,i < H.length->j < H.length->Bt b (a i (ld wd (H.getD j nil0))):=λi j hi hj=>hb _ (ha i hi) _ (E.pos _ (getD_mem hj)).1
 have hD:=Bt.det hl8 hba
 refine ⟨Nat.lt_of_le_of_lt (le_abs_dvd hp hd (pv_pos E)) hD,λu y su hu j hj=>?_⟩
 generalize hδ:det H.length (λi j=>a i (ld wd (H.getD j nil0)))=δ at *
 obtain ⟨Mt,hMt⟩:∃ Mt:Mat,Mt=λr c=>a c (ld wd (H.getD r nil0)):=⟨_,rfl⟩
 have hdt:det H.length Mt=δ:=by rw[hMt,<-hδ];exact det_tr _ (λi j=>a i (ld wd (H.getD j nil0)))
 obtain ⟨Ep,hEp⟩:∃ Ep:Nat->V,Ep=λp j=>S H.length λi=>MNew.cof H.length Mt p i*a i j:=⟨_,rfl⟩
 have E1:∀ p q,p < H.length->q < H.length->Ep p (ld wd (H.getD q nil0))=if q=p then δ else 0:=λp q hp hq=>by
  have:=MNew.cof_mul Mt hp hq
  rw[hdt] at this
  rw[<-this,hEp]
  exact S_congr λi hi=>by rw[hMt];exact Int.mul_comm _ _
 have cb:∀ p i,p < H.length->i < H.length->Bt ((b+3)*H.length+1) (MNew.cof H.length Mt p i):=λp i hp hi=>Bt.det hl8 λr c hr hc=>by
  unfold rs eu
  split
  ·split
   ·exact Bt.up (b:=1) (show (1:Int).natAbs < 2 ^ 1 by decide) b1
   ·exact .zero
  ·rw[hMt];exact hba _ _ hc hr
 have:∀ i,∃ h:V,i < H.length->Sp (Ls H) h/\∀ j,j < wd->a i j=h j:=λi=>by
  by_cases hi:i < H.length
  ·obtain ⟨r,h1,h2⟩:=e.fw _ (ha i hi)
   exact ⟨r,λ_=>⟨h1,h2⟩⟩
  ·exact ⟨nil0,λz=>absurd z hi⟩
 obtain ⟨hs,hhs⟩:=Classical.axiomOfChoice this
 have sE:∀ p,p < H.length->Sp (Ls H) (λj=>S H.length λi=>MNew.cof H.length Mt p i*hs i j):=λp _=>Sp.sum λi hi=>(hhs i hi).1
 have eE:∀ p j,p < H.length->j < wd->(S H.length λi=>MNew.cof H.length Mt p i*hs i j)=Ep p j:=λp j _ hj=>by
  rw[hEp]
  exact S_congr λi hi=>by rw[(hhs i hi).2 j hj]
 have sw:Sp (Ls H) (λj=>δ*u j+-1*S H.length λp=>u (ld wd (H.getD p nil0))*S H.length λi=>MNew.cof H.length Mt p i*hs i j):=su.comb δ (-1) (Sp.sum sE) λj=>rfl
 have z:=E.null sw λv hv=>by
  obtain ⟨q,hq,rfl⟩:=mem_iff_getElem.mp hv
  have ev:H[q]=H.getD q nil0:=by rw[getD_eq_getElem?_getD,List.getElem?_eq_getElem hq];rfl
  rw[ev]
  have hg:=(E.pos _ (getD_mem hq))
  have:(S H.length λp=>u (ld wd (H.getD p nil0))*S H.length λi=>MNew.cof H.length Mt p i*hs i (ld wd (H.getD q nil0)))=u (ld wd (H.getD q nil0))*δ:=by
   rw[S_one q hq λp hp hpq=>by rw[eE p _ hp hg.1,E1 p q hp hq,if_neg (λz=>hpq z.symm),Int.mul_zero]]
   rw[eE q _ hq hg.1,E1 q q hq hq,if_pos rfl]
  show (δ*u (ld wd (H.getD q nil0))+-1*_).natAbs < _
  rw[this]
  rw[sz_0]
  exact sz_1 hg.2
 have z1:=z j
 have hval:δ*u j=S H.length λp=>u (ld wd (H.getD p nil0))*Ep p j:=by
  have:(S H.length λp=>u (ld wd (H.getD p nil0))*S H.length λi=>MNew.cof H.length Mt p i*hs i j)=S H.length λp=>u (ld wd (H.getD p nil0))*Ep p j:=S_congr λp hp=>by rw[eE p j hp hj]
  rw[this] at z1
  exact sz_2 z1
 have bE:∀ p,p < H.length->Bt ((b+3)*H.length+1+b+3) (Ep p j):=λp hp=>by
  rw[hEp]
  exact Bt.sum hl8 λi hi=>(cb p i hp hi).mul (hb _ (ha i hi) j hj)
 have bS:Bt (y+((b+3)*H.length+1+b+3)+3) (δ*u j):=by
  rw[hval]
  exact Bt.sum hl8 λp hp=>(hu _ (getD_mem hp)).mul (bE p hp)
 exact (sz_3 hd bS).up (sz_4 b y H.length)
structure RegI (wd:Nat) (R:List V) (Y X C D i:Nat) (H:List V):Prop where
 len:H.length<=8
 prod:Bt D (pv wd H)
 b0:∀ u,Sp (Ls H) u->(∀ v∈H,Bt Y (u (ld wd v)))->∀ j,j < wd->Bt X (u j)
 bd:∀ g,R[i]?=some g->(∀ j,j < wd->Bt Y (g j))/\∀ (y:Int) (h u:V),Sp (Ls H) h->(∀ j,j < wd->u j=y*g j+h j)->Bt C y->(∀ v∈H,Bt Y (u (ld wd v)))->∀ j,j < wd->Bt X (u j)
structure Reg (wd:Nat) (R:List V) (Y X C D:Nat):Prop where
 DY:D<=Y
 CC:D+Y+2<=C
 reg:∀ i H,i<=R.length->Ec wd H->Eqv wd H (R.take i)->RegI wd R Y X C D i H
structure SI (wd w:Nat) (R:List V) (X E KK i:Nat) (H Z:List V):Prop where
 ec:Ec wd H
 td:Td wd H
 len:H.length+Z.length=i
 ile:i<=R.length
 zr:∀ z∈Z,∀ j,j < wd->z j=0
 fw:∀ r∈R.take i,Sp (Ls (Z++H)) r
 bw:∀ u∈Z++H,Sp (Ls (R.take i)) u
 bH:∀ u∈H,Sp (λr=>r∈R.take i/\∃ j,j < wd/\r j≠0) u
 bX:∀ u∈H,∀ j,j < wd->Bt X (u j)
 bE:∀ u∈Z++H,∀ j,j < w->Bt (E+i*KK) (u j)
 zs:((R.take i).filter λr=>decide (ld wd r=wd)).length<=Z.length/\(Z.length=((R.take i).filter λr=>decide (ld wd r=wd)).length->∀ z∈Z,z∈R)
section
variable {wd w:Nat} {R H Z T U:List V} {g:V} {Y X C D E KK K i:Nat}
theorem SI.eqv (S:SI wd w R X E KK i H Z):Eqv wd H (R.take i) where
 fw:=λr hr=>by
  have:∀ {r:V},Sp (Ls (Z++H)) r->∃ h,Sp (Ls H) h/\∀ j,j < wd->r j=h j:=λ{r} h=>by
   induction h with
   | zero z=>exact ⟨nil0,.zero λ_=>rfl,λj _=>z j⟩
   | @lin u v w x hu _ e ih =>
    obtain ⟨h,h1,h2⟩:=ih
    rcases mem_append.mp hu with hu|hu
    ·exact ⟨h,h1,λj hj=>by rw[e,S.zr u hu j hj,h2 j hj];lia⟩
    ·exact ⟨λj=>x*u j+h j,.lin x hu h1 λ_=>rfl,λj hj=>by rw[e,h2 j hj]⟩
  exact this (S.fw r hr)
 bw:=λu hu=>⟨u,S.bw u (mem_append_right _ hu),λ_ _=>rfl⟩
theorem SI.start:SI wd w R X E KK 0 [] [] where
 ec:=⟨λ_ z=>(by cases z),.nil⟩
 td:=.nil
 len:=rfl
 ile:=Nat.zero_le _
 zr:=λ_ z=>(by cases z)
 fw:=λ_ z=>(by cases z)
 bw:=λ_ z=>(by cases z)
 bH:=λ_ z=>(by cases z)
 bX:=λ_ z=>(by cases z)
 bE:=λ_ z=>(by cases z)
 zs:=⟨Nat.zero_le _,λ_ _ z=>(by cases z)⟩
theorem SI.hy (S:SI wd w R X E KK i H Z) (G:Reg wd R Y X C D) (hg:R[i]?=some g):Hy wd H g Y X C D:=by
 have r:=G.reg i H S.ile S.ec S.eqv
 exact ⟨S.ec,S.td,r.len,r.prod,(r.bd g hg).1,G.DY,G.CC,(r.bd g hg).2⟩
theorem SI.gE (S:SI wd w R X E KK i H Z) (hg:R[i]?=some g) (hE:∀ r∈R,∀ j,j < w->Bt E (r j)):∀ u∈g::H,∀ j,j < w->Bt (E+i*KK) (u j):=λu hu j hj=>by
 rcases mem_cons.mp hu with rfl|hu
 ·exact (hE u (mem_of_getElem? hg) j hj).up (by lia)
 ·exact S.bE u (mem_append_right _ hu) j hj
theorem take_snoc (hg:R[i]?=some g):R.take (i+1)=R.take i++[g]:=by
 obtain ⟨h,e⟩:=List.getElem?_eq_some_iff.mp hg
 rw[List.take_succ_eq_append_getElem h,e]
theorem PO.eqv {lo:Option V} (S:SI wd w R X E KK i H Z) (P:PO wd w H g X (E+i*KK+8*K) T lo) (hg:R[i]?=some g):Eqv wd T (R.take (i+1)):=by
 rw[take_snoc hg]
 have toT:∀ {r:V},Sp (Ls (lo.toList++T)) r->∃ h,Sp (Ls T) h/\∀ j,j < wd->r j=h j:=λ{r} h=>by
  induction h with
  | zero z=>exact ⟨nil0,.zero λ_=>rfl,λj _=>z j⟩
  | @lin u v w x hu _ e ih =>
   obtain ⟨h,h1,h2⟩:=ih
   rcases mem_append.mp hu with hu|hu
   ·exact ⟨h,h1,λj hj=>by rw[e,P.zr u (by cases lo<;>simp at hu ⊢;exact hu.symm) j hj,h2 j hj];lia⟩
   ·exact ⟨λj=>x*u j+h j,.lin x hu h1 λ_=>rfl,λj hj=>by rw[e,h2 j hj]⟩
 refine ⟨λr hr=>?_,λu hu=>?_⟩
 ·rcases mem_append.mp hr with hr|hr
  ·obtain ⟨h,h1,h2⟩:=S.eqv.fw r hr
   obtain ⟨h',h3,h4⟩:=toT (h1.trans λz hz=>P.fw z (.inl hz))
   exact ⟨h',h3,λj hj=>by rw[h2 j hj,h4 j hj]⟩
  ·rw[mem_singleton.mp hr]
   exact toT (P.fw g (.inr rfl))
 ·refine ⟨u,(P.bw u (mem_append_right _ hu)).trans λz hz=>?_,λ_ _=>rfl⟩
  rcases mem_cons.mp hz with rfl|hz
  ·exact .mem (mem_append_right _ (by simp))
  ·exact (S.bw z (mem_append_right _ hz)).mono λq hq=>mem_append_left _ hq
theorem ld_all {v:V} (h:∀ j,j < wd->v j=0):ld wd v=wd:=by
 have:=ld_gt (wd:=wd) (Nat.le_refl wd) h
 have:=ld_le wd v
 lia
theorem si_n1 {u t h l z i:Nat} (a:u=t) (b:t+l=h+1) (c:h+z=i):u+(z+l)=i+1:=by lia
theorem si_n2 {E i KK:Nat}:E+i*KK<=E+(i*KK+KK):=by lia
theorem si_n3 {E a KK K:Nat} (h:16*K<=KK):E+a+8*K<=E+(a+KK):=by lia
theorem si_n5 {a b f:Nat} (z:f<=a) (e:a+b=f):b=0:=by lia
theorem si_n4 {E a KK K b:Nat} (t:b<=8*K) (h:16*K<=KK):E+a+8*K+b<=E+(a+KK):=by lia
theorem SI.step {lo:Option V} (S:SI wd w R X E KK i H Z) (G:Reg wd R Y X C D) (hg:R[i]?=some g) (P:PO wd w H g X (E+i*KK+8*K) T lo) (h0:ld wd g=wd->T=H/\lo=some g) (I:Ti wd w T X (E+i*KK+8*K) K 0 U) (hT:T.length<=8) (hK:16*K<=KK) :
  SI wd w R X E KK (i+1) U (Z++lo.toList):=by
 have hil:=(List.getElem?_eq_some_iff.mp hg).1
 have ts:=take_snoc hg
 have kk:(i+1)*KK=i*KK+KK:=by rw[Nat.add_mul,Nat.one_mul]
 have tk:T.length*K<=8*K:=Nat.mul_le_mul_right _ hT
 refine ⟨I.ec,by have:=I.td;rwa [List.drop_zero] at this,?_,hil,λz hz=>?_,λr hr=>?_,λu hu=>?_,λu hu=>?_,I.bX,λu hu j hj=>?_,?_⟩
 ·rw[length_append];exact si_n1 I.len P.len S.len
 ·rcases mem_append.mp hz with hz|hz
  ·exact S.zr z hz
  ·exact P.zr z (by cases lo<;>simp at hz ⊢;exact hz.symm)
 ·have toN:∀ {r:V},Sp (Ls (lo.toList++T)) r->Sp (Ls (Z++lo.toList++U)) r:=λ{r} h=>h.trans λz hz=>by
   rcases mem_append.mp hz with hz|hz
   ·exact .mem (mem_append_left _ (mem_append_right _ hz))
   ·exact (I.fw z hz).mono λq hq=>mem_append_right _ hq
  rw[ts] at hr
  rcases mem_append.mp hr with hr|hr
  ·exact (S.fw r hr).trans λz hz=>by
    rcases mem_append.mp hz with hz|hz
    ·exact .mem (mem_append_left _ (mem_append_left _ hz))
    ·exact toN (P.fw z (.inl hz))
  ·rw[mem_singleton.mp hr]
   exact toN (P.fw g (.inr rfl))
 ·rw[ts]
  have gH:∀ {r:V},Sp (Ls (g::H)) r->Sp (Ls (R.take i++[g])) r:=λ{r} h=>h.trans λz hz=>by
   rcases mem_cons.mp hz with rfl|hz
   ·exact .mem (mem_append_right _ (by simp))
   ·exact (S.bw z (mem_append_right _ hz)).mono λq hq=>mem_append_left _ hq
  rcases mem_append.mp hu with hu|hu
  ·rcases mem_append.mp hu with hu|hu
   ·exact (S.bw u (mem_append_left _ hu)).mono λq hq=>mem_append_left _ hq
   ·exact gH (P.bw u (mem_append_left _ hu))
  ·exact (I.bw u hu).trans λz hz=>gH (P.bw z (mem_append_right _ hz))
 ·rw[ts]
  have up:∀ {u:V},u∈H->Sp (λr=>r∈R.take i++[g]/\∃ j,j < wd/\r j≠0) u:=λ{u} hu=>(S.bH u hu).mono λq hq=>⟨mem_append_left _ hq.1,hq.2⟩
  by_cases z:ld wd g=wd
  ·rw[(h0 z).1] at I
   exact (I.bw u hu).trans λz hz=>up hz
  ·refine (I.bw u hu).trans λz hz=>(P.bw z (mem_append_right _ hz)).trans λq hq=>?_
   rcases mem_cons.mp hq with rfl|hq
   ·have hl:ld wd q < wd:=Nat.lt_of_le_of_ne (ld_le wd q) z
    exact .mem ⟨mem_append_right _ (by simp),_,hl,ld_ne hl⟩
   ·exact up hq
 ·rw[kk]
  rcases mem_append.mp hu with hu|hu
  ·rcases mem_append.mp hu with hu|hu
   ·exact (S.bE u (mem_append_left _ hu) j hj).up si_n2
   ·exact (P.bE u (mem_append_left _ hu) j hj).up (si_n3 hK)
  ·exact (I.bE u hu j hj).up (by rw[Nat.sub_zero];exact si_n4 tk hK)
 ·rw[ts,List.filter_append,length_append,length_append]
  obtain ⟨z1,z2⟩:=S.zs
  by_cases z:ld wd g=wd
  ·rw[(h0 z).2,List.filter_cons_of_pos (by simpa using z)]
   show _+1<=_+1/\(_+1=_+1->_)
   refine ⟨Nat.succ_le_succ z1,λe q hq=>?_⟩
   rcases mem_append.mp hq with hq|hq
   ·exact z2 (Nat.succ.inj e) q hq
   ·simp at hq;rw[hq];exact mem_of_getElem? hg
  ·rw[List.filter_cons_of_neg (by simpa using z)]
   show _+0<=_/\(_=_+0->_)
   refine ⟨Nat.le_trans z1 (Nat.le_add_right _ _),λe q hq=>?_⟩
   have hlo:lo.toList=[]:=List.length_eq_zero_iff.mp (si_n5 z1 e)
   rw[hlo,append_nil] at hq
   exact z2 (by rw[hlo] at e;simpa using e) q hq
end
theorem same_two {α:Type} {n:Nat} {l:List α} {a:Nat->α} (h:∀ i,i < n->a i∈l) (hn:l.length < n):∃ p q,p < n/\q < n/\p≠q/\a p=a q:=by
 refine Classical.byContradiction λhno=>?_
 have nd:((List.range n).map a).Nodup:=by
  rw[List.Nodup,List.pairwise_map]
  refine List.Pairwise.imp_of_mem (R:=λa b=>a < b) (λ{x y} hx hy hlt e=>hno ⟨x,y,mem_range.mp hx,mem_range.mp hy,Nat.ne_of_lt hlt,e⟩) List.pairwise_lt_range
 have:=List.Nodup.length_le_of_subset nd (λx hx=>by obtain ⟨i,hi,rfl⟩:=mem_map.mp hx;exact h i (mem_range.mp hi):(List.range n).map a ⊆ l)
 rw[length_map,length_range] at this
 lia
theorem ra_1 {b D:Nat} {a k:Nat} (h:(b+3)*k+1<=D) (m:a<=(b+3)*k):a+1<=D:=by lia
theorem ra_2 {a b k D:Nat} (h:(b+3)*k+1<=D) (m:a<=(b+3)*k):D+(a+(b+3))+4<=3*D+2*b+20:=by lia
theorem ra_3 {b k D:Nat} (h:(b+3)*k+1<=D) (m:(b+3)*1<=(b+3)*k):b<=D:=by lia
theorem ra_4 {b D:Nat}:D < 2*D+2+b+1/\2*D+2+b < 2*D+2+b+1:=by lia
theorem ra_5 {a b k D:Nat} (h:(b+3)*k+1<=D) (m:a<=(b+3)*k):2*D+2+b < 3*D+2*b+20/\2*D+2+b+1+(a+(b+3))+4 < 3*D+2*b+20:=by lia
theorem ra_6 {y g h u:Int} (e:u=y*g+h):h=u+-(y*g):=by lia
theorem ra_7 {D:Nat}:D+D+2<=2*D+2:=by lia
theorem reg_any {wd b k D:Nat} {R:List V} (h8:wd<=8) (b1:1<=b) (hb:∀ r∈R,∀ j,j < wd->Bt b (r j)) (hk:wd<=k\/R.length<=k) (hk1:1<=k) (hk8:k<=8) (hD:(b+3)*k+1<=D) :
  Reg wd R D (3*D+2*b+20) (2*D+2) D:=by
 refine ⟨Nat.le_refl _,ra_7,λi H hi E e=>?_⟩
 have hbt:∀ r∈R.take i,∀ j,j < wd->Bt b (r j):=λr hr=>hb r (List.mem_of_mem_take hr)
 obtain ⟨s1,s2⟩:=e.size E h8 b1 hbt
 have hl:=ec_len E
 have hlk:H.length<=k:=by
  rcases hk with hk|hk
  ·exact Nat.le_trans hl hk
  ·obtain ⟨a,ha,hd⟩:=e.sel E
   refine Nat.le_trans ?_ hk
   refine Classical.byContradiction λz=>hd ?_
   obtain ⟨p,q,hp,hq,hpq,e2⟩:=same_two (l:=R.take i) ha (Nat.lt_of_le_of_lt (by rw[length_take];exact Nat.min_le_right _ _) (Nat.lt_of_not_le z))
   exact det_eq0 hp hq hpq λc=>by show a p _=a q _;rw[e2]
 have hm:(b+3)*H.length<=(b+3)*k:=Nat.mul_le_mul_left _ hlk
 have hk3:=Nat.mul_le_mul_left (b+3) hk1
 rw[Nat.mul_add,Nat.mul_one] at s2
 refine ⟨Nat.le_trans hlk hk8,s1.up (ra_1 hD hm),λu hu hc j hj=>(s2 u _ hu hc j hj).up (ra_2 hD hm),λg hg=>⟨λj hj=>(hb g (mem_of_getElem? hg) j hj).up (ra_3 hD hk3),λy h u hh hu hy hc j hj=>?_⟩⟩
 have gb:=hb g (mem_of_getElem? hg)
 have hh':∀ v∈H,Bt (2*D+2+b+1) (h (ld wd v)):=λv hv=>by
  have hp:=(E.pos v hv).1
  have:h (ld wd v)=u (ld wd v)+-(y*g (ld wd v)):=ra_6 (hu _ hp)
  rw[this]
  exact (hc v hv).add (hy.mul (gb _ hp)).neg ra_4.1 ra_4.2
 rw[hu j hj]
 exact (hy.mul (gb j hj)).add (s2 h _ hh hh' j hj) (ra_5 hD hm).1 (ra_5 hD hm).2
def prodF:Nat->(Nat->Int)->Int
 | 0,_=>1
 | n+1,f=>f 0*prodF n λi=>f (i+1)
theorem prodF_pos:∀ {n:Nat} {f:Nat->Int},(∀ i,i < n->0 < f i)->0 < prodF n f
 | 0,_,_=>show (0:Int) < 1 by decide
 | n+1,f,h=>Int.mul_pos (h 0 (by lia)) (prodF_pos λi hi=>h (i+1) (by lia))
theorem prodF_le:∀ {n m:Nat} {f:Nat->Int},(∀ i,i < m->0 < f i)->n<=m->prodF n f<=prodF m f
 | 0,0,_,_,_=>Int.le_refl _
 | 0,m+1,f,h,_=>by
  have h1:=@prodF_le 0 m (λi=>f (i+1)) (λi hi=>h (i+1) (by lia)) (by lia)
  have h2:=h 0 (by lia)
  have:=Int.mul_le_mul_of_nonneg_right (show (1:Int)<=f 0 by lia) (show 0<=prodF m λi=>f (i+1) from Int.le_trans (show (0:Int)<=1 by decide) h1)
  show 1<=f 0*prodF m λi=>f (i+1)
  have h1:1<=prodF m λi=>f (i+1):=h1
  lia
 | n+1,m+1,f,h,hl=>Int.mul_le_mul_of_nonneg_left (prodF_le (λi hi=>h (i+1) (by lia)) (by lia)) (Int.le_of_lt (h 0 (by lia)))
theorem prodF_congr:∀ {n:Nat} {f g:Nat->Int},(∀ i,i < n->f i=g i)->prodF n f=prodF n g
 | 0,_,_,_=>rfl
 | n+1,f,g,h=>by rw[prodF,prodF,h 0 (by lia),prodF_congr λi hi=>h (i+1) (by lia)]
theorem det_up:∀ {n:Nat} {M:Mat},(∀ i j,j < i->i < n->M i j=0)->det n M=prodF n λi=>M i i
 | 0,_,_=>rfl
 | n+1,M,h=>by
  rw[det_col λi h1 h2=>h i 0 (by lia) h2,det_up λi j h1 h2=>h (i+1) (j+1) (by lia) (by lia)]
  rfl
theorem det_low {n:Nat} {M:Mat} (h:∀ i j,i < j->j < n->M i j=0):det n M=prodF n λi=>M i i:=by
 rw[<-det_tr,det_up λi j h1 h2=>h j i h1 h2]
theorem incr_id {k:Nat} {f:Nat->Nat} (h1:∀ i,i < k->f i < k) (h2:∀ i j,i < j->j < k->f i < f j) {i:Nat} (hi:i < k):f i=i:=by
 have lo:∀ i,i < k->i<=f i:=λi=>by
  induction i with
  | zero=>exact λ_=>Nat.zero_le _
  | succ i ih=>exact λh=>Nat.lt_of_le_of_lt (ih (Nat.lt_of_succ_lt h)) (h2 i (i+1) (Nat.lt_succ_self i) h)
 have hi':∀ d i,i+d+1=k->f i<=i:=λd=>by
  induction d with
  | zero=>exact λi h=>Nat.le_of_lt_succ (Nat.lt_of_lt_of_eq (h1 i (by lia)) h.symm)
  | succ d ih=>exact λi h=>Nat.le_of_lt_succ (Nat.lt_of_lt_of_le (h2 i (i+1) (Nat.lt_succ_self i) (by lia)) (ih (i+1) (by lia)))
 exact Nat.le_antisymm (hi' (k - 1 - i) i (by lia)) (lo i hi)
structure Trap (wd:Nat) (N:List V) (r:Nat) (c:Nat->Nat) (b D:Nat):Prop where
 r8:r<=8
 rw:r<=wd
 mono:∀ i j,i < j->j < r->c i < c j
 cl:∀ j,j < r->c j < N.length
 nz:∀ (i:Nat) (v:V),N[i]?=some v->∀ j,j < wd->v j≠0->j < r/\c j<=i
 pos:∀ j,j < r->0 < (N.getD (c j) nil0) j
 bt:∀ v∈N,∀ j,j < wd->Bt b (v j)
 prod:Bt D (prodF r λj=>(N.getD (c j) nil0) j)
section
variable {wd r b D:Nat} {N H:List V} {c:Nat->Nat}
theorem count_low:∀ (r:Nat) {c:Nat->Nat},(∀ i j,i < j->j < r->c i < c j)->∀ i,∃ k,k<=r/\∀ j,j < r->(c j < i ↔ j < k)
 | 0,_,_,_=>⟨0,Nat.le_refl _,λj hj=>by lia⟩
 | r+1,c,h,i=>by
  obtain ⟨k,hk,e⟩:=count_low r (λi j h1 h2=>h i j h1 (by lia)) i
  by_cases z:c r < i
  ·refine ⟨r+1,Nat.le_refl _,λj hj=>⟨λ_=>hj,λ_=>?_⟩⟩
   by_cases e:j=r
   ·subst e;exact z
   ·have:=h j r (by lia) (by lia);lia
  ·refine ⟨k,by lia,λj hj=>?_⟩
   by_cases q:j=r
   ·subst q;exact ⟨λy=>absurd y z,λy=>by lia⟩
   ·exact e j (by lia)
theorem ec_len2 {k:Nat} (E:Ec wd H) (h:∀ v∈H,ld wd v < k):H.length<=k:=by
 have:∀ (H:List V) (c:Nat),Ec wd H->(∀ v∈H,c<=ld wd v/\ld wd v < k)->H.length+c<=k\/H=[]:=by
  intro H
  induction H with
  | nil=>intro c _ _;exact .inr rfl
  | cons v H ih =>
   intro c E h
   have h1:=h v mem_cons_self
   rcases ih (ld wd v+1) E.tail λu hu=>⟨(List.pairwise_cons.mp E.pw).1 u hu,(h u (mem_cons_of_mem _ hu)).2⟩ with h3|rfl
   ·left;rw[length_cons];lia
   ·left;simp;lia
 rcases this H 0 E (λv hv=>⟨Nat.zero_le _,h v hv⟩) with h|rfl
 ·lia
 ·simp
theorem getD_some {N:List V} {i:Nat} (h:i < N.length):N[i]?=some (N.getD i nil0):=by rw[getD_eq_getElem?_getD,List.getElem?_eq_getElem h];rfl
theorem Trap.end (t:Trap wd N r c b D) {i k:Nat} (E:Ec wd H) (e:Eqv wd H (N.take i)) (hk:k<=r) (hc:∀ j,j < r->(c j < i ↔ j < k)) :
  H.length=k/\(∀ j,j < k->ld wd (H.getD j nil0)=j)/\(∀ u∈H,∀ j,k<=j->j < wd->u j=0)/\pv wd H<=prodF k λj=>(N.getD (c j) nil0) j:=by
 have zr:∀ u∈H,∀ j,k<=j->j < wd->u j=0:=λu hu j h1 h2=>by
  obtain ⟨r',s,e'⟩:=e.bw u hu
  rw[e' j h2]
  refine s.zeros λv hv=>Classical.byContradiction λz=>?_
  obtain ⟨i',hi'⟩:=List.getElem?_of_mem hv
  have hlt:i' < i:=by have:=(List.getElem?_eq_some_iff.mp hi').1;rw[length_take] at this;exact Nat.lt_of_lt_of_le this (Nat.min_le_left _ _)
  rw[List.getElem?_take_of_lt hlt] at hi'
  obtain ⟨q1,q2⟩:=t.nz i' v hi' j h2 z
  exact Nat.not_lt_of_le h1 ((hc j q1).mp (Nat.lt_of_le_of_lt q2 hlt))
 have lk:∀ u∈H,ld wd u < k:=λu hu=>Classical.byContradiction λz=>by
  have h1:=E.pos u hu
  exact Int.ne_of_gt h1.2 (zr u hu _ (Nat.le_of_not_lt z) h1.1)
 have mem:∀ l,l < k->N.getD (c l) nil0∈N.take i:=λl hl=>by
  have hr:=Nat.lt_of_lt_of_le hl hk
  exact mem_of_getElem? (i:=c l) (by rw[List.getElem?_take_of_lt ((hc l hr).mpr hl)];exact getD_some (t.cl l hr))
 have dt:det k (λi j=>(N.getD (c i) nil0) j)=prodF k λj=>(N.getD (c j) nil0) j:=det_low λi j h1 h2=>Classical.byContradiction λz=>by
  have hj:=Nat.lt_of_lt_of_le h2 hk
  exact Nat.not_lt_of_le (t.nz (c i) _ (getD_some (t.cl i (Nat.lt_trans h1 hj))) j (Nat.lt_of_lt_of_le hj t.rw) z).2 (t.mono i j h1 hj)
 have hp:0 < prodF k λj=>(N.getD (c j) nil0) j:=prodF_pos λj hj=>t.pos j (Nat.lt_of_lt_of_le hj hk)
 have mk:∀ l,l < k->∃ u,Sp (Ls H) u/\∀ j,j < k->(N.getD (c l) nil0) j=u j:=λl hl=>by
  obtain ⟨h,h1,h2⟩:=e.fw _ (mem l hl)
  exact ⟨h,h1,λj hj=>h2 j (Nat.lt_of_lt_of_le hj (Nat.le_trans hk t.rw))⟩
 have len:H.length=k:=by
  rcases Nat.lt_or_ge H.length k with z|z
  ·exact absurd ((dt.symm.trans (det_more (γ:=λj=>j) E mk z))) (Int.ne_of_gt hp)
  ·exact Nat.le_antisymm (ec_len2 E lk) z
 have lds:∀ j,j < k->ld wd (H.getD j nil0)=j:=λj hj=>incr_id (f:=λj=>ld wd (H.getD j nil0)) (λi hi=>lk _ (getD_mem (len.symm ▸ hi))) (λi j h1 h2=>pw_lt E (i:=i) (j:=j) (getD_some (len.symm ▸ Nat.lt_trans h1 h2)) (getD_some (len.symm ▸ h2)) h1) hj
 refine ⟨len,lds,zr,?_⟩
 obtain ⟨q,hq⟩:=det_made (γ:=λj=>j) E mk (Nat.le_of_eq len)
 have hu:=det_upper E
 rw[len,det_congr (b:=λi j=>(H.getD i nil0) j) λi j _ hj=>by rw[lds j hj]] at hu
 rw[hu,dt] at hq
 exact le_dvd ⟨q,by rw[hq,Int.mul_comm]⟩ hp
theorem reg_trap {Y:Nat} (t:Trap wd N r c b D) (h1:D<=Y) (h2:b<=Y):Reg wd N Y (D+Y+2+Y) (D+Y+2) D:=by
 refine ⟨h1,Nat.le_refl _,λi H hi E e=>?_⟩
 obtain ⟨k,hk,hc⟩:=count_low r t.mono i
 obtain ⟨len,lds,zr,pr⟩:=t.end E e hk hc
 have pD:Bt D (pv wd H):=t.prod.le (Int.le_of_lt (pv_pos E)) (Int.le_trans pr (prodF_le t.pos hk))
 have co:∀ {u:V},(∀ v∈H,Bt Y (u (ld wd v)))->∀ j,j < k->Bt Y (u j):=λ{u} h j hj=>by
  have:=h _ (getD_mem (H:=H) (i:=j) (len.symm ▸ hj))
  rwa [lds j hj] at this
 refine ⟨len.symm ▸ Nat.le_trans hk t.r8,pD,λu hu hc j hj=>?_,λg hg=>⟨λj hj=>(t.bt g (mem_of_getElem? hg) j hj).up h2,λy h u hh hu hy hc j hj=>?_⟩⟩
 ·by_cases z:j < k
  ·exact (co hc j z).up (Nat.le_add_left _ _)
  ·rw[hu.zeros λv hv=>zr v hv j (Nat.le_of_not_lt z) hj];exact .zero
 ·by_cases z:j < k
  ·exact (co hc j z).up (Nat.le_add_left _ _)
  ·have:h j=0:=hh.zeros λv hv=>zr v hv j (Nat.le_of_not_lt z) hj
   rw[hu j hj,this,Int.add_zero]
   exact (hy.mul ((t.bt g (mem_of_getElem? hg) j hj).up h2)).up (by lia)
end
def ext (wd:Nat) (a b:V):V:=λj=>if j < wd then a j else b (j - wd)
theorem ext_lo {wd j:Nat} {a b:V} (h:j < wd):ext wd a b j=a j:=if_pos h
theorem ext_hi {wd j:Nat} {a b:V}:ext wd a b (wd+j)=b j:=by unfold ext;rw[if_neg (by lia)];congr 1;lia
def turn (q wd:Nat) (T:List V) (B:Nat->V):List V:=(List.range q).map λi=>ext wd (λj=>(T.getD j nil0) i) (B i)
section
variable {q wd r b D:Nat} {T H:List V} {B:Nat->V}
theorem turn_get {i:Nat} (h:i < q):(turn q wd T B)[i]?=some (ext wd (λj=>(T.getD j nil0) i) (B i)):=by unfold turn;rw[List.getElem?_map,List.getElem?_range h];rfl
theorem turn_len:(turn q wd T B).length=q:=by unfold turn;simp
theorem turn_some {i:Nat} {v:V} (h:(turn q wd T B)[i]?=some v):i < q/\v=ext wd (λj=>(T.getD j nil0) i) (B i):=by
 have hi:=(List.getElem?_eq_some_iff.mp h).1
 rw[turn_len] at hi
 rw[turn_get hi] at h
 exact ⟨hi,(Option.some.inj h).symm⟩
theorem turn_D {i:Nat} (h:i < q) {j:Nat} (hj:j < wd):((turn q wd T B).getD i nil0) j=(T.getD j nil0) i:=by
 rw[getD_eq_getElem?_getD,turn_get h,Option.getD_some]
 exact ext_lo hj
theorem getD_nil {T:List V} {j:Nat} (h:T.length<=j):T.getD j nil0=nil0:=by rw[getD_eq_getElem?_getD,List.getElem?_eq_none h];rfl
theorem pv_prod {q:Nat}:∀ {T:List V},pv q T=prodF T.length λj=>(T.getD j nil0) (ld q (T.getD j nil0))
 | []=>rfl
 | v::T=>by
  show v _*pv q T=v _*prodF T.length _
  rw[pv_prod];rfl
theorem trap_of (E:Ec q T) (h8:T.length<=8) (hw:T.length<=wd) (hp:Bt D (pv q T)) (hb:∀ u∈T,∀ j,j < q->Bt b (u j)):Trap wd (turn q wd T B) T.length (λj=>ld q (T.getD j nil0)) b D where
 r8:=h8
 rw:=hw
 mono:=λi j h1 h2=>by
  exact pw_lt E (i:=i) (j:=j) (getD_some (Nat.lt_trans h1 h2)) (getD_some h2) h1
 cl:=λj hj=>by rw[turn_len];exact (E.pos _ (getD_mem hj)).1
 nz:=λi v hv j hj z=>by
  obtain ⟨hi,rfl⟩:=turn_some hv
  rw[ext_lo hj] at z
  by_cases hl:j < T.length
  ·exact ⟨hl,Classical.byContradiction λy=>z (ld_zero (wd:=q) (Nat.lt_of_not_le y))⟩
  ·rw[getD_nil (Nat.le_of_not_lt hl)] at z;exact absurd rfl z
 pos:=λj hj=>by
  have:=E.pos _ (getD_mem hj)
  rw[turn_D this.1 (Nat.lt_of_lt_of_le hj hw)];exact this.2
 bt:=λv hv j hj=>by
  obtain ⟨i,hi⟩:=List.getElem?_of_mem hv
  obtain ⟨h1,rfl⟩:=turn_some hi
  rw[ext_lo hj]
  by_cases hl:j < T.length
  ·exact hb _ (getD_mem hl) _ h1
  ·rw[getD_nil (Nat.le_of_not_lt hl)];exact .zero
 prod:=by
  rw[pv_prod] at hp
  rw[prodF_congr λj hj=>turn_D (E.pos _ (getD_mem hj)).1 (Nat.lt_of_lt_of_le hj hw)]
  exact hp
structure Sq (q r D:Nat) (T:List V):Prop where
 ec:Ec q T
 td:Td q T
 len:T.length=r
 r8:r<=8
 lds:∀ j,j < r->ld q (T.getD j nil0)=j
 zr:∀ u∈T,∀ j,r<=j->j < q->u j=0
 pD:Bt D (pv q T)
theorem Sq.rq (S:Sq q r D T):r<=q:=by rw[<-S.len];exact ec_len S.ec
theorem Sq.pos (S:Sq q r D T) {j:Nat} (h:j < r):0 < (T.getD j nil0) j:=by
 have:=(S.ec.pos _ (getD_mem (by rw[S.len];exact h))).2
 rwa [S.lds j h] at this
theorem Sq.piv (S:Sq q r D T) {j:Nat} (h:j < r):Bt D ((T.getD j nil0) j):=by
 have:=piv_bt S.ec S.pD (getD_mem (show j < T.length by rw[S.len];exact h))
 rwa [S.lds j h] at this
theorem Sq.low (S:Sq q r D T) {i j:Nat} (hj:j < r) (h:i < j):(T.getD j nil0) i=0:=ld_zero (wd:=q) (by rw[S.lds j hj];exact h)
theorem Sq.up (S:Sq q r D T) {i j:Nat} (hi:i < r) (h:j < i):0<=(T.getD j nil0) i/\(T.getD j nil0) i < (T.getD i nil0) i:=by
 have hl:=S.len
 have:=List.pairwise_iff_getElem.mp S.td j i (hl.symm ▸ Nat.lt_trans h hi) (hl.symm ▸ hi) h
 have e:∀ k (hk:k < T.length),T[k]=T.getD k nil0:=λk hk=>by rw[getD_eq_getElem?_getD,List.getElem?_eq_getElem hk];rfl
 rw[e,e,S.lds i hi] at this
 exact this
theorem Sq.far (S:Sq q r D T) {i j:Nat} (hj:j < r) (h:r<=i) (hq:i < q):(T.getD j nil0) i=0:=S.zr _ (getD_mem (by rw[S.len];exact hj)) i h hq
theorem Sq.bt (S:Sq q r D T) {u:V} (hu:u∈T):∀ j,j < q->Bt D (u j):=λj hj=>by
 by_cases h:j < r
 ·have:=td_bt S.ec S.td S.pD hu (getD_mem (i:=j) (by rw[S.len];exact h))
  rwa [S.lds j h] at this
 ·rw[S.zr u hu j (Nat.le_of_not_lt h) hj];exact .zero
theorem Sq.trap (S:Sq q r D T) (hw:r<=wd):Trap wd (turn q wd T B) r (λj=>ld q (T.getD j nil0)) D D:=by
 have:=trap_of (B:=B) S.ec (by rw[S.len];exact S.r8) (by rw[S.len];exact hw) S.pD λu hu=>S.bt hu
 rwa [S.len] at this
theorem sq_next {c:Nat->Nat} {N:List V} (t:Trap wd N r c b D) {w X E KK:Nat} {Z:List V} (S:SI wd w N X E KK N.length H Z):Sq wd r D H:=by
 have e:=S.eqv
 obtain ⟨h1,h2,h3,h4⟩:=t.end S.ec e (Nat.le_refl r) λj hj=>⟨λ_=>hj,λ_=>t.cl j hj⟩
 exact ⟨S.ec,S.td,h1,t.r8,h2,h3,t.prod.le (Int.le_of_lt (pv_pos S.ec)) h4⟩
structure Ms (r:Nat) (T:List V) (s l:Nat):Prop where
 sr:s<=r
 al:∀ i,i < s->∀ j,j < r->j≠i->(T.getD i nil0) j=0
 nx:s < r->Bt l ((T.getD s nil0) s)
theorem sp_at {A:V->Prop} {d:Int} {j:Nat} {u:V} (h:Sp A u) (hd:∀ a,A a->d ∣ a j):d ∣ u j:=by
 induction h with
 | zero z=>rw[z];exact Int.dvd_zero _
 | lin x a _ e ih=>rw[e];exact Int.dvd_add (Int.dvd_mul_of_dvd_right (hd _ a)) ih
theorem is0 {p:Int} (hp:0 < p):(1*0+-1*0:Int).natAbs < p.natAbs:=by lia
theorem is1 {p:Int} (hp:0 < p) (x:Int):(1*x+-1*x:Int).natAbs < p.natAbs:=by lia
theorem is2 {p x:Int} (h:0<=x/\x < p):(1*0+-1*x:Int).natAbs < p.natAbs:=by lia
theorem is3 {a b:Int} (h:1*a+-1*b=0):b=a:=by lia
theorem Sq.is (S:Sq q r D H) {i:Nat} (hi:i < r) {v:V} (hv:∃ u,Sp (Ls H) u/\∀ j,j < q->v j=u j) (h1:v i=(H.getD i nil0) i) (h0:∀ j,j < r->j≠i->v j=0):∀ j,j < r->(H.getD i nil0) j=v j:=by
 obtain ⟨u,su,eu⟩:=hv
 have hrq:=S.rq
 have z:=S.ec.null (su.comb 1 (-1) (Sp.mem (getD_mem (H:=H) (i:=i) (by rw[S.len];exact hi))) (w:=λj=>1*u j+-1*(H.getD i nil0) j) λ_=>rfl) λw hw=>by
  obtain ⟨k,hk,rfl⟩:=mem_iff_getElem.mp hw
  have hkr:k < r:=by rw[<-S.len];exact hk
  have ek:H[k]=H.getD k nil0:=by rw[getD_eq_getElem?_getD,List.getElem?_eq_getElem hk];rfl
  rw[ek,S.lds k hkr]
  have hp:=S.pos hkr
  show (1*u k+-1*(H.getD i nil0) k).natAbs < _
  rw[<-eu k (Nat.lt_of_lt_of_le hkr hrq)]
  rcases Nat.lt_trichotomy k i with g|g|g
  ·rw[h0 k hkr (Nat.ne_of_lt g),S.low hi g];exact is0 hp
  ·subst g;rw[h1];exact is1 hp _
  ·rw[h0 k hkr (Nat.ne_of_gt g)];exact is2 (S.up hkr g)
 intro j hj
 rw[eu j (Nat.lt_of_lt_of_le hj hrq)];exact is3 (z j)
theorem hf_1 {k:Int} (a:0 < k) (b:k≠1):2<=k:=by lia
theorem hf_2 {x y:Int} (hx:0 < x) (h:x*2<=y) (b:y.natAbs < 1):False:=by lia
theorem hf_3 {x y:Int} {B:Nat} (hx:0 < x) (h:x*2<=y) (b:y.natAbs < 2*B):x.natAbs < B:=by lia
theorem half_of {x y:Int} {l:Nat} (hx:0 < x) (hy:0 < y) (d:x ∣ y) (ne:x≠y) (b:Bt l y):1<=l/\Bt (l - 1) x:=by
 have h2:x*2<=y:=by
  obtain ⟨k,rfl⟩:=d
  exact Int.mul_le_mul_of_nonneg_left (hf_1 (Int.pos_of_mul_pos_right hy hx) λz=>ne (by rw[z,Int.mul_one])) (Int.le_of_lt hx)
 unfold Bt at *
 cases l with
 | zero=>exact (hf_2 hx h2 b).elim
 | succ l=>exact ⟨Nat.le_add_left 1 l,hf_3 hx h2 (Nat.lt_of_lt_of_eq b Nat.pow_succ')⟩
theorem turn_mem {i:Nat} (hi:i < q):ext wd (λj=>(T.getD j nil0) i) (B i)∈turn q wd T B:=mem_of_getElem? (turn_get hi)
theorem ms_row (S:Sq q r D T) (hrw:r<=wd) {i:Nat} (hi:i < r) (hal:∀ k,k < i->∀ j,j < r->j≠k->(T.getD k nil0) j=0):∀ j,j < r->j≠i->ext wd (λj=>(T.getD j nil0) i) (B i) j=0:=λj hj hji=>by
 rw[ext_lo (Nat.lt_of_lt_of_le hj hrw)]
 rcases Nat.lt_trichotomy j i with g|g|g
 ·exact hal j g i hi (Nat.ne_of_gt g)
 ·exact absurd g hji
 ·exact S.low hj g
theorem ms_dv (S':Sq wd r D H) (hrq:r<=q) (e:Eqv wd H (turn q wd T B)) {i:Nat} (hi:i < r) (hH:∀ k,k < i->∀ j,j < r->j≠k->(H.getD k nil0) j=0):(H.getD i nil0) i ∣ (T.getD i nil0) i:=by
 have hiw:=Nat.lt_of_lt_of_le hi S'.rq
 obtain ⟨u,su,eu⟩:=e.fw _ (turn_mem (Nat.lt_of_lt_of_le hi hrq))
 have h1:(T.getD i nil0) i=u i:=by rw[<-eu i hiw,ext_lo hiw]
 rw[h1]
 refine sp_at su λa ha=>?_
 obtain ⟨k,hk,rfl⟩:=mem_iff_getElem.mp ha
 have hkr:k < r:=by rw[<-S'.len];exact hk
 have ek:H[k]=H.getD k nil0:=by rw[getD_eq_getElem?_getD,List.getElem?_eq_getElem hk];rfl
 rw[ek]
 rcases Nat.lt_trichotomy k i with g|g|g
 ·rw[hH k g i hi (Nat.ne_of_gt g)];exact Int.dvd_zero _
 ·subst g;exact Int.dvd_refl _
 ·rw[S'.low hkr g];exact Int.dvd_zero _
theorem ms_dv2 (S:Sq q r D T) (S':Sq wd r D H) (e:Eqv wd H (turn q wd T B)) {k:Nat} (hk:k < r) (hal:∀ j,j < r->j≠k->(T.getD k nil0) j=0):(T.getD k nil0) k ∣ (H.getD k nil0) k:=by
 have hkw:=Nat.lt_of_lt_of_le hk S'.rq
 obtain ⟨u,su,eu⟩:=e.bw _ (getD_mem (H:=H) (i:=k) (by rw[S'.len];exact hk))
 rw[eu k hkw]
 refine sp_at su λa ha=>?_
 obtain ⟨z,hz⟩:=List.getElem?_of_mem ha
 obtain ⟨hz1,rfl⟩:=turn_some hz
 rw[ext_lo hkw]
 by_cases hzk:z=k
 ·subst hzk;exact Int.dvd_refl _
 ·rcases Nat.lt_or_ge z r with hzr|hzr
  ·rw[hal z hzr hzk];exact Int.dvd_zero _
  ·rw[S.far hk hzr hz1];exact Int.dvd_zero _
theorem ms_is (S:Sq q r D T) (S':Sq wd r D H) (e:Eqv wd H (turn q wd T B)) {k:Nat} (hk:k < r) (hal:∀ z,z < k->∀ j,j < r->j≠z->(T.getD z nil0) j=0) (eq:(T.getD k nil0) k=(H.getD k nil0) k):∀ j,j < r->j≠k->(H.getD k nil0) j=0:=by
 have hr:=ms_row (B:=B) S S'.rq hk hal
 have:=S'.is hk (e.fw _ (turn_mem (Nat.lt_of_lt_of_le hk S.rq))) (by rw[ext_lo (Nat.lt_of_lt_of_le hk S'.rq)];exact eq) hr
 intro j hj hjk
 rw[this j hj];exact hr j hj hjk
theorem ms_keep (S:Sq q r D T) (S':Sq wd r D H) (e:Eqv wd H (turn q wd T B)) {s:Nat} (hs:s<=r) (al:∀ i,i < s->∀ j,j < r->j≠i->(T.getD i nil0) j=0):∀ i,i<=s->∀ k,k < i->∀ j,j < r->j≠k->(H.getD k nil0) j=0:=λi=>by
 induction i with
 | zero=>intro _ k hk;exact absurd hk (Nat.not_lt_zero k)
 | succ i ih =>
  intro hi k hk
  have ih:=ih (Nat.le_of_succ_le hi)
  rcases Nat.lt_or_eq_of_le (Nat.le_of_lt_succ hk) with hki|hk
  ·exact ih k hki
  ·subst hk
   have hkr:=Nat.lt_of_lt_of_le hi hs
   have d1:=ms_dv S' S.rq e hkr ih
   have d2:=ms_dv2 S S' e hkr (al k hi)
   exact ms_is S S' e hkr (λz hz=>al z (Nat.lt_trans hz hi)) (Int.le_antisymm (Int.le_of_dvd (S'.pos hkr) d2) (Int.le_of_dvd (S.pos hkr) d1))
theorem Ms.next {s l:Nat} (M:Ms r T s l) (S:Sq q r D T) (S':Sq wd r D H) (e:Eqv wd H (turn q wd T B)):(s=r/\Ms r H r l)\/(s < r/\1<=l/\Ms r H s (l - 1))\/(s < r/\Ms r H (s+1) D):=by
 have k1:=ms_keep S S' e M.sr M.al s (Nat.le_refl s)
 rcases Nat.lt_or_eq_of_le M.sr with hsr|hs
 ·have d:=ms_dv S' S.rq e hsr k1
  by_cases eq:(H.getD s nil0) s=(T.getD s nil0) s
  ·refine .inr (.inr ⟨hsr,hsr,λi hi=>?_,λz=>S'.piv z⟩)
   rcases Nat.lt_or_eq_of_le (Nat.le_of_lt_succ hi) with his|his
   ·exact k1 i his
   ·subst his
    exact ms_is S S' e hsr M.al eq.symm
  ·have b:=half_of (S'.pos hsr) (S.pos hsr) d eq (M.nx hsr)
   exact .inr (.inl ⟨hsr,b.1,M.sr,k1,λ_=>b.2⟩)
 ·subst hs
  exact .inl ⟨rfl,Nat.le_refl _,k1,λz=>absurd z (Nat.lt_irrefl _)⟩
theorem Sp.coefN {A:V->Prop} {n:Nat} {f:Nat->V} (h:∀ a,A a->∃ i,i < n/\∀ j,a j=f i j) {u:V} (hu:Sp A u):∃ c:Nat->Int,∀ j,u j=S n λi=>c i*f i j:=by
 induction hu with
 | zero z=>exact ⟨λ_=>0,λj=>by rw[z,S_zero λi _=>Int.zero_mul _]⟩
 | @lin u v w x hu _ e ih =>
  obtain ⟨c,hc⟩:=ih
  obtain ⟨i,hi,ei⟩:=h u hu
  refine ⟨λk=>(if k=i then x else 0)+c k,λj=>?_⟩
  have e1:(S n λk=>((if k=i then x else 0)+c k)*f k j)=(S n λk=>(if k=i then x else 0)*f k j)+S n λk=>c k*f k j:=by
   rw[<-S_add];exact S_congr λk _=>Int.add_mul _ _ _
  have e2:(S n λk=>(if k=i then x else 0)*f k j)=x*f i j:=by
   rw[S_one i hi λk _ hk=>by rw[if_neg hk,Int.zero_mul],if_pos rfl]
  rw[e1,e2,e,hc,ei]
theorem S_abs:∀ (n:Nat) (f g:Nat->Int),(∀ i,i < n->((f i).natAbs:Int)<=g i)->((S n f).natAbs:Int)<=S n g
 | 0,_,_,_=>Int.le_refl 0
 | n+1,f,g,h=>by
  exact Int.le_trans (Int.ofNat_le.mpr (Int.natAbs_add_le (S n f) (f n))) (Int.add_le_add (S_abs n f g λi hi=>h i (Nat.lt_succ_of_lt hi)) (h n (Nat.lt_succ_self n)))
theorem S_off {n:Nat} {f:Nat->Int} {p:Nat} (hp:p < n):S n f=f p+S n λi=>if i=p then 0 else f i:=by
 have e1:S n f=S n λi=>(if i=p then f p else 0)+(if i=p then 0 else f i):=S_congr λi _=>by
  by_cases h:i=p
  ·subst h;rw[if_pos rfl,if_pos rfl];lia
  ·rw[if_neg h,if_neg h];lia
 rw[e1,S_add,S_one p hp λk _ hk=>if_neg hk,if_pos rfl]
theorem S_nn:∀ (n:Nat) (f:Nat->Int),(∀ i,0<=f i)->0<=S n f
 | 0,_,_=>Int.le_refl 0
 | n+1,f,h=>Int.add_nonneg (S_nn n f h) (h n)
theorem S_ge {n p:Nat} {f:Nat->Int} (hp:p < n) (h:∀ i,0<=f i):f p<=S n f:=by
 rw[S_off hp]
 exact Int.le_add_of_nonneg_right (S_nn n _ λi=>by split;exact Int.le_refl 0;exact h i)
theorem back_split {r p:Nat} {F:Nat->Int} (hp:p < r):(S r λi=>if p<=i then F i else 0)=F p+S r λi=>if p+1<=i then F i else 0:=by
 rw[S_off hp,if_pos (Nat.le_refl p)]
 congr 1
 exact S_congr λi _=>by
  by_cases h:i=p
  ·rw[if_pos h,if_neg (h ▸ Nat.not_succ_le_self _)]
  ·rw[if_neg h]
   by_cases g:p+1<=i
   ·rw[if_pos (Nat.le_of_succ_le g),if_pos g]
   ·rw[if_neg λz=>g (Nat.lt_of_le_of_ne z (Ne.symm h)),if_neg g]
theorem back_num {u a b g:Int} {B Q:Nat} (e:u=a+b) (hb:(b.natAbs:Int)<=g) (hu:u.natAbs < B) (hg:g<=(Q:Int) - (B:Int)):(a.natAbs:Int)+g<=((Q*2:Nat):Int) - (B:Int):=by lia
theorem back_end {x B Q R:Nat} (h:(x:Int)<=(Q:Int) - (B:Int)) (hB:0 < B) (hQ:Q<=R):x < R:=by lia
theorem abs_mono {x y:Int} (h:0<=x/\x < y):x.natAbs<=y.natAbs:=by lia
theorem Sq.back (S:Sq q r D T) {c:Nat->Int} {u:V} (hu:∀ j,j < r->u j=MDet.S r λi=>c i*(T.getD j nil0) i) (hb:∀ j,j < r->Bt D (u j)):∀ i,i < r->Bt (D+8) (c i):=by
 have main:∀ t p,p+t=r->(MDet.S r λi=>if p<=i then ((c i*(T.getD i nil0) i).natAbs:Int) else 0)<=((2 ^ (D+t):Nat):Int) - ((2 ^ D:Nat):Int):=by
  intro t
  induction t with
  | zero =>
   intro p hp
   have hp:p=r:=hp
   rw[S_zero λi hi=>if_neg (Nat.not_le_of_lt (hp.symm ▸ hi))]
   exact Int.le_of_eq (Int.sub_self _).symm
  | succ t ih =>
   intro p ep
   have hp:p < r:=ep ▸ Nat.lt_add_of_pos_right (Nat.succ_pos t)
   have ih:=ih (p+1) (by rw[Nat.succ_add];exact ep)
   have e2:=hu p hp
   rw[S_off hp] at e2
   rw[back_split hp,<-Nat.add_assoc,Nat.pow_succ]
   refine back_num e2 (S_abs r _ _ λi hi=>?_) (hb p hp) ih
   by_cases h:i=p
   ·rw[if_pos h]
    split
    ·exact Int.natCast_nonneg _
    ·exact Int.le_refl 0
   ·rw[if_neg h]
    by_cases g:p+1<=i
    ·rw[if_pos g]
     refine Int.ofNat_le.mpr ?_
     rw[Int.natAbs_mul,Int.natAbs_mul]
     exact Nat.mul_le_mul_left _ (abs_mono (S.up hi g))
    ·rw[if_neg g,S.low hp (Nat.lt_of_le_of_ne (Nat.le_of_not_lt g) h),Int.mul_zero]
     exact Int.le_refl 0
 intro i hi
 have g:=S_ge (f:=λk=>if 0<=k then ((c k*(T.getD k nil0) k).natAbs:Int) else 0) hi λk=>by rw[if_pos (Nat.zero_le k)];exact Int.natCast_nonneg _
 rw[if_pos (Nat.zero_le i)] at g
 have h4:=back_end (Int.le_trans g (main r 0 (Nat.zero_add r))) (Nat.two_pow_pos D) (Nat.pow_le_pow_right (show 0 < 2 by decide) (Nat.add_le_add_left S.r8 D))
 rw[Int.natAbs_mul] at h4
 exact Nat.lt_of_le_of_lt (Nat.le_mul_of_pos_right _ (Int.natAbs_pos.mpr (Int.ne_of_gt (S.pos hi)))) h4
theorem turn_far (S:Sq q r D T) {k j:Nat} (hr:r<=k) (hq:k < q) (hj:j < wd):ext wd (λj=>(T.getD j nil0) k) (B k) j=0:=by
 rw[ext_lo hj]
 by_cases hl:j < r
 ·exact S.far hl hr hq
 ·rw[getD_nil (by rw[S.len];exact Nat.le_of_not_lt hl)]
theorem sb_1 {q r f h z:Nat} (a:q - r<=f) (b:f<=z) (l:h+z=q) (hr:h=r):z=f:=by lia
theorem sb_2 {e D:Nat}:e<=e+D+11/\D+8+e+3<=e+D+11:=by lia
theorem sq_beside {w X E KK e:Nat} {Z:List V} (S:Sq q r D T) (hw:r<=wd) (I:SI wd w (turn q wd T B) X E KK (turn q wd T B).length H Z) (hE:∀ v∈turn q wd T B,∀ j,j < w->Bt e (v j)):∀ u∈Z++H,∀ j,j < w->Bt (e+D+11) (u j):=by
 have S':=sq_next (S.trap (B:=B) hw) I
 have hrq:=S.rq
 intro u hu j hj
 rcases mem_append.mp hu with hu|hu
 ·have hz:((turn q wd T B).take (turn q wd T B).length).filter (λr=>decide (ld wd r=wd))=(turn q wd T B).filter λr=>decide (ld wd r=wd):=by rw[List.take_length]
  have h1:=I.zs
  rw[hz] at h1
  have h2:q - r<=((turn q wd T B).filter λr=>decide (ld wd r=wd)).length:=by
   have e:turn q wd T B=(turn q wd T B).take r++(turn q wd T B).drop r:=(List.take_append_drop r _).symm
   rw[e,List.filter_append,length_append,List.filter_eq_self (l:=(turn q wd T B).drop r) |>.mpr λv hv=>?_]
   ·rw[length_drop,turn_len];exact Nat.le_add_left _ _
   ·obtain ⟨k,hk⟩:=List.getElem?_of_mem hv
    rw[List.getElem?_drop] at hk
    obtain ⟨h3,rfl⟩:=turn_some hk
    rw[decide_eq_true_eq]
    exact ld_all λj hj=>turn_far S (Nat.le_add_right _ _) h3 hj
  have h3:=I.len
  rw[S'.len,turn_len] at h3
  exact (hE u (h1.2 (sb_1 h2 h1.1 h3 rfl) u hu) j hj).up sb_2.1
 ·obtain ⟨c,hc⟩:=(I.bH u hu).coefN (n:=r) (f:=λi=>ext wd (λj=>(T.getD j nil0) i) (B i)) λa ha=>by
   obtain ⟨h1,j,hj,h2⟩:=ha
   obtain ⟨k,hk⟩:=List.getElem?_of_mem (List.mem_of_mem_take h1)
   obtain ⟨h3,rfl⟩:=turn_some hk
   exact ⟨k,Classical.byContradiction λhkr=>h2 (turn_far S (Nat.le_of_not_lt hkr) h3 hj),λ_=>rfl⟩
  have cb:=S.back (c:=c) (u:=u) (λj hj=>by
   rw[hc j]
   exact S_congr λi _=>by rw[ext_lo (Nat.lt_of_lt_of_le hj hw)]) λj hj=>S'.bt hu j (Nat.lt_of_lt_of_le hj hw)
  rw[hc j]
  exact (Bt.sum S.r8 λi hi=>(cb i hi).mul (hE _ (mem_of_getElem? (turn_get (Nat.lt_of_lt_of_le hi hrq))) j hj)).up sb_2.2
end
structure Rel (n m:Nat) (G M L R:Mat):Prop where
 eq:∀ i j,i < n->j < m->M i j=S n λa=>L i a*S m λb=>G a b*R j b
theorem led_1 (a b:Int):a+b=a+1*b:=by lia
theorem led_r (x p q y:Int):(x*p+q)*y=x*(p*y)+q*y:=by grind
def Gen (n:Nat) (L:Mat):Prop:=∀ v:V,∃ u,Sp (λr=>∃ i,i < n/\r=L i) u/\∀ j,j < n->v j=u j
theorem Gen.id {n:Nat} {L:Mat} (h:∀ i j,i < n->j < n->L i j=idm i j):Gen n L:=λv=>by
 refine ⟨λj=>S n λi=>v i*L i j,Sp.sum λi hi=>.mem ⟨i,hi,rfl⟩,λj hj=>?_⟩
 show v j=S n λi=>v i*L i j
 rw[S_one j hj λk hk hkj=>by rw[h k j hk hj];unfold idm;rw[if_neg hkj,Int.mul_zero],h j j hj hj]
 unfold idm;rw[if_pos rfl,Int.mul_one]
theorem Gen.of {n:Nat} {L L':Mat} (g:Gen n L) (h:∀ i,i < n->∃ u,Sp (λr=>∃ i,i < n/\r=L' i) u/\∀ j,j < n->L i j=u j):Gen n L':=λv=>by
 obtain ⟨u,su,eu⟩:=g v
 have:∃ w,Sp (λr=>∃ i,i < n/\r=L' i) w/\∀ j,j < n->u j=w j:=by
  clear eu
  induction su with
  | zero z=>exact ⟨nil0,.zero λ_=>rfl,λj _=>z j⟩
  | @lin a b w x ha _ e ih =>
   obtain ⟨i,hi,rfl⟩:=ha
   obtain ⟨p,p1,p2⟩:=h i hi
   obtain ⟨q,q1,q2⟩:=ih
   exact ⟨λj=>x*p j+1*q j,p1.comb x 1 q1 λ_=>rfl,λj hj=>by rw[e,p2 j hj,q2 j hj];exact led_1 _ _⟩
 obtain ⟨w,sw,ew⟩:=this
 exact ⟨w,sw,λj hj=>by rw[eu j hj,ew j hj]⟩
theorem Rel.tr {n m:Nat} {G M L R:Mat} (h:Rel n m G M L R):Rel m n (λi j=>G j i) (λi j=>M j i) R L:=⟨λi j hi hj=>by
 rw[h.eq j i hj hi]
 have e1:(S n λa=>L j a*S m λb=>G a b*R i b)=S n λa=>S m λb=>L j a*(G a b*R i b):=S_congr λa _=>by rw[<-S_mul]
 have e2:(S m λa=>R i a*S n λb=>G b a*L j b)=S m λa=>S n λb=>R i a*(G b a*L j b):=S_congr λa _=>by rw[<-S_mul]
 rw[e1,e2,S_swap]
 exact S_congr λa _=>S_congr λb _=>by grind⟩
theorem led_rel {n m:Nat} {G M L R M' L':Mat} {O:List V} (h:Rel n m G M L R) (hO:O.length=n) (hs:∀ u∈O,Sp (Ls ((List.range n).map λi=>ext m (M i) (L i))) u)
  (e:∀ i,i < n->∀ j,j < m+n->(O.getD i nil0) j=ext m (M' i) (L' i) j):Rel n m G M' L' R:=⟨λi j hi hj=>by
 have key:∀ u:V,Sp (Ls ((List.range n).map λi=>ext m (M i) (L i))) u->u j=S n λa=>u (m+a)*S m λb=>G a b*R j b:=λu hu=>by
  induction hu with
  | zero z=>rw[z,S_zero λa _=>by rw[z,Int.zero_mul]]
  | @lin a b w x ha _ e ih =>
   obtain ⟨k,hk,rfl⟩:=mem_map.mp ha
   have hk:=mem_range.mp hk
   rw[e,ih,ext_lo hj,h.eq k j hk hj,<-S_lin]
   exact S_congr λa _=>by rw[e,ext_hi];exact (led_r _ _ _ _).symm
 have h1:=key _ (hs _ (getD_mem (H:=O) (i:=i) (hO.symm ▸ hi)))
 rw[e i hi j (Nat.lt_add_right n hj),ext_lo hj] at h1
 rw[h1]
 exact S_congr λa ha=>by rw[e i hi (m+a) (Nat.add_lt_add_left ha m),ext_hi]⟩
theorem led_gen {n m:Nat} {M L M' L':Mat} {O:List V} (g:Gen n L) (hO:O.length=n) (hs:∀ i,i < n->Sp (Ls O) (ext m (M i) (L i))) (e:∀ i,i < n->∀ j,j < m+n->(O.getD i nil0) j=ext m (M' i) (L' i) j):Gen n L' :=
 g.of λi hi=>by
  have key:∀ u:V,Sp (Ls O) u->∃ w,Sp (λr=>∃ i,i < n/\r=L' i) w/\∀ j,j < n->u (m+j)=w j:=λu hu=>by
   induction hu with
   | zero z=>exact ⟨nil0,.zero λ_=>rfl,λj _=>z _⟩
   | @lin a b w x ha _ e' ih =>
    obtain ⟨k,hk,rfl⟩:=mem_iff_getElem.mp ha
    obtain ⟨q,q1,q2⟩:=ih
    have hk':k < n:=hO ▸ hk
    have ek:O[k]=O.getD k nil0:=by rw[getD_eq_getElem?_getD,List.getElem?_eq_getElem hk];rfl
    exact ⟨λj=>x*L' k j+1*q j,(Sp.mem ⟨k,hk',rfl⟩).comb x 1 q1 λ_=>rfl,λj hj=>by
     rw[e',ek,e k hk' _ (Nat.add_lt_add_left hj m),ext_hi,q2 j hj];exact led_1 _ _⟩
  obtain ⟨w,w1,w2⟩:=key _ (hs i hi)
  exact ⟨w,w1,λj hj=>by rw[<-w2 j hj,ext_hi]⟩
def X1 (D b:Nat):Nat:=3*D+2*b+20
def K1 (D b:Nat):Nat:=2*D+9*X1 D b+40
def K2 (D b:Nat):Nat:=2*X1 D b+9*(D+X1 D b+2+X1 D b)+40
def K3 (D:Nat):Nat:=2*D+9*(D+D+2+D)+40
def E1 (D b:Nat):Nat:=X1 D b+128*K2 D b+128*K1 D b
def EF (D b:Nat):Nat:=E1 D b+9*(D+1)*(D+11)
structure Ph (n m r D b:Nat) (G M L R:Mat) (T:List V) (s l:Nat):Prop where
 rel:Rel n m G M L R
 gl:Gen n L
 gr:Gen m R
 sq:Sq n r D T
 rm:r<=m
 cell:∀ i j,i < n->j < m->M i j=(T.getD j nil0) i
 ms:Ms r T s l
 lD:l<=D
 bl:∀ i j,i < n->j < n->Bt (E1 D b+(9*(D+1) - ((r - s)*(D+1)+l))*(D+11)) (L i j)
 br:∀ i j,i < m->j < m->Bt (E1 D b+(9*(D+1) - ((r - s)*(D+1)+l))*(D+11)) (R i j)
def rowsE (n m:Nat) (M L:Mat):List V:=(List.range n).map λi=>ext m (M i) (L i)
theorem rowsE_get {n m i:Nat} {M L:Mat} (h:i < n):(rowsE n m M L)[i]?=some (ext m (M i) (L i)):=by unfold rowsE;rw[List.getElem?_map,List.getElem?_range h];rfl
theorem rowsE_len {n m:Nat} {M L:Mat}:(rowsE n m M L).length=n:=by unfold rowsE;simp
theorem rowsE_mem {n m:Nat} {M L:Mat} {v:V} (h:v∈rowsE n m M L):∃ i,i < n/\v=ext m (M i) (L i):=by
 obtain ⟨i,hi,rfl⟩:=mem_map.mp h
 exact ⟨i,mem_range.mp hi,rfl⟩
theorem rowsE_bt {n m w e:Nat} {M L:Mat} (hw:w=m+n) (h1:∀ i j,i < n->j < m->Bt e (M i j)) (h2:∀ i j,i < n->j < n->Bt e (L i j)):∀ v∈rowsE n m M L,∀ j,j < w->Bt e (v j):=λv hv j hj=>by
 obtain ⟨i,hi,rfl⟩:=rowsE_mem hv
 unfold ext
 split
 ·exact h1 i j hi (by assumption)
 ·exact h2 i _ hi (by lia)
theorem rowsE_turn {n m:Nat} {M L:Mat} {T:List V} (h:∀ i j,i < n->j < m->M i j=(T.getD j nil0) i):rowsE n m M L=turn n m T L:=by
 unfold rowsE turn
 refine List.map_congr_left λi hi=>?_
 funext j
 unfold ext
 split
 ·exact h i j (mem_range.mp hi) (by assumption)
 ·rfl
structure Out (n m:Nat) (H Z:List V) (M' L':Mat):Prop where
 len:(H++Z).length=n
 eq:∀ i,i < n->∀ j,j < m+n->((H++Z).getD i nil0) j=ext m (M' i) (L' i) j
section
variable {n m X E KK:Nat} {G M L R M' L':Mat} {H Z T:List V}
theorem out_rel (I:SI m (m+n) (rowsE n m M L) X E KK n H Z) (O:Out n m H Z M' L') (h:Rel n m G M L R) (g:Gen n L):Rel n m G M' L' R/\Gen n L':=by
 have ht:(rowsE n m M L).take n=rowsE n m M L:=List.take_of_length_le (by rw[rowsE_len];exact Nat.le_refl n)
 refine ⟨led_rel h O.len (λu hu=>?_) O.eq,led_gen (M:=M) g O.len (λi hi=>?_) O.eq⟩
 ·have:=I.bw u (by rcases mem_append.mp hu with z|z;exact mem_append_right _ z;exact mem_append_left _ z)
  rw[ht] at this
  exact this
 ·have:=I.fw (ext m (M i) (L i)) (by rw[ht];exact mem_of_getElem? (rowsE_get hi))
  exact this.mono λu hu=>by rcases mem_append.mp hu with z|z;exact mem_append_right _ z;exact mem_append_left _ z
theorem out_cell (I:SI m (m+n) (rowsE n m M L) X E KK n H Z) (O:Out n m H Z M' L') {i j:Nat} (hi:i < n) (hj:j < m):M' i j=(H.getD i nil0) j:=by
 have e:=O.eq i hi j (Nat.lt_add_right n hj)
 rw[ext_lo hj] at e
 rw[<-e]
 by_cases h:i < H.length
 ·rw[getD_eq_getElem?_getD,List.getElem?_append_left h,<-getD_eq_getElem?_getD]
 ·rw[getD_eq_getElem?_getD,List.getElem?_append_right (by lia),<-getD_eq_getElem?_getD,getD_nil (T:=H) (by lia)]
  exact I.zr _ (getD_mem (by have:=O.len;rw[length_append] at this;lia)) j hj
theorem out_bt (O:Out n m H Z M' L') {e:Nat} (h:∀ u∈Z++H,∀ j,j < m+n->Bt e (u j)) {i j:Nat} (hi:i < n) (hj:j < n):Bt e (L' i j):=by
 have e1:=O.eq i hi (m+j) (Nat.add_lt_add_left hj m)
 rw[ext_hi] at e1
 rw[<-e1]
 have:=getD_mem (H:=H++Z) (i:=i) (by rw[O.len];exact hi)
 exact h _ (by rcases mem_append.mp this with z|z;exact mem_append_right _ z;exact mem_append_left _ z) _ (Nat.add_lt_add_left hj m)
theorem Ph.reg {r D b s l:Nat} (P:Ph n m r D b G M L R T s l):Reg m (rowsE n m M L) D (D+D+2+D) (D+D+2) D:=by
 rw[rowsE_turn P.cell]
 exact reg_trap (P.sq.trap P.rm) (Nat.le_refl D) (Nat.le_refl D)
theorem mu1 {x l:Nat} (h:1<=l):x+(l - 1)+1<=x+l:=by lia
theorem mu0 {a l D:Nat} (h:a<=8) (hl:l<=D):a*(D+1)+l<=9*(D+1):=by
 have:=Nat.mul_le_mul_right (D+1) h
 lia
theorem mu_up {E a a' N D:Nat} (h:a'+1<=a) (h0:a<=N):E+(N - a)*(D+11)+D+11<=E+(N - a')*(D+11)/\E+(N - a)*(D+11)<=E+(N - a')*(D+11):=by
 have:=Nat.mul_le_mul_right (D+11) (show N - a+1<=N - a' by lia)
 rw[Nat.add_mul,Nat.one_mul] at this
 lia
theorem E1_ge {D b:Nat}:D<=E1 D b:=by unfold E1 X1;lia
theorem Ph.half {r D b s l:Nat} (P:Ph n m r D b G M L R T s l) (hD:1<=D) (h1:s < r\/1<=l) (I:SI m (m+n) (rowsE n m M L) X E KK n H Z) (O:Out n m H Z M' L') :
  ∃ s' l',Ph m n r D b (λi j=>G j i) (λi j=>M' j i) R L' H s' l'/\(r - s')*(D+1)+l'+1<=(r - s)*(D+1)+l/\(s' < r\/1<=l'\/s=r):=by
 have et:=rowsE_turn (L:=L) P.cell
 have I':=I
 rw[et] at I'
 have len:(turn n m T L).length=n:=turn_len
 have I'':SI m (m+n) (turn n m T L) X E KK (turn n m T L).length H Z:=by rw[len];exact I'
 have S':=sq_next (P.sq.trap (B:=L) P.rm) I''
 obtain ⟨r1,g1⟩:=out_rel I O P.rel P.gl
 have hrn:=P.sq.rq
 obtain ⟨s',l',M2,hl',hμ,hd⟩:∃ s' l',Ms r H s' l'/\l'<=D/\(r - s')*(D+1)+l'+1<=(r - s)*(D+1)+l/\(s' < r\/1<=l'\/s=r):=by
  have e:Eqv m H (turn n m T L):=by
   have:=I''.eqv
   rwa [List.take_length] at this
  have hlD:=Nat.le_trans (Nat.sub_le l 1) P.lD
  rcases P.ms.next P.sq S' e with ⟨rfl,h⟩|⟨hs,hl,h⟩|⟨hs,h⟩
  ·exact ⟨s,l - 1,⟨h.sr,h.al,λz=>absurd z (Nat.lt_irrefl _)⟩,hlD,mu1 (h1.resolve_left (Nat.lt_irrefl _)),.inr (.inr rfl)⟩
  ·exact ⟨s,l - 1,h,hlD,mu1 hl,.inl hs⟩
  ·refine ⟨s+1,D,h,Nat.le_refl _,?_,.inr (.inl hD)⟩
   rw[sub_one hs,Nat.add_mul,Nat.one_mul];exact Nat.le_add_right _ l
 obtain ⟨up,up'⟩:=@mu_up (E1 D b) _ _ _ D hμ (mu0 (Nat.le_trans (Nat.sub_le r s) P.sq.r8) P.lD)
 refine ⟨s',l',⟨r1.tr,P.gr,g1,S',hrn,λi j hi hj=>out_cell I O hj hi,M2,hl',λi j hi hj=>(P.br i j hi hj).up up',λi j hi hj=>?_⟩,hμ,hd⟩
 have hB:∀ v∈turn n m T L,∀ j,j < m+n->Bt (E1 D b+(9*(D+1) - ((r - s)*(D+1)+l))*(D+11)) (v j):=by
  rw[<-et]
  refine rowsE_bt rfl (λi j hi hj=>?_) P.bl
  rw[P.cell i j hi hj]
  by_cases z:j < r
  ·have hd:=P.sq.bt (getD_mem (i:=j) (by rw[P.sq.len];exact z)) i hi
   exact hd.up (Nat.le_trans E1_ge (Nat.le_add_right _ _))
  ·rw[getD_nil (by rw[P.sq.len];exact Nat.le_of_not_lt z)];exact .zero
 exact (out_bt O (sq_beside P.sq P.rm I'' hB) hi hj).up up
theorem first_reg {D b k:Nat} (hm:m<=8) (b1:1<=b) (hb:∀ i j,i < n->j < m->Bt b (G i j)) (hk:m<=k\/n<=k) (hk1:1<=k) (hk8:k<=8) (hD:(b+3)*k+1<=D):Reg m (rowsE n m G L) D (3*D+2*b+20) (2*D+2) D :=
 reg_any hm b1 (λv hv j hj=>by
  obtain ⟨i,hi,rfl⟩:=rowsE_mem hv
  rw[ext_lo hj];exact hb i j hi hj) (by rw[rowsE_len];exact hk) hk1 hk8 hD
structure Fi (n m D b:Nat) (G M L R:Mat) (H:List V):Prop where
 rel:Rel n m G M L R
 gl:Gen n L
 gr:Gen m R
 ec:Ec m H
 len:H.length<=8/\H.length<=n
 pD:Bt D (pv m H)
 bX:∀ u∈H,∀ j,j < m->Bt (X1 D b) (u j)
 cell:∀ i j,i < n->j < m->M i j=(H.getD i nil0) j
 bl:∀ i j,i < n->j < n->Bt (E1 D b) (L i j)
 br:∀ i j,i < m->j < m->Bt 1 (R i j)
theorem first_half {D b:Nat} (hn:n<=8) (Rg:Reg m (rowsE n m G L) D (3*D+2*b+20) (2*D+2) D) (rel:Rel n m G G L R) (gl:Gen n L) (gr:Gen m R) (hR:∀ i j,i < m->j < m->Bt 1 (R i j))
  (I:SI m (m+n) (rowsE n m G L) (X1 D b) (X1 D b) (16*K1 D b) n H Z) (O:Out n m H Z M' L'):Fi n m D b G M' L' R H:=by
 obtain ⟨r1,g1⟩:=out_rel I O rel gl
 have rg:=Rg.reg n H (by rw[rowsE_len];exact Nat.le_refl n) I.ec (by have:=I.eqv;exact this)
 refine ⟨r1,g1,gr,I.ec,⟨rg.len,by have:=I.len;lia⟩,rg.prod,I.bX,λi j hi hj=>out_cell I O hi hj,λi j hi hj=>(out_bt O I.bE hi hj).up ?_,hR⟩
 have:=Nat.mul_le_mul_right (16*K1 D b) hn
 unfold E1
 lia
theorem Fi.reg {D b:Nat} (F:Fi n m D b G M L R H):Reg n (rowsE m n (λj i=>M i j) R) (X1 D b) (D+X1 D b+2+X1 D b) (D+X1 D b+2) D:=by
 rw[rowsE_turn (T:=H) λi j hi hj=>F.cell j i hj hi]
 exact reg_trap (trap_of F.ec F.len.1 F.len.2 F.pD F.bX) (by unfold X1;lia) (Nat.le_refl _)
theorem Fi.half {D b:Nat} (hm:m<=8) (F:Fi n m D b G M L R H) {T:List V} (I:SI n (n+m) (rowsE m n (λj i=>M i j) R) (D+X1 D b+2+X1 D b) (X1 D b) (16*K2 D b) m T Z) {R':Mat} (O:Out m n T Z M' R') :
  Ph n m H.length D b G (λi j=>M' j i) L R' T 0 D:=by
 have et:=rowsE_turn (L:=R) (T:=H) (M:=λj i=>M i j) (n:=m) (m:=n) λi j hi hj=>F.cell j i hj hi
 have I':=I
 rw[et] at I'
 have I'':SI n (n+m) (turn m n H R) (D+X1 D b+2+X1 D b) (X1 D b) (16*K2 D b) (turn m n H R).length T Z:=by rw[turn_len];exact I'
 have S':=sq_next (trap_of (B:=R) F.ec F.len.1 F.len.2 F.pD F.bX) I''
 obtain ⟨r1,g1⟩:=out_rel I O F.rel.tr F.gr
 have hp:∀ i j,i < m->j < m->Bt (E1 D b) (R' i j):=λi j hi hj=>(out_bt O I.bE hi hj).up (by
  have:=Nat.mul_le_mul_right (16*K2 D b) hm
  unfold E1
  lia)
 exact ⟨r1.tr,F.gl,g1,S',ec_len F.ec,λi j hi hj=>out_cell I O hj hi,⟨Nat.zero_le _,λi hi=>absurd hi (Nat.not_lt_zero i),λz=>S'.piv z⟩,Nat.le_refl D,λi j hi hj=>(F.bl i j hi hj).up (Nat.le_add_right _ _),λi j hi hj=>(hp i j hi hj).up (Nat.le_add_right _ _)⟩
theorem Ph.diag {r D b s l:Nat} (P:Ph n m r D b G M L R T s l) (h:s=r) {i j:Nat} (hi:i < n) (hj:j < m) (hij:i≠j):M i j=0:=by
 subst h
 rw[P.cell i j hi hj]
 by_cases z:j < s
 ·by_cases y:i < s
  ·exact P.ms.al j z i y hij
  ·exact P.sq.far z (by lia) hi
 ·rw[getD_nil (by rw[P.sq.len];lia)]
end
structure Ch (n m r D:Nat) (G M L R:Mat) (d:Nat->Int) (e:Nat):Prop where
 rel:Rel n m G M L R
 gl:Gen n L
 gr:Gen m R
 rn:r<=n
 rm:r<=m
 cell:∀ i j,i < n->j < m->M i j=if i=j/\i < r then d i else 0
 pos:∀ i,i < r->0 < d i
 pD:Bt D (prodF r d)
 bl:∀ i j,i < n->j < n->Bt e (L i j)
 br:∀ i j,i < m->j < m->Bt e (R i j)
def bil (n m:Nat) (G:Mat) (u v:V):Int:=S n λa=>u a*S m λb=>G a b*v b
theorem bil_l {n m:Nat} {G:Mat} (x y:Int) (u v w:V):bil n m G (λa=>x*u a+y*v a) w=x*bil n m G u w+y*bil n m G v w:=by
 unfold bil
 rw[<-S_mul,<-S_mul,<-S_add]
 exact S_congr λa _=>by rw[Int.add_mul,Int.mul_assoc,Int.mul_assoc]
theorem bil_r {n m:Nat} {G:Mat} (x y:Int) (u v w:V):bil n m G w (λa=>x*u a+y*v a)=x*bil n m G w u+y*bil n m G w v:=by
 unfold bil
 rw[<-S_mul,<-S_mul,<-S_add]
 refine S_congr λa _=>?_
 have:(S m λb=>G a b*(x*u b+y*v b))=x*(S m λb=>G a b*u b)+y*S m λb=>G a b*v b:=by
  rw[<-S_mul,<-S_mul,<-S_add]
  exact S_congr λb _=>by grind
 rw[this];grind
theorem prodF_set:∀ {r:Nat} {f:Nat->Int} {i:Nat} (x:Int),i < r->prodF r (λk=>if k=i then x else f k)*f i=prodF r f*x
 | r+1,f,0,x,_=>by
  rw[prodF,prodF,if_pos rfl,prodF_congr (g:=λi=>f (i+1)) λk _=>if_neg (by lia)]
  grind
 | r+1,f,i+1,x,h=>by
  have:=@prodF_set r (λk=>f (k+1)) i x (by lia)
  rw[prodF,prodF,if_neg (by lia),prodF_congr (g:=λk=>if k=i then x else f (k+1)) λk _=>by
   by_cases e:k=i
   ·subst e;rw[if_pos rfl,if_pos rfl]
   ·rw[if_neg (by lia),if_neg e]]
  have this:prodF r (λk=>if k=i then x else f (k+1))*f (i+1)=prodF r (λk=>f (k+1))*x:=this
  grind
theorem prodF_dvd:∀ {r:Nat} {f:Nat->Int} {i:Nat},i < r->f i ∣ prodF r f
 | r+1,f,0,_=>Int.dvd_mul_right _ _
 | r+1,f,i+1,h=>Int.dvd_mul_of_dvd_right (prodF_dvd (f:=λk=>f (k+1)) (by lia))
def two (i j:Nat) (x y:V) (f:Mat):Mat:=λk=>if k=i then x else if k=j then y else f k
section
variable {n m r D e i j:Nat} {G M L R:Mat} {d:Nat->Int}
theorem Ch.dD (C:Ch n m r D G M L R d e) (h:i < r):Bt D (d i):=C.pD.le (Int.le_of_lt (C.pos i h)) (Int.le_of_dvd (prodF_pos C.pos) (prodF_dvd h))
theorem gen_two (g:Gen n L) (hi:i < n) (hj:j < n) (hij:i≠j) {x1 y1 x2 y2:Int} {a b c k:Int} (h1:a*x1+b*x2=1) (h2:a*y1+b*y2=0) (h3:c*x1+k*x2=0) (h4:c*y1+k*y2=1) :
  Gen n (two i j (λq=>x1*L i q+y1*L j q) (λq=>x2*L i q+y2*L j q) L):=g.of λp hp=>by
 have mi:Sp (λr=>∃ p,p < n/\r=two i j (λq=>x1*L i q+y1*L j q) (λq=>x2*L i q+y2*L j q) L p) (λq=>x1*L i q+y1*L j q):=.mem ⟨i,hi,by unfold two;rw[if_pos rfl]⟩
 have mj:Sp (λr=>∃ p,p < n/\r=two i j (λq=>x1*L i q+y1*L j q) (λq=>x2*L i q+y2*L j q) L p) (λq=>x2*L i q+y2*L j q):=.mem ⟨j,hj,by unfold two;rw[if_neg hij.symm,if_pos rfl]⟩
 by_cases e1:p=i
 ·subst e1
  exact ⟨_,mi.comb a b mj (w:=L p) λq=>by
   have:L p q=(a*x1+b*x2)*L p q+(a*y1+b*y2)*L j q:=by rw[h1,h2];lia
   rw[this];grind,λ_ _=>rfl⟩
 ·by_cases e2:p=j
  ·subst e2
   exact ⟨_,mi.comb c k mj (w:=L p) λq=>by
    have:L p q=(c*x1+k*x2)*L i q+(c*y1+k*y2)*L p q:=by rw[h3,h4];lia
    rw[this];grind,λ_ _=>rfl⟩
  ·exact ⟨L p,.mem ⟨p,hp,by unfold two;rw[if_neg e1,if_neg e2]⟩,λ_ _=>rfl⟩
theorem two_i {x y:V} {f:Mat}:two i j x y f i=x:=if_pos rfl
theorem two_j {x y:V} {f:Mat} (h:j≠i):two i j x y f j=y:=by unfold two;rw[if_neg h,if_pos rfl]
theorem two_o {x y:V} {f:Mat} {p:Nat} (h:p≠i) (h2:p≠j):two i j x y f p=f p:=by unfold two;rw[if_neg h,if_neg h2]
theorem Ch.off (C:Ch n m r D G M L R d e) {p q:Nat} (hp:p < n) (hq:q < m) (h:p≠q):bil n m G (L p) (R q)=0:=((C.rel.eq p q hp hq).symm.trans (C.cell p q hp hq)).trans (if_neg λz=>h z.1)
theorem Ch.dg (C:Ch n m r D G M L R d e) {p:Nat} (hp:p < r):bil n m G (L p) (R p)=d p:=by
 have h1:=Nat.lt_of_lt_of_le hp C.rn
 have h2:=Nat.lt_of_lt_of_le hp C.rm
 exact ((C.rel.eq p p h1 h2).symm.trans (C.cell p p h1 h2)).trans (if_pos ⟨rfl,hp⟩)
theorem pr1 {g s t x y:Int} (h:g=s*x+t*y):g=s*(1*x+1*0)+t*(1*0+1*y):=by rw[h];grind
theorem pr2 (g s t a b:Int):0=s*(-t*b*(g*a)+s*a*0)+t*(-t*b*0+s*a*(g*b)):=by grind
theorem pr3 {s t a b:Int} (g:Int) (h:s*a+t*b=1):a*(g*b)=-b*(-t*b*(g*a)+s*a*0)+a*(-t*b*0+s*a*(g*b)):=by
 have:a*(g*b)=a*(g*b)*(s*a+t*b):=by rw[h,Int.mul_one]
 rw[this];grind
theorem pr4 (g a b:Int):0=-b*(1*(g*a)+1*0)+a*(1*0+1*(g*b)):=by grind
theorem pr5 {s t a b:Int} (h:s*a+t*b=1):a*s+-t*-b=1/\a*t+-t*a=0/\b*s+s*-b=0/\b*t+s*a=1:=by
 refine ⟨?_,?_,?_,?_⟩
 ·rw[<-h];grind
 ·grind
 ·grind
 ·rw[<-h];grind
theorem pr6 {s t a b:Int} (h:s*a+t*b=1):s*a*1+-1*(-t*b)=1/\s*a*1+-1*(s*a)=0/\t*b*1+1*(-t*b)=0/\t*b*1+1*(s*a)=1:=by
 refine ⟨?_,?_,?_,?_⟩
 ·rw[<-h];grind
 ·grind
 ·grind
 ·rw[<-h];grind
theorem pr8 {P Q g a x y:Int} (h1:Q*(g*a)=P*g):Q*(a*y)*(g*a)=P*(y*(g*a)):=by
 have:Q*(a*y)*(g*a)=Q*(g*a)*(a*y):=by grind
 rw[this,h1];grind
theorem pr_rel {M':Mat} {g s t a b:Int} (hij:i≠j) (hin:i < n) (hjn:j < n) (him:i < m) (hjm:j < m) (hM:∀ p q,p < n->q < m->M' p q=if p=i/\q=i then g else if p=j/\q=j then a*(g*b) else bil n m G (L p) (R q))
  (off:∀ p q,p < n->q < m->p≠q->bil n m G (L p) (R q)=0) (di:bil n m G (L i) (R i)=g*a) (dj:bil n m G (L j) (R j)=g*b) (eq:g=s*(g*a)+t*(g*b)) (d1:s*a+t*b=1) {p q:Nat} (hp:p < n) (hq:q < m) :
  M' p q=bil n m G (two i j (λq=>s*L i q+t*L j q) (λq=>-b*L i q+a*L j q) L p) (two i j (λq=>1*R i q+1*R j q) (λq=>-t*b*R i q+s*a*R j q) R q):=by
 have oij:=off i j hin hjm hij
 have oji:=off j i hjn him hij.symm
 rw[hM p q hp hq]
 by_cases p1:p=i
 ·rw[p1,two_i]
  by_cases q1:q=i
  ·rw[q1,if_pos ⟨rfl,rfl⟩,two_i,bil_l,bil_r,bil_r,di,oij,oji,dj]
   exact pr1 eq
  ·rw[if_neg λz=>q1 z.2,if_neg λz=>hij z.1]
   by_cases q2:q=j
   ·rw[q2,two_j hij.symm,bil_l,bil_r,bil_r,di,oij,oji,dj]
    exact pr2 g s t a b
   ·rw[two_o q1 q2,bil_l,off i q hin hq (Ne.symm q1),off j q hjn hq (Ne.symm q2),Int.mul_zero,Int.mul_zero];rfl
 ·rw[if_neg λz=>p1 z.1]
  by_cases p2:p=j
  ·rw[p2,two_j hij.symm]
   by_cases q2:q=j
   ·rw[q2,if_pos ⟨rfl,rfl⟩,two_j hij.symm,bil_l,bil_r,bil_r,di,oij,oji,dj]
    exact pr3 g d1
   ·rw[if_neg λz=>q2 z.2]
    by_cases q1:q=i
    ·rw[q1,two_i,bil_l,bil_r,bil_r,di,oij,oji,dj]
     exact pr4 g a b
    ·rw[two_o q1 q2,bil_l,off i q hin hq (Ne.symm q1),off j q hjn hq (Ne.symm q2),Int.mul_zero,Int.mul_zero];rfl
  ·rw[two_o p1 p2,if_neg λz=>p2 z.1]
   by_cases q1:q=i
   ·rw[q1,two_i,bil_r,off p i hp him p1,off p j hp hjm p2];rfl
   ·by_cases q2:q=j
    ·rw[q2,two_j hij.symm,bil_r,off p i hp him p1,off p j hp hjm p2,Int.mul_zero,Int.mul_zero];rfl
    ·rw[two_o q1 q2]
theorem pr_cell {M M':Mat} {g k:Int} (hij:i≠j) (hi:i < r) (hj:j < r) {p q:Nat} (hM:M' p q=if p=i/\q=i then g else if p=j/\q=j then k else M p q) (hc:M p q=if p=q/\p < r then d p else 0) :
  M' p q=if p=q/\p < r then (if p=i then g else if p=j then k else d p) else 0:=by
 rw[hM,hc]
 by_cases e:p=q
 ·subst e
  by_cases p1:p=i
  ·rw[if_pos ⟨p1,p1⟩,p1,if_pos rfl,if_pos ⟨rfl,hi⟩]
  ·rw[if_neg λz=>p1 z.1,if_neg p1]
   by_cases p2:p=j
   ·rw[if_pos ⟨p2,p2⟩,p2,if_pos rfl,if_pos ⟨rfl,hj⟩]
   ·rw[if_neg λz=>p2 z.1,if_neg p2]
 ·rw[if_neg λz=>e (z.1.trans z.2.symm),if_neg λz=>e (z.1.trans z.2.symm),if_neg λz=>e z.1,if_neg λz=>e z.1]
theorem pr_prod {g a y:Int} (hij:i≠j) (hi:i < r) (hj:j < r) (pi:0 < d i) (pj:0 < d j) (ei:d i=g*a):prodF r (λk=>if k=i then g else if k=j then a*d j else d k)=prodF r d:=by
 have h1:=prodF_set (r:=r) (f:=d) (i:=i) g hi
 have h2:=prodF_set (r:=r) (f:=λk=>if k=i then g else d k) (i:=j) (a*d j) hj
 rw[if_neg hij.symm] at h2
 have e1:prodF r (λk=>if k=i then g else if k=j then a*d j else d k)=prodF r λk=>if k=j then a*d j else if k=i then g else d k:=prodF_congr λk _=>by
  by_cases z:k=i
  ·rw[if_pos z,z,if_neg hij,if_pos rfl]
  ·rw[if_neg z,if_neg z]
 rw[e1]
 refine Int.eq_of_mul_eq_mul_right (Int.ne_of_gt (Int.mul_pos pj pi)) ?_
 rw[<-Int.mul_assoc,h2,ei]
 rw[ei] at h1
 exact pr8 (x:=0) h1
theorem bt_two {D:Nat} {x y:V} {f:Mat} {p q:Nat} (h1:Bt D (x q)) (h2:Bt D (y q)) (h3:Bt D (f p q)):Bt D (two i j x y f p q):=by
 unfold two
 split
 ·exact h1
 ·split
  ·exact h2
  ·exact h3
theorem bt_lin {D k e f:Nat} {s t x y:Int} (hs:Bt k s) (ht:Bt D t) (hx:Bt e x) (hy:Bt e y) (h1:k+e < f) (h2:D+e < f):Bt f (s*x+t*y):=(hs.mul hx).add (ht.mul hy) h1 h2
theorem ch_w (D e:Nat):D+1+e < e+2*D+6/\D+2+e < e+2*D+6/\D+e < e+2*D+6/\1+e < e+2*D+6/\D+2+D+e < e+2*D+6/\D+1+D+e < e+2*D+6/\e<=e+2*D+6:=by lia
theorem Ch.pair (C:Ch n m r D G M L R d e) (hij:i < j) (hj:j < r) {g s t:Int} (S:Shr (d i) (d j) g s t) {M':Mat} (hM:∀ p q,p < n->q < m->M' p q=if p=i/\q=i then g else if p=j/\q=j then d i / g*d j else M p q) :
  Ch n m r D G M' (two i j (λq=>s*L i q+t*L j q) (λq=>-(d j / g)*L i q+d i / g*L j q) L) (two i j (λq=>1*R i q+1*R j q) (λq=>-t*(d j / g)*R i q+s*(d i / g)*R j q) R)
   (λk=>if k=i then g else if k=j then d i / g*d j else d k) (e+2*D+6):=by
 have hi:=Nat.lt_trans hij hj
 have hin:=Nat.lt_of_lt_of_le hi C.rn
 have him:=Nat.lt_of_lt_of_le hi C.rm
 have hjn:=Nat.lt_of_lt_of_le hj C.rn
 have hjm:=Nat.lt_of_lt_of_le hj C.rm
 have hij:=Nat.ne_of_lt hij
 have pi:=C.pos i hi
 have pj:=C.pos j hj
 have bi:=C.dD hi
 have bj:=C.dD hj
 have s1:Bt (D+1) s:=bt_s (a:=0) bj S.s1
 have t1:Bt (D+2) t:=bt_t bi bj S.t1
 have ba:=bi.quo S.g0 S.da
 have bb:=bj.quo S.g0 S.db
 have hd:=C.dg hi
 have hd2:=C.dg hj
 have geq:=S.eq
 obtain ⟨a',ea⟩:=S.da
 obtain ⟨b',eb⟩:=S.db
 have qa:d i / g=a':=by rw[ea];exact Int.mul_ediv_cancel_left _ (Int.ne_of_gt S.g0)
 have qb:d j / g=b':=by rw[eb];exact Int.mul_ediv_cancel_left _ (Int.ne_of_gt S.g0)
 rw[qa] at ba hM ⊢
 rw[qb] at bb ⊢
 rw[ea] at hd;rw[eb] at hd2;rw[ea,eb] at geq
 have d1:=pr7 S.g0 geq
 have a1:0 < a':=pr9 S.g0 (by rw[<-ea];exact pi)
 obtain ⟨l1,l2,l3,l4⟩:=pr5 d1
 obtain ⟨r1,r2,r3,r4⟩:=pr6 d1
 obtain ⟨w1,w2,w3,w4,w5,w6,w7⟩:=ch_w D e
 have one:Bt 1 1:=by show (1:Int).natAbs < 2 ^ 1;decide
 exact ⟨⟨λp q hp hq=>pr_rel hij hin hjn him hjm (λp q hp hq=>by rw[hM p q hp hq,eb,C.rel.eq p q hp hq];rfl) (λ_ _=>C.off) hd hd2 geq d1 hp hq⟩,
  gen_two C.gl hin hjn hij l1 l2 l3 l4,gen_two C.gr him hjm hij r1 r2 r3 r4,C.rn,C.rm,λp q hp hq=>pr_cell hij hi hj (hM p q hp hq) (C.cell p q hp hq),λk hk=>by
   show 0 < if k=i then g else if k=j then a'*d j else d k
   split
   ·exact S.g0
   ·split
    ·exact Int.mul_pos a1 pj
    ·exact C.pos k hk,(pr_prod (y:=0) hij hi hj pi pj ea).symm ▸ C.pD,
  λp q hp hq=>bt_two (bt_lin s1 t1 (C.bl i q hin hq) (C.bl j q hjn hq) w1 w2) (bt_lin bb.neg ba (C.bl i q hin hq) (C.bl j q hjn hq) w3 w3) ((C.bl p q hp hq).up w7),
  λp q hp hq=>bt_two (bt_lin one one (C.br i q him hq) (C.br j q hjm hq) w4 w4) (bt_lin (t1.neg.mul bb) (s1.mul ba) (C.br i q him hq) (C.br j q hjm hq) w5 w6) ((C.br p q hp hq).up w7)⟩
def CI (r i j:Nat) (d:Nat->Int):Prop:=∀ p q,p < q->q < r->(p < i\/(p=i/\q < j))->d p ∣ d q
theorem CI.one (h:CI r i j d) (hd:d i ∣ d j):CI r i (j+1) d:=λp q h1 h2 h3=>by
 by_cases e:p=i/\q=j
 ·obtain ⟨rfl,rfl⟩:=e;exact hd
 ·exact h p q h1 h2 (by lia)
theorem ci_1 {p q j:Nat} (h:p < p\/(p=p/\q < j+1)) (e:¬ q=j):q < j:=by lia
theorem ci_2 {p q i j:Nat} (h:p < i\/(p=i/\q < j+1)) (e:¬ p=i):p < i:=by lia
theorem CI.pair (h:CI r i j d) (hij:i < j) (hj:j < r) {g s t:Int} (S:Shr (d i) (d j) g s t):CI r i (j+1) (λk=>if k=i then g else if k=j then d i / g*d j else d k):=λp q h1 h2 h3=>by
 show (if p=i then g else if p=j then d i / g*d j else d p) ∣ if q=i then g else if q=j then d i / g*d j else d q
 have lj:∀ x:Int,x ∣ d j->x ∣ d i / g*d j:=λx hx=>Int.dvd_mul_of_dvd_right hx
 by_cases p1:p=i
 ·subst p1
  rw[if_pos rfl,if_neg (Nat.ne_of_gt h1)]
  split
  ·exact lj _ S.db
  ·rename_i z;exact Int.dvd_trans S.da (h p q h1 h2 (.inr ⟨rfl,ci_1 h3 z⟩))
 ·have pi:=ci_2 h3 p1
  rw[if_neg p1,if_neg (Nat.ne_of_lt (Nat.lt_trans pi hij))]
  split
  ·rename_i e;subst e
   have:=S.eq
   rw[this]
   exact Int.dvd_add (Int.dvd_mul_of_dvd_right (h p q h1 h2 (.inl pi))) (Int.dvd_mul_of_dvd_right (h p j (Nat.lt_trans pi hij) hj (.inl pi)))
  ·split
   ·rename_i e;subst e
    exact lj _ (h p q h1 h2 (.inl pi))
   ·exact h p q h1 h2 (.inl pi)
theorem CI.next (h:CI r i r d):CI r (i+1) (i+2) d:=λp q h1 h2 h3=>h p q h1 h2 (by lia)
end
structure Sm (n m:Nat) (G L C R:Mat):Prop where
 rel:Rel n m G C L R
 gl:Gen n L
 gr:Gen m R
 off:∀ i j,i < n->j < m->i≠j->C i j=0
 nn:∀ i,i < n->i < m->0<=C i i
 ch:∀ i,i+1 < n->i+1 < m->C i i ∣ C (i+1) (i+1)
theorem Ch.sm {n m r D e:Nat} {G M L R:Mat} {d:Nat->Int} (C:Ch n m r D G M L R d e) (h:CI r r r d):Sm n m G L M R where
 rel:=C.rel
 gl:=C.gl
 gr:=C.gr
 off:=λi j hi hj hij=>by rw[C.cell i j hi hj,if_neg (by lia)]
 nn:=λi hi hj=>by
  rw[C.cell i i hi hj]
  split
  ·rename_i z;exact Int.le_of_lt (C.pos i z.2)
  ·exact Int.le_refl 0
 ch:=λi hi hj=>by
  rw[C.cell (i+1) (i+1) hi hj,C.cell i i (by lia) (by lia)]
  by_cases z:i+1 < r
  ·rw[if_pos ⟨rfl,by lia⟩,if_pos ⟨rfl,z⟩]
   exact h i (i+1) (by lia) z (.inl (by lia))
  ·rw[if_neg (c:=i+1=i+1/\i+1 < r) (λy=>z y.2)];exact Int.dvd_zero _
theorem Ph.ch {n m r D b s l:Nat} {G M L R:Mat} {T:List V} (P:Ph n m r D b G M L R T s l) (h:∀ i j,i < n->j < m->i≠j->M i j=0):Ch n m r D G M L R (λi=>(T.getD i nil0) i) (EF D b) where
 rel:=P.rel
 gl:=P.gl
 gr:=P.gr
 rn:=P.sq.rq
 rm:=P.rm
 cell:=λi j hi hj=>by
  by_cases e:i=j
  ·subst e
   rw[P.cell i i hi hj]
   split
   ·rfl
   ·rw[getD_nil (by rw[P.sq.len];lia)]
  ·rw[h i j hi hj e,if_neg (λz=>e z.1)]
 pos:=λi hi=>P.sq.pos hi
 pD:=by
  have:=P.sq.pD
  rw[pv_prod,P.sq.len] at this
  rwa [prodF_congr (g:=λi=>(T.getD i nil0) i) λi hi=>by rw[P.sq.lds i hi]] at this
 bl:=λi j hi hj=>(P.bl i j hi hj).up (by
  unfold EF
  have:=Nat.mul_le_mul_right (D+11) (show 9*(D+1) - ((r - s)*(D+1)+l)<=9*(D+1) by lia)
  lia)
 br:=λi j hi hj=>(P.br i j hi hj).up (by
  unfold EF
  have:=Nat.mul_le_mul_right (D+11) (show 9*(D+1) - ((r - s)*(D+1)+l)<=9*(D+1) by lia)
  lia)
def Mn (n m k:Nat) (J:Int->Prop) (M:Mat):Prop:=∀ ρ γ:Nat->Nat,(∀ i,i < k->ρ i < n)->(∀ i,i < k->γ i < m)->J (det k λi j=>M (ρ i) (γ j))
theorem Mn.tr {n m k:Nat} {J:Int->Prop} {M:Mat} (h:Mn n m k J M):Mn m n k J λi j=>M j i:=λρ γ h1 h2=>by
 have:=h γ ρ h2 h1
 rwa [<-det_tr] at this
section
variable {n:Nat} {L:Mat}
theorem Gen.un (g:Gen n L) {A:Mat} (i:Nat) (hi:i < n):∃ u,Sp (λr=>∃ p,p < n/\r=λj=>S n λa=>L p a*A a j) u/\∀ j,A i j=u j:=by
 obtain ⟨u,su,eu⟩:=g (eu i)
 have key:∀ u:V,Sp (λr=>∃ i,i < n/\r=L i) u->Sp (λr=>∃ p,p < n/\r=λj=>S n λa=>L p a*A a j) λj=>S n λa=>u a*A a j:=λu hu=>by
  induction hu with
  | zero z=>exact .zero λj=>S_zero λa _=>by rw[z,Int.zero_mul]
  | @lin a b w x ha _ e ih =>
   obtain ⟨p,hp,rfl⟩:=ha
   exact .lin x ⟨p,hp,rfl⟩ ih λj=>by
    show (S n λa=>w a*A a j)=_
    rw[<-S_lin]
    exact S_congr λa _=>by rw[e];grind
 refine ⟨_,key u su,λj=>?_⟩
 rw[S_one i hi λa ha hai=>by rw[<-eu a ha];unfold MDet.eu;rw[if_neg hai,Int.zero_mul],<-eu i hi]
 unfold MDet.eu;rw[if_pos rfl];lia
end
theorem prodF_snoc:∀ (k:Nat) (f:Nat->Int),prodF (k+1) f=prodF k f*f k
 | 0,f=>by show f 0*1=1*f 0;lia
 | k+1,f=>by
  show f 0*prodF (k+1) _=f 0*prodF k _*f (k+1)
  rw[prodF_snoc k λi=>f (i+1)];grind
theorem chain_dvd {d:Nat->Int} {N:Nat} (h:∀ i,i+1 < N->d i ∣ d (i+1)):∀ {i j:Nat},i<=j->j < N->d i ∣ d j:=λ{i j} h1=>by
 induction j with
 | zero => intro _; have : i = 0 := by lia
           subst this;exact Int.dvd_refl _
 | succ j ih =>
  intro hj
  by_cases e:i=j+1
  ·subst e;exact Int.dvd_refl _
  ·exact Int.dvd_trans (ih (by lia) (by lia)) (h j hj)
def Pk (C:Mat) (k:Nat):Int:=prodF k λi=>C i i
section
variable {n m D b:Nat} {G M N L R:Mat} {T H:List V}
theorem rowsE_congr (h:∀ i j,i < n->j < m->M i j=N i j):rowsE n m M L=rowsE n m N L:=by
 unfold rowsE
 refine List.map_congr_left λi hi=>?_
 funext j
 unfold ext
 split
 ·exact h i j (mem_range.mp hi) (by assumption)
 ·rfl
theorem Ph.congr {r s l:Nat} (P:Ph n m r D b G M L R T s l) (h:∀ i j,i < n->j < m->M i j=N i j):Ph n m r D b G N L R T s l :=
 ⟨⟨λi j hi hj=>by rw[<-h i j hi hj];exact P.rel.eq i j hi hj⟩,P.gl,P.gr,P.sq,P.rm,λi j hi hj=>by rw[<-h i j hi hj];exact P.cell i j hi hj,P.ms,P.lD,P.bl,P.br⟩
theorem Ph.cB {r s l:Nat} (P:Ph n m r D b G M L R T s l) {i j:Nat} (hi:i < n) (hj:j < m):Bt D (M i j):=by
 rw[P.cell i j hi hj]
 by_cases z:j < r
 ·exact P.sq.bt (getD_mem (i:=j) (by rw[P.sq.len];exact z)) i hi
 ·rw[getD_nil (by rw[P.sq.len];lia)];exact .zero
theorem Fi.cB (F:Fi n m D b G M L R H) (i j:Nat) (hi:i < n) (hj:j < m):Bt (X1 D b) (M i j):=by
 rw[F.cell i j hi hj]
 by_cases z:i < H.length
 ·exact F.bX _ (getD_mem z) j hj
 ·rw[getD_nil (by lia)];exact .zero
theorem Sm.congr {C R2:Mat} (h:Sm n m G L C R) (e:∀ i j,i < m->j < m->R i j=R2 i j):Sm n m G L C R2 :=
 ⟨⟨λi j hi hj=>by
  rw[h.rel.eq i j hi hj]
  exact S_congr λa _=>by rw[S_congr λc hc=>by rw[e j c hj hc]]⟩,h.gl,h.gr.of λi hi=>⟨R2 i,.mem ⟨i,hi,rfl⟩,λj hj=>e i j hi hj⟩,h.off,h.nn,h.ch⟩
theorem Reg.up {wd:Nat} {Z:List V} {Y X X' C:Nat} (r:Reg wd Z Y X C D) (h:X<=X'):Reg wd Z Y X' C D :=
 ⟨r.DY,r.CC,λi H hi E e=>by
  have g:=r.reg i H hi E e
  exact ⟨g.len,g.prod,λu h1 h2 j hj=>(g.b0 u h1 h2 j hj).up h,λv hv=>⟨(g.bd v hv).1,λy h' u h1 h2 h3 h4 j hj=>((g.bd v hv).2 y h' u h1 h2 h3 h4 j hj).up h⟩⟩⟩
theorem first_all (hn:n<=8) (hm:m<=8) (hb:∀ i j,i < n->j < m->Bt 103 (G i j)) (hk:n+m<=8\/∀ i j,i < n->j < m->Bt 50 (G i j)):Reg m (rowsE n m G L) 425 (3*425+2*103+20) (2*425+2) 425:=by
 rcases hk with hk|hk
 ·exact first_reg (k:=4) hm (by decide) hb (by lia) (by decide) (by decide) (by decide)
 ·exact (first_reg (b:=50) (k:=8) hm (by decide) hk (.inl hm) (by decide) (by decide) (by decide)).up (by decide)
theorem Rel.start (hL:∀ i j,i < n->j < n->L i j=idm i j) (hR:∀ i j,i < m->j < m->R i j=idm i j):Rel n m G G L R:=⟨λi j hi hj=>by
 rw[S_one i hi λa ha hai=>by rw[hL i a hi ha];unfold idm;rw[if_neg (λe=>hai e.symm),Int.zero_mul],hL i i hi hi,S_one j hj λc hc hcj=>by rw[hR j c hj hc];unfold idm;rw[if_neg (λe=>hcj e.symm),Int.mul_zero],hR j j hj hj]
 unfold idm
 rw[if_pos rfl,if_pos rfl];lia⟩
end
end M06
namespace M62
open MDet M06
section
variable {n k:Nat} {G L C R:Mat}
theorem gen_null (g:Gen n R) {y:Nat->Int} (h:∀ p,p < n->(S n λb=>R p b*y b)=0) {j:Nat} (hj:j < n):y j=0:=by
 obtain ⟨u,su,eu⟩:=g.un (A:=λb _=>y b) j hj
 have:(0:Int) ∣ u 0:=sp_at su λa ha=>by
  obtain ⟨p,hp,rfl⟩:=ha
  show (0:Int) ∣ S n λa=>R p a*y a
  rw[h p hp];exact Int.dvd_refl 0
 exact (eu 0).trans (Int.zero_dvd.mp this)
theorem col_dvd (s:Sm n n G L C R) (hk:k < n) {i:Nat} (hi:i < n):C k k ∣ S n λb=>G i b*R k b:=by
 obtain ⟨u,su,eu⟩:=s.gl.un (A:=λa j=>S n λb=>G a b*R j b) i hi
 have e:(S n λb=>G i b*R k b)=u k:=eu k
 rw[e]
 refine sp_at su λa ha=>?_
 obtain ⟨p,hp,rfl⟩:=ha
 show C k k ∣ S n λa=>L p a*S n λb=>G a b*R k b
 rw[<-s.rel.eq p k hp hk]
 by_cases e:p=k
 ·subst e;exact Int.dvd_refl _
 ·rw[s.off p k hp hk e];exact Int.dvd_zero _
theorem sum_swap (t v:Nat->Int):(S n λb=>(S n λi=>t i*G i b)*v b)=S n λi=>t i*S n λb=>G i b*v b:=by
 have e:(S n λb=>(S n λi=>t i*G i b)*v b)=S n λb=>S n λi=>t i*(G i b*v b):=S_congr λb _=>by
  rw[Int.mul_comm,<-S_mul]
  exact S_congr λi _=>by rw[Int.mul_comm,Int.mul_assoc]
 rw[e,S_swap]
 exact S_congr λi _=>S_mul _ _ _
theorem dvd_S {d:Int}:∀ {n:Nat} {f:Nat->Int},(∀ i,i < n->d ∣ f i)->d ∣ S n f
 | 0,_,_=>Int.dvd_zero _
 | n+1,f,h=>Int.dvd_add (dvd_S λi hi=>h i (Nat.lt_succ_of_lt hi)) (h n (Nat.lt_succ_self n))
theorem made_dvd (s:Sm n n G L C R) (hk:k < n) {gap t:Nat->Int} (h:∀ b,b < n->gap b=S n λi=>t i*G i b):C k k ∣ S n λb=>gap b*R k b:=by
 rw[S_congr λb hb=>by rw[h b hb],sum_swap]
 exact dvd_S λi hi=>Int.dvd_mul_of_dvd_right (col_dvd s hk hi)
theorem same_aux (s:Sm n n G L C R) {gap t:Nat->Int} (h:∀ k,k < n->(S n λb=>gap b*R k b)=t k*C k k) {p:Nat} (hp:p < n):(S n λb=>R p b*((S n λi=>(S n λk=>t k*L k i)*G i b)+-1*gap b))=0:=by
 have e1:(S n λb=>R p b*((S n λi=>(S n λk=>t k*L k i)*G i b)+-1*gap b))=(S n λb=>(S n λi=>(S n λk=>t k*L k i)*G i b)*R p b)+-1*S n λb=>gap b*R p b:=by
  rw[<-S_mul,<-S_add]
  exact S_congr λb _=>by grind
 have e2:(S n λi=>(S n λk=>t k*L k i)*S n λb=>G i b*R p b)=S n λk=>t k*C k p:=by
  rw[sum_swap (G:=L) t λi=>S n λb=>G i b*R p b]
  exact S_congr λk hk=>by rw[s.rel.eq k p hk hp]
 rw[e1,sum_swap (G:=G),e2,S_one p hp λk hk hkp=>by rw[s.off k p hk hp hkp,Int.mul_zero],h p hp]
 lia
theorem same_ok (s:Sm n n G L C R) {gap t:Nat->Int} (h:∀ k,k < n->(S n λb=>gap b*R k b)=t k*C k k) {b:Nat} (hb:b < n):(S n λi=>(S n λk=>t k*L k i)*G i b)=gap b:=by
 have:(λb=>(S n λi=>(S n λk=>t k*L k i)*G i b)+-1*gap b) b=0:=by
  refine gen_null (y:=λb=>(S n λi=>(S n λk=>t k*L k i)*G i b)+-1*gap b) s.gr (λp hp=>?_) hb
  exact same_aux s h hp
 have this:(S n λi=>(S n λk=>t k*L k i)*G i b)+-1*gap b=0:=this
 lia
end
section
variable {r t p:Nat->Int} {bt:Int}
structure Fr (r bt t p:Int):Prop where
 pos:0 < p
 eq:t*bt=r*p
 co:∀ e,e ∣ t->e ∣ p->e ∣ 1
 tl:t.natAbs<=r.natAbs
 pl:p.natAbs<=bt.natAbs
theorem fr_of {r bt c:Int} (hb:bt≠0) (hc:∀ e,e ∣ c ↔ (e ∣ r/\e ∣ bt)) (hs:(bt < 0->c < 0)/\(0 < bt->0 < c)):Fr r bt (r.fdiv c) (bt.fdiv c):=by
 obtain ⟨⟨t,rfl⟩,p,rfl⟩:=(hc c).mp (Int.dvd_refl c)
 have c0:c≠0:=λz=>hb (by rw[z,Int.zero_mul])
 rw[Int.mul_fdiv_cancel_left _ c0,Int.mul_fdiv_cancel_left _ c0]
 refine ⟨?_,by grind,λe h1 h2=>?_,?_,?_⟩
 ·rcases Int.lt_or_lt_of_ne hb with h|h
  ·exact Int.pos_of_mul_neg_right h (hs.1 h)
  ·exact Int.pos_of_mul_pos_right h (hs.2 h)
 ·obtain ⟨a,rfl⟩:=h1
  obtain ⟨b,rfl⟩:=h2
  obtain ⟨q,hq⟩:=(hc (c*e)).mpr ⟨⟨a,by rw[Int.mul_assoc]⟩,b,by rw[Int.mul_assoc]⟩
  refine ⟨q,Int.eq_of_mul_eq_mul_left c0 ?_⟩
  rw[Int.mul_one,<-Int.mul_assoc];exact hq
 ·rw[Int.natAbs_mul];exact Nat.le_mul_of_pos_left _ (Int.natAbs_pos.mpr c0)
 ·rw[Int.natAbs_mul];exact Nat.le_mul_of_pos_left _ (Int.natAbs_pos.mpr c0)
theorem gcd_is {g a b:Int} (hg:0<=g) (he:∀ e,e ∣ g ↔ (e ∣ a/\e ∣ b)):g=(Int.gcd a b:Int) :=
 Int.dvd_antisymm hg (Int.natCast_nonneg _) (Int.dvd_coe_gcd ((he g).mp (Int.dvd_refl g)).1 ((he g).mp (Int.dvd_refl g)).2) ((he _).mpr ⟨Int.gcd_dvd_left ..,Int.gcd_dvd_right ..⟩)
theorem gcd_dv {a b e:Int}:e ∣ (Int.gcd a b:Int) ↔ (e ∣ a/\e ∣ b):=⟨λh=>⟨Int.dvd_trans h (Int.gcd_dvd_left ..),Int.dvd_trans h (Int.gcd_dvd_right ..)⟩,λh=>Int.dvd_coe_gcd h.1 h.2⟩
def frC (r b:Int):Int:=if b < 0 then -(Int.gcd r b:Int) else (Int.gcd r b:Int)
theorem gcd_p {r b:Int} (hb:b≠0):0 < (Int.gcd r b:Int):=by
 have h:(Int.gcd r b:Int)≠0:=λz=>hb (Int.zero_dvd.mp (by rw[<-z];exact Int.gcd_dvd_right ..))
 have:=Int.natCast_nonneg (Int.gcd r b)
 lia
theorem frC_0 {r b:Int} (hb:b≠0):frC r b≠0:=by
 have:=gcd_p (r:=r) hb
 unfold frC;split<;>lia
theorem fr_ok {r b:Int} (hb:b≠0):Fr r b (r.fdiv (frC r b)) (b.fdiv (frC r b)):=by
 have:=gcd_p (r:=r) hb
 refine fr_of hb (λe=>?_) ⟨λh=>?_,λh=>?_⟩
 ·unfold frC
  split
  ·rw[Int.dvd_neg];exact gcd_dv
  ·exact gcd_dv
 ·unfold frC;rw[if_pos h];lia
 ·unfold frC;rw[if_neg (by lia)];exact this
theorem one_of {x:Int} (h0:0<=x) (h:x ∣ 1):x=1:=Int.eq_one_of_dvd_one h0 h
end
theorem bt_two:Bt 2 2:=by show (2:Int).natAbs < 2 ^ 2;decide
theorem two_dvd {s:Int} (h:s≠0):¬ 2*s ∣ s:=λ⟨q,hq⟩=>by
 have:s*1=s*(2*q):=by rw[Int.mul_one];rw[Int.mul_comm 2 s,Int.mul_assoc] at hq;exact hq
 have:=Int.eq_of_mul_eq_mul_left h this
 lia
theorem gcd_step {x y e:Int} (hy:y≠0):(e ∣ y/\e ∣ x.fmod y) ↔ (e ∣ x/\e ∣ y):=by
 have h:=Int.mul_fdiv_add_fmod x y
 constructor
 ·rintro ⟨h1,h2⟩
  exact ⟨by rw[<-h];exact Int.dvd_add (Int.dvd_mul_of_dvd_left h1) h2,h1⟩
 ·rintro ⟨h1,h2⟩
  refine ⟨h2,?_⟩
  have e2:x.fmod y=x - y*(x.fdiv y):=by lia
  rw[e2]
  exact Int.dvd_sub h1 (Int.dvd_mul_of_dvd_left h2)
theorem fmod_lt {x y:Int} (h:y≠0):(x.fmod y).natAbs < y.natAbs:=by
 rcases Int.lt_or_lt_of_ne h with z|z
 ·have h1:=@fm_neg x y z
  lia
 ·have h1:=@fm_pos x y z
  lia
end M62
namespace M06
open MDet
theorem Gen.det {n:Nat} {L:Mat} (g:Gen n L):MDet.det n L=1\/MDet.det n L=-1:=by
 have co:∀ {u:V},Sp (λr=>∃ i,i < n/\r=L i) u->∃ c:Nat->Int,∀ j,u j=S n λk=>c k*L k j:=λ{u} h=>by
  induction h with
  | zero z=>exact ⟨λ_=>0,λj=>by rw[z,S_zero λ_ _=>Int.zero_mul _]⟩
  | @lin a b w x ha _ e ih =>
   obtain ⟨i,hi,rfl⟩:=ha
   obtain ⟨c,hc⟩:=ih
   refine ⟨λk=>x*idm i k+c k,λj=>?_⟩
   rw[e,hc j,show (λk=>(x*idm i k+c k)*L k j)=λk=>x*(idm i k*L k j)+c k*L k j from funext λk=>by grind,S_lin]
   have e2:(S n λk=>idm i k*L k j)=L i j:=by
    rw[S_one (f:=λk=>idm i k*L k j) i hi λk hk hki=>by show idm i k*L k j=0;unfold idm;rw[if_neg (λe=>hki e.symm),Int.zero_mul]]
    unfold idm
    rw[if_pos rfl,Int.one_mul]
   rw[e2]
 have:∃ X:Mat,∀ i j,i < n->j < n->idm i j=mulm n X L i j:=by
  have h:∀ i,∃ c:Nat->Int,∀ j,j < n->idm i j=S n λk=>c k*L k j:=λi=>by
   obtain ⟨u,su,eu⟩:=g (idm i)
   obtain ⟨c,hc⟩:=co su
   exact ⟨c,λj hj=>by rw[eu j hj,hc j]⟩
  refine ⟨λi=>Classical.choose (h i),λi j _ hj=>Classical.choose_spec (h i) j hj⟩
 obtain ⟨X,hX⟩:=this
 have e:=det_congr (n:=n) (a:=idm) (b:=mulm n X L) hX
 rw[det_id,det_mul] at e
 have:MDet.det n L ∣ 1:=⟨MDet.det n X,by rw[Int.mul_comm];exact e⟩
 have:=Int.natAbs_dvd_natAbs.mpr this
 have h1:(MDet.det n L).natAbs=1:=Nat.dvd_one.mp this
 lia
end M06
namespace M64
open MDet M06
section
variable {n:Nat} {G L C R:Mat}
def E (n:Nat) (G:Mat) (x y:Nat->Int):Prop:=∃ t:Nat->Int,∀ b,b < n->x b - y b=S n λi=>t i*G i b
def ph (n:Nat) (R:Mat) (x:Nat->Int) (k:Nat):Int:=S n λb=>x b*R k b
theorem ph_sub (x y:Nat->Int) (k:Nat):ph n R (λb=>x b - y b) k=ph n R x k - ph n R y k:=by
 have:ph n R (λb=>x b - y b) k=ph n R x k+-1*ph n R y k:=by
  unfold ph
  rw[<-S_mul,<-S_add]
  exact S_congr λb _=>by grind
 rw[this];lia
theorem E_iff (s:Sm n n G L C R) (x y:Nat->Int):E n G x y ↔ ∀ k,k < n->C k k ∣ ph n R x k - ph n R y k:=by
 constructor
 ·rintro ⟨t,ht⟩ k hk
  rw[<-ph_sub]
  exact M62.made_dvd s hk ht
 ·intro h
  have:∀ k,∃ q:Int,k < n->ph n R (λb=>x b - y b) k=q*C k k:=λk=>by
   by_cases hk:k < n
   ·obtain ⟨q,hq⟩:=h k hk
    exact ⟨q,λ_=>by rw[ph_sub,hq,Int.mul_comm]⟩
   ·exact ⟨0,λz=>absurd z hk⟩
  obtain ⟨q,hq⟩:=Classical.axiomOfChoice this
  exact ⟨_,λb hb=>(M62.same_ok s (gap:=λb=>x b - y b) (t:=q) hq hb).symm⟩
theorem E_trans (s:Sm n n G L C R) {x y z:Nat->Int} (h:E n G x y) (g:E n G y z):E n G x z:=(E_iff s x z).mpr λk hk=>by
 have:=Int.dvd_add ((E_iff s x y).mp h k hk) ((E_iff s y z).mp g k hk)
 rwa [show ph n R x k - ph n R y k+(ph n R y k - ph n R z k)=ph n R x k - ph n R z k by lia] at this
theorem E_congr {x y x' y':Nat->Int} (h:E n G x y) (e:∀ b,b < n->x' b - y' b=x b - y b):E n G x' y':=by
 obtain ⟨t,ht⟩:=h
 exact ⟨t,λb hb=>by rw[e b hb,ht b hb]⟩
theorem onto (s:Sm n n G L C R) (r:Nat->Int):∃ x:Nat->Int,∀ k,k < n->ph n R x k=r k:=by
 refine ⟨λj=>MDet.det n R*S n λi=>r i*MNew.cof n R i j,λk hk=>?_⟩
 have e:ph n R (λj=>MDet.det n R*S n λi=>r i*MNew.cof n R i j) k=MDet.det n R*S n λi=>r i*S n λj=>R k j*MNew.cof n R i j:=by
  unfold ph
  rw[<-S_mul]
  have e1:(S n λb=>MDet.det n R*(S n λi=>r i*MNew.cof n R i b)*R k b)=S n λb=>S n λi=>MDet.det n R*(r i*(R k b*MNew.cof n R i b)):=S_congr λb _=>by
   rw[show MDet.det n R*(S n λi=>r i*MNew.cof n R i b)*R k b=(MDet.det n R*R k b)*S n λi=>r i*MNew.cof n R i b by grind,<-S_mul]
   exact S_congr λi _=>by grind
  rw[e1,S_swap]
  exact S_congr λi _=>by rw[S_mul,S_mul]
 rw[e,S_one k hk λi hi hik=>by rw[MNew.cof_mul R hi hk,if_neg (λz=>hik z.symm),Int.mul_zero],MNew.cof_mul R hk hk,if_pos rfl]
 rcases s.gr.det with h|h<;>rw[h]<;>grind
def box:List Nat->List (List Int)
 | []=>[[]]
 | c::cs=>(List.range c).flatMap λi:Nat=>(box cs).map λl=>(i:Int)::l
def prodN:List Nat->Nat
 | []=>1
 | c::cs=>c*prodN cs
theorem box_len:∀ cs:List Nat,(box cs).length=prodN cs
 | []=>rfl
 | c::cs=>by
  have:∀ k,((List.range k).flatMap λi=>(box cs).map λl=>((i:Nat):Int)::l).length=k*prodN cs:=λk=>by
   induction k with
   | zero=>rw[Nat.zero_mul];rfl
   | succ k ih=>rw[List.range_succ,List.flatMap_append,length_append,ih,List.flatMap_singleton,length_map,box_len cs,Nat.succ_mul]
  exact this c
theorem box_nd:∀ cs:List Nat,(box cs).Nodup
 | []=>List.pairwise_singleton _ _
 | c::cs=>by
  have ih:=box_nd cs
  have:∀ k,((List.range k).flatMap λi=>(box cs).map λl=>((i:Nat):Int)::l).Nodup/\∀ l∈((List.range k).flatMap λi=>(box cs).map λl=>((i:Nat):Int)::l),∃ x t,l=x::t/\x < k:=λk=>by
   induction k with
   | zero=>exact ⟨nodup_nil,λl z=>by cases z⟩
   | succ k ihk =>
    rw[List.range_succ,List.flatMap_append,List.flatMap_singleton]
    refine ⟨nodup_append.mpr ⟨ihk.1,?_,λa ha b hb e=>?_⟩,λl hl=>?_⟩
    ·rw[List.Nodup,List.pairwise_map]
     exact ih.imp λh e=>h (List.cons.inj e).2
    ·obtain ⟨x,t,rfl,hx⟩:=ihk.2 a ha
     obtain ⟨u,_,rfl⟩:=mem_map.mp hb
     have:=(List.cons.inj e).1
     lia
    ·rcases mem_append.mp hl with hl|hl
     ·obtain ⟨x,t,h,hx⟩:=ihk.2 l hl
      exact ⟨x,t,h,by lia⟩
     ·obtain ⟨u,_,rfl⟩:=mem_map.mp hl
      exact ⟨_,u,rfl,by lia⟩
  exact (this c).1
theorem mem_box:∀ {cs:List Nat} {l:List Int},l∈box cs ↔ l.length=cs.length/\∀ (i:Nat) (c:Nat) (x:Int),cs[i]?=some c->l[i]?=some x->0<=x/\x < c
 | [],l=>by
  constructor
  ·intro h;rw[mem_singleton.mp h];exact ⟨rfl,λi c x h _=>by cases h⟩
  ·rintro ⟨h,_⟩;rw[List.length_eq_zero_iff.mp h];exact mem_singleton.mpr rfl
 | c::cs,l=>by
  constructor
  ·intro h
   obtain ⟨i,hi,h⟩:=List.mem_flatMap.mp h
   obtain ⟨t,ht,rfl⟩:=mem_map.mp h
   obtain ⟨h1,h2⟩:=mem_box.mp ht
   have hi:=mem_range.mp hi
   refine ⟨by rw[length_cons,length_cons,h1],λj d x hd hx=>?_⟩
   cases j with
   | zero=>cases hd;cases hx;lia
   | succ j=>exact h2 j d x hd hx
  ·rintro ⟨h1,h2⟩
   cases l with
   | nil=>cases h1
   | cons x t =>
    obtain ⟨a,b⟩:=h2 0 c x rfl rfl
    refine List.mem_flatMap.mpr ⟨x.toNat,mem_range.mpr (by lia),mem_map.mpr ⟨t,mem_box.mpr ⟨Nat.succ.inj h1,λi d y hd hy=>h2 (i+1) d y hd hy⟩,?_⟩⟩
    rw[Int.toNat_of_nonneg a]
def cs (n:Nat) (C:Mat):List Nat:=(List.range n).map λk=>(C k k).toNat
def rho (n:Nat) (C R:Mat) (x:Nat->Int):List Int:=(List.range n).map λk=>ph n R x k % C k k
theorem cs_get {k:Nat} (h:k < n):(cs n C)[k]?=some (C k k).toNat:=by unfold cs;rw[List.getElem?_map,List.getElem?_range h];rfl
theorem rho_get {x:Nat->Int} {k:Nat} (h:k < n):(rho n C R x)[k]?=some (ph n R x k % C k k):=by unfold rho;rw[List.getElem?_map,List.getElem?_range h];rfl
theorem rho_iff (s:Sm n n G L C R) (x y:Nat->Int):E n G x y ↔ rho n C R x=rho n C R y:=by
 rw[E_iff s]
 constructor
 ·intro h
  unfold rho
  exact List.map_congr_left λk hk=>Int.emod_eq_emod_iff_emod_sub_eq_zero.mpr (Int.emod_eq_zero_of_dvd (h k (mem_range.mp hk)))
 ·intro h k hk
  have h1:=rho_get (C:=C) (R:=R) (x:=x) hk
  rw[h,rho_get hk] at h1
  have h2:=Option.some.inj h1
  exact Int.dvd_of_emod_eq_zero (Int.emod_eq_emod_iff_emod_sub_eq_zero.mp h2.symm)
theorem rho_box (hp:∀ k,k < n->0 < C k k) (x:Nat->Int):rho n C R x∈box (cs n C):=by
 refine mem_box.mpr ⟨by unfold rho cs;rw[length_map,length_map],λk c y hc hy=>?_⟩
 have hk:k < n:=by have:=(List.getElem?_eq_some_iff.mp hc).1;unfold cs at this;rw[length_map,length_range] at this;exact this
 rw[cs_get hk] at hc
 rw[rho_get hk] at hy
 obtain rfl:=Option.some.inj hc
 obtain rfl:=Option.some.inj hy
 have h:=hp k hk
 have h1:=Int.emod_nonneg (ph n R x k) (Int.ne_of_gt h)
 have h2:=Int.emod_lt_of_pos (ph n R x k) h
 exact ⟨h1,by rw[Int.toNat_of_nonneg (Int.le_of_lt h)];exact h2⟩
theorem few (s:Sm n n G L C R) (hp:∀ k,k < n->0 < C k k) {F:List (Nat->Int)} (h:F.Pairwise λx y=>¬ E n G x y):F.length<=prodN (cs n C):=by
 rw[<-box_len,<-length_map (f:=rho n C R)]
 refine List.Nodup.length_le_of_subset ?_ λl hl=>?_
 ·rw[List.Nodup,List.pairwise_map]
  exact h.imp λh e=>h ((rho_iff s _ _).mpr e)
 ·obtain ⟨x,_,rfl⟩:=mem_map.mp hl
  exact rho_box hp x
theorem all (s:Sm n n G L C R) (hp:∀ k,k < n->0 < C k k) {F:List (Nat->Int)} (h:∀ x,∃ f∈F,E n G f x):prodN (cs n C)<=F.length:=by
 rw[<-box_len,<-length_map (f:=rho n C R)]
 refine List.Nodup.length_le_of_subset (box_nd _) λl hl=>?_
 obtain ⟨h1,h2⟩:=mem_box.mp hl
 obtain ⟨x,hx⟩:=onto s λk=>l.getD k 0
 obtain ⟨f,hf,e⟩:=h x
 refine mem_map.mpr ⟨f,hf,((rho_iff s f x).mp e).trans ?_⟩
 refine List.ext_getElem? λk=>?_
 have hl:l.length=n:=by rw[h1];unfold cs;rw[length_map,length_range]
 by_cases hk:k < n
 ·have e1:l[k]?=some (l.getD k 0):=by rw[getD_eq_getElem?_getD,List.getElem?_eq_getElem (hl.symm ▸ hk)];rfl
  obtain ⟨a,b⟩:=h2 k _ _ (cs_get hk) e1
  rw[rho_get hk,hx k hk,e1]
  congr 1
  have:=hp k hk
  exact Int.emod_eq_of_lt a (by lia)
 ·rw[List.getElem?_eq_none (by unfold rho;rw[length_map,length_range];lia),List.getElem?_eq_none (by lia)]
def up (x:Nat->Int) (k:Nat) (m:Nat):Nat->Int:=λb=>if b=k then x b+m else x b
theorem up_E {x y:Nat->Int} (h:E n G x y) (k m:Nat):E n G (up x k m) (up y k m):=E_congr h λb _=>by
 unfold up
 split<;>lia
section
variable {F:List (Nat->Int)}
theorem step_up (s:Sm n n G L C R) (cl:∀ f∈F,∀ k,k < n->∃ g∈F,E n G g (up f k 1)) {x:Nat->Int} {k:Nat} (hk:k < n) (h:∃ f∈F,E n G f x):∀ m,∃ f∈F,E n G f (up x k m)
 | 0=>by
  obtain ⟨f,hf,e⟩:=h
  exact ⟨f,hf,E_congr e λb _=>by unfold up;split<;>lia⟩
 | m+1=>by
  obtain ⟨f,hf,e⟩:=step_up s cl hk h m
  obtain ⟨g,hg,e2⟩:=cl f hf k hk
  refine ⟨g,hg,E_congr (E_trans s e2 (up_E e k 1)) λb _=>?_⟩
  unfold up
  split<;>lia
theorem closed_pos (s:Sm n n G L C R) (z:∃ f∈F,E n G f λ_=>0) (cl:∀ f∈F,∀ k,k < n->∃ g∈F,E n G g (up f k 1)) (x:Nat->Nat):∀ j,j<=n->∃ f∈F,E n G f λb=>if b < j then (x b:Int) else 0
 | 0,_=>by
  obtain ⟨f,hf,e⟩:=z
  exact ⟨f,hf,E_congr e λb _=>by rw[if_neg (Nat.not_lt_zero b)]⟩
 | j+1,h=>by
  obtain ⟨f,hf,e⟩:=step_up s cl h (closed_pos s z cl x j (Nat.le_of_succ_le h)) (x j)
  refine ⟨f,hf,E_congr e λb _=>?_⟩
  unfold up
  show f b - (if b < j+1 then (x b:Int) else 0)=f b - (if b=j then (if b < j then (x b:Int) else 0)+(x j:Int) else if b < j then (x b:Int) else 0)
  by_cases hb:b=j
  ·subst hb;rw[if_pos (Nat.lt_succ_self b),if_pos rfl,if_neg (Nat.lt_irrefl b)];lia
  ·rw[if_neg hb]
   by_cases g:b < j
   ·rw[if_pos g,if_pos (Nat.lt_succ_of_lt g)]
   ·rw[if_neg g,if_neg (by lia)]
theorem closed_all (s:Sm n n G L C R) (hp:∀ k,k < n->0 < C k k) (z:∃ f∈F,E n G f λ_=>0) (cl:∀ f∈F,∀ k,k < n->∃ g∈F,E n G g (up f k 1)) (x:Nat->Int):∃ f∈F,E n G f x:=by
 have hW:0 < Pk C n:=prodF_pos hp
 obtain ⟨f,hf,e⟩:=closed_pos s z cl (λb=>(x b+(x b).natAbs*Pk C n).toNat) n (Nat.le_refl n)
 refine ⟨f,hf,E_trans s e ?_⟩
 refine (E_iff s _ _).mpr λk hk=>?_
 rw[<-ph_sub]
 unfold ph
 refine M62.dvd_S λb hb=>?_
 have h0:0<=x b+(x b).natAbs*Pk C n:=by
  have:=Int.mul_le_mul_of_nonneg_left (show (1:Int)<=Pk C n by lia) (Int.natCast_nonneg (x b).natAbs)
  lia
 have e1:(if b < n then ((x b+(x b).natAbs*Pk C n).toNat:Int) else 0) - x b=(x b).natAbs*Pk C n:=by
  rw[if_pos hb,Int.toNat_of_nonneg h0];lia
 show C k k ∣ ((if b < n then ((x b+(x b).natAbs*Pk C n).toNat:Int) else 0) - x b)*R k b
 rw[e1]
 exact Int.dvd_mul_of_dvd_left (Int.dvd_mul_of_dvd_right (prodF_dvd (f:=λi=>C i i) hk))
end
theorem prodN_app:∀ a b:List Nat,prodN (a++b)=prodN a*prodN b
 | [],b=>(Nat.one_mul _).symm
 | x::a,b=>by show x*prodN (a++b)=x*prodN a*prodN b;rw[prodN_app a b,Nat.mul_assoc]
theorem prodN_Pk:∀ n:Nat,(∀ k,k < n->0 < C k k)->(prodN (cs n C):Int)=Pk C n
 | 0,_=>rfl
 | n+1,h=>by
  have ih:=prodN_Pk n λk hk=>h k (Nat.lt_succ_of_lt hk)
  have e:cs (n+1) C=cs n C++[(C n n).toNat]:=by unfold cs;rw[List.range_succ,map_append];rfl
  have e2:Pk C (n+1)=Pk C n*C n n:=prodF_snoc n _
  rw[e,prodN_app,e2,<-ih]
  show ((prodN (cs n C)*((C n n).toNat*1):Nat):Int)=_
  rw[Nat.mul_one,Int.natCast_mul,Int.toNat_of_nonneg (Int.le_of_lt (h n (Nat.lt_succ_self n)))]
def prI:List Int->Int
 | []=>1
 | x::l=>x*prI l
theorem prI_app:∀ a b:List Int,prI (a++b)=prI a*prI b
 | [],b=>(Int.one_mul _).symm
 | x::a,b=>by show x*prI (a++b)=x*prI a*prI b;rw[prI_app a b,Int.mul_assoc]
def crn (n:Nat) (C:Mat):List Int:=(List.range n).map λk=>C k k
def ords (n:Nat) (C:Mat):List Int:=(crn n C).filter λx=>decide (1 < x)
theorem crn_succ (n:Nat) (C:Mat):crn (n+1) C=crn n C++[C n n]:=by unfold crn;rw[List.range_succ,map_append];rfl
theorem prI_ords:∀ n:Nat,(∀ k,k < n->0 < C k k)->prI (ords n C)=Pk C n
 | 0,_=>rfl
 | n+1,h=>by
  have ih:=prI_ords n λk hk=>h k (Nat.lt_succ_of_lt hk)
  have e2:Pk C (n+1)=Pk C n*C n n:=prodF_snoc n _
  unfold ords at ih ⊢
  rw[crn_succ,List.filter_append,prI_app,ih,e2]
  congr 1
  by_cases h1:1 < C n n
  ·rw[List.filter_cons_of_pos (by simpa using h1)]
   show C n n*1=_
   lia
  ·rw[List.filter_cons_of_neg (by simpa using h1)]
   have:=h n (Nat.lt_succ_self n)
   show (1:Int)=_
   lia
theorem chain (s:Sm n n G L C R) {i j:Nat} (h1:i<=j) (h2:j < n):C i i ∣ C j j:=chain_dvd (d:=λi=>C i i) (N:=n) (λi hi=>s.ch i hi hi) h1 h2
theorem last_ord (s:Sm n n G L C R) (hp:∀ k,k < n->0 < C k k) (h:1 < prI (ords n C)):∃ m l,n=m+1/\ords n C=l++[C m m]:=by
 cases n with
 | zero=>exact absurd (show (1:Int) < 1 from h) (by decide)
 | succ m =>
  by_cases h1:1 < C m m
  ·refine ⟨m,ords m C,rfl,?_⟩
   unfold ords
   rw[crn_succ,List.filter_append,List.filter_cons_of_pos (by simpa using h1)];rfl
  ·have e1:C m m=1:=by have:=hp m (Nat.lt_succ_self m);lia
   have:ords (m+1) C=[]:=List.filter_eq_nil_iff.mpr λx hx=>by
    obtain ⟨k,hk,rfl⟩:=mem_map.mp hx
    have hk:=mem_range.mp hk
    have hd:=chain s (Nat.le_of_lt_succ hk) (Nat.lt_succ_self m)
    rw[e1] at hd
    have:=M62.one_of (Int.le_of_lt (hp k hk)) hd
    simp[this]
   rw[this] at h
   exact absurd h (by decide)
theorem last_E (s:Sm n n G L C R) {m:Nat} (hm:n=m+1) (q:Nat->Int) {x y:Nat->Int} (h:∀ b,b < n->x b - y b=q b*C m m):E n G x y:=(E_iff s x y).mpr λk hk=>by
 rw[<-ph_sub]
 refine M62.dvd_S λb hb=>?_
 show C k k ∣ (x b - y b)*R k b
 rw[h b hb]
 exact Int.dvd_mul_of_dvd_left (Int.dvd_mul_of_dvd_right (chain s (by lia) (by lia)))
theorem never (s:Sm n n G L C R) {k:Nat} (hk:k < n) (h0:C k k=0):∃ j,j < n/\∀ (x y:Nat->Int) (m:Int),m≠0->(∀ b,b < n->x b - y b=m*if b=j then 1 else 0)->¬ E n G x y:=by
 obtain ⟨j,hj,hr⟩:∃ j,j < n/\R k j≠0:=Classical.byContradiction λz=>by
  obtain ⟨x,hx⟩:=onto s λ_=>1
  have h1:=hx k hk
  have:ph n R x k=0:=S_zero λb hb=>by
   rw[show R k b=0 from Classical.byContradiction λy=>z ⟨b,hb,y⟩,Int.mul_zero]
  lia
 refine ⟨j,hj,λx y m hm e h=>?_⟩
 have h1:=(E_iff s x y).mp h k hk
 rw[<-ph_sub,h0] at h1
 have h2:=Int.zero_dvd.mp h1
 have h2:(S n λb=>(x b - y b)*R k b)=0:=h2
 rw[S_one (f:=λb=>(x b - y b)*R k b) j hj λb hb hbj=>by show (x b - y b)*R k b=0;rw[e b hb,if_neg hbj,Int.mul_zero,Int.zero_mul],e j hj,if_pos rfl,Int.mul_one] at h2
 rcases Int.mul_eq_zero.mp h2 with h2|h2
 ·exact hm h2
 ·exact hr h2
end
end M64
local macro_rules | `(tactic| walk_at "d") => `(tactic| repeat (first | with_reducible refine DL.w_nx ?_ | with_reducible refine DL.w_aft ?_ | with_reducible refine DL.w_rt ?_ | with_reducible refine DL.w_seq ?_ | with_reducible refine DL.w_set ?_ | with_reducible refine DL.w_ret ?_ | with_reducible refine DL.w_drop ?_ | with_reducible refine DL.w_next ?_ | with_reducible refine DL.w_ifS ?_ | with_reducible refine DL.w_frz ?_ | with_reducible refine DL.w_c ?_ | with_reducible refine DL.w_op ?_ | with_reducible refine DL.w_fI0 ?_ | with_reducible refine DL.w_fI ?_ | with_reducible refine DL.w_addI ?_ | with_reducible refine DL.w_ixLi ?_ | with_reducible refine DL.w_ixLg ?_ | with_reducible refine DL.w_ixT ?_ | with_reducible refine DL.w_eqI ?_ | with_reducible refine DL.w_eq ?_ | with_reducible refine DL.w_neg ?_ | with_reducible refine DL.w_orV ?_ | with_reducible refine DL.w_B ?_ | with_reducible refine DL.w_and ?_ | with_reducible refine DL.w_not ?_ | with_reducible refine DL.w_true ?_ | with_reducible refine DL.w_appK ?_ | with_reducible refine DL.w_putK ?_ | with_reducible refine DL.w_put1 ?_ | with_reducible refine DL.w_put2 ?_ | with_reducible refine DL.w_if ?_ | with_reducible refine DL.w_nil ?_ | with_reducible refine DL.w_cons ?_ | with_reducible refine DL.w_ints ?_ | with_reducible refine DL.w_tup ?_ | with_reducible refine DL.w_lst ?_ | with_reducible refine DL.w_call0 ?_ | with_reducible refine DL.w_call ?_ | with_reducible refine DL.w_cb ?_ | with_reducible refine DL.w_lenI ?_ | with_reducible refine DL.w_lenG ?_ | with_reducible refine DL.w_lenS ?_ | with_reducible refine DL.w_sumI ?_ | with_reducible refine DL.w_bls ?_ | with_reducible refine DL.w_abs ?_ | with_reducible refine DL.w_listI ?_ | with_reducible refine DL.w_bName ?_ | with_reducible refine DL.w_bTup ?_ | with_reducible refine DL.w_bCons ?_ | with_reducible refine DL.w_bNil ?_ | with_reducible refine DL.w_for ?_ | with_reducible refine DL.w_iL ?_ | with_reducible refine DL.w_on1I ?_ | with_reducible refine DL.w_on2I ?_ | with_reducible refine DL.w_on1Li ?_ | with_reducible refine DL.w_on1Lg ?_ | with_reducible refine DL.w_on2L ?_ | with_reducible refine DL.w_on2Li ?_ | with_reducible refine DL.w_iR1 ?_ | with_reducible refine DL.w_iR2 ?_ | with_reducible refine DL.w_iEn ?_ | with_reducible refine DL.w_iZp ?_ | with_reducible refine DL.w_lr ?_ | with_reducible refine DL.w_unp ?_ | with_reducible refine DL.w_lc ?_ | with_reducible refine DL.w_emit ?_ | with_reducible refine DL.w_bFor ?_ | with_reducible refine DL.w_ift ?_ | with_reducible refine DL.w_iff ?_ | with_reducible refine DL.w_onB ?_ | with_reducible refine DL.w_onI ?_ | with_reducible refine DL.w_onLi ?_ | with_reducible refine DL.w_onLg ?_ | with_reducible refine DL.w_onT ?_ | with_reducible refine DL.w_v0 ?_ | with_reducible refine DL.w_v1 ?_ | with_reducible refine DL.w_v2 ?_ | with_reducible refine DL.w_v3 ?_ | with_reducible refine DL.w_v4 ?_ | with_reducible refine DL.w_v5 ?_ | with_reducible refine DL.w_v6 ?_ | with_reducible refine DL.w_v7 ?_ | with_reducible refine DL.w_v8 ?_ | with_reducible refine DL.w_v9 ?_ | with_reducible refine DL.w_v10 ?_ | with_reducible refine DL.w_v11 ?_ | with_reducible refine DL.w_o1 ?_ | with_reducible refine DL.w_o2 ?_ | with_reducible refine DL.w_o3 ?_ | with_reducible refine DL.w_o4 ?_ | with_reducible refine DL.w_o5 ?_ | with_reducible refine DL.w_o6 ?_ | with_reducible refine DL.w_o9 ?_ | with_reducible refine DL.w_o11 ?_ | with_reducible refine DL.w_o12 ?_ | ((with_reducible refine And.intro ?c ?_); (case c => first | exact trivial | exact Nat.le_of_ble_eq_true rfl | decide | (unfold L2.CPow; decide) | (unfold L2.CDiv; decide) | exact L2.CMul.ok (.inl ⟨by decide, by decide⟩) | exact L2.CMul.ok (.inr ⟨by decide, by decide⟩) | exact rfl | omega)) | simp only [DL.setK_int, DL.setK_bool, DL.setK_str, DL.setK_non, DL.setK_own, DL.setK_old, DL.setK_mix, DL.setK_ownI, DL.setK_oldI, DL.setK_mixI, DL.setK_ownG, DL.setK_oldG, DL.setK_mixG, DL.setK_tup, DL.rtK_int, DL.rtK_bool, DL.rtK_str, DL.rtK_non, DL.rtK_own, DL.rtK_tup, DL.kcons_flat, DL.kcons_int, DL.kcons_boo, DL.kcons_st, DL.kcons_nn, DL.one_iD, DL.two_iD, DL.kcons_own, DL.kcons_old, DL.frz_nil, DL.frz1_0, DL.frz1_s, DL.frz_some, DL.frz_none, DL.dropS_nil, DL.dropS_cons, DL.kRet_t, DL.kRet_f, DL.sub_own, DL.sub_old, DL.sub_ownc, DL.sub_mix, DL.isOld_own, DL.isOld_old, DL.isOld_mix, DL.isOld_ownc, DL.eff_int, DL.eff_bool, DL.eff_str, DL.eff_tup, DL.eff_ltc, DL.eff_iD, DL.eff_gD, DL.isOwnK_own, DL.isOwnK_old, DL.unpK_own, DL.unpK_flat, DL.setAll_cons, DL.setAll_nil, DL.app_iD, DL.app_gD, DL.list_iD, DL.list_gD, DL.flat_int, DL.flat_bool, DL.flat_str, DL.flat_non, DL.flat_list, DL.flat_tuple, DL.flats_nil, DL.flats_cons, DL.flat_iD, DL.flat_gD, List.set_cons_zero, List.set_cons_succ, append_nil, nil_append, Bool.and_true, Bool.true_and, Bool.and_self, Bool.not_true, Bool.not_false, DL.capR, DL.capOk, map_cons, List.map_nil, List.cons_append, List.getElem?_cons_zero, List.getElem?_cons_succ, Option.join_some, Option.map_some, List.all_cons, List.all_nil]))
local macro_rules | `(tactic| walk_at "sc") => `(tactic| exact ⟨rfl, rfl, rfl, by decide +kernel, rfl, by decide +kernel, by decide +kernel⟩)
namespace K64
open PySem PySem.Spec PyProof.Rows L2 DL
def top (i : Nat) : Stmt := PySem.Challenge.pw_foreverrows_k64_whole_classes_counted.main.body.getD i (.Pass ⟨0, 0, 0, 0⟩)
structure Blt (mg:Str->Option Value):Prop where
 len:mg "len"=none
 range:mg "range"=none
 list:mg "list"=none
 int:mg "int"=none
 isinstance:mg "isinstance"=none
 all:mg "all"=none
 zip:mg "zip"=none
 bool:mg "bool"=none
 enumerate:mg "enumerate"=none
 reversed:mg "reversed"=none
 sum:mg "sum"=none
 min:mg "min"=none
 abs:mg "abs"=none
 tuple:mg "tuple"=none
section
variable {P:Program} {w:World} {K:W.Frag} {mg:Str->Option Value} {base:Heap}
open M06 (Bt Shr Eu Ec mks ld red)
theorem mulN {a b:Int} {m n:Nat} (h1:a.natAbs < 2 ^ m) (h2:b.natAbs < 2 ^ n) (h:m+n<=134217728):IntMulOk a b:=by
 have e1:((2 ^ m:Nat):Int)=(2:Int) ^ m:=by norm_cast
 have e2:((2 ^ n:Nat):Int)=(2:Int) ^ n:=by norm_cast
 exact mulB (m:=m) (n:=n) (by rw[<-e1];lia) (by rw[<-e1];lia) (by rw[<-e2];lia) (by rw[<-e2];lia) h
theorem mulT {a b:Int} {m n:Nat} (h1:Bt m a) (h2:Bt n b) (h:m+n<=134217728):IntMulOk a b:=mulN h1 h2 h
abbrev s_common_shares:Stmt:=top 5
theorem sc_common_shares:FnScope ["one","other","big","small","s","t","next_s","next_t","times"] ["one","other"] (defScope s_common_shares):=by walk_at "sc"
def sp_shr:SpD:=λds Q _=>∃ (a b:Int) (c:Nat),ds=[.int a,.int b]/\0 < a/\Bt c a/\Bt c b/\c<=60000000/\∀ g s t,Shr a b g s t->Q (.tuple [.int g,.int s,.int t]) true
theorem ok_common_shares {f:Addr} {fd:FuncData} (F:Fun K "common_shares" "common_shares" s_common_shares f fd) (T:Blt mg) (hT:P.given.tree=none):FnOk P w K mg base CX0 41 f fd ["one","other"] (SpL K sp_shr):=by
 refine ok0 F sc_common_shares (λds Q X h=>?_) (λcdv A outer s H E hr=>?_) λds Qd Xd h=>h
 ·obtain ⟨a,b,c,rfl,_⟩:=h;rfl
 refine ⟨_,(dpss_cons (dps_par 2 3 (by rfl) sc_common_shares.nd (by rfl) (by rfl) (by decide) (by rfl) (by rfl) (dpa_cons (dpv 0) (dpa_cons (dpv 1) dpa_nil)) (by rfl))
   (dpss_cons (dps_unp [4,5] 2 rfl (by rfl) (by rfl) (qpgs_cons (qpgn 4 sc_common_shares.nd) (qpgs_cons (qpgn 5 sc_common_shares.nd) qpgs_nil)) (by rfl) (by rfl) (dpe_tup (dpa_cons dpe_int (dpa_cons dpe_int dpa_nil))))
   (dpss_cons (dps_unp [6,7] 2 rfl (by rfl) (by rfl) (qpgs_cons (qpgn 6 sc_common_shares.nd) (qpgs_cons (qpgn 7 sc_common_shares.nd) qpgs_nil)) (by rfl) (by rfl) (dpe_tup (dpa_cons dpe_int (dpa_cons dpe_int dpa_nil))))
   (dpss_cons (dps_jn (dps_if (dPWpt (dpw_and (dpt_cmp (dop_ne (by rfl) (by exact hr.units)) (dpv 0) dpe_int (nomark _)) (dpw_and1 (dpt_cmp (dop_eq (by rfl) (by exact hr.units)) (dpe_op dop_modN (dpv 1) (dpv 0)) dpe_int (nomark _))))) (dpss_one (dpset 3 sc_common_shares.nd dpe_int)) dpss_nil))
   (dpss_cons (dps_while PassesOwn.never (dpt_cmp (dop_ne (by rfl) (by exact hr.units)) (dpv 3) dpe_int (nomark _)) (dpss_cons (dpset 8 sc_common_shares.nd (dpe_op (dop_fdivP ⟨⟨_,_,rfl,rfl,rfl,rfl,rfl⟩⟩ (by exact hT) (by exact hr.pyl)) (dpv 2) (dpv 3)))
   (dpss_cons (dps_par 2 3 (by rfl) sc_common_shares.nd (by rfl) (by rfl) (by decide) (by rfl) (by rfl) (dpa_cons (dpv 3) (dpa_cons (dpe_op dop_sub (dpv 2) (dpe_op dop_mul (dpv 8) (dpv 3))) dpa_nil)) (by rfl))
   (dpss_cons (dps_par 4 6 (by rfl) sc_common_shares.nd (by rfl) (by rfl) (by decide) (by rfl) (by rfl) (dpa_cons (dpv 6) (dpa_cons (dpe_op dop_sub (dpv 4) (dpe_op dop_mul (dpv 8) (dpv 6))) dpa_nil)) (by rfl))
   (dpss_one (dps_par 5 7 (by rfl) sc_common_shares.nd (by rfl) (by rfl) (by decide) (by rfl) (by rfl) (dpa_cons (dpv 7) (dpa_cons (dpe_op dop_sub (dpv 5) (dpe_op dop_mul (dpv 8) (dpv 7))) dpa_nil)) (by rfl)))))))
   (dpss_cons (dps_if (dpt_cmp dop_lt (dpv 2) dpe_int (nomark _)) (dpss_one (dps_ret (dpe_tup (dpa_cons (dpe_neg (dpv 2)) (dpa_cons (dpe_neg (dpv 4)) (dpa_cons (dpe_neg (dpv 5)) dpa_nil)))))) dpss_nil)
   (dpss_one (dps_ret (dpe_tup (dpa_cons (dpv 2) (dpa_cons (dpv 4) (dpa_cons (dpv 5) dpa_nil)))))))))))),λds Qd h=>?_⟩
 obtain ⟨a,b,c,rfl,ha,ba,bb,hc,q⟩:=h
 show (_:TSD) _ [some (false,.int a),some (false,.int b),none,none,none,none,none,none,none] _
 cbv
 refine w_par ?_
 cbv
 refine w_jn (λρ=>∃ m:Int,ρ=[some (false,.int a),some (false,.int b),some (false,.int a),some (false,.int m),some (false,.int 1),some (false,.int 0),some (false,.int 0),some (false,.int 1),none]/\(m=b\/(m=0/\a ∣ b))) (λN hN=>?_) ?_
 ·cbv
  rw[if_pos (by simp;lia)]
  cbv
  refine ite2 (λh1=>?_) λh1=>?_
  ·cbv
   refine hN _ ⟨0,rfl,.inr ⟨rfl,?_⟩⟩
   have h1:b.fmod a=0:=by simpa using h1
   exact Int.dvd_iff_fmod_eq_zero.mpr h1
  ·cbv
   exact hN _ ⟨b,rfl,.inl rfl⟩
 ·rintro ρ ⟨m,rfl,hm⟩
  refine ⟨λk ρ=>∃ (B m s t n u:Int) (x:Option (Bool × D)),ρ=[some (false,.int a),some (false,.int b),some (false,.int B),some (false,.int m),some (false,.int s),some (false,.int t),some (false,.int n),some (false,.int u),x]/\k=m.natAbs/\Bt c B/\Bt c m/\(Eu a b B m s t n u\/(m=0/\B=a/\s=1/\t=0/\a ∣ b)),⟨_,a,m,1,0,0,1,_,rfl,rfl,ba,?_,?_⟩,?_⟩
  ·rcases hm with rfl|⟨rfl,_⟩
   ·exact bb
   ·exact .zero
  ·rcases hm with rfl|⟨rfl,hd⟩
   ·exact .inl (Eu.start ha)
   ·exact .inr ⟨rfl,rfl,rfl,rfl,hd⟩
  rintro k ρ ⟨B,m,s,t,n,u,x,rfl,rfl,bB,bm,hE⟩
  cbv
  refine ite2 (λh1=>?_) λh1=>?_
  ·have h1:m≠0:=by simpa using h1
   have E:Eu a b B m s t n u:=by
    rcases hE with E|⟨z,_⟩
    ·exact E
    ·exact absurd z h1
   obtain ⟨E',hlt⟩:=E.step h1
   have bt:Bt (c+1) (B.fdiv m):=by
    rcases Int.lt_or_lt_of_ne h1 with z|z
    ·have:=M06.Bt.fdiv (M06.Bt.neg bB) (show 0 < -m by lia)
     rwa [Int.neg_fdiv_neg] at this
    ·exact M06.Bt.fdiv bB z
   have jn:Bt c n:=by
    have j1:=M06.mul_le1 (Nat.le_trans (Nat.le_add_right _ _) E.j1) (show 0 < B.natAbs by have:=E.B0;lia)
    unfold Bt at *;lia
   have ju:Bt (c+2) u:=by
    have j1:=M06.mul_le1 (Nat.le_trans (Nat.le_add_right _ _) E.j2) (show 0 < B.natAbs by have:=E.B0;lia)
    have:2 ^ (c+2)=4*2 ^ c:=by rw[Nat.pow_add,Nat.mul_comm]
    unfold Bt at *;lia
   cbv
   refine w_par ?_
   cbv
   refine ⟨mulT bt bm (by lia),?_⟩
   cbv
   refine w_par ?_
   cbv
   refine ⟨mulT bt jn (by lia),?_⟩
   cbv
   refine w_par ?_
   cbv
   refine ⟨mulT bt ju (by lia),?_⟩
   cbv
   refine ⟨_,hlt,m,_,n,u,_,_,_,rfl,rfl,bm,?_,.inl E'⟩
   unfold Bt at *;lia
  ·have h1:m=0:=by simpa using h1
   subst h1
   cbv
   refine ite2 (λh2=>?_) λh2=>?_
   ·have h2:B < 0:=by simpa using h2
    cbv
    refine q _ _ _ ?_
    rcases hE with E|⟨_,rfl,_⟩
    ·have:=E.fin;rwa [if_pos h2] at this
    ·lia
   ·have h2:¬ B < 0:=by simpa using h2
    cbv
    refine q _ _ _ ?_
    rcases hE with E|⟨_,rfl,rfl,rfl,hd⟩
    ·have:=E.fin;rwa [if_neg h2] at this
    ·exact .one ha hd
open M06 (Bt Shr Eu Ec mks ld red Mi)
def gv (r:List Int):M06.V:=λj=>r.getD j 0
theorem gv_get {r:List Int} {j:Nat} (h:j < r.length):(r.map PyData.int)[j]?=some (.int (gv r j)):=by
 rw[List.getElem?_map,List.getElem?_eq_getElem h]
 unfold gv
 rw[getD_eq_getElem?_getD,List.getElem?_eq_getElem h];rfl
theorem gv_at {r:List Int} {j:Nat} (h:j < r.length):atI (r.map PyData.int) ((j:Nat):Int)=some (.int (gv r j)):=atI_nat (gv_get h)
theorem gv_out {r:List Int} {j:Nat} (h:r.length<=j):gv r j=0:=by unfold gv;rw[getD_eq_getElem?_getD,List.getElem?_eq_none h];rfl
abbrev s_lead:Stmt:=top 19
theorem sc_lead:FnScope ["row","width","column"] ["row","width"] (defScope s_lead):=by walk_at "sc"
def sp_lead:SpD:=λds Q _=>∃ (r:List Int) (wd:Nat),ds=[iD r,.int wd]/\wd<=r.length/\wd<=1000/\Q (.int (ld wd (gv r):Nat)) true
theorem ok_lead {f:Addr} {fd:FuncData} (F:Fun K "lead" "lead" s_lead f fd) (T:Blt mg):FnOk P w K mg base CX0 41 f fd ["row","width"] (SpL K sp_lead):=by
 refine ok0 F sc_lead (λds Q X h=>?_) (λcdv A outer s H E hr=>?_) λds Qd Xd h=>h
 ·obtain ⟨r,wd,rfl,_⟩:=h;rfl
 refine ⟨_,(dpss_cons (dps_for PassesOwn.never rfl (dpi_range1 (by rfl) (by exact T.range) (dpa_cons (dpv 1) dpa_nil)) (dpgn 2 sc_lead.nd) (dpss_one (dps_if (dpt_cmp (dop_ne (by rfl) (by exact hr.units)) (dpe_ix (dix (by rfl)) (dpv 0) (dpv 2) (λ_ _=>rfl)) dpe_int (nomark _)) (dpss_one (dps_ret (dpv 2))) dpss_nil)))
   (dpss_one (dps_ret (dpv 1)))),λds Qd h=>?_⟩
 obtain ⟨r,wd,rfl,hw,hk,q⟩:=h
 show (_:TSD) _ [some (false,.list (r.map .int)),some (false,.int wd),none] _
 cbv
 rw[Int.toNat_natCast]
 refine lp_rng (λi ρ=>∃ x:Option (Bool × D),ρ=[some (false,.list (r.map .int)),some (false,.int wd),x]/\i<=wd/\∀ j,j < i->gv r j=0) ⟨_,rfl,Nat.zero_le _,λj hj=>by lia⟩ ?_ ?_
 ·rintro i ρ hi ⟨x,rfl,hi',hz⟩
  cbv
  rw[Int.zero_add]
  refine ⟨_,gv_at (by lia),?_⟩
  cbv
  refine ite2 (λh1=>?_) λh1=>?_
  ·have h1:gv r i≠0:=by simpa using h1
   cbv
   rw[M06.ld_of hi h1 hz] at q
   exact q
  ·have h1:gv r i=0:=by simpa using h1
   cbv
   refine ⟨_,rfl,by lia,λj hj=>?_⟩
   by_cases e:j=i
   ·rw[e];exact h1
   ·exact hz j (by lia)
 ·rintro ρ ⟨x,rfl,_,hz⟩
  cbv
  rw[M06.ld_all hz] at q
  exact q
def bld (a:List Int) (s:Int) (b:List Int) (t:Int):List Int:=(a.zip b).map λz=>s*z.1+t*z.2
theorem bld_len {a b:List Int} {s t:Int} (h:a.length=b.length):(bld a s b t).length=a.length:=by unfold bld;rw[length_map,List.length_zip];lia
theorem gv_bld {a b:List Int} {s t:Int} (h:a.length=b.length) (j:Nat):gv (bld a s b t) j=s*gv a j+t*gv b j:=by
 by_cases hj:j < a.length
 ·unfold gv bld
  rw[getD_eq_getElem?_getD,List.getElem?_map,List.getElem?_zip_eq_some (z:=(a[j],b[j]'(by lia))) |>.mpr ⟨List.getElem?_eq_getElem hj,List.getElem?_eq_getElem (by lia)⟩,getD_eq_getElem?_getD,getD_eq_getElem?_getD,List.getElem?_eq_getElem hj,List.getElem?_eq_getElem (show j < b.length by lia)]
  rfl
 ·rw[gv_out (by rw[bld_len h];lia),gv_out (by lia),gv_out (by lia)];lia
abbrev s_blended:Stmt:=top 20
theorem sc_blended:FnScope ["one","s","other","t"] ["one","s","other","t"] (defScope s_blended):=by walk_at "sc"
def sp_bld:SpD:=λds Q _=>∃ (a b:List Int) (s t:Int),ds=[iD a,.int s,iD b,.int t]/\a.length=b.length/\a.length<=1000/\(∀ j,j < a.length->IntMulOk s (gv a j)/\IntMulOk t (gv b j))/\Q (iD (bld a s b t)) true
theorem ok_blended {f:Addr} {fd:FuncData} (F:Fun K "blended" "blended" s_blended f fd) (T:Blt mg):FnOk P w K mg base CX0 41 f fd ["one","s","other","t"] (SpL K sp_bld):=by
 refine ok0 F sc_blended (λds Q X h=>?_) (λcdv A outer s H E hr=>?_) λds Qd Xd h=>h
 ·obtain ⟨a,b,s,t,rfl,_⟩:=h;rfl
 refine ⟨_,(dpss_one (dps_ret (dpe_lc ["x","y"] [("s",1),("t",3)] rfl (LcScope.of (by kernel_rfl)) (dpi_zip (by rfl) (by rfl) (by exact T.zip) (dpa_cons (dpv 0) (dpa_cons (dpv 2) dpa_nil))) (λ_ _ _ _=>⟨(dpg_tup 2 (by rfl) (by rfl) (dpgs_cons (dpgn 0 (nd_of (by kernel_rfl))) (dpgs_cons (dpgn 1 (nd_of (by kernel_rfl))) dpgs_nil)) (by rfl) (by rfl)),dpts_nil,(dpb_emit (by rfl) (by rfl) (dpe_op dop_add (dpe_op dop_mul (dpv 2) (dpv 0)) (dpe_op dop_mul (dpv 3) (dpv 1))))⟩)))),λds Qd h=>?_⟩
 obtain ⟨a,b,s,t,rfl,hl,hk,hm,q⟩:=h
 show (_:TSD) _ [some (false,.list (a.map .int)),some (false,.int s),some (false,.list (b.map .int)),some (false,.int t)] _
 cbv
 rw[zip_ints]
 refine lc_mapA (L:=a.zip b) (λz:Int × Int=>.tuple [.int z.1,.int z.2]) (λz=>.int (s*z.1+t*z.2)) (λz hz es Q' hl' q'=>?_) (by rw[List.length_zip];lia) ?_
 ·cbv
  obtain ⟨j,hj,rfl⟩:=mem_iff_getElem.mp hz
  rw[List.length_zip] at hj
  have e1:(a.zip b)[j].1=gv a j:=by unfold gv;rw[List.getElem_zip,getD_eq_getElem?_getD,List.getElem?_eq_getElem (by lia)];rfl
  have e2:(a.zip b)[j].2=gv b j:=by unfold gv;rw[List.getElem_zip,getD_eq_getElem?_getD,List.getElem?_eq_getElem (by lia)];rfl
  rw[e1,e2] at q' ⊢
  obtain ⟨m1,m2⟩:=hm j (by lia)
  refine ⟨m1,?_⟩
  cbv
  exact q'
 ·rw[show PyData.list ((a.zip b).map λz=>.int (s*z.1+t*z.2))=iD (bld a s b t) from by unfold iD bld;rw[map_map];rfl]
  cbv
  exact q
theorem iD_get {H:List (List Int)} {i:Nat} {d:D} (h:(H.map iD)[i]?=some d):∃ z,H[i]?=some z/\d=iD z:=by
 rw[List.getElem?_map] at h
 obtain ⟨z,h1,h2⟩:=Option.map_eq_some_iff.mp h
 exact ⟨z,h1,h2.symm⟩
theorem Mi.cong {wd w k a x e i:Nat} {r r' r2:M06.V} {H:List M06.V} (M:Mi wd w k a x e r H i r') (h:∀ j,r2 j=r' j):Mi wd w k a x e r H i r2:=by
 have:r2=r':=funext h
 rw[this];exact M
abbrev s_made_small:Stmt:=top 18
theorem sc_made_small:FnScope ["row","stairs","width","stair","column","times"] ["row","stairs","width"] (defScope s_made_small):=by walk_at "sc"
structure MkOk (w wd k a x e:Nat) (r:List Int) (H:List (List Int)):Prop where
 rl:r.length=w
 hl:∀ z∈H,z.length=w
 wl:wd<=w
 w1:w<=1000
 hk:H.length<=k
 k8:k<=8
 ec:Ec wd (H.map gv)
 ra:∀ j,j < wd->Bt a (gv r j)
 re:∀ j,j < w->Bt e (gv r j)
 hx:∀ z∈H,∀ j,j < wd->Bt x (gv z j)
 he:∀ z∈H,∀ j,j < w->Bt e (gv z j)
 bits:2*(e+(a+k*(x+2)))+40<=134217728
def sp_mks:SpD:=λds Q _=>∃ (w wd k a x e:Nat) (r:List Int) (H:List (List Int)),ds=[iD r,gD H,.int wd]/\MkOk w wd k a x e r H/\∀ r':List Int,r'.length=w->(∀ j,gv r' j=mks wd (gv r) (H.map gv) j)->(∀ j,j < w->Bt (e+(a+k*(x+2))+1+k) (gv r' j))->Q (iD r') false
theorem ok_made_small {f:Addr} {fd:FuncData} (F:Fun K "made_small" "made_small" s_made_small f fd) (T:Blt mg) (hT:P.given.tree=none) (D_lead:Df P w K mg base "lead" ["row","width"] 41 (SpL K sp_lead)) (D_blended:Df P w K mg base "blended" ["one","s","other","t"] 41 (SpL K sp_bld)):FnOk P w K mg base CX0 42 f fd ["row","stairs","width"] (SpL K sp_mks):=by
 refine ok0 F sc_made_small (λds Q X h=>?_) (λcdv A outer s H E hr=>?_) λds Qd Xd h=>h
 ·obtain ⟨w',wd,k,a,x,e,r,H,rfl,_⟩:=h;rfl
 refine ⟨_,(dpss_cons (dps_frz 1 (dps_for PassesOwn.never rfl (dpi_list (by rfl) (dpv 1)) (dpgn 3 sc_made_small.nd) (dpss_cons (dpset 4 sc_made_small.nd (dpe_df (by exact D_lead) (by exact hr.mono (by lia)) (dpa_cons (dpv 3) (dpa_cons (dpv 2) dpa_nil))))
   (dpss_cons (dpset 5 sc_made_small.nd (dpe_op (dop_fdivP ⟨⟨_,_,rfl,rfl,rfl,rfl,rfl⟩⟩ (by exact hT) (by exact hr.pyl)) (dpe_ix (dix (by rfl)) (dpv 0) (dpv 4) (λ_ _=>rfl)) (dpe_ix (dix (by rfl)) (dpv 3) (dpv 4) (λ_ _=>rfl))))
   (dpss_one (dps_if (dpt_cmp (dop_ne (by rfl) (by exact hr.units)) (dpv 5) dpe_int (nomark _)) (dpss_one (dps_aft 0 (dpset 0 sc_made_small.nd (dpe_df (by exact D_blended) (by exact hr.mono (by lia)) (dpa_cons (dpv 0) (dpa_cons dpe_int (dpa_cons (dpv 3) (dpa_cons (dpe_neg (dpv 5)) dpa_nil)))))))) dpss_nil))))))
   (dpss_one (dps_ret (dpv 0)))),λds Qd h=>?_⟩
 obtain ⟨w',wd,k,a,x,e,r,H,rfl,O,q⟩:=h
 show (_:TSD) _ [some (false,iD r),some (false,.list (H.map iD)),some (false,.int wd),none,none,none] _
 have O1:=O.w1
 have O2:=O.k8
 have O3:=O.bits
 have O4:=O.wl
 have hH:∀ v∈H.map gv,∃ z∈H,v=gv z:=λv hv=>by obtain ⟨z,hz,rfl⟩:=mem_map.mp hv;exact ⟨z,hz,rfl⟩
 cbv
 refine lp_list (λi ρ=>∃ (r':List Int) (x3 x4 x5:Option (Bool × D)),ρ=[some (false,iD r'),some (false,.list (H.map iD)),some (false,.int wd),x3,x4,x5]/\r'.length=w'/\Mi wd w' k a x e (gv r) (H.map gv) i (gv r')) ⟨r,_,_,_,rfl,O.rl,.start O.ra O.re⟩ ?_ ?_
 ·rintro i d ρ hd ⟨r',x3,x4,x5,rfl,hrl,M⟩
  obtain ⟨z,hz,rfl⟩:=iD_get hd
  have hm:=mem_of_getElem? hz
  have hzl:=O.hl z hm
  obtain ⟨p1,p2⟩:=O.ec.pos (gv z) (mem_map.mpr ⟨z,hm,rfl⟩)
  obtain ⟨M',tb⟩:=M.step (by rw[length_map];exact O.hk) O.ec (λv hv=>by obtain ⟨y,hy,rfl⟩:=hH v hv;exact O.hx y hy) (λv hv=>by obtain ⟨y,hy,rfl⟩:=hH v hv;exact O.he y hy) (by rw[List.getElem?_map,hz];rfl)
  have hik:i < k:=by have:=(List.getElem?_eq_some_iff.mp hz).1;have:=O.hk;lia
  cbv
  refine ⟨z,wd,rfl,by lia,by lia,?_⟩
  cbv
  refine ⟨_,gv_at (by lia),?_⟩
  cbv
  refine ⟨_,gv_at (by lia),?_⟩
  cbv
  generalize ht:(gv r' (ld wd (gv z))).fdiv (gv z (ld wd (gv z)))=times at tb
  have hre:=M.re
  refine ite2 (λh1=>?_) λh1=>?_
  ·cbv
   refine ⟨r',z,1,-times,rfl,by lia,by lia,λj hj=>⟨CMul.ok (.inl ⟨by decide,by decide⟩),mulT tb.neg (O.he z hm j (by lia)) (by lia)⟩,?_⟩
   cbv
   refine ⟨_,_,_,_,rfl,by rw[bld_len (by lia)];exact hrl,Mi.cong M' λj=>?_⟩
   rw[gv_bld (by lia)]
   show _=gv r' j - (gv r' (ld wd (gv z))).fdiv (gv z (ld wd (gv z)))*gv z j
   rw[ht,Int.neg_mul];lia
  ·have h1:times=0:=by simpa using h1
   cbv
   refine ⟨r',_,_,_,rfl,hrl,Mi.cong M' λj=>?_⟩
   show _=gv r' j - (gv r' (ld wd (gv z))).fdiv (gv z (ld wd (gv z)))*gv z j
   rw[ht,h1];lia
 ·rintro ρ ⟨r',x3,x4,x5,rfl,hrl,M⟩
  rw[length_map] at M
  cbv
  refine q r' hrl (λj=>?_) λj hj=>(M.re j hj).up (by have:=O.hk;lia)
  have:=M.eq j
  rwa [List.drop_of_length_le (by rw[length_map];exact Nat.le_refl _)] at this
end
end K64
namespace PySem
open Sem (wp)
section
variable {prog:Program} {w:World} {A:Around} {E:Value->Shared->Prop} {s:Shared}
theorem F.sub_ri_reversed:isSubtype (.type "range_iterator") (.type "reversed")=pure false:=by rw[isSubtype_type];kernel_rfl
def rriObj (n:Nat):Obj:={ cls:=.type "range_iterator",data:=.fields #[rawInt ((n:Int) - 1),rawInt (n:Int),rawInt (-1)] }
theorem asInt_int (i:Int) (t:Tok):asInt? (.int i t)=pure (some i):=rfl
theorem call_range_reversed {r:Addr} {n:Nat} {t u v:Tok} {Q:Value->Shared->Prop} (hr:IsRange s.heap r 0 n 1 t u v) (hn:(n:Int) < 2 ^ 62)
  (h:Q (.ref s.heap.objs.size) { s with heap:=s.heap.push (rriObj n) }):wpAny (model prog w) A (call (.builtin "range.__reversed__") [.ref r]) Q E s:=by
 refine wpAny_call_entry F.slot_range_reversed ⟨_,hr,rfl⟩ F.entry_range_reversed ?_ (F.args_range_reversed_1 _)
 unfold Builtin.«range.__reversed__»
 refine wpAny_bind (wpAny_of_eq (a:=Value.ref r) rfl ?_)
 refine wpAny_bind ?_
 unfold Builtin.Range.rangeFields
 refine wpAny_bind (wpAny_field hr rfl (x:=.int 0 t) rfl ?_)
 rw[asInt_int,pure_bind]
 refine wpAny_bind (wpAny_field hr rfl (x:=.int n u) rfl ?_)
 rw[asInt_int,pure_bind]
 refine wpAny_bind (wpAny_field hr rfl (x:=.int 1 v) rfl ?_)
 rw[asInt_int,pure_bind]
 refine wpAny_pure ?_
 dsimp only
 have sz:Builtin.Range.rangeSize 0 (n:Int) 1=(n:Int):=by
  unfold Builtin.Range.rangeSize
  rw[if_pos (by decide)]
  split<;>lia
 rw[sz]
 have sm:(Builtin.Range.rangeFitsLong 0&&Builtin.Range.rangeFitsLong (n:Int)&&Builtin.Range.rangeFitsLong 1&&Builtin.Range.rangeFitsLong (-1)&&Builtin.Range.rangeFitsLong (0 - 1)&&Builtin.Range.rangeFitsLong (n:Int))=true:=by
  simp only[Builtin.Range.rangeFitsLong,Bool.and_eq_true,decide_eq_true_eq]
  lia
 rw[sm]
 simp only[Bool.not_true,Bool.false_eq_true,if_false,if_true]
 have e1:(0:Int)+((n:Int) - 1)*1=(n:Int) - 1:=by lia
 rw[e1]
 refine wpAny_bind ?_
 unfold newFields
 exact wpAny_newObj_type (wpAny_pure ⟨_,rfl,h⟩)
theorem code_reversed_rng {r:Addr} {n:Nat} {t u v:Tok} {Q₁:Value->Shared->Prop} (hr:IsRange s.heap r 0 n 1 t u v) (hn:(n:Int) < 2 ^ 62)
  (h:Q₁ (.ref s.heap.objs.size) { s with heap:=s.heap.push (rriObj n) }) :
  codeAny (model prog w) A (.call (.builtin "reversed.__new__") ⟨[.type "reversed",.ref r],[]⟩) (wants Q₁ E) s:=by
 refine codeAny_of_tree ?_
 show wpAny _ A.in1 (do checkBuiltinCall "reversed.__new__" ⟨[.type "reversed",.ref r],[]⟩;again (.builtin "reversed.__new__" ⟨[.type "reversed",.ref r],[]⟩)) _ _ s
 refine wpAny_bind (wpAny_of_eq (F.newCall_reversed_1 _) (wpAny_pure ⟨plainId_quiet F.plain_reversed_new _,codeAny_builtin F.entry_reversed_new ?_⟩))
 rw[Around.under_plainId F.plain_reversed_new _]
 unfold Builtin.«reversed.__new__»
 refine wpAny_bind (wpAny_of_eq (newClass_reversed _) ?_)
 try dsimp only
 refine wpAny_bind (wpAny_of_eq (a:=()) (by first|rfl|kernel_rfl) ?_)
 refine wpAny_bind (wpAny_of_eq (a:=()) (by first|rfl|kernel_rfl) ?_)
 try dsimp only
 refine wpAny_bind (wpAny_specialOf (T:="range") ⟨_,hr,rfl⟩ F.slot_range_reversed.lookup ?_)
 try dsimp only
 refine wpAny_bind (wpAny_of_eq (F.slot_range_reversed.bind _) ?_)
 try dsimp only
 first
 | rw[if_neg (show ¬ ((Value.builtin "range.__reversed__"==Value.none)=true) from Bool.false_ne_true)]
 | (show wpAny _ _ (if (Value.builtin "range.__reversed__"==Value.none)=true then _ else _) _ _ _;rw[if_neg (show ¬ ((Value.builtin "range.__reversed__"==Value.none)=true) from Bool.false_ne_true)])
 refine wpAny_bind (wpAny_rule ?_)
 refine wpAny_bind (m:=runValue (.call (.builtin "range.__reversed__") ⟨[.ref r],[]⟩)) (show wpAny _ _ (call (.builtin "range.__reversed__") [.ref r]) _ _ _ from call_range_reversed hr hn ?_)
 first
 | exact wpAny_pure h
 | exact wpAny_bind (wpAny_pure (wpAny_pure h))
theorem call_reversed_rng {r:Addr} {n:Nat} {t u v:Tok} {Q:Value->Shared->Prop} (hr:IsRange s.heap r 0 n 1 t u v) (hn:(n:Int) < 2 ^ 62)
  (h:Q (.ref s.heap.objs.size) { s with heap:=s.heap.push (rriObj n) }):wpAny (model prog w) A (call (.type "reversed") [.ref r]) Q E s:=by
 refine callType_other (U:="range_iterator") (Q₁:=λobj s₁=>obj=.ref s.heap.objs.size/\s₁={ s with heap:=s.heap.push (rriObj n) }) (by decide +kernel) F.create_reversed ⟨_,_,F.mro_reversed⟩ F.made_reversed F.sub_ri_reversed (F.typeCall_reversed_1 _) (code_reversed_rng hr hn ⟨rfl,rfl⟩) ?_
 rintro obj s₁ ⟨rfl,rfl⟩
 exact ⟨⟨_,Heap.get?_push_size _ rfl,rfl⟩,h⟩
end
end PySem
namespace L2
open PySem PySem.Spec PyProof.Rows
def Itw (n:Nat):It:=⟨λi H=>i < n,λi H x H'=>H'=H/\x=.int ((n:Int) - 1 - (i:Int)),λi H=>n<=i⟩
theorem turn_rrange {P:Program} {w:World} {K:W.Frag} {tg:Expr} (it:Addr) (n:Nat):Turn P w K tg (Itw n) [it] it (λi h=>IsRangeIter h it (((n:Int) - 1)+(i:Nat)*(-1)) ((n:Int) - (i:Nat)) (-1)) where
 mem:=by simp
 obj:=λi h st b hb=>by
  have e:b=it:=by simpa using hb
  subst e
  exact ⟨_,st,λv z=>by
   have z':Data.fields _=Data.cell v:=z
   cases z'⟩
 keep:=λi h h' st k=>k it (by simp) _ st
 item:=by
  intro X hP hw hK hc i pins s σ H E I hf st hg
  subst hP hw hK
  obtain ⟨f0,f1,f2,f3,f4,f5⟩:=hf it (by simp)
  have W:=Walks.range (prog:=X.prog) (w:=X.w) (I.ok.hd hc) it ((n:Int) - 1) (-1) n
  refine W.item i s _ _ hg st λv h' tk hv st' kk=>?_
  obtain ⟨t,rfl⟩:=hv
  have I1:Inv X pins σ H { s with heap:=h',toks:=tk }:=I.turned (λb o hb e=>kk b o (by simpa using hb) e) f0 f1 f3 f4 f5
  refine ⟨_,rfl,go_of (s:={ s with heap:=h',toks:=tk }) (n:="range_iterator") st' rfl rfl (by decide) ⟨.int ((n:Int) - 1 - i),H,I1,⟨t,?_⟩,⟨rfl,rfl⟩,st',λb hb=>(hf b hb).1⟩⟩
  congr 1
  lia
 done:=by
  intro X hP hw hK hc i pins s σ H E I hf st hg
  subst hP hw hK
  obtain ⟨f0,f1,f2,f3,f4,f5⟩:=hf it (by simp)
  exact wpAny_pyNext_range_end (I.ok.hd hc) st (by have:n<=i:=hg;lia) λh' eb=>⟨rfl,I.turned (t':=s.toks) (λb o hb e=>eb b o hb e) f0 f1 f3 f4 f5⟩
 self:=λ_ _ _ _ _ st h=>wpAny_pyIter_rangeiter st h
section
variable {X:Cx} {tg:Expr}
def iRrg (ta:TA):TI:=λσ H R=>ta σ H λvs H1=>∃ j:Nat,vs=[.int j]/\j<=1000000/\R (Itw j) H1
theorem pi_rrng {a:Expr} {ta:TA} {p pos p2 pos2:Pos} (hg:Gl X "reversed") (hm:X.mg "reversed"=none) (hg2:Gl X "range") (hm2:X.mg "range"=none) (ha:PA X [a] ta) (hs:starEach [a] X.env=[(false,eval a X.env)]:=by rfl)
  (hs2:starEach [.Call (.Name "range" p2) [a] [] pos2] X.env=[(false,eval (.Call (.Name "range" p2) [a] [] pos2) X.env)]:=by rfl) :
  PI X tg (.Call (.Name "reversed" p) [.Call (.Name "range" p2) [a] [] pos2] [] pos) (iRrg ta):=by
 intro pins s σ H R I h
 refine Call_ (ld_blt I hg hm boot_reversed (PyProof.Rows.callWith_type1 ?_ hs2 rfl))
 rw[hs2]
 show wpAny _ _ (spliced ((false,eval (.Call (.Name "range" p2) [a] [] pos2) X.env)::backTo pos [])) _ _ s
 refine Calls.spliced_cons (Call_ (ld_blt I hg2 hm2 boot_range (PyProof.Rows.callWith_type1 (thn (ha pos2 pins s σ H _ I h) λus s1 ⟨vs,H1,I1,r1,q1⟩=>?_) hs rfl)))
 obtain ⟨j,e,hj,q⟩:=q1
 subst e
 cases r1 with
 | cons r rr =>
  cases rr
  obtain ⟨t,rfl⟩:=r
  refine call_range_1 ?_
  refine Calls.spliced_nil ?_
  refine call_reversed_rng (IsRange.new ..) (by lia) ?_
  have I2:Inv X pins σ H1 { s1 with heap:=s1.heap.push { cls:=.type "range",data:=.fields #[.int 0 s1.toks,.int (j:Int) t,.int 1 (s1.toks+1)] },toks:=s1.toks+1+1 }:=I1.kept λb o e=>Heap.get?_push_of_some _ e
  generalize (s1.heap.push { cls:=.type "range",data:=.fields #[.int 0 s1.toks,.int (j:Int) t,.int 1 (s1.toks+1)] })=hp at I2
  have st:IsRangeIter (hp.push (rriObj j)) hp.objs.size ((j:Int) - 1) (j:Int) (-1):=Heap.get?_push_size _ rfl
  refine wpAny_pyIter_rangeiter st ?_
  refine ⟨hp.objs.size,[hp.objs.size],_,_,H1,rfl,I2.kept (t':=s1.toks+1+1) λb o e=>Heap.get?_push_of_some _ e,turn_rrange _ j,?_,λb hb=>?_,q⟩
  ·show IsRangeIter _ _ (((j:Int) - 1)+((0:Nat):Int)*(-1)) ((j:Int) - ((0:Nat):Int)) (-1)
   rw[show (((j:Int) - 1)+((0:Nat):Int)*(-1))=(j:Int) - 1 by lia,show ((j:Int) - ((0:Nat):Int))=(j:Int) by lia]
   exact st
  ·have e:b=hp.objs.size:=by simpa using hb
   subst e
   exact I2.fpOk (Nat.le_refl _) (I2.hok.fresh (Nat.le_refl _))
theorem qpi_rrng {a:Expr} {ta:TA} {p pos p2 pos2:Pos} (hg:Gl X "reversed") (hm:X.mg "reversed"=none) (hg2:Gl X "range") (hm2:X.mg "range"=none) (ha:QA X [a] ta) (hs:starEach [a] X.env=[(false,eval a X.env)]:=by rfl)
  (hs2:starEach [.Call (.Name "range" p2) [a] [] pos2] X.env=[(false,eval (.Call (.Name "range" p2) [a] [] pos2) X.env)]:=by rfl) :
  QI X tg (.Call (.Name "reversed" p) [.Call (.Name "range" p2) [a] [] pos2] [] pos) (iRrg ta):=⟨pi_rrng hg hm hg2 hm2 ha.h hs hs2⟩
end
end L2
local macro_rules | `(tactic| walk_at "rd") => `(tactic| simp only [L2.tFor_eq, L2.tSeq, L2.tNext, L2.tIfS, L2.tRet, L2.tRetN, L2.tDrop, L2.tAsg, L2.gName, L2.gTup, L2.gCons, L2.gNil, L2.gSub, L2.tVar, L2.tC, L2.tOp, L2.tUn, L2.tTest, L2.tB, L2.tCB, L2.tCall, L2.tCons, L2.tNil, L2.tTup, L2.tLst, L2.tIf, L2.tAnd, L2.tOr, L2.tNot, L2.tAndV, L2.tOrV, L2.tNotV, L2.tAug, L2.tAugS, L2.ipI, L2.tLC, L2.tIfB, L2.tEmit, L2.tLR,
 L2.rI,L2.rI0,L2.rU,L2.rEq,L2.rNe,L2.scal,L2.iRng1,L2.iRng2,L2.iList,L2.iTup,L2.iEnum,L2.iZip,L2.rLen,L2.rAll,L2.rAny,L2.rSum,L2.rIsi,L2.rListOf,L2.rIxL,L2.rIxT,L2.rGetL,L2.rSetL,L2.rEqD,L2.rAppend,L2.rPopAt,L2.rReverse,L2.rCat,L2.tBM,L2.tBM0,L2.capS,L2.capN,id,
 map_cons,List.map_nil,append_nil,nil_append,List.cons_append,List.getElem?_cons_zero,List.getElem?_cons_succ,List.set_cons_zero,List.set_cons_succ,Option.some.injEq,L2.V.int.injEq,L2.V.ref.injEq,L2.V.bl.injEq,L2.V.str.injEq,List.cons.injEq,and_true,true_and,exists_eq_left',exists_eq_left,exists_and_left,decide_eq_true_eq,Option.join_some,if_true,if_false])
namespace K64
open PySem PySem.Spec PyProof.Rows L2 DL
section
variable {P:Program} {w:World} {K:W.Frag} {mg:Str->Option Value} {base:Heap}
open M06 (Bt Shr Eu Ec mks ld red Mi Hy PI PO Td)
def tJn (t:TS):TS:=t
theorem qps_jn {X:Cx} {s:Stmt} {t:TS} (h:QS X s t):QS X s (tJn t):=h
theorem t_jn {t:TS} {D:Ends} {σ:L2.St} {H:Hp} (J:L2.St->Hp->Prop) (h1:∀ N:L2.St->Hp->Prop,(∀ σ H,J σ H->N σ H)->t { D with nx:=N } σ H) (h2:∀ σ H,J σ H->D.nx σ H):tJn t D σ H:=h1 D.nx h2
theorem dn_row {H:Hp} {r:Addr} {z:List Int} (h:H r=some (.lst (z.map V.int))):Dn K H (.ref r) (iD z):=by
 refine .lst h ?_
 clear h
 induction z with
 | nil=>exact .nil
 | cons a z ih=>exact .cons (.int a) ih
theorem row_of {H:Hp} {v:V} {z:List Int} (h:Dn K H v (iD z)):∃ r,v=.ref r/\H r=some (.lst (z.map V.int)):=by
 obtain ⟨r,us,rfl,h1,h2⟩:=dns_of_lst h
 have:=dns_ints h2 (ns:=z) (intsD_map z)
 subst this
 exact ⟨r,rfl,h1⟩
theorem c_lead {H:Hp} {r:Addr} {z:List Int} {wd:Nat} {Q:VK} {E:XK} (hr:H r=some (.lst (z.map V.int))) (h1:wd<=z.length) (h2:wd<=1000) (q:∀ H',Same H H'->Q (.int (ld wd (gv z):Nat)) H'):SpL K sp_lead [.ref r,.int wd] H Q E:=by
 refine ⟨[iD z,.int wd],λd o=>d=.int (ld wd (gv z):Nat),Xf,.cons (dn_row hr) (.cons (.int _) .nil),⟨z,wd,rfl,h1,h2,rfl⟩,λd o v H' e sm r=>?_,λ_ _ z _=>z.elim⟩
 subst e
 have hv:Dn K H' v (.int (ld wd (gv z):Nat)):=by
  cases o with
  | true=>obtain ⟨ms,h1,_⟩:=r;exact h1.den
  | false=>exact r
 cases hv
 exact q H' sm
theorem c_bld {H:Hp} {r1 r2:Addr} {a b:List Int} {s t:Int} {Q:VK} {E:XK} (h1:H r1=some (.lst (a.map V.int))) (h2:H r2=some (.lst (b.map V.int))) (hl:a.length=b.length) (hk:a.length<=1000) (hm:∀ j,j < a.length->IntMulOk s (gv a j)/\IntMulOk t (gv b j)) (q:∀ p H',Same H H'->H p=none->H' p=some (.lst ((bld a s b t).map V.int))->Q (.ref p) H'):SpL K sp_bld [.ref r1,.int s,.ref r2,.int t] H Q E:=by
 refine ⟨[iD a,.int s,iD b,.int t],λd o=>d=iD (bld a s b t)/\o=true,Xf,.cons (dn_row h1) (.cons (.int _) (.cons (dn_row h2) (.cons (.int _) .nil))),⟨a,b,s,t,rfl,hl,hk,hm,rfl,rfl⟩,λd o v H' e sm r=>?_,λ_ _ z _=>z.elim⟩
 obtain ⟨rfl,rfl⟩:=e
 obtain ⟨ms,ow,nd,fr⟩:=r
 obtain ⟨p,rfl,hp⟩:=row_of ow.den
 unfold iD at ow
 cases ow with
 | lst g1 g2 =>
  exact q p H' sm (fr p mem_cons_self) hp
theorem c_mks {H:Hp} {r b:Addr} {z:List Int} {ts:List Addr} {T:List (List Int)} {w wd k a x e:Nat} {Q:VK} {E:XK} (hr:H r=some (.lst (z.map V.int))) (hb:H b=some (.lst (ts.map V.ref))) (hT:Dns K H (ts.map V.ref) (T.map iD)) (O:MkOk w wd k a x e z T)
  (q:∀ p z' H',Same H H'->H' p=some (.lst (z'.map V.int))->z'.length=w->(∀ j,gv z' j=mks wd (gv z) (T.map gv) j)->(∀ j,j < w->Bt (e+(a+k*(x+2))+1+k) (gv z' j))->Q (.ref p) H'):SpL K sp_mks [.ref r,.ref b,.int wd] H Q E:=by
 refine ⟨[iD z,gD T,.int wd],λd o=>∃ z':List Int,d=iD z'/\z'.length=w/\(∀ j,gv z' j=mks wd (gv z) (T.map gv) j)/\(∀ j,j < w->Bt (e+(a+k*(x+2))+1+k) (gv z' j)),Xf,.cons (dn_row hr) (.cons (.lst hb hT) (.cons (.int _) .nil)),⟨w,wd,k,a,x,e,z,T,rfl,O,λz' h1 h2 h3=>⟨z',rfl,h1,h2,h3⟩⟩,λd o v H' e sm r=>?_,λ_ _ z _=>z.elim⟩
 obtain ⟨z',rfl,h1,h2,h3⟩:=e
 have hv:Dn K H' v (iD z'):=by
  cases o with
  | true=>obtain ⟨ms,g1,_⟩:=r;exact g1.den
  | false=>exact r
 obtain ⟨p,rfl,hp⟩:=row_of hv
 exact q p z' H' sm hp h1 h2 h3
theorem c_shr {H:Hp} {a b:Int} {c:Nat} {Q:VK} {E:XK} (ha:0 < a) (ba:Bt c a) (bb:Bt c b) (hc:c<=60000000) (q:∀ g s t p H',Shr a b g s t->Same H H'->SqT K H' p [.int g,.int s,.int t]->Q (.ref p) H'):SpL K sp_shr [.int a,.int b] H Q E:=by
 refine ⟨[.int a,.int b],λd o=>∃ g s t,d=.tuple [.int g,.int s,.int t]/\Shr a b g s t,Xf,.cons (.int _) (.cons (.int _) .nil),⟨a,b,c,rfl,ha,ba,bb,hc,λg s t h=>⟨g,s,t,rfl,h⟩⟩,λd o v H' e sm r=>?_,λ_ _ z _=>z.elim⟩
 obtain ⟨g,s,t,rfl,h⟩:=e
 have hv:Dn K H' v (.tuple [.int g,.int s,.int t]):=by
  cases o with
  | true=>obtain ⟨ms,g1,_⟩:=r;exact g1.den
  | false=>exact r
 cases hv with
 | tup h1 h2 =>
  rename_i p us
  cases h2 with
  | cons q1 q2 =>
   cases q1
   cases q2 with
   | cons q3 q4 =>
    cases q3
    cases q4 with
    | cons q5 q6 =>
     cases q5;cases q6
     exact q g s t p H' h sm h1
inductive Rws (H:Hp):List Addr->List (List Int)->Prop
 | nil:Rws H [] []
 | cons {r:Addr} {z:List Int} {ts:List Addr} {T:List (List Int)}:H r=some (.lst (z.map V.int))->Rws H ts T->Rws H (r::ts) (z::T)
theorem Rws.len {H:Hp} {ts:List Addr} {T:List (List Int)} (R:Rws H ts T):ts.length=T.length:=by
 induction R with
 | nil=>rfl
 | cons _ _ ih=>rw[length_cons,length_cons,ih]
theorem Rws.dns {H:Hp} {ts:List Addr} {T:List (List Int)} (R:Rws H ts T):Dns K H (ts.map V.ref) (T.map iD):=by
 induction R with
 | nil=>exact .nil
 | cons h _ ih=>exact .cons (dn_row h) ih
theorem Rws.keep {H H':Hp} {ts:List Addr} {T:List (List Int)} (R:Rws H ts T) (e:∀ r∈ts,∀ o,H r=some o->H' r=some o):Rws H' ts T:=by
 induction R with
 | nil=>exact .nil
 | cons h _ ih=>exact .cons (e _ mem_cons_self _ h) (ih λr hr=>e r (mem_cons_of_mem _ hr))
theorem Rws.same {H H':Hp} {ts:List Addr} {T:List (List Int)} (R:Rws H ts T) (e:Same H H'):Rws H' ts T:=R.keep λr _ o h=>e r o h
theorem Rws.get {H:Hp} {ts:List Addr} {T:List (List Int)} (R:Rws H ts T) {i:Nat} {z:List Int} (h:T[i]?=some z):∃ r,ts[i]?=some r/\H r=some (.lst (z.map V.int)):=by
 induction R generalizing i with
 | nil=>simp at h
 | cons h1 _ ih =>
  cases i with
  | zero=>simp at h;subst h;exact ⟨_,rfl,h1⟩
  | succ i=>exact ih (by simpa using h)
theorem Rws.set {H:Hp} {ts:List Addr} {T:List (List Int)} (R:Rws H ts T) {p:Addr} {z:List Int} (h:H p=some (.lst (z.map V.int))) (i:Nat):Rws H (ts.set i p) (T.set i z):=by
 induction R generalizing i with
 | nil=>exact .nil
 | cons h1 h2 ih =>
  cases i with
  | zero=>exact .cons h h2
  | succ i=>exact .cons h1 (ih i)
theorem Rws.drop {H:Hp} {ts:List Addr} {T:List (List Int)} (R:Rws H ts T) (n:Nat):Rws H (ts.drop n) (T.drop n):=by
 induction R generalizing n with
 | nil=>rw[List.drop_nil,List.drop_nil];exact .nil
 | cons h1 h2 ih =>
  cases n with
  | zero=>exact .cons h1 h2
  | succ n=>exact ih n
theorem Rws.insert {H:Hp} {ts:List Addr} {T:List (List Int)} (R:Rws H ts T) {p:Addr} {z:List Int} (h:H p=some (.lst (z.map V.int))) (i:Nat):Rws H (ts.insertIdx i p) (T.insertIdx i z):=by
 induction R generalizing i with
 | nil =>
  cases i with
  | zero=>exact .cons h .nil
  | succ i=>exact .nil
 | cons h1 h2 ih =>
  cases i with
  | zero=>exact .cons h (.cons h1 h2)
  | succ i=>exact .cons h1 (ih i)
abbrev s_put_in:Stmt:=top 16
theorem sc_put_in:FnScope ["stairs","row","width","at","column","stair","common","s","t","below"] ["stairs","row","width"] (defScope s_put_in):=by walk_at "sc"
structure PiOk (w wd Y X C D E K:Nat) (g:List Int) (T:List (List Int)):Prop where
 gl:g.length=w
 tl:∀ z∈T,z.length=w
 wl:wd<=w
 w1:w<=1000
 hy:Hy wd (T.map gv) (gv g) Y X C D
 bE:∀ u∈gv g::T.map gv,∀ j,j < w->Bt E (u j)
 hK:2*Y+9*X+40<=K
 bits:2*(E+10*K)+1000<=134217728
theorem gvv_at {z:List Int} {j:Nat} (h:j < z.length):atI (z.map V.int) ((j:Nat):Int)=some (.int (gv z j)):=atI_nat (by
 rw[List.getElem?_map,List.getElem?_eq_getElem h]
 unfold gv
 rw[getD_eq_getElem?_getD,List.getElem?_eq_getElem h];rfl)
theorem ne_row {H:Hp} {p a:Addr} {z:List Int} {ts:List Addr} (hp:H p=some (.lst (z.map V.int))) (ha:H a=some (.lst (ts.map V.ref))) (hz:1<=z.length):p≠a:=by
 rintro rfl
 rw[hp] at ha
 have e:z.map V.int=ts.map V.ref:=by injection ha with e;injection e
 cases z with
 | nil=>exact absurd hz (by simp)
 | cons x z =>
  cases ts with
  | nil=>cases e
  | cons t ts=>rw[map_cons,map_cons] at e;injection e with e _;cases e
theorem ins_eq {α:Type} {l:List α} {k:Nat} {y:α} (h:k<=l.length):l.take k++[y]++l.drop k=l.insertIdx k y:=by
 induction l generalizing k with
 | nil => have : k = 0 := by simpa using h
          subst this;rfl
 | cons x l ih =>
  cases k with
  | zero=>rfl
  | succ k=>simp only[List.take_succ_cons,List.drop_succ_cons,List.cons_append,List.insertIdx_succ_cons];rw[<-ih (by simpa using h)]
def Sm1 (a:Addr) (H H':Hp):Prop:=∀ b o,b≠a->H b=some o->H' b=some o
def sp_putin:Sp:=λvs H Q _=>∃ (a r:Addr) (wd w Y X C D E K:Nat) (g:List Int) (T:List (List Int)) (ts:List Addr),vs=[.ref a,.ref r,.int wd]/\H a=some (.lst (ts.map V.ref))/\Rws H ts T/\a∉ts/\H r=some (.lst (g.map V.int))/\r≠a/\PiOk w wd Y X C D E K g T /\
 ∀ (v:V) (H':Hp) (ts':List Addr) (T':List (List Int)) (lo:Option (List Int)),Sm1 a H H'->H' a=some (.lst (ts'.map V.ref))->Rws H' ts' T'->a∉ts'->(∀ z∈T',z.length=w)->PO wd w (T.map gv) (gv g) X (E+8*K) (T'.map gv) (lo.map gv) ->
  (ld wd (gv g)=wd->T'=T/\lo=some g)->(match lo with|none=>v=.non|some z=>z.length=w/\∃ p,v=.ref p/\p≠a/\H' p=some (.lst (z.map V.int)))->Q v H'
theorem ok_put_in {f:Addr} {fd:FuncData} (F:Fun K "put_in" "put_in" s_put_in f fd) (T:Blt mg) (hT:P.given.tree=none) (D_lead:Df P w K mg base "lead" ["row","width"] 41 (SpL K sp_lead)) (D_blended:Df P w K mg base "blended" ["one","s","other","t"] 41 (SpL K sp_bld)) (D_made_small:Df P w K mg base "made_small" ["row","stairs","width"] 42 (SpL K sp_mks)) (D_common_shares:Df P w K mg base "common_shares" ["one","other"] 41 (SpL K sp_shr)):FnOk P w K mg base CX0 43 f fd ["stairs","row","width"] sp_putin:=by
 refine F.ok sc_put_in (λvs H Q E h=>?_) (λcdv A outer s H vs Q E hr h=>?_)
 ·obtain ⟨a,r,wd,w,Y,X,C,D,E,K,g,T,ts,rfl,_⟩:=h;rfl
 obtain ⟨a,r,wd,w',Y,X,C,D,E1,K1,g,T0,ts,rfl,ha,hR,hat,hg,hra,O,q⟩:=h
 refine qmk (qpss_cons (qpset 3 sc_put_in.nd qpe_int)
   (qpss_cons (qpset 4 sc_put_in.nd (qpe_df (by exact D_lead) (by exact hr.mono (by decide)) (qpa_cons (qpv 1) (qpa_cons (qpv 2) qpa_nil))))
   (qpss_cons (qps_while PassesOwn.never (qpt_cmpR op_lt (qpv 4) (qpv 2) (nomark _)) (qpss_cons (qps_jn (qps_while PassesOwn.never (qPWpt (qpw_and (qpt_cmpR op_lt (qpv 3) (qpe_callB (call_lenK K (by rfl)) (by rfl) (by exact T.len) (by decide +kernel) (qpa_cons (qpv 0) qpa_nil)) (nomark _)) (qpw_and1 (qpt_cmpR op_lt (qpe_df (by exact D_lead) (by exact hr.mono (by decide)) (qpa_cons (qpe_ix (ix_listK K (by rfl)) (qpv 0) (qpv 3) (λ_ _=>rfl)) (qpa_cons (qpv 2) qpa_nil))) (qpv 4) (nomark _))))) (qpss_one (qps_aug (i:=3) sc_put_in.nd rfl (by first|exact Or.inl rfl|exact Or.inr rfl) qpe_int ip_add))))
   (qpss_cons (qps_if (qPWpt (qpw_or (qpt_cmpR op_eq (qpv 3) (qpe_callB (call_lenK K (by rfl)) (by rfl) (by exact T.len) (by decide +kernel) (qpa_cons (qpv 0) qpa_nil)) (nomark _)) (qpw_or1 (qpt_cmpR op_gt (qpe_df (by exact D_lead) (by exact hr.mono (by decide)) (qpa_cons (qpe_ix (ix_listK K (by rfl)) (qpv 0) (qpv 3) (λ_ _=>rfl)) (qpa_cons (qpv 2) qpa_nil))) (qpv 4) (nomark _))))) (qpss_cons (qps_expr (qpm_insertK K (by rfl) (qpv 0) (qpv 3) (qpe_ifExp (qpt_cmpR op_gt (qpe_ix (ix_listK K (by rfl)) (qpv 1) (qpv 4) (λ_ _=>rfl)) qpe_int (nomark _)) (qpv 1) (qpe_df (by exact D_blended) (by exact hr.mono (by decide)) (qpa_cons (qpv 1) (qpa_cons (qpe_un un_neg qpe_int) (qpa_cons (qpv 1) (qpa_cons qpe_int qpa_nil)))))) (by rfl) (by rfl) (by rfl) (by rfl) (by rfl)))
   (qpss_one (qps_ret qpe_non))) qpss_nil)
   (qpss_cons (qpset 5 sc_put_in.nd (qpe_ix (ix_listK K (by rfl)) (qpv 0) (qpv 3) (λ_ _=>rfl)))
   (qpss_cons (qps_asg (qpe_df (by exact D_common_shares) (by exact hr.mono (by decide)) (qpa_cons (qpe_ix (ix_listK K (by rfl)) (qpv 5) (qpv 4) (λ_ _=>rfl)) (qpa_cons (qpe_ix (ix_listK K (by rfl)) (qpv 1) (qpv 4) (λ_ _=>rfl)) qpa_nil))) (qpg_tupK K 3 (by rfl) (by rfl) (qpgs_cons (qpgn 6 sc_put_in.nd) (qpgs_cons (qpgn 7 sc_put_in.nd) (qpgs_cons (qpgn 8 sc_put_in.nd) qpgs_nil))) (by rfl) (by rfl)))
   (qpss_cons (qpset 9 sc_put_in.nd (qpe_slice (sl_listK K (by rfl)) (qpv 0) (qpo_some (qpe_op op_add (qpv 3) qpe_int)) qpo_none))
   (qpss_cons (qps_asg (qpe_df (by exact D_made_small) (by exact hr.mono (by decide)) (qpa_cons (qpe_df (by exact D_blended) (by exact hr.mono (by decide)) (qpa_cons (qpv 5) (qpa_cons (qpv 7) (qpa_cons (qpv 1) (qpa_cons (qpv 8) qpa_nil))))) (qpa_cons (qpv 9) (qpa_cons (qpv 2) qpa_nil)))) (qpg_sub (qpv 0) (qpv 3) set_list))
   (qpss_cons (qpset 1 sc_put_in.nd (qpe_df (by exact D_blended) (by exact hr.mono (by decide)) (qpa_cons (qpv 1) (qpa_cons (qpe_op (op_fdivP ⟨⟨_,_,rfl,rfl,rfl,rfl,rfl⟩⟩ (by exact hT) (by exact hr.pyl)) (qpe_ix (ix_listK K (by rfl)) (qpv 5) (qpv 4) (λ_ _=>rfl)) (qpv 6)) (qpa_cons (qpv 5) (qpa_cons (qpe_un un_neg (qpe_op (op_fdivP ⟨⟨_,_,rfl,rfl,rfl,rfl,rfl⟩⟩ (by exact hT) (by exact hr.pyl)) (qpe_ix (ix_listK K (by rfl)) (qpv 1) (qpv 4) (λ_ _=>rfl)) (qpv 6))) qpa_nil))))))
   (qpss_cons (qpset 1 sc_put_in.nd (qpe_df (by exact D_made_small) (by exact hr.mono (by decide)) (qpa_cons (qpv 1) (qpa_cons (qpv 9) (qpa_cons (qpv 2) qpa_nil)))))
   (qpss_one (qpset 4 sc_put_in.nd (qpe_df (by exact D_lead) (by exact hr.mono (by decide)) (qpa_cons (qpv 1) (qpa_cons (qpv 2) qpa_nil))))))))))))))
   (qpss_one (qps_ret (qpv 1)))))) ?_
 show (_:TS) _ [some (.ref a),some (.ref r),some (.int wd),none,none,none,none,none,none,none] H
 walk_at "rd"
 have O1:=O.w1
 have O2:=O.wl
 have O3:=O.gl
 have O4:=O.hy.len
 have O5:=O.bits
 have O6:=O.hK
 rw[length_map] at O4
 refine c_lead hg (by lia) (by lia) λH1 sm1=>?_
 refine ⟨λm σ H2=>∃ (p at_:Nat) (r':Addr) (v:List Int) (ts':List Addr) (T':List (List Int)) (x:Int) (x5 x6 x7 x8 x9:Option V),σ=[some (.ref a),some (.ref r'),some (.int wd),some (.int at_),some (.int (ld wd (gv v):Nat)),x5,x6,x7,x8,x9]/\m=T0.length+1 - p/\at_<=p/\H2 a=some (.lst (ts'.map V.ref))/\Rws H2 ts' T'/\a∉ts'/\H2 r'=some (.lst (v.map V.int))/\r'≠a/\Sm1 a H H2/\v.length=w'/\(∀ z∈T',z.length=w')/\PI wd w' (T0.map gv) (gv g) Y X C D E1 K1 p (T'.map gv) (gv v) x/\(ld wd (gv g)=wd->T'=T0/\v=g),
  ⟨_,0,0,r,g,ts,T0,1,_,_,_,_,_,rfl,rfl,Nat.le_refl _,sm1 _ _ ha,hR.same sm1,hat,sm1 _ _ hg,hra,λb o _ h=>sm1 _ _ h,O3,O.tl,.start O.hy O.bE,λ_=>⟨rfl,rfl⟩⟩,?_⟩
 rintro m σ H2 ⟨p,at_,r',v,ts',T',x,x5,x6,x7,x8,x9,rfl,rfl,hap,ha2,hR2,hat2,hv2,hra2,sm2,hvl,htl,I,hz⟩
 walk_at "rd"
 have hTl:T'.length=T0.length:=by have:=I.len;simpa using this
 have htsl:=hR2.len
 by_cases hlt:ld wd (gv v) < wd
 ·rw[if_pos (by simpa using hlt)]
  refine ⟨_,λσ' H' h=>h,?_⟩
  refine t_jn (λσ H3=>∃ at1:Nat,σ=[some (.ref a),some (.ref r'),some (.int wd),some (.int at1),some (.int (ld wd (gv v):Nat)),x5,x6,x7,x8,x9]/\at1<=T'.length/\Same H2 H3/\(∀ (i:Nat) (u:List Int),i < at1->T'[i]?=some u->ld wd (gv u) < ld wd (gv v))/\(∀ u,T'[at1]?=some u->ld wd (gv v)<=ld wd (gv u))) (λN hN=>?_) ?_
  ·refine ⟨λm σ H3=>∃ at1:Nat,σ=[some (.ref a),some (.ref r'),some (.int wd),some (.int at1),some (.int (ld wd (gv v):Nat)),x5,x6,x7,x8,x9]/\m=T'.length+1 - at1/\at1<=T'.length/\Same H2 H3/\∀ (i:Nat) (u:List Int),i < at1->T'[i]?=some u->ld wd (gv u) < ld wd (gv v),⟨_,at_,rfl,rfl,by have:=I.ple;rw[length_map] at this;lia,Same.refl _,λi u hi hu=>?_⟩,?_⟩
   ·obtain ⟨t,ht⟩:∃ t,(T0.map gv)[i]?=some t:=⟨_,List.getElem?_eq_getElem (by rw[length_map];have:=(List.getElem?_eq_some_iff.mp hu).1;lia)⟩
    rw[M06.lds_get I.lds (by rw[List.getElem?_map,hu];rfl) ht]
    exact I.low i t (by lia) ht
   rintro m σ H3 ⟨at1,rfl,rfl,hat1,sm3,hlow⟩
   walk_at "rd"
   refine ⟨_,.inl (SqL.of (sm3 _ _ ha2)),?_⟩
   rw[length_map,htsl]
   by_cases h1:at1 < T'.length
   ·rw[if_pos (by lia)]
    obtain ⟨u,hu⟩:∃ u,T'[at1]?=some u:=⟨_,List.getElem?_eq_getElem h1⟩
    obtain ⟨ru,hru1,hru2⟩:=hR2.get hu
    have hul:=htl u (mem_of_getElem? hu)
    refine ⟨_,SqL.of (sm3 _ _ ha2),_,atI_nat (by rw[List.getElem?_map,hru1];rfl),c_lead (sm3 _ _ hru2) (by lia) (by lia) λH4 sm4=>⟨_,rfl,?_⟩⟩
    by_cases h2:ld wd (gv u) < ld wd (gv v)
    ·rw[if_pos (by lia)]
     refine ⟨_,λσ' H' h=>h,_,by lia,at1+1,rfl,rfl,by lia,sm3.trans sm4,λi u' hi hu'=>?_⟩
     by_cases e:i=at1
     ·subst e;rw[hu] at hu';cases hu';exact h2
     ·exact hlow i u' (by lia) hu'
    ·rw[if_neg (by lia)]
     exact hN _ _ ⟨at1,rfl,hat1,sm3.trans sm4,hlow,λu' hu'=>by rw[hu] at hu';cases hu';lia⟩
   ·rw[if_neg (by lia)]
    exact hN _ _ ⟨at1,rfl,hat1,sm3,hlow,λu' hu'=>by have:=(List.getElem?_eq_some_iff.mp hu').1;lia⟩
  rintro σ H3 ⟨q0,rfl,hq0,sm3,hlow,hhi⟩
  have ha3:=sm3 _ _ ha2
  have hR3:=hR2.same sm3
  have hv3:=sm3 _ _ hv2
  have smA:Sm1 a H H3:=λb o hb h=>sm3 _ _ (sm2 b o hb h)
  have hpq:p<=q0:=Classical.byContradiction λz=>by
   obtain ⟨u,hu⟩:∃ u,T'[q0]?=some u:=⟨_,List.getElem?_eq_getElem (by have:=I.ple;rw[length_map] at this;lia)⟩
   obtain ⟨t,ht⟩:∃ t,(T0.map gv)[q0]?=some t:=⟨_,List.getElem?_eq_getElem (by rw[length_map];have:=(List.getElem?_eq_some_iff.mp hu).1;lia)⟩
   have h1:=I.low q0 t (by lia) ht
   rw[<-M06.lds_get I.lds (show (T'.map gv)[q0]?=some (gv u) by rw[List.getElem?_map,hu];rfl) ht] at h1
   have:=hhi u hu
   lia
  have J:=I.skip (q:=q0) (by rw[length_map];lia) hpq λi u hi hu=>by
   rw[List.getElem?_map] at hu
   obtain ⟨z,h1,rfl⟩:=Option.map_eq_some_iff.mp hu
   exact hlow i z hi h1
  have hw1:1<=v.length:=by lia
  have hzf:¬ ld wd (gv g)=wd:=λz=>by have:=(hz z).2;rw[this] at hlt;lia
  have ins:∀ H4,Same H3 H4->(∀ u,T'[q0]?=some u->ld wd (gv v) < ld wd (gv u))->tyV K "list" (V.ref a) H4/\∃ x,SqL K H4 r' x/\∃ x_1,atI x ((ld wd (gv v):Nat):Int)=some x_1/\∃ i,x_1=V.int i/\if 0 < i then rInsert (V.ref a) [V.int (q0:Int),V.ref r'] H4 λx H1=>Q V.non H1 else SpL K sp_bld [V.ref r',V.int (-1),V.ref r',V.int 0] H4 (λx H1=>rInsert (V.ref a) [V.int (q0:Int),x] H1 λx H1=>Q V.non H1) E0:=λH4 sm4 hu=>by
   have ha4:=sm4 _ _ ha3
   have hv4:=sm4 _ _ hv3
   have fin:∀ (p:Addr) (v2:List Int) (H5:Hp),Same H4 H5->H5 p=some (.lst (v2.map V.int))->v2.length=w'->(∀ j,gv v2 j=if 0 < gv v (ld wd (gv v)) then gv v j else -(gv v j))->rInsert (V.ref a) [V.int (q0:Int),V.ref p] H5 λx H1=>Q V.non H1:=λp v2 H5 sm5 hp hl2 hv2'=>by
    have ha5:=sm5 _ _ ha4
    have hpa:=ne_row hp ha5 (by lia)
    refine ⟨a,ts'.map V.ref,q0,.ref p,rfl,rfl,ha5,by lia,by rw[length_map];lia,small_line (by rw[length_map];lia),?_⟩
    rw[Int.toNat_natCast,show (ts'.map V.ref).take q0++[V.ref p]++(ts'.map V.ref).drop q0=(ts'.insertIdx q0 p).map V.ref by
     rw[<-ins_eq (by lia),map_append,map_append,List.map_take,map_drop];rfl]
    have R5:=(hR3.same (sm4.trans sm5)).insert hp q0
    have hn:a∉ts'.insertIdx q0 p:=λz=>by
     rcases (List.mem_insertIdx (by lia)).mp z with z|z
     ·exact hpa z.symm
     ·exact hat2 z
    have P0:=J.insert (by rw[length_map];exact O4) hlt (λu hu'=>by
     rw[List.getElem?_map] at hu'
     obtain ⟨z,h1,rfl⟩:=Option.map_eq_some_iff.mp hu'
     exact hu z h1) hv2'
    rw[show (T'.map gv).insertIdx q0 (gv v2)=(T'.insertIdx q0 v2).map gv by
     rw[<-ins_eq (by rw[length_map];lia),<-ins_eq (by lia),map_append,map_append,List.map_take,map_drop];rfl] at P0
    refine q _ _ (ts'.insertIdx q0 p) (T'.insertIdx q0 v2) none (λb o hb h=>?_) upd_same (R5.keep λr hr o h=>?_) hn (λz hz'=>?_) P0 (λz=>absurd z hzf) rfl
    ·rw[upd_ne hb];exact sm5 _ _ (sm4 _ _ (smA b o hb h))
    ·rw[upd_ne (λe=>hn (by rw[<-e];exact hr))];exact h
    ·rcases (List.mem_insertIdx (by lia)).mp hz' with z|z
     ·rw[z];exact hl2
     ·exact htl _ z
   refine ⟨tyl (SqL.of ha4),_,SqL.of hv4,_,gvv_at (by lia),_,rfl,?_⟩
   by_cases h0:0 < gv v (ld wd (gv v))
   ·rw[if_pos h0]
    exact fin r' v H4 (Same.refl _) hv4 hvl λj=>by rw[if_pos h0]
   ·rw[if_neg h0]
    refine c_bld hv4 hv4 rfl (by lia) (λj _=>⟨CMul.ok (.inl ⟨by decide,by decide⟩),CMul.ok (.inl ⟨by decide,by decide⟩)⟩) λp H5 sm5 fr hp=>?_
    exact fin p _ H5 sm5 hp (by rw[bld_len rfl];exact hvl) λj=>by rw[if_neg h0,gv_bld rfl];lia
  walk_at "rd"
  refine ⟨_,.inl (SqL.of ha3),?_⟩
  rw[length_map,htsl]
  by_cases hq:q0=T'.length
  ·rw[if_pos (by lia)]
   exact ins H3 (Same.refl _) λu hu=>by have:=(List.getElem?_eq_some_iff.mp hu).1;lia
  rw[if_neg (by lia)]
  obtain ⟨u,hu⟩:∃ u,T'[q0]?=some u:=⟨_,List.getElem?_eq_getElem (by lia)⟩
  obtain ⟨ru,hru1,hru3⟩:=hR3.get hu
  have hum:=mem_of_getElem? hu
  have hul:=htl u hum
  have rua:ru≠a:=λe=>hat2 (e ▸ mem_of_getElem? hru1)
  refine ⟨_,SqL.of ha3,_,atI_nat (by rw[List.getElem?_map,hru1];rfl),c_lead hru3 (by lia) (by lia) λH4 sm4=>⟨_,rfl,?_⟩⟩
  by_cases hgt:ld wd (gv v) < ld wd (gv u)
  ·rw[if_pos (by lia)]
   exact ins H4 sm4 λu' hu'=>by rw[hu] at hu';cases hu';exact hgt
  rw[if_neg (by lia)]
  have hc:ld wd (gv u)=ld wd (gv v):=by have:=hhi u hu;lia
  have hguT:(T'.map gv)[q0]?=some (gv u):=by rw[List.getElem?_map,hu];rfl
  obtain ⟨pa1,pa2⟩:=J.ec.pos (gv u) (mem_of_getElem? hguT)
  rw[hc] at pa2
  have huH:(T0.map gv)[q0]?=some (gv u):=by rw[<-M06.get_unt J (Nat.le_refl q0)];exact hguT
  have aD:Bt Y (gv u (ld wd (gv v))):=by
   have:=M06.piv_bt O.hy.ec O.hy.prod (mem_of_getElem? huH)
   rw[hc] at this
   exact this.up O.hy.DY
  have bY:Bt Y (gv v (ld wd (gv v))):=by
   have:=J.rd q0 (gv u) (Nat.le_refl q0) huH
   rwa [hc] at this
  refine ⟨_,SqL.of (sm4 _ _ ha3),_,atI_nat (by rw[List.getElem?_map,hru1];rfl),ru,rfl,_,SqL.of (sm4 _ _ hru3),_,gvv_at (by lia),_,SqL.of (sm4 _ _ hv3),_,gvv_at (by lia),c_shr pa2 aD bY (by lia) λg0 s t pt H5 S sm5 hpt=>?_⟩
  refine ⟨pt,rfl,_,hpt,rfl,_,_,rfl,_,_,rfl,_,_,rfl,rfl,?_⟩
  have sm35:=sm4.trans sm5
  simp only[L2.tSl,L2.tPart,L2.tNoPart,L2.rSlL]
  walk_at "rd"
  have ha5:=sm35 _ _ ha3
  refine ⟨_,SqL.of ha5,λbb hbb=>?_⟩
  have ecut:cutV (ts'.map V.ref) (some ((q0:Int)+1)) none=(ts'.drop (q0+1)).map V.ref:=by
   rw[cut_hi (by lia) (by rw[length_map];lia),show ((q0:Int)+1).toNat=q0+1 by lia,map_drop]
  rw[ecut]
  have hab:bb≠a:=λe=>by rw[e,ha5] at hbb;cases hbb
  have sm6:Same H5 (upd H5 bb (.lst ((ts'.drop (q0+1)).map V.ref))):=Same.new hbb
  have hb6:upd H5 bb (.lst ((ts'.drop (q0+1)).map V.ref)) bb=some (.lst ((ts'.drop (q0+1)).map V.ref)):=upd_same
  generalize upd H5 bb (.lst ((ts'.drop (q0+1)).map V.ref))=H6 at *
  have sm36:=sm35.trans sm6
  have PB:=J.pb O.hy hguT hc S
  have q8:q0<=8:=by lia
  have hqK:q0*K1<=8*K1:=Nat.mul_le_mul_right _ q8
  have hYK:2*Y+9*X<=K1:=by lia
  have dropmem:∀ z∈T'.drop (q0+1),z∈T':=λz hz'=>mem_of_mem_drop hz'
  have inB:∀ z∈T'.drop (q0+1),gv z∈gv u::gv v::(T'.map gv).drop (q0+1):=λz hz'=>by
   rw[<-map_drop]
   exact mem_cons_of_mem _ (mem_cons_of_mem _ (mem_map.mpr ⟨z,hz',rfl⟩))
  have mkB:∀ r:List Int,r.length=w'->(∀ j,j < wd->Bt (X+Y+3) (gv r j))->(∀ j,j < w'->Bt (E1+q0*K1+Y+3) (gv r j))->MkOk w' wd 8 (X+Y+3) X (E1+q0*K1+Y+3) r (T'.drop (q0+1)):=λr h1 h2 h3 =>
   ⟨h1,λz hz'=>htl z (dropmem z hz'),O2,O1,by rw[length_drop];lia,Nat.le_refl 8,by rw[map_drop];exact J.ec.drop _,h2,h3,λz hz'=>(PB.bB _ (inB z hz')).1,λz hz' j hj=>((PB.bB _ (inB z hz')).2 j hj).up (by lia),by lia⟩
  have uB:=PB.bB (gv u) mem_cons_self
  have vB:=PB.bB (gv v) (mem_cons_of_mem _ mem_cons_self)
  refine c_bld (sm36 _ _ hru3) (sm36 _ _ hv3) (by lia) (by lia) (λj hj=>⟨mulT PB.s1 (uB.2 j (by lia)) (by lia),mulT PB.t1 (vB.2 j (by lia)) (by lia)⟩) λp1 H7 sm7 fr1 hp1=>?_
  have l1:(bld u s v t).length=w':=by rw[bld_len (by lia)];exact hul
  refine c_mks hp1 (sm7 _ _ hb6) ((hR3.same (sm36.trans sm7)).drop (q0+1)).dns (mkB _ l1 (λj hj=>by rw[gv_bld (by lia)];exact PB.u1 j hj) (λj hj=>by rw[gv_bld (by lia)];exact PB.ue j hj)) λp2 z2 H8 sm8 hp2 hl2 e2 b2=>?_
  have sm38:=(sm36.trans sm7).trans sm8
  have ha8:=sm38 _ _ ha3
  have p2a:=ne_row hp2 ha8 (by lia)
  have out:∀ b o,b≠a->H8 b=some o->upd H8 a (.lst ((ts'.map V.ref).set q0 (.ref p2))) b=some o:=λb o hb h=>by rw[upd_ne hb];exact h
  have ha9:upd H8 a (.lst ((ts'.map V.ref).set q0 (.ref p2))) a=some (.lst ((ts'.set q0 p2).map V.ref)):=by rw[upd_same,map_set]
  have R9:Rws (upd H8 a (.lst ((ts'.map V.ref).set q0 (.ref p2)))) (ts'.set q0 p2) (T'.set q0 z2):=((hR3.same sm38).set hp2 q0).keep λr hr o h=>out r o (λe=>by
   rcases mem_or_eq_of_mem_set hr with hr|hr
   ·exact hat2 (by rw[<-e];exact hr)
   ·exact p2a (by rw[<-hr,e])) h
  have hu9:=out _ _ rua (sm38 _ _ hru3)
  have hv9:=out _ _ hra2 (sm38 _ _ hv3)
  have hb9:=out _ _ hab (sm8 _ _ (sm7 _ _ hb6))
  have R9d:Rws (upd H8 a (.lst ((ts'.map V.ref).set q0 (.ref p2)))) (ts'.drop (q0+1)) (T'.drop (q0+1)):=((hR3.same sm38).drop (q0+1)).keep λr hr o h=>out r o (λe=>hat2 (by rw[<-e];exact mem_of_mem_drop hr)) h
  refine ⟨_,ha8,q0,ixN_nat (by rw[length_map];lia),_,SqL.of hu9,_,gvv_at (by lia),_,rfl,by have:=S.g0;lia,_,SqL.of hv9,_,gvv_at (by lia),_,rfl,by have:=S.g0;lia,?_⟩
  rw[Int.fdiv_eq_ediv_of_nonneg _ (Int.le_of_lt S.g0),Int.fdiv_eq_ediv_of_nonneg _ (Int.le_of_lt S.g0)]
  generalize upd H8 a (.lst ((ts'.map V.ref).set q0 (.ref p2)))=H9 at *
  refine c_bld hv9 hu9 (by lia) (by lia) (λj hj=>⟨mulT PB.a1 (vB.2 j (by lia)) (by lia),mulT PB.b1.neg (uB.2 j (by lia)) (by lia)⟩) λp3 H10 sm10 fr3 hp3=>?_
  refine c_mks hp3 (sm10 _ _ hb9) (R9d.same sm10).dns (mkB _ (by rw[bld_len (by lia)];exact hvl) (λj hj=>by rw[gv_bld (by lia)];exact PB.v1 j hj) (λj hj=>by rw[gv_bld (by lia)];exact PB.ve j hj)) λp4 z4 H11 sm11 hp4 hl4 e4 b4=>?_
  refine c_lead hp4 (by lia) (by lia) λH12 sm12=>?_
  have sm912:=(sm10.trans sm11).trans sm12
  have J':=J.pass O.hy O6 hguT hc S (u2:=gv z2) (v2:=gv z4) (λj=>by
   rw[e2,<-map_drop];exact M06.mks_congr (λj=>gv_bld (by lia) j) j) (λj=>by
   rw[e4,<-map_drop];exact M06.mks_congr (λj=>gv_bld (by lia) j) j) (λj hj=>(b2 j hj).up (by lia)) (λj hj=>(b4 j hj).up (by lia))
  rw[<-map_set] at J'
  have hp4a:=ne_row (sm12 _ _ hp4) (sm912 _ _ ha9) (by lia)
  refine ⟨T0.length+1 - (q0+1),by lia,q0+1,q0,p4,z4,ts'.set q0 p2,T'.set q0 z2,_,_,_,_,_,_,⟨rfl,rfl,rfl,rfl,rfl,rfl,rfl,rfl⟩,rfl,by lia,sm912 _ _ ha9,R9.same sm912,λhm=>?_,sm12 _ _ hp4,hp4a,λb o hb h=>sm912 _ _ (out b o hb (sm38 _ _ (smA b o hb h))),hl4,λz hz'=>?_,J',λz=>absurd z hzf⟩
  ·rcases mem_or_eq_of_mem_set hm with hm|hm
   ·exact hat2 hm
   ·exact p2a hm.symm
  ·rcases mem_or_eq_of_mem_set hz' with hz'|hz'
   ·exact htl z hz'
   ·rw[hz'];exact hl2
 ·rw[if_neg (by simpa using hlt)]
  exact q _ _ ts' T' (some v) sm2 ha2 hR2 hat2 htl (by
   have:=I.left (by rw[length_map];exact O4) hlt
   exact this) (λh=>⟨(hz h).1,by rw[(hz h).2]⟩) ⟨hvl,r',rfl,hra2,hv2⟩
open M06 (Bt Shr Eu Ec mks ld red Mi Hy PI PO Td Ti pv)
theorem loop_rr {n:Nat} {g:TG} {tb:TS} {D:Ends} {σ:L2.St} {H:Hp} (Pv:Nat->L2.St->Hp->Prop) (h0:Pv 0 σ H)
  (hs:∀ i σ H,i < n->Pv i σ H->g (.int ((n:Int) - 1 - (i:Int))) σ H λσ2 H2=>tb { D with nx:=Pv (i+1),ct:=Pv (i+1),bk:=D.nx } σ2 H2) (hd:∀ σ H,Pv n σ H->D.nx σ H):loopT (Itw n) g tb D σ H:=by
 refine ⟨λi m σ H=>m=n - i/\i<=n/\Pv i σ H,⟨n,by simp,Nat.zero_le _,h0⟩,?_⟩
 rintro i m σ H ⟨rfl,hi,p⟩
 by_cases hlt:i < n
 ·refine .inr ⟨hlt,Pv (i+1),λσ' H' p'=>⟨n - (i+1),by lia,rfl,hlt,p'⟩,λx H' y=>?_⟩
  obtain ⟨rfl,rfl⟩:=y
  exact hs i σ _ hlt p
 ·have:i=n:=by lia
  subst this
  exact .inl ⟨Nat.le_refl _,hd σ H p⟩
structure TdOk (w wd X Y D E K:Nat) (T:List (List Int)):Prop where
 tl:∀ z∈T,z.length=w
 wl:wd<=w
 w0:1<=w
 w1:w<=1000
 t8:T.length<=8
 ec:Ec wd (T.map gv)
 pD:Bt D (pv wd (T.map gv))
 DY:D<=Y
 b0:∀ u,M06.Sp (M06.Ls (T.map gv)) u->(∀ v∈T.map gv,Bt Y (u (ld wd v)))->∀ j,j < wd->Bt X (u j)
 bX:∀ z∈T,∀ j,j < wd->Bt X (gv z j)
 bE:∀ z∈T,∀ j,j < w->Bt E (gv z j)
 hK:9*X+40<=K
 bits:2*(E+10*K)+1000<=134217728
abbrev s_tidy:Stmt:=top 17
theorem sc_tidy:FnScope ["stairs","width","at"] ["stairs","width"] (defScope s_tidy):=by walk_at "sc"
def sp_tidy:Sp:=λvs H Q _=>∃ (a:Addr) (wd w X Y D E K:Nat) (T:List (List Int)) (ts:List Addr),vs=[.ref a,.int wd]/\H a=some (.lst (ts.map V.ref))/\Rws H ts T/\a∉ts/\TdOk w wd X Y D E K T /\
 ∀ (H':Hp) (ts':List Addr) (U:List (List Int)),Sm1 a H H'->H' a=some (.lst (ts'.map V.ref))->Rws H' ts' U->a∉ts'->(∀ z∈U,z.length=w)->Ti wd w (T.map gv) X E K 0 (U.map gv)->Q .non H'
theorem ok_tidy {f:Addr} {fd:FuncData} (F:Fun K "tidy" "tidy" s_tidy f fd) (T:Blt mg) (D_made_small:Df P w K mg base "made_small" ["row","stairs","width"] 42 (SpL K sp_mks)):FnOk P w K mg base CX0 43 f fd ["stairs","width"] sp_tidy:=by
 refine F.ok sc_tidy (λvs H Q E h=>?_) (λcdv A outer s H vs Q E hr h=>?_)
 ·obtain ⟨a,wd,w,X,Y,D,E,K,T,ts,rfl,_⟩:=h;rfl
 obtain ⟨a,wd,w',X,Y,D,E1,K1,T0,ts,rfl,ha,hR,hat,O,q⟩:=h
 refine qmk (qpss_one (qps_for PassesOwn.never rfl (qpi_rrng (by rfl) (by exact T.reversed) (by rfl) (by exact T.range) (qpa_cons (qpe_callB (call_lenK K (by rfl)) (by rfl) (by exact T.len) (by decide +kernel) (qpa_cons (qpv 0) qpa_nil)) qpa_nil)) (qpgn 2 sc_tidy.nd) (qpss_one (qps_asg (qpe_df (by exact D_made_small) (by exact hr.mono (by decide)) (qpa_cons (qpe_ix (ix_listK K (by rfl)) (qpv 0) (qpv 2) (λ_ _=>rfl)) (qpa_cons (qpe_slice (sl_listK K (by rfl)) (qpv 0) (qpo_some (qpe_op op_add (qpv 2) qpe_int)) qpo_none) (qpa_cons (qpv 1) qpa_nil)))) (qpg_sub (qpv 0) (qpv 2) set_list))))) ?_
 show (_:TS) _ [some (.ref a),some (.int wd),none] H
 walk_at "rd"
 have O1:=O.w1
 have O2:=O.wl
 have O5:=O.bits
 have O6:=O.hK
 have O8:=O.t8
 have htl0:=hR.len
 simp only[L2.iRrg]
 walk_at "rd"
 refine ⟨_,.inl (SqL.of ha),?_⟩
 rw[length_map]
 refine ⟨ts.length,rfl,by lia,?_⟩
 refine loop_rr (λi σ H2=>∃ (ts':List Addr) (U:List (List Int)) (x:Option V),σ=[some (.ref a),some (.int wd),x]/\H2 a=some (.lst (ts'.map V.ref))/\Rws H2 ts' U/\a∉ts'/\Sm1 a H H2/\(∀ z∈U,z.length=w')/\Ti wd w' (T0.map gv) X E1 K1 (T0.length - i) (U.map gv)) ⟨ts,T0,_,rfl,ha,hR,hat,λb o _ h=>h,O.tl,by
  rw[Nat.sub_zero,<-length_map (f:=gv)]
  exact .start O.ec (λu hu=>by obtain ⟨z,h1,rfl⟩:=mem_map.mp hu;exact O.bX z h1) λu hu=>by obtain ⟨z,h1,rfl⟩:=mem_map.mp hu;exact O.bE z h1⟩ (λi σ H2 hi ⟨ts',U,x,e,ha2,hR2,hat2,sm2,hul,I⟩=>?_) ?_
 ·subst e
  have hUl:U.length=T0.length:=by have:=I.len;simpa using this
  have htsl:=hR2.len
  obtain ⟨k,hk⟩:∃ k,T0.length - i=k+1:=⟨T0.length - i - 1,by lia⟩
  rw[hk] at I
  rw[show ((ts.length:Int) - 1 - (i:Int))=((k:Nat):Int) by lia]
  walk_at "rd"
  obtain ⟨u,hu⟩:∃ u,U[k]?=some u:=⟨_,List.getElem?_eq_getElem (by lia)⟩
  obtain ⟨ru,hru1,hru3⟩:=hR2.get hu
  have hum:=mem_of_getElem? hu
  refine ⟨_,SqL.of ha2,_,atI_nat (by rw[List.getElem?_map,hru1];rfl),?_⟩
  simp only[L2.tSl,L2.tPart,L2.tNoPart,L2.rSlL]
  walk_at "rd"
  refine ⟨_,SqL.of ha2,λbb hbb=>?_⟩
  have ecut:cutV (ts'.map V.ref) (some ((k:Int)+1)) none=(ts'.drop (k+1)).map V.ref:=by
   rw[cut_hi (by lia) (by rw[length_map];lia),show ((k:Int)+1).toNat=k+1 by lia,map_drop]
  rw[ecut]
  have sm3:Same H2 (upd H2 bb (.lst ((ts'.drop (k+1)).map V.ref))):=Same.new hbb
  have hb3:upd H2 bb (.lst ((ts'.drop (k+1)).map V.ref)) bb=some (.lst ((ts'.drop (k+1)).map V.ref)):=upd_same
  generalize upd H2 bb (.lst ((ts'.drop (k+1)).map V.ref))=H3 at *
  have hgu:(U.map gv)[k]?=some (gv u):=by rw[List.getElem?_map,hu];rfl
  have bX:∀ z∈U,∀ j,j < wd->Bt X (gv z j):=λz hz=>I.bX _ (mem_map.mpr ⟨z,hz,rfl⟩)
  have bE:∀ z∈U,∀ j,j < w'->Bt (E1+(T0.length - (k+1))*K1) (gv z j):=λz hz=>by
   have:=I.bE _ (mem_map.mpr ⟨z,hz,rfl⟩)
   rwa [length_map] at this
  have hqK:(T0.length - (k+1))*K1<=8*K1:=Nat.mul_le_mul_right _ (by lia)
  refine c_mks (sm3 _ _ hru3) hb3 ((hR2.same sm3).drop (k+1)).dns (⟨hul u hum,λz hz=>hul z (mem_of_mem_drop hz),O2,O1,by rw[length_drop];lia,Nat.le_refl 8,by rw[map_drop];exact I.ec.drop _,bX u hum,bE u hum,λz hz=>bX z (mem_of_mem_drop hz),λz hz=>bE z (mem_of_mem_drop hz),by lia⟩:MkOk w' wd 8 X X (E1+(T0.length - (k+1))*K1) u (U.drop (k+1))) λp2 z2 H4 sm4 hp2 hl2 e2 b2=>?_
  have ha4:=sm4 _ _ (sm3 _ _ ha2)
  have p2a:=ne_row hp2 ha4 (by have:=O.w0;lia)
  have out:∀ b o,b≠a->H4 b=some o->upd H4 a (.lst ((ts'.map V.ref).set k (.ref p2))) b=some o:=λb o hb h=>by rw[upd_ne hb];exact h
  have J:=I.step O.ec O.pD O.DY O.b0 (by rw[length_map];lia) hgu (u2:=gv z2) (λj=>by rw[e2,<-map_drop]) (λj hj=>(b2 j hj).up (by rw[length_map];lia))
  rw[<-map_set] at J
  refine ⟨_,ha4,k,ixN_nat (by rw[length_map];lia),ts'.set k p2,by rw[upd_same,map_set],U.set k z2,((hR2.same (sm3.trans sm4)).set hp2 k).keep λr hr o h=>out r o (λe=>?_) h,λhm=>?_,λb o hb h=>out b o hb (sm4 _ _ (sm3 _ _ (sm2 b o hb h))),λz hz=>?_,by rw[show T0.length - (i+1)=k by lia];exact J⟩
  ·rcases mem_or_eq_of_mem_set hr with hr|hr
   ·exact hat2 (by rw[<-e];exact hr)
   ·exact p2a (by rw[<-hr,e])
  ·rcases mem_or_eq_of_mem_set hm with hm|hm
   ·exact hat2 hm
   ·exact p2a hm.symm
  ·rcases mem_or_eq_of_mem_set hz with hz|hz
   ·exact hul z hz
   ·rw[hz];exact hl2
 ·rintro σ H2 ⟨ts',U,x,rfl,ha2,hR2,hat2,sm2,hul,I⟩
  rw[htl0,Nat.sub_self] at I
  exact q _ ts' U sm2 ha2 hR2 hat2 hul I
open M06 (Bt Shr Eu Ec mks ld red Mi Hy PI PO Td Ti pv SI Reg)
structure StOk (w wd Y X C D E K1 KK:Nat) (G B:List (List Int)) (R:List (Nat->Int)):Prop where
 gl:∀ z∈G,z.length=wd
 bl:∀ z∈B,z.length+wd=w
 len:B.length=G.length
 rr:R.length=G.length/\∀ (i:Nat) (a b:List Int),G[i]?=some a->B[i]?=some b->R[i]?=some (gv (a++b))
 n0:1<=G.length
 n8:G.length<=8
 w0:1<=wd
 w1:w<=1000
 reg:Reg wd R Y X C D
 bE:∀ r∈R,∀ j,j < w->Bt E (r j)
 hK:2*Y+9*X+40<=K1
 hKK:16*K1<=KK
 bits:2*(E+9*KK)+1000<=134217728
theorem Rws.snoc {H:Hp} {ts:List Addr} {T:List (List Int)} (R:Rws H ts T) {p:Addr} {z:List Int} (h:H p=some (.lst (z.map V.int))):Rws H (ts++[p]) (T++[z]):=by
 induction R with
 | nil=>exact .cons h .nil
 | cons h1 _ ih=>exact .cons h1 ih
theorem Rws.app {H:Hp} {ts us:List Addr} {T U:List (List Int)} (R:Rws H ts T) (R2:Rws H us U):Rws H (ts++us) (T++U):=by
 induction R with
 | nil=>exact R2
 | cons h1 _ ih=>exact .cons h1 ih
theorem nd_snoc {l:List Addr} {x:Addr} (h:l.Nodup) (hx:x∉l):(l++[x]).Nodup:=by
 rw[nodup_append]
 exact ⟨h,by simp,λa ha b hb e=>hx (by rw[mem_singleton.mp hb] at e;rw[<-e];exact ha)⟩
theorem Rws.not {H:Hp} {ts us:List Addr} {T:List (List Int)} {a:Addr} (R:Rws H ts T) (hT:∀ z∈T,1<=z.length) (ha:H a=some (.lst (us.map V.ref))):a∉ts:=by
 intro hm
 obtain ⟨i,hi⟩:=List.getElem?_of_mem hm
 obtain ⟨z,hz⟩:∃ z,T[i]?=some z:=⟨_,List.getElem?_eq_getElem (by rw[<-R.len];exact (List.getElem?_eq_some_iff.mp hi).1)⟩
 obtain ⟨r,h1,h2⟩:=R.get hz
 rw[hi] at h1;cases h1
 exact ne_row h2 ha (hT z (mem_of_getElem? hz)) rfl
theorem cuts {rows acc:Addr} {ts:List Addr} {T:List (List Int)} {wd:V} {D:Ends} {H:Hp} (part:List Int->List Int) {te:TE} (hr:H rows=some (.lst (ts.map V.ref))) (R:Rws H ts T) (hs:ts.length < 1000000) (ha:H acc=none)
  (ht:∀ (r:Addr) (z:List Int) (H':Hp) (Q:VK),H' r=some (.lst (z.map V.int))->z∈T->(∀ q,H' q=none->Q (.ref q) (upd H' q (.lst ((part z).map V.int))))->te [some (.ref r),some wd] H' Q)
  (q:∀ σ H' us,Same H H'->H' acc=some (.lst (us.map V.ref))->Rws H' us (T.map part)->(acc::us).Nodup->(∀ x∈acc::us,H x=none)->D.nx σ H'):loopT (Itl K rows) (gName 0) (tIfB (λ_ H Q=>Q true H) (tEmit acc te)) D [none,some wd] (upd H acc (.lst [])):=by
 have hl:=R.len
 have sm0:Same H (upd H acc (.lst [])):=Same.new ha
 have ac0:upd H acc (.lst []) acc=some (.lst []):=upd_same
 have hrn:rows≠acc:=λe=>by rw[e,ha] at hr;cases hr
 have hbn:∀ {b o},H b=some o->b≠acc:=λh e=>by rw[e,ha] at h;cases h
 generalize upd H acc (.lst [])=H0 at *
 refine loop_list (ts.map V.ref) (λi σ H2=>∃ (x:Option V) (us:List Addr),σ=[x,some wd]/\Same H H2/\H2 acc=some (.lst (us.map V.ref))/\(acc::us).Nodup/\(∀ x∈acc::us,H x=none)/\Rws H2 us ((T.take i).map part)) ⟨_,[],rfl,sm0,ac0,(by simp),(λx hx=>by rw[mem_singleton.mp hx];exact ha),by rw[List.take_zero];exact .nil⟩ (λi σ H2 hi ⟨x,us,e,sm,a1,n1,n2,R1⟩=>SqL.of (sm _ _ hr)) (λi x σ H2 hx ⟨x0,us,e,sm,a1,nd,n2,R1⟩=>?_) ?_
 ·subst e
  rw[List.getElem?_map] at hx
  obtain ⟨r,hr',rfl⟩:=Option.map_eq_some_iff.mp hx
  obtain ⟨z,hz⟩:∃ z,T[i]?=some z:=⟨_,List.getElem?_eq_getElem (by rw[<-hl];exact (List.getElem?_eq_some_iff.mp hr').1)⟩
  obtain ⟨r2,h1,h2⟩:=R.get hz
  rw[hr'] at h1;cases h1
  have hil:=(List.getElem?_eq_some_iff.mp hr').1
  have n1:acc∉us:=(nodup_cons.mp nd).1
  have usl:us.length<=i:=by rw[R1.len,length_map,length_take];lia
  simp only[L2.gName,L2.tIfB,L2.tEmit,if_true,List.set_cons_zero]
  refine ht r z H2 _ (sm _ _ h2) (mem_of_getElem? hz) λq0 hq0=>?_
  have hqa:acc≠q0:=λe=>by rw[<-e,a1] at hq0;cases hq0
  have sm3:Same H2 (upd H2 q0 (.lst ((part z).map V.int))):=Same.new hq0
  have e3:upd H2 q0 (.lst ((part z).map V.int)) q0=some (.lst ((part z).map V.int)):=upd_same
  generalize upd H2 q0 (.lst ((part z).map V.int))=H3 at *
  refine ⟨_,sm3 _ _ a1,small_line (by rw[length_map];lia),_,us++[q0],rfl,λb o h=>by rw[upd_ne (hbn h)];exact sm3 _ _ (sm _ _ h),by rw[upd_same,map_append];rfl,?_,λx hx=>?_,?_⟩
  ·rw[<-List.cons_append]
   refine nd_snoc nd λhm=>?_
   rcases mem_cons.mp hm with hm|hm
   ·exact hqa hm.symm
   ·obtain ⟨k,hk⟩:=List.getElem?_of_mem hm
    obtain ⟨y,hy⟩:∃ y,((T.take i).map part)[k]?=some y:=⟨_,List.getElem?_eq_getElem (by rw[<-R1.len];exact (List.getElem?_eq_some_iff.mp hk).1)⟩
    obtain ⟨r3,g1,g2⟩:=R1.get hy
    rw[hk] at g1;cases g1
    rw[hq0] at g2;cases g2
  ·rw[<-List.cons_append] at hx
   rcases mem_append.mp hx with hx|hx
   ·exact n2 x hx
   ·rw[mem_singleton.mp hx]
    cases e:H q0 with
    | none=>rfl
    | some o=>rw[sm _ _ e] at hq0;cases hq0
  ·have:=((R1.same sm3).snoc e3)
   rw[show (T.take i).map part++[part z]=(T.take (i+1)).map part by
    obtain ⟨h,e⟩:=List.getElem?_eq_some_iff.mp hz
    rw[List.take_succ_eq_append_getElem h,e,map_append];rfl] at this
   refine this.keep λb hb o h=>?_
   rw[upd_ne λe=>?_];exact h
   subst e
   rcases mem_append.mp hb with hb|hb
   ·exact n1 hb
   ·exact hqa (mem_singleton.mp hb)
 ·rintro σ H2 ⟨x,us,e,sm,a1,n1,n2,R1⟩
  rw[length_map,hl,List.take_length] at R1
  exact q σ H2 us sm a1 R1 n1 n2
abbrev s_staired:Stmt:=top 15
theorem sc_staired:FnScope ["grid","beside","width","stairs","empty","row","further","left_over","rows"] ["grid","beside"] (defScope s_staired):=by walk_at "sc"
def sp_staired:Sp:=λvs H Q _=>∃ (g b:Addr) (w wd Y X C D E K1 KK:Nat) (G B:List (List Int)) (gs bs:List Addr) (R:List (Nat->Int)),vs=[.ref g,.ref b]/\H g=some (.lst (gs.map V.ref))/\H b=some (.lst (bs.map V.ref))/\Rws H gs G/\Rws H bs B/\StOk w wd Y X C D E K1 KK G B R /\
 ∀ (H':Hp) (p p1 p2:Addr) (ts us:List Addr) (U Z:List (List Int)),Same H H'->SqT K H' p [.ref p1,.ref p2]->H' p1=some (.lst (ts.map V.ref))->H' p2=some (.lst (us.map V.ref))->Rws H' ts ((U++Z).map λz=>z.take wd)->Rws H' us ((U++Z).map λz=>z.drop wd)->(∀ z∈U++Z,z.length=w)->(p1::ts++p2::us).Nodup->(∀ x∈p1::ts++p2::us,H x=none)->SI wd w R X E KK G.length (U.map gv) (Z.map gv)->Q (.ref p) H'
theorem ok_staired {f:Addr} {fd:FuncData} (F:Fun K "staired" "staired" s_staired f fd) (T:Blt mg) (D_put_in:Df P w K mg base "put_in" ["stairs","row","width"] 43 sp_putin) (D_tidy:Df P w K mg base "tidy" ["stairs","width"] 43 sp_tidy):FnOk P w K mg base CX0 44 f fd ["grid","beside"] (sp_staired (K:=K)):=by
 refine F.ok sc_staired (λvs H Q E h=>?_) (λcdv A outer s H vs Q E hr h=>?_)
 ·obtain ⟨g,b,w,wd,Y,X,C,D,E,K1,KK,G,B,gs,bs,R,rfl,_⟩:=h;rfl
 obtain ⟨g,b,w',wd,Y,X,C,D,E1,K1,KK,G,B,gs,bs,R,rfl,hg,hb,hG,hB,O,q⟩:=h
 refine qmk (qpss_cons (qpset 2 sc_staired.nd (qpe_callB (call_lenK K (by rfl)) (by rfl) (by exact T.len) (by decide +kernel) (qpa_cons (qpe_ix (ix_listK K (by rfl)) (qpv 0) qpe_int (λ_ _=>rfl)) qpa_nil)))
   (qpss_cons (qpset 3 sc_staired.nd (qpe_lst qpa_nil))
   (qpss_cons (qpset 4 sc_staired.nd (qpe_lst qpa_nil))
   (qpss_cons (qps_for PassesOwn.never rfl (qpi_zipK K (by rfl) (by rfl) (by exact T.zip) (qpa_cons (qpv 0) (qpa_cons (qpv 1) qpa_nil))) (qpg_tupK K 2 (by rfl) (by rfl) (qpgs_cons (qpgn 5 sc_staired.nd) (qpgs_cons (qpgn 6 sc_staired.nd) qpgs_nil)) (by rfl) (by rfl)) (qpss_cons (qpset 7 sc_staired.nd (qpe_df (by exact D_put_in) (by exact hr.mono (by decide)) (qpa_cons (qpv 3) (qpa_cons (qpe_op op_cat (qpv 5) (qpv 6)) (qpa_cons (qpv 2) qpa_nil)))))
   (qpss_cons (qps_if (qpt_cmpR op_notN (qpv 7) qpe_non (nomark _)) (qpss_one (qps_expr (qpm_appendK K (by rfl) (qpv 4) (qpv 7) (by rfl) (by rfl) (by rfl)))) qpss_nil)
   (qpss_one (qps_expr (qpe_df (by exact D_tidy) (by exact hr.mono (by decide)) (qpa_cons (qpv 3) (qpa_cons (qpv 2) qpa_nil))))))))
   (qpss_cons (qpset 8 sc_staired.nd (qpe_op op_cat (qpv 3) (qpv 4)))
   (qpss_one (qps_ret (qpe_tup (qpa_cons (qpe_lc ["row"] [("width",2)] rfl (LcScope.of (by kernel_rfl)) (qpi_listK K (by rfl) (qpv 8)) (λ_ _ _ _=>⟨(qpgn 0 (nd_of (by kernel_rfl))),qpts_nil,(qpb_emit (by rfl) (by rfl) (qpe_slice (sl_listK K (by rfl)) (qpv 0) qpo_none (qpo_some (qpv 1))))⟩)) (qpa_cons (qpe_lc ["row"] [("width",2)] rfl (LcScope.of (by kernel_rfl)) (qpi_listK K (by rfl) (qpv 8)) (λ_ _ _ _=>⟨(qpgn 0 (nd_of (by kernel_rfl))),qpts_nil,(qpb_emit (by rfl) (by rfl) (qpe_slice (sl_listK K (by rfl)) (qpv 0) (qpo_some (qpv 1)) qpo_none))⟩)) qpa_nil)))))))))) ?_
 show (_:TS) _ [some (.ref g),some (.ref b),none,none,none,none,none,none,none] H
 walk_at "rd"
 obtain ⟨r0,hr0,hr1⟩:=hG.get (List.getElem?_eq_getElem O.n0)
 have hgl:=hG.len
 have hbl:=hB.len
 have O1:=O.n8
 have O2:=O.w1
 refine ⟨_,SqL.of hg,_,show atI _ ((0:Nat):Int)=_ from atI_nat (by rw[List.getElem?_map,hr0];rfl),r0,rfl,_,.inl (SqL.of hr1),Nat.zero_le _,λp hp=>⟨Nat.zero_le _,λp1 hp1=>?_⟩⟩
 rw[length_map,O.gl _ (List.getElem_mem _)]
 have hpp:p1≠p:=λe=>by rw[e,upd_same] at hp1;cases hp1
 have hp1':H p1=none:=by rwa [upd_ne hpp] at hp1
 have sm1:Same H (upd (upd H p (.lst [])) p1 (.lst [])):=(Same.new hp).trans (Same.new hp1)
 have e1:upd (upd H p (.lst [])) p1 (.lst []) p=some (.lst []):=by rw[upd_ne hpp.symm,upd_same]
 have e2:upd (upd H p (.lst [])) p1 (.lst []) p1=some (.lst []):=upd_same
 generalize upd (upd H p (.lst [])) p1 (.lst [])=H1 at *
 refine ⟨g,b,⟨rfl,rfl⟩,⟨_,SqL.of (sm1 _ _ hg)⟩,⟨_,SqL.of (sm1 _ _ hb)⟩,?_⟩
 refine loop_zip (gs.map V.ref) (bs.map V.ref) (by rw[length_map,length_map,hgl,hbl,O.len]) (λi σ H2=>∃ (ts es:List Addr) (U Z:List (List Int)) (x5 x6 x7:Option V),σ=[some (.ref g),some (.ref b),some (.int wd),some (.ref p),some (.ref p1),x5,x6,x7,none]/\H2 p=some (.lst (ts.map V.ref))/\H2 p1=some (.lst (es.map V.ref))/\Rws H2 ts U/\Rws H2 es Z/\p∉ts/\p1∉ts/\p∉es/\p1∉es/\Same H H2/\(∀ z∈U++Z,z.length=w')/\SI wd w' R X E1 KK i (U.map gv) (Z.map gv))
  ⟨[],[],[],[],_,_,_,rfl,e1,e2,.nil,.nil,(by simp),(by simp),(by simp),(by simp),sm1,(by simp),.start⟩ (λi σ H2 hi ⟨ts,es,U,Z,x5,x6,x7,e,a1,a2,R1,R2,n1,n2,n3,n4,sm,hl,S⟩=>⟨SqL.of (sm _ _ hg),SqL.of (sm _ _ hb)⟩) (λi x y pp σ H2 hx hy ⟨ts,es,U,Z,x5,x6,x7,e,a1,a2,R1,R2,n1,n2,n3,n4,sm,hl,S⟩ hpp2=>?_) ?_
 ·subst e
  rw[List.getElem?_map] at hx hy
  obtain ⟨ra,hra,rfl⟩:=Option.map_eq_some_iff.mp hx
  obtain ⟨rb,hrb,rfl⟩:=Option.map_eq_some_iff.mp hy
  obtain ⟨a,ha⟩:∃ a,G[i]?=some a:=⟨_,List.getElem?_eq_getElem (by rw[<-hgl];exact (List.getElem?_eq_some_iff.mp hra).1)⟩
  obtain ⟨c,hc⟩:∃ c,B[i]?=some c:=⟨_,List.getElem?_eq_getElem (by rw[<-hbl];exact (List.getElem?_eq_some_iff.mp hrb).1)⟩
  obtain ⟨r2,h1,h2⟩:=hG.get ha
  rw[hra] at h1;cases h1
  obtain ⟨r2,h1,h3⟩:=hB.get hc
  rw[hrb] at h1;cases h1
  have hiG:=(List.getElem?_eq_some_iff.mp ha).1
  have hRi:=O.rr.2 i a c ha hc
  have hal:=O.gl a (mem_of_getElem? ha)
  have hcl:=O.bl c (mem_of_getElem? hc)
  have hacl:(a++c).length=w':=by rw[length_append];lia
  have O3:=O.w0
  have O4:=O.hKK
  have O5:=O.bits
  have iK:i*KK<=7*KK:=Nat.mul_le_mul_right _ (by lia)
  have sm3:Same H2 (upd H2 pp (.tup [.ref ra,.ref rb])):=Same.new hpp2
  have e3:upd H2 pp (.tup [.ref ra,.ref rb]) pp=some (.tup [.ref ra,.ref rb]):=upd_same
  generalize upd H2 pp (.tup [.ref ra,.ref rb])=H3 at *
  have sm03:=sm.trans sm3
  walk_at "rd"
  refine ⟨_,SqT.of e3,rfl,_,_,rfl,_,_,rfl,rfl,_,rfl,_,rfl,_,sm03 _ _ h2,_,sm03 _ _ h3,?_,λq0 hq0=>?_⟩
  ·rw[length_map,length_map];exact Nat.le_of_lt (small_line (by lia))
  rw[<-map_append]
  have sm4:Same H3 (upd H3 q0 (.lst ((a++c).map V.int))):=Same.new hq0
  have e4:upd H3 q0 (.lst ((a++c).map V.int)) q0=some (.lst ((a++c).map V.int)):=upd_same
  generalize upd H3 q0 (.lst ((a++c).map V.int))=H4 at *
  have sm24:=sm3.trans sm4
  have hUl:(U.map gv).length=U.length:=length_map _
  have hZl:(Z.map gv).length=Z.length:=length_map _
  have hSl:=S.len
  refine ⟨p,q0,wd,w',Y,X,C,D,E1+i*KK,K1,a++c,U,ts,rfl,sm24 _ _ a1,R1.same sm24,n1,e4,ne_row e4 (sm24 _ _ a1) (by lia),⟨hacl,λz hz=>hl z (mem_append_left _ hz),by lia,O2,S.hy O.reg hRi,S.gE hRi O.bE,O.hK,by lia⟩,λv H5 ts' T' lo sm5 a5 R5 n5 hl5 P h0 hlo=>?_⟩
  have hPl:=P.len
  rw[length_map,length_map] at hPl
  have hT8:T'.length<=8:=by lia
  have reg':=O.reg.reg (i+1) _ (by rw[O.rr.1];lia) P.ec (P.eqv S hRi)
  have sm05:Same H H5:=λb o h=>sm5 _ _ (λe=>by rw[e,hp] at h;cases h) (sm24 _ _ (sm _ _ h))
  have td:∀ (H6:Hp) (es':List Addr) (Z':List (List Int)) (x7:Option V),Sm1 p1 H5 H6->H6 p1=some (.lst (es'.map V.ref))->H6 p=some (.lst (ts'.map V.ref))->Rws H6 es' Z'->(∀ z∈Z',z.length=w')->Z'.map gv=Z.map gv++(lo.map gv).toList->sp_tidy [V.ref p,V.int wd] H6 (λ_ H7=>∃ (ts es:List Addr) (U Z:List (List Int)) (y5 y6 y7:Option V),((some (V.ref ra)=y5/\some (V.ref rb)=y6/\x7=y7)/\H7 p=some (.lst (ts.map V.ref))/\H7 p1=some (.lst (es.map V.ref))/\Rws H7 ts U/\Rws H7 es Z/\p∉ts/\p1∉ts/\p∉es/\p1∉es/\Same H H7/\(∀ z∈U++Z,z.length=w')/\SI wd w' R X E1 KK (i+1) (U.map gv) (Z.map gv))) E0:=λH6 es' Z' x7 sm6 a6 a7 R6 hz6 ez=>by
   have pT:p1∉ts':=R5.not (λz hz=>by rw[hl5 z hz];lia) (sm5 _ _ hpp (sm24 _ _ a2))
   refine ⟨p,wd,w',X,Y,D,E1+i*KK+8*K1,K1,T',ts',rfl,a7,R5.keep λr hr o h=>sm6 _ _ (λe=>pT (e ▸ hr)) h,n5,⟨hl5,by lia,by lia,O2,hT8,P.ec,reg'.prod,O.reg.DY,reg'.b0,λz hz=>P.bX _ (mem_map.mpr ⟨z,hz,rfl⟩),λz hz=>P.bE _ (mem_append_right _ (mem_map.mpr ⟨z,hz,rfl⟩)),by have:=O.hK;lia,by lia⟩,λH7 ts7 U7 sm7 a8 R7 n7 hl7 I=>?_⟩
   have S':=S.step O.reg hRi P (λe=>by
    obtain ⟨g1,g2⟩:=h0 e
    rw[g1,g2];exact ⟨rfl,rfl⟩) I (by rw[length_map];exact hT8) O4
   rw[<-ez] at S'
   have R6':Rws H7 es' Z':=R6.keep λr hr o h=>sm7 _ _ (λe=>?_) h
   have a67:=sm7 _ _ hpp a6
   ·refine ⟨ts7,es',U7,Z',_,_,_,⟨rfl,rfl,rfl⟩,a8,a67,R7,R6',n7,R7.not (λz hz=>by rw[hl7 z hz];lia) a67,R6'.not (λz hz=>by rw[hz6 z hz];lia) a8,R6'.not (λz hz=>by rw[hz6 z hz];lia) a67,λb o h=>sm7 _ _ (λe=>by rw[e,hp] at h;cases h) (sm6 _ _ (λe=>by rw[e,hp1'] at h;cases h) (sm05 _ _ h)),λz hz=>?_,S'⟩
    rcases mem_append.mp hz with hz|hz
    ·exact hl7 z hz
    ·exact hz6 z hz
   ·exact R6.not (λz hz=>by rw[hz6 z hz];lia) a7 (e ▸ hr)
  have hzZ:∀ z∈Z,z.length=w':=λz hz=>hl z (mem_append_right _ hz)
  have R25:Rws H5 es Z:=R2.keep λr hr o h=>sm5 _ _ (λe=>n3 (e ▸ hr)) (sm24 _ _ h)
  have a25:=sm5 _ _ hpp (sm24 _ _ a2)
  cases lo with
  | none =>
   have hv:v=.non:=hlo
   subst hv
   show ite _ _ _
   rw[if_neg (by simp)]
   exact td H5 es Z _ (λ_ _ _ h=>h) a25 a5 R25 hzZ (by simp)
  | some z =>
   obtain ⟨zl,pz,rfl,hpz,hz5⟩:=hlo
   show ite _ _ _
   rw[if_pos (by simp)]
   have eZ:=(R25.len)
   refine ⟨tyl (SqL.of a25),_,a25,small_line (by rw[length_map];have:=hPl;lia),?_⟩
   have pz1:pz≠p1:=ne_row hz5 a25 (by lia)
   have keep:Sm1 p1 H5 (upd H5 p1 (.lst (es.map V.ref++[V.ref pz]))):=λb o hb h=>by rw[upd_ne hb];exact h
   refine td _ (es++[pz]) (Z++[z]) _ keep (by rw[upd_same,map_append];rfl) (keep _ _ hpp.symm a5) ((R25.snoc hz5).keep λr hr o h=>keep _ _ (λe=>?_) h) (λz' hz'=>?_) (by simp)
   ·subst e
    rcases mem_append.mp hr with hr|hr
    ·exact n4 hr
    ·exact pz1 (mem_singleton.mp hr).symm
   ·rcases mem_append.mp hz' with hz'|hz'
    ·exact hzZ z' hz'
    ·rw[mem_singleton.mp hz'];exact zl
 ·rintro σ H2 ⟨ts,es,U,Z,x5,x6,x7,rfl,a1,a2,R1,R2,n1,n2,n3,n4,sm,hl,S⟩
  walk_at "rd"
  rw[length_map,hgl] at S
  have hR1:=R1.len
  have hR2:=R2.len
  have hSl:=S.len
  rw[length_map,length_map] at hSl
  refine ⟨_,a1,_,a2,Nat.le_of_lt (small_line (by rw[length_map,length_map];lia)),λp4 hp4=>?_⟩
  rw[<-map_append]
  have sm3:Same H2 (upd H2 p4 (.lst ((ts++es).map V.ref))):=Same.new hp4
  have e3:upd H2 p4 (.lst ((ts++es).map V.ref)) p4=some (.lst ((ts++es).map V.ref)):=upd_same
  generalize upd H2 p4 (.lst ((ts++es).map V.ref))=H3 at *
  have RR:=(R1.app R2).same sm3
  have hlen:(ts++es).length < 1000000:=by rw[length_append];lia
  refine ⟨⟨_,SqL.of e3⟩,λacc hacc=>?_⟩
  refine cuts (λz=>z.take wd) e3 RR hlen hacc (λr z H' Q hr hz q'=>?_) λσ H4 us sm4 hac RR4 nd4 fr4=>?_
  ·simp only[L2.tSl,L2.tPart,L2.tNoPart,L2.rSlL]
   walk_at "rd"
   refine ⟨_,SqL.of hr,λq0 hq0=>?_⟩
   have:=q' q0 hq0
   rw[cut_lo (by rw[length_map,hl z hz];have:=O.bl;obtain ⟨c,hc⟩:∃ c,B[0]?=some c:=⟨_,List.getElem?_eq_getElem (by rw[O.len];exact O.n0)⟩;have:=O.bl c (mem_of_getElem? hc);lia),<-List.map_take]
   exact this
  refine ⟨⟨_,SqL.of (sm4 _ _ e3)⟩,λacc2 hacc2=>?_⟩
  refine cuts (λz=>z.drop wd) (sm4 _ _ e3) (RR.same sm4) hlen hacc2 (λr z H' Q hr hz q'=>?_) λσ2 H5 us2 sm5 hac2 RR5 nd5 fr5=>?_
  ·simp only[L2.tSl,L2.tPart,L2.tNoPart,L2.rSlL]
   walk_at "rd"
   refine ⟨_,SqL.of hr,λq0 hq0=>?_⟩
   have:=q' q0 hq0
   rw[cut_hi (by lia) (by rw[length_map,hl z hz];obtain ⟨c,hc⟩:∃ c,B[0]?=some c:=⟨_,List.getElem?_eq_getElem (by rw[O.len];exact O.n0)⟩;have:=O.bl c (mem_of_getElem? hc);lia),Int.toNat_natCast,<-map_drop]
   exact this
  refine ⟨Nat.le_of_lt (small_line (show 2 < 1000000 by decide)),λp6 hp6=>?_⟩
  have sm6:Same H5 (upd H5 p6 (.tup [.ref acc,.ref acc2])):=Same.new hp6
  refine q _ p6 acc acc2 us us2 U Z ((((sm.trans sm3).trans sm4).trans sm5).trans sm6) (SqT.of upd_same) (sm6 _ _ (sm5 _ _ hac)) (sm6 _ _ hac2) (RR4.same (sm5.trans sm6)) (RR5.same sm6) hl ?_ ?_ S
  ·refine nodup_append.mpr ⟨nd4,nd5,λx hx y hy e=>?_⟩
   subst e
   have h4:H4 x≠none:=by
    rcases mem_cons.mp hx with rfl|hx
    ·rw[hac];exact λz=>by cases z
    ·obtain ⟨k,hk⟩:=List.getElem?_of_mem hx
     obtain ⟨y,hy'⟩:∃ y,((U++Z).map λz=>z.take wd)[k]?=some y:=⟨_,List.getElem?_eq_getElem (by rw[<-RR4.len];exact (List.getElem?_eq_some_iff.mp hk).1)⟩
     obtain ⟨r3,g1,g2⟩:=RR4.get hy'
     rw[hk] at g1;cases g1
     rw[g2];exact λz=>by cases z
   exact h4 (fr5 x hy)
  ·intro x hx
   have up:∀ {H':Hp},Same H H'->H' x=none->H x=none:=λ{H'} sm h=>by
    cases e:H x with
    | none=>rfl
    | some o=>rw[sm _ _ e] at h;cases h
   rcases mem_append.mp hx with hx|hx
   ·exact up (sm.trans sm3) (fr4 x hx)
   ·exact up ((sm.trans sm3).trans sm4) (fr5 x hx)
open M06 (Bt Shr Ch CI two)
def gm (T:List (List Int)):MDet.Mat:=λi=>gv (T.getD i [])
structure Tri (n m:Nat) (H:Hp) (a l r:Addr) (ms ls rs:List Addr) (M L R:List (List Int)):Prop where
 ha:H a=some (.lst (ms.map V.ref))
 hl:H l=some (.lst (ls.map V.ref))
 hr:H r=some (.lst (rs.map V.ref))
 RM:Rws H ms M
 RL:Rws H ls L
 RR:Rws H rs R
 nd:(a::l::r::(ms++(ls++rs))).Nodup
 n0:1<=n/\n<=8
 m0:1<=m/\m<=8
 lM:M.length=n/\∀ z∈M,z.length=m
 lL:L.length=n/\∀ z∈L,z.length=n
 lR:R.length=m/\∀ z∈R,z.length=m
theorem gm_get {T:List (List Int)} {i:Nat} {z:List Int} (h:T[i]?=some z):gm T i=gv z:=by unfold gm;rw[getD_eq_getElem?_getD,h];rfl
theorem gm_set {T:List (List Int)} {i:Nat} {z:List Int} (h:i < T.length) (p:Nat):gm (T.set i z) p=if p=i then gv z else gm T p:=by
 unfold gm
 rw[getD_eq_getElem?_getD,List.getElem?_set]
 split
 ·rename_i e;subst e;rw[if_pos rfl];rfl
 ·rw[if_neg (by lia),getD_eq_getElem?_getD]
theorem gv_set {z:List Int} {i:Nat} {x:Int} (h:i < z.length) (p:Nat):gv (z.set i x) p=if p=i then x else gv z p:=by
 unfold gv
 rw[getD_eq_getElem?_getD,List.getElem?_set]
 split
 ·rename_i e;subst e;rw[if_pos rfl];rfl
 ·rw[if_neg (by lia),getD_eq_getElem?_getD]
theorem Rws.mem {H:Hp} {ts:List Addr} {T:List (List Int)} (R:Rws H ts T) {p:Addr} (h:p∈ts):∃ o,H p=some o:=by
 induction R with
 | nil=>cases h
 | cons h1 _ ih =>
  rcases mem_cons.mp h with rfl|h
  ·exact ⟨_,h1⟩
  ·exact ih h
theorem Rws.put {H:Hp} {ts:List Addr} {T:List (List Int)} (R:Rws H ts T) (nd:ts.Nodup) {i:Nat} {p:Addr} (hp:ts[i]?=some p) (z:List Int):Rws (upd H p (.lst (z.map V.int))) ts (T.set i z):=by
 induction R generalizing i with
 | nil=>cases hp
 | @cons r z0 ts T h1 h2 ih =>
  obtain ⟨n1,n2⟩:=nodup_cons.mp nd
  cases i with
  | zero =>
   have:r=p:=by simpa using hp
   subst this
   exact .cons upd_same (h2.keep λb hb o h=>by rw[upd_ne (show b≠r from λe=>n1 (by rw[<-e];exact hb))];exact h)
  | succ i =>
   have hp':ts[i]?=some p:=by simpa using hp
   exact .cons (by rw[upd_ne (show r≠p from λe=>n1 (by rw[e];exact mem_of_getElem? hp'))];exact h1) (ih n2 hp')
section
variable {n m:Nat} {H:Hp} {a l r p:Addr} {ms ls rs:List Addr} {M L R:List (List Int)} {z:List Int} {i:Nat}
theorem Tri.some (Z:Tri n m H a l r ms ls rs M L R) {x:Addr} (h:x∈a::l::r::(ms++(ls++rs))):∃ o,H x=some o:=by
 rcases mem_cons.mp h with rfl|h
 ·exact ⟨_,Z.ha⟩
 rcases mem_cons.mp h with rfl|h
 ·exact ⟨_,Z.hl⟩
 rcases mem_cons.mp h with rfl|h
 ·exact ⟨_,Z.hr⟩
 rcases mem_append.mp h with h|h
 ·exact Z.RM.mem h
 rcases mem_append.mp h with h|h
 ·exact Z.RL.mem h
 ·exact Z.RR.mem h
theorem Tri.no (Z:Tri n m H a l r ms ls rs M L R) {x:Addr} (h:H x=none):x∉a::l::r::(ms++(ls++rs)):=λz=>by
 obtain ⟨o,e⟩:=Z.some z
 rw[h] at e;cases e
theorem Tri.same {H':Hp} (Z:Tri n m H a l r ms ls rs M L R) (s:Same H H'):Tri n m H' a l r ms ls rs M L R :=
 ⟨s _ _ Z.ha,s _ _ Z.hl,s _ _ Z.hr,Z.RM.same s,Z.RL.same s,Z.RR.same s,Z.nd,Z.n0,Z.m0,Z.lM,Z.lL,Z.lR⟩
theorem mem_set' {α:Type} {l:List α} {i:Nat} {x y:α} (h:x∈l.set i y):x∈l\/x=y:=mem_or_eq_of_mem_set h
theorem nodup_set {l:List Addr} {p:Addr} (h:l.Nodup) (hp:p∉l) (i:Nat):(l.set i p).Nodup:=by
 induction l generalizing i with
 | nil=>exact .nil
 | cons x l ih =>
  obtain ⟨h1,h2⟩:=nodup_cons.mp h
  cases i with
  | zero=>exact nodup_cons.mpr ⟨λz=>hp (mem_cons_of_mem _ z),h2⟩
  | succ i =>
   refine nodup_cons.mpr ⟨λz=>?_,ih h2 (λz=>hp (mem_cons_of_mem _ z)) i⟩
   rcases mem_set' z with z|z
   ·exact h1 z
   ·exact hp (z ▸ mem_cons_self)
theorem nd_set {A B C:List Addr} (h:(A++(B++C)).Nodup) (hp:p∉A++(B++C)) (i:Nat):(A++(B.set i p++C)).Nodup:=by
 rw[nodup_append,nodup_append] at *
 obtain ⟨h1,⟨h2,h3,h4⟩,h5⟩:=h
 simp only[mem_append,not_or] at hp
 refine ⟨h1,⟨nodup_set h2 hp.2.1 i,h3,λx hx y hy e=>?_⟩,λx hx y hy e=>?_⟩
 ·rcases mem_set' hx with hx|hx
  ·exact h4 x hx y hy e
  ·exact hp.2.2 (by rw[<-hx,e];exact hy)
 ·rcases mem_append.mp hy with hy|hy
  ·rcases mem_set' hy with hy|hy
   ·exact h5 x hx y (mem_append_left _ hy) e
   ·exact hp.1 (by rw[<-hy,<-e];exact hx)
  ·exact h5 x hx y (mem_append_right _ hy) e
theorem set_all {T:List (List Int)} {c:Nat} (h:∀ z∈T,z.length=c) (hz:z.length=c):∀ y∈T.set i z,y.length=c:=λy hy=>by
 rcases mem_set' hy with hy|rfl
 ·exact h y hy
 ·exact hz
theorem Tri.setL (Z:Tri n m H a l r ms ls rs M L R) (hp:H p=.some (.lst (z.map V.int))) (hn:p∉a::l::r::(ms++(ls++rs))) (hz:z.length=n) (i:Nat):Tri n m (upd H l (.lst ((ls.map V.ref).set i (.ref p)))) a l r ms (ls.set i p) rs M (L.set i z) R:=by
 have nd:=Z.nd
 have out:∀ b o,b≠l->H b=.some o->upd H l (.lst ((ls.map V.ref).set i (.ref p))) b=.some o:=λb o hb h=>by rw[upd_ne hb];exact h
 have nl:l∉r::(ms++(ls++rs)):=(nodup_cons.mp (nodup_cons.mp nd).2).1
 simp only[mem_cons,mem_append,not_or] at nl hn
 refine ⟨out _ _ (λe=>(nodup_cons.mp nd).1 (e ▸ mem_cons_self)) Z.ha,by rw[upd_same,map_set],out _ _ (λe=>nl.1 e.symm) Z.hr,Z.RM.keep λb hb o h=>out _ _ (λe=>nl.2.1 (e ▸ hb)) h,(Z.RL.set hp i).keep λb hb o h=>out _ _ (λe=>?_) h,Z.RR.keep λb hb o h=>out _ _ (λe=>nl.2.2.2 (e ▸ hb)) h,?_,Z.n0,Z.m0,Z.lM,⟨by rw[length_set];exact Z.lL.1,set_all Z.lL.2 hz⟩,Z.lR⟩
 ·subst e
  rcases mem_set' hb with hb|hb
  ·exact nl.2.2.1 hb
  ·exact hn.2.1 hb.symm
 ·have:=nd_set (A:=a::l::r::ms) (B:=ls) (C:=rs) nd (by simp only[mem_cons,mem_append,not_or];exact ⟨⟨hn.1,hn.2.1,hn.2.2.1,hn.2.2.2.1⟩,hn.2.2.2.2⟩) i
  exact this
theorem Tri.setR (Z:Tri n m H a l r ms ls rs M L R) (hp:H p=.some (.lst (z.map V.int))) (hn:p∉a::l::r::(ms++(ls++rs))) (hz:z.length=m) (i:Nat):Tri n m (upd H r (.lst ((rs.map V.ref).set i (.ref p)))) a l r ms ls (rs.set i p) M L (R.set i z):=by
 have nd:=Z.nd
 have out:∀ b o,b≠r->H b=.some o->upd H r (.lst ((rs.map V.ref).set i (.ref p))) b=.some o:=λb o hb h=>by rw[upd_ne hb];exact h
 have nl:r∉ms++(ls++rs):=(nodup_cons.mp (nodup_cons.mp (nodup_cons.mp nd).2).2).1
 simp only[mem_cons,mem_append,not_or] at nl hn
 refine ⟨out _ _ (λe=>(nodup_cons.mp nd).1 (e ▸ mem_cons_of_mem _ mem_cons_self)) Z.ha,out _ _ (λe=>(nodup_cons.mp (nodup_cons.mp nd).2).1 (e ▸ mem_cons_self)) Z.hl,by rw[upd_same,map_set],Z.RM.keep λb hb o h=>out _ _ (λe=>nl.1 (e ▸ hb)) h,Z.RL.keep λb hb o h=>out _ _ (λe=>nl.2.1 (e ▸ hb)) h,(Z.RR.set hp i).keep λb hb o h=>out _ _ (λe=>?_) h,?_,Z.n0,Z.m0,Z.lM,Z.lL,⟨by rw[length_set];exact Z.lR.1,set_all Z.lR.2 hz⟩⟩
 ·subst e
  rcases mem_set' hb with hb|hb
  ·exact nl.2.2 hb
  ·exact hn.2.2.1 hb.symm
 ·have:=nd_set (A:=a::l::r::(ms++ls)) (B:=rs) (C:=[]) (by rw[append_nil];simpa using nd) (by simp only[mem_cons,mem_append,not_or];exact ⟨⟨hn.1,hn.2.1,hn.2.2.1,hn.2.2.2.1,hn.2.2.2.2.1⟩,hn.2.2.2.2.2,by simp⟩) i
  rw[append_nil] at this
  simpa using this
theorem Tri.setM (Z:Tri n m H a l r ms ls rs M L R) (hp:ms[i]?=.some p) (hz:z.length=m):Tri n m (upd H p (.lst (z.map V.int))) a l r ms ls rs (M.set i z) L R:=by
 have nd:=Z.nd
 have hm:=mem_of_getElem? hp
 have out:∀ b o,b≠p->H b=.some o->upd H p (.lst (z.map V.int)) b=.some o:=λb o hb h=>by rw[upd_ne hb];exact h
 have n1:=nodup_cons.mp nd
 have n2:=nodup_cons.mp n1.2
 have n3:=nodup_cons.mp n2.2
 obtain ⟨n4,n5,n6⟩:=nodup_append.mp n3.2
 refine ⟨out _ _ (λe=>n1.1 ?_) Z.ha,out _ _ (λe=>n2.1 ?_) Z.hl,out _ _ (λe=>n3.1 ?_) Z.hr,Z.RM.put n4 hp z,Z.RL.keep λb hb o h=>out _ _ (λe=>?_) h,Z.RR.keep λb hb o h=>out _ _ (λe=>?_) h,nd,Z.n0,Z.m0,⟨by rw[length_set];exact Z.lM.1,set_all Z.lM.2 hz⟩,Z.lL,Z.lR⟩
 ·rw[e];exact mem_cons_of_mem _ (mem_cons_of_mem _ (mem_append_left _ hm))
 ·rw[e];exact mem_cons_of_mem _ (mem_append_left _ hm)
 ·rw[e];exact mem_append_left _ hm
 ·exact n6 p hm b (mem_append_left _ hb) e.symm
 ·exact n6 p hm b (mem_append_right _ hb) e.symm
end
abbrev s_chain_pair:Stmt:=top 22
theorem sc_chain_pair:FnScope ["middle","left","turned_right","i","j","one","other","common","s","t","up","down"] ["middle","left","turned_right","i","j"] (defScope s_chain_pair):=by walk_at "sc"
def sp_pair:Sp:=λvs H Q _=>∃ (a l r:Addr) (i j n m k D e:Nat) (ms ls rs:List Addr) (M L R:List (List Int)) (G:MDet.Mat) (d:Nat->Int),vs=[.ref a,.ref l,.ref r,.int i,.int j]/\Tri n m H a l r ms ls rs M L R/\i < j/\j < k/\Ch n m k D G (gm M) (gm L) (gm R) d e/\2*(e+2*D+6)+1000<=134217728 /\
 ∀ (H':Hp) (ls' rs':List Addr) (M' L' R':List (List Int)) (g s t:Int),(∀ b o,b∉a::l::r::ms->H b=some o->H' b=some o)->(∀ x∈ls'++rs',x∈ls++rs\/H x=none)->Tri n m H' a l r ms ls' rs' M' L' R'->Shr (d i) (d j) g s t->Ch n m k D G (gm M') (gm L') (gm R') (λk=>if k=i then g else if k=j then d i / g*d j else d k) (e+2*D+6)->Q .non H'
theorem ok_chain_pair {f:Addr} {fd:FuncData} (F:Fun K "chain_pair" "chain_pair" s_chain_pair f fd) (T:Blt mg) (hT:P.given.tree=none) (D_blended:Df P w K mg base "blended" ["one","s","other","t"] 41 (SpL K sp_bld)) (D_common_shares:Df P w K mg base "common_shares" ["one","other"] 41 (SpL K sp_shr)):FnOk P w K mg base CX0 42 f fd ["middle","left","turned_right","i","j"] sp_pair:=by
 refine F.ok sc_chain_pair (λvs H Q E h=>?_) (λcdv A outer s H vs Q E hr h=>?_)
 ·obtain ⟨a,l,r,i,j,n,m,k,D,e,ms,ls,rs,M,L,R,G,d,rfl,_⟩:=h;rfl
 obtain ⟨a,l,r,i,j,n,m,k,D,e,ms,ls,rs,M,L,R,G,d,rfl,Z,hij,hj,C,hb,q⟩:=h
 refine qmk (qpss_cons (qps_par (i:=5) (j:=6) rfl sc_chain_pair.nd rfl rfl (by decide) rfl rfl (qpa_cons (qpe_ix (ix_listK K (by rfl)) (qpe_ix (ix_listK K (by rfl)) (qpv 0) (qpv 3) (λ_ _=>rfl)) (qpv 3) (λ_ _=>rfl)) (qpa_cons (qpe_ix (ix_listK K (by rfl)) (qpe_ix (ix_listK K (by rfl)) (qpv 0) (qpv 4) (λ_ _=>rfl)) (qpv 4) (λ_ _=>rfl)) qpa_nil)) (by rfl))
   (qpss_cons (qps_asg (qpe_df (by exact D_common_shares) (by exact hr.mono (by decide)) (qpa_cons (qpv 5) (qpa_cons (qpv 6) qpa_nil))) (qpg_tupK K 3 (by rfl) (by rfl) (qpgs_cons (qpgn 7 sc_chain_pair.nd) (qpgs_cons (qpgn 8 sc_chain_pair.nd) (qpgs_cons (qpgn 9 sc_chain_pair.nd) qpgs_nil))) (by rfl) (by rfl)))
   (qpss_cons (qps_par (i:=10) (j:=11) rfl sc_chain_pair.nd rfl rfl (by decide) rfl rfl (qpa_cons (qpe_ix (ix_listK K (by rfl)) (qpv 1) (qpv 3) (λ_ _=>rfl)) (qpa_cons (qpe_ix (ix_listK K (by rfl)) (qpv 1) (qpv 4) (λ_ _=>rfl)) qpa_nil)) (by rfl))
   (qpss_cons (qps_asg (qpe_df (by exact D_blended) (by exact hr.mono (by decide)) (qpa_cons (qpv 10) (qpa_cons (qpv 8) (qpa_cons (qpv 11) (qpa_cons (qpv 9) qpa_nil))))) (qpg_sub (qpv 1) (qpv 3) set_list))
   (qpss_cons (qps_asg (qpe_df (by exact D_blended) (by exact hr.mono (by decide)) (qpa_cons (qpv 10) (qpa_cons (qpe_un un_neg (qpe_op (op_fdivP ⟨⟨_,_,rfl,rfl,rfl,rfl,rfl⟩⟩ (by exact hT) (by exact hr.pyl)) (qpv 6) (qpv 7))) (qpa_cons (qpv 11) (qpa_cons (qpe_op (op_fdivP ⟨⟨_,_,rfl,rfl,rfl,rfl,rfl⟩⟩ (by exact hT) (by exact hr.pyl)) (qpv 5) (qpv 7)) qpa_nil))))) (qpg_sub (qpv 1) (qpv 4) set_list))
   (qpss_cons (qps_par (i:=10) (j:=11) rfl sc_chain_pair.nd rfl rfl (by decide) rfl rfl (qpa_cons (qpe_ix (ix_listK K (by rfl)) (qpv 2) (qpv 3) (λ_ _=>rfl)) (qpa_cons (qpe_ix (ix_listK K (by rfl)) (qpv 2) (qpv 4) (λ_ _=>rfl)) qpa_nil)) (by rfl))
   (qpss_cons (qps_asg (qpe_df (by exact D_blended) (by exact hr.mono (by decide)) (qpa_cons (qpv 10) (qpa_cons qpe_int (qpa_cons (qpv 11) (qpa_cons qpe_int qpa_nil))))) (qpg_sub (qpv 2) (qpv 3) set_list))
   (qpss_cons (qps_asg (qpe_df (by exact D_blended) (by exact hr.mono (by decide)) (qpa_cons (qpv 10) (qpa_cons (qpe_op op_mulB (qpe_un un_neg (qpv 9)) (qpe_op (op_fdivP ⟨⟨_,_,rfl,rfl,rfl,rfl,rfl⟩⟩ (by exact hT) (by exact hr.pyl)) (qpv 6) (qpv 7))) (qpa_cons (qpv 11) (qpa_cons (qpe_op op_mulB (qpv 8) (qpe_op (op_fdivP ⟨⟨_,_,rfl,rfl,rfl,rfl,rfl⟩⟩ (by exact hT) (by exact hr.pyl)) (qpv 5) (qpv 7))) qpa_nil))))) (qpg_sub (qpv 2) (qpv 4) set_list))
   (qpss_cons (qps_asg (qpv 7) (qpg_sub (qpe_ix (ix_listK K (by rfl)) (qpv 0) (qpv 3) (λ_ _=>rfl)) (qpv 3) set_list))
   (qpss_one (qps_asg (qpe_op op_mulB (qpe_op (op_fdivP ⟨⟨_,_,rfl,rfl,rfl,rfl,rfl⟩⟩ (by exact hT) (by exact hr.pyl)) (qpv 5) (qpv 7)) (qpv 6)) (qpg_sub (qpe_ix (ix_listK K (by rfl)) (qpv 0) (qpv 4) (λ_ _=>rfl)) (qpv 4) set_list)))))))))))) ?_
 show (_:TS) _ [some (.ref a),some (.ref l),some (.ref r),some (.int i),some (.int j),none,none,none,none,none,none,none] H
 walk_at "rd"
 simp only[L2.tPar]
 walk_at "rd"
 have O1:=Z.n0.2
 have O2:=Z.m0.2
 have kn:=C.rn
 have km:=C.rm
 have rowM:∀ {i:Nat},i < k->∃ p z,ms[i]?=some p/\M[i]?=some z/\H p=some (.lst (z.map V.int))/\z.length=m/\gv z i=d i:=λ{i} hi=>by
  obtain ⟨z,hz⟩:∃ z,M[i]?=some z:=⟨_,List.getElem?_eq_getElem (by rw[Z.lM.1];lia)⟩
  obtain ⟨p,h1,h2⟩:=Z.RM.get hz
  refine ⟨p,z,h1,hz,h2,Z.lM.2 z (mem_of_getElem? hz),?_⟩
  rw[<-gm_get hz,C.cell i i (by lia) (by lia),if_pos ⟨rfl,hi⟩]
 obtain ⟨pi,zi,mi,Mi,hpi,zil,zid⟩:=rowM (i:=i) (by lia)
 obtain ⟨pj,zj,mj,Mj,hpj,zjl,zjd⟩:=rowM hj
 have dD:=C.dD (i:=i) (by lia)
 have dD2:=C.dD hj
 refine ⟨_,SqL.of Z.ha,_,atI_nat (by rw[List.getElem?_map,mi];rfl),pi,rfl,_,SqL.of hpi,_,gvv_at (by lia),_,SqL.of Z.ha,_,atI_nat (by rw[List.getElem?_map,mj];rfl),pj,rfl,_,SqL.of hpj,_,gvv_at (by lia),?_⟩
 rw[zid,zjd]
 refine ⟨_,_,⟨rfl,rfl⟩,?_⟩
 refine c_shr (C.pos i (by lia)) dD dD2 (by lia) λg s t pt H1 S sm1 hpt=>⟨pt,rfl,_,hpt,rfl,_,_,rfl,_,_,rfl,_,_,rfl,rfl,?_⟩
 have Z1:=Z.same sm1
 obtain ⟨ui,hui⟩:∃ z,L[i]?=some z:=⟨_,List.getElem?_eq_getElem (by rw[Z.lL.1];lia)⟩
 obtain ⟨uj,huj⟩:∃ z,L[j]?=some z:=⟨_,List.getElem?_eq_getElem (by rw[Z.lL.1];lia)⟩
 obtain ⟨vi,hvi⟩:∃ z,R[i]?=some z:=⟨_,List.getElem?_eq_getElem (by rw[Z.lR.1];lia)⟩
 obtain ⟨vj,hvj⟩:∃ z,R[j]?=some z:=⟨_,List.getElem?_eq_getElem (by rw[Z.lR.1];lia)⟩
 obtain ⟨qi,lsi,hqi⟩:=Z1.RL.get hui
 obtain ⟨qj,lsj,hqj⟩:=Z1.RL.get huj
 have uil:=Z.lL.2 ui (mem_of_getElem? hui)
 have ujl:=Z.lL.2 uj (mem_of_getElem? huj)
 have vil:=Z.lR.2 vi (mem_of_getElem? hvi)
 have vjl:=Z.lR.2 vj (mem_of_getElem? hvj)
 have hs:=S.s1
 have ht:=S.t1
 have g0:=S.g0
 have e2:2 ^ (D+2)=4*2 ^ D:=by rw[Nat.pow_add,Nat.mul_comm]
 have e1:2 ^ (D+1)=2*2 ^ D:=by rw[Nat.pow_add,Nat.mul_comm]
 have s1:Bt (D+1) s:=by unfold Bt at *;lia
 have t1:Bt (D+2) t:=by unfold Bt at *;lia
 have qa:=dD.quo g0 S.da
 have qb:=dD2.quo g0 S.db
 have bu:∀ x,x < n->Bt e (gv ui x):=λx hx=>by rw[<-gm_get hui];exact C.bl i x (by lia) hx
 have bu2:∀ x,x < n->Bt e (gv uj x):=λx hx=>by rw[<-gm_get huj];exact C.bl j x (by lia) hx
 have bv:∀ x,x < m->Bt e (gv vi x):=λx hx=>by rw[<-gm_get hvi];exact C.br i x (by lia) hx
 have bv2:∀ x,x < m->Bt e (gv vj x):=λx hx=>by rw[<-gm_get hvj];exact C.br j x (by lia) hx
 have lsl:=Z.RL.len
 have rsl:=Z.RR.len
 have msl:=Z.RM.len
 have lL:=Z.lL.1
 have lR:=Z.lR.1
 have lM:=Z.lM.1
 simp only[L2.tPar]
 walk_at "rd"
 refine ⟨_,SqL.of Z1.hl,_,atI_nat (by rw[List.getElem?_map,lsi];rfl),_,SqL.of Z1.hl,_,atI_nat (by rw[List.getElem?_map,lsj];rfl),?_⟩
 refine ⟨_,_,⟨rfl,rfl⟩,?_⟩
 refine c_bld hqi hqj (by lia) (by lia) (λx hx=>⟨mulT s1 (bu x (by lia)) (by lia),mulT t1 (bu2 x (by lia)) (by lia)⟩) λp1 H2 sm2 fr1 hp1=>?_
 have n1:=(Z1.no fr1)
 have Z2:=(Z1.same sm2).setL hp1 n1 (by rw[bld_len (by lia)];exact uil) i
 have k2:Sm1 l H2 (upd H2 l (.lst ((ls.map V.ref).set i (.ref p1)))):=λb o hb h=>by rw[upd_ne hb];exact h
 have nn:=Z.nd
 have lq:∀ {x:Addr},x∈ls->x≠l:=λ{x} h e=>(nodup_cons.mp (nodup_cons.mp nn).2).1 (by rw[<-e];exact mem_cons_of_mem _ (mem_append_right _ (mem_append_left _ h)))
 have hqi2:=k2 _ _ (lq (mem_of_getElem? lsi)) (sm2 _ _ hqi)
 have hqj2:=k2 _ _ (lq (mem_of_getElem? lsj)) (sm2 _ _ hqj)
 refine ⟨_,sm2 _ _ Z1.hl,i,ixN_nat (by rw[length_map];lia),?_⟩
 generalize upd H2 l (.lst ((ls.map V.ref).set i (.ref p1)))=H3 at *
 rw[Int.fdiv_eq_ediv_of_nonneg _ (Int.le_of_lt g0),Int.fdiv_eq_ediv_of_nonneg _ (Int.le_of_lt g0)]
 have gn:g≠0:=by lia
 refine ⟨gn,gn,c_bld hqi2 hqj2 (by lia) (by lia) (λx hx=>⟨mulT qb.neg (bu x (by lia)) (by lia),mulT qa (bu2 x (by lia)) (by lia)⟩) λp2 H4 sm4 fr2 hp2=>?_⟩
 have n2:=Z2.no fr2
 have Z4:=(Z2.same sm4).setL hp2 n2 (by rw[bld_len (by lia)];exact uil) j
 have k4:Sm1 l H4 (upd H4 l (.lst (((ls.set i p1).map V.ref).set j (.ref p2)))):=λb o hb h=>by rw[upd_ne hb];exact h
 refine ⟨_,sm4 _ _ Z2.hl,j,ixN_nat (by rw[length_map,length_set];lia),?_⟩
 generalize upd H4 l (.lst (((ls.set i p1).map V.ref).set j (.ref p2)))=H5 at *
 simp only[L2.tPar]
 walk_at "rd"
 obtain ⟨ri,rsi,hri⟩:=Z4.RR.get hvi
 obtain ⟨rj,rsj,hrj⟩:=Z4.RR.get hvj
 refine ⟨_,SqL.of Z4.hr,_,atI_nat (by rw[List.getElem?_map,rsi];rfl),_,SqL.of Z4.hr,_,atI_nat (by rw[List.getElem?_map,rsj];rfl),?_⟩
 refine ⟨_,_,⟨rfl,rfl⟩,?_⟩
 refine c_bld hri hrj (by lia) (by lia) (λx _=>⟨CMul.ok (.inl ⟨by decide,by decide⟩),CMul.ok (.inl ⟨by decide,by decide⟩)⟩) λp3 H6 sm6 fr3 hp3=>?_
 have n3:=Z4.no fr3
 have Z6:=(Z4.same sm6).setR hp3 n3 (by rw[bld_len (by lia)];exact vil) i
 have k6:Sm1 r H6 (upd H6 r (.lst ((rs.map V.ref).set i (.ref p3)))):=λb o hb h=>by rw[upd_ne hb];exact h
 have rq:∀ {x:Addr},x∈rs->x≠r:=λ{x} h e=>(nodup_cons.mp (nodup_cons.mp (nodup_cons.mp nn).2).2).1 (by rw[<-e];exact mem_append_right _ (mem_append_right _ h))
 have hri2:=k6 _ _ (rq (mem_of_getElem? rsi)) (sm6 _ _ hri)
 have hrj2:=k6 _ _ (rq (mem_of_getElem? rsj)) (sm6 _ _ hrj)
 refine ⟨_,sm6 _ _ Z4.hr,i,ixN_nat (by rw[length_map];lia),?_⟩
 generalize upd H6 r (.lst ((rs.map V.ref).set i (.ref p3)))=H7 at *
 rw[Int.fdiv_eq_ediv_of_nonneg _ (Int.le_of_lt g0),Int.fdiv_eq_ediv_of_nonneg _ (Int.le_of_lt g0)]
 refine ⟨gn,mulT t1.neg qb (by lia),gn,mulT s1 qa (by lia),c_bld hri2 hrj2 (by lia) (by lia) (λx hx=>⟨mulT (t1.neg.mul qb) (bv x (by lia)) (by lia),mulT (s1.mul qa) (bv2 x (by lia)) (by lia)⟩) λp4 H8 sm8 fr4 hp4=>?_⟩
 have n4:=Z6.no fr4
 have Z8:=(Z6.same sm8).setR hp4 n4 (by rw[bld_len (by lia)];exact vil) j
 have k8:Sm1 r H8 (upd H8 r (.lst (((rs.set i p3).map V.ref).set j (.ref p4)))):=λb o hb h=>by rw[upd_ne hb];exact h
 refine ⟨_,sm8 _ _ Z6.hr,j,ixN_nat (by rw[length_map,length_set];lia),?_⟩
 generalize upd H8 r (.lst (((rs.set i p3).map V.ref).set j (.ref p4)))=H9 at *
 obtain ⟨pi',mi',hpi'⟩:=Z8.RM.get Mi
 rw[mi] at mi';cases mi'
 refine ⟨_,SqL.of Z8.ha,_,atI_nat (by rw[List.getElem?_map,mi];rfl),_,rfl,_,hpi',i,ixN_nat (by rw[length_map];lia),gn,mulT qa dD2 (by lia),?_⟩
 have Z9:=Z8.setM (z:=zi.set i g) mi (by rw[length_set];exact zil)
 have k9:Sm1 pi H9 (upd H9 pi (.lst ((zi.map V.int).set i (.int g)))):=λb o hb h=>by rw[upd_ne hb];exact h
 rw[map_set] at Z9
 generalize upd H9 pi (.lst ((zi.map V.int).set i (.int g)))=H10 at *
 obtain ⟨pj',mj',hpj'⟩:=Z9.RM.get (i:=j) (z:=zj) (by rw[List.getElem?_set_ne (by lia)];exact Mj)
 rw[mj] at mj';cases mj'
 refine ⟨_,SqL.of Z9.ha,_,atI_nat (by rw[List.getElem?_map,mj];rfl),_,rfl,_,hpj',j,ixN_nat (by rw[length_map];lia),?_⟩
 have Z10:=Z9.setM (z:=zj.set j (d i / g*d j)) mj (by rw[length_set];exact zjl)
 have k10:Sm1 pj H10 (upd H10 pj (.lst ((zj.map V.int).set j (.int (d i / g*d j))))):=λb o hb h=>by rw[upd_ne hb];exact h
 rw[map_set] at Z10
 generalize upd H10 pj (.lst ((zj.map V.int).set j (.int (d i / g*d j))))=H11 at *
 have f3:∀ b o,b≠l->H b=some o->H3 b=some o:=λb o hb h=>k2 _ _ hb (sm2 _ _ (sm1 _ _ h))
 have f5:∀ b o,b≠l->H b=some o->H5 b=some o:=λb o hb h=>k4 _ _ hb (sm4 _ _ (f3 b o hb h))
 have f7:∀ b o,b≠l->b≠r->H b=some o->H7 b=some o:=λb o hb hc h=>k6 _ _ hc (sm6 _ _ (f5 b o hb h))
 have f9:∀ b o,b≠l->b≠r->H b=some o->H9 b=some o:=λb o hb hc h=>k8 _ _ hc (sm8 _ _ (f7 b o hb hc h))
 simp only[mem_cons,not_or] at n1 n2 n3 n4
 have fresh:∀ {H':Hp} {x:Addr},(∀ o,H x=some o->H' x=some o)->H' x=none->H x=none:=λ{H' x} f h=>by
  cases e:H x with
  | none=>rfl
  | some o=>rw[f o e] at h;cases h
 have hin:i≠j:=by lia
 have Cp:=C.pair hij hj S (M':=gm ((M.set i (zi.set i g)).set j (zj.set j (d i / g*d j)))) λp y hp hy=>by
  rw[gm_set (by rw[length_set];lia),gm_set (by lia)]
  by_cases e1:p=j
  ·subst e1
   rw[if_pos rfl,gv_set (by lia),if_neg (c:=p=i/\y=i) (by lia)]
   by_cases e2:y=p
   ·rw[if_pos e2,if_pos ⟨rfl,e2⟩]
   ·rw[if_neg e2,if_neg (by lia),gm_get Mj]
  ·rw[if_neg e1]
   by_cases e2:p=i
   ·subst e2
    rw[if_pos rfl,gv_set (by lia)]
    by_cases e3:y=p
    ·rw[if_pos e3,if_pos ⟨rfl,e3⟩]
    ·rw[if_neg e3,if_neg (by lia),if_neg (by lia),gm_get Mi]
   ·rw[if_neg e2,if_neg (by lia),if_neg (by lia)]
 have eL:two i j (λq=>s*gm L i q+t*gm L j q) (λq=>-(d j / g)*gm L i q+d i / g*gm L j q) (gm L)=gm ((L.set i (bld ui s uj t)).set j (bld ui (-(d j / g)) uj (d i / g))):=by
  funext p
  rw[gm_set (by rw[length_set];lia),gm_set (by lia),gm_get hui,gm_get huj]
  unfold two
  by_cases e1:p=i
  ·rw[if_pos e1,if_neg (by lia),if_pos e1];funext x;rw[gv_bld (by lia)]
  ·rw[if_neg e1,if_neg (c:=p=i) e1]
   split
   ·funext x;rw[gv_bld (by lia)]
   ·rfl
 have eR:two i j (λq=>1*gm R i q+1*gm R j q) (λq=>-t*(d j / g)*gm R i q+s*(d i / g)*gm R j q) (gm R)=gm ((R.set i (bld vi 1 vj 1)).set j (bld vi (-t*(d j / g)) vj (s*(d i / g)))):=by
  funext p
  rw[gm_set (by rw[length_set];lia),gm_set (by lia),gm_get hvi,gm_get hvj]
  unfold two
  by_cases e1:p=i
  ·rw[if_pos e1,if_neg (by lia),if_pos e1];funext x;rw[gv_bld (by lia)]
  ·rw[if_neg e1,if_neg (c:=p=i) e1]
   split
   ·funext x;rw[gv_bld (by lia)]
   ·rfl
 rw[eL,eR] at Cp
 refine q H11 _ _ _ _ _ g s t (λb o hb h=>?_) (λx hx=>?_) Z10 S Cp
 ·simp only[mem_cons,not_or] at hb
  exact k10 _ _ (λe=>hb.2.2.2 (e ▸ mem_of_getElem? mj)) (k9 _ _ (λe=>hb.2.2.2 (e ▸ mem_of_getElem? mi)) (f9 b o hb.2.1 hb.2.2.1 h))
 ·rcases mem_append.mp hx with hx|hx
  ·rcases mem_set' hx with hx|rfl
   ·rcases mem_set' hx with hx|rfl
    ·exact .inl (mem_append_left _ hx)
    ·exact .inr (fresh (λo h=>sm1 _ _ h) fr1)
   ·exact .inr (fresh (λo h=>f3 _ o n2.2.1 h) fr2)
  ·rcases mem_set' hx with hx|rfl
   ·rcases mem_set' hx with hx|rfl
    ·exact .inl (mem_append_right _ hx)
    ·exact .inr (fresh (λo h=>f5 _ o n3.2.1 h) fr3)
   ·exact .inr (fresh (λo h=>f7 _ o n4.2.1 n4.2.2.1 h) fr4)
open M06 (Bt Shr Ch CI two)
abbrev s_chain_corners:Stmt:=top 21
theorem sc_chain_corners:FnScope ["middle","left","turned_right","many","i","j"] ["middle","left","turned_right"] (defScope s_chain_corners):=by walk_at "sc"
def sp_chain:Sp:=λvs H Q _=>∃ (a l r:Addr) (n m k D e:Nat) (ms ls rs:List Addr) (M L R:List (List Int)) (G:MDet.Mat) (d:Nat->Int),vs=[.ref a,.ref l,.ref r]/\Tri n m H a l r ms ls rs M L R/\Ch n m k D G (gm M) (gm L) (gm R) d e/\2*(e+73*(2*D+6))+1000<=134217728 /\
 ∀ (H':Hp) (ls' rs':List Addr) (M' L' R':List (List Int)) (d':Nat->Int),(∀ b o,b∉a::l::r::ms->H b=some o->H' b=some o)->(∀ x∈ls'++rs',x∈ls++rs\/H x=none)->Tri n m H' a l r ms ls' rs' M' L' R'->Ch n m k D G (gm M') (gm L') (gm R') d' (e+72*(2*D+6))->CI k k k d'->Q .non H'
theorem ok_chain_corners {f:Addr} {fd:FuncData} (F:Fun K "chain_corners" "chain_corners" s_chain_corners f fd) (T:Blt mg) (hT:P.given.tree=none) (D_chain_pair:Df P w K mg base "chain_pair" ["middle","left","turned_right","i","j"] 42 (sp_pair)):FnOk P w K mg base CX0 43 f fd ["middle","left","turned_right"] sp_chain:=by
 refine F.ok sc_chain_corners (λvs H Q E h=>?_) (λcdv A outer s H vs Q E hr h=>?_)
 ·obtain ⟨a,l,r,n,m,k,D,e,ms,ls,rs,M,L,R,G,d,rfl,_⟩:=h;rfl
 obtain ⟨a,l,r,n,m,k,D,e,ms,ls,rs,M,L,R,G,d,rfl,Z,C,hb,q⟩:=h
 refine qmk (qpss_cons (qpset 3 sc_chain_corners.nd (qpe_callB (call_lenK K (by rfl)) (by rfl) (by exact T.len) (by decide +kernel) (qpa_cons (qpe_lc ["at"] [("middle",0)] rfl (LcScope.of (by kernel_rfl)) (qpi_range1 (by rfl) (by exact T.range) (qpa_cons (qpe_callB (call_min2 (by rfl)) (by rfl) (by exact T.min) (by decide +kernel) (qpa_cons (qpe_callB (call_lenK K (by rfl)) (by rfl) (by exact T.len) (by decide +kernel) (qpa_cons (qpv 0) qpa_nil)) (qpa_cons (qpe_callB (call_lenK K (by rfl)) (by rfl) (by exact T.len) (by decide +kernel) (qpa_cons (qpe_ix (ix_listK K (by rfl)) (qpv 0) qpe_int (λ_ _=>rfl)) qpa_nil)) qpa_nil))) qpa_nil)) (λ_ _ _ _=>⟨(qpgn 0 (nd_of (by kernel_rfl))),(qpts_one (qpt_cmpR op_ne (qpe_ix (ix_listK K (by rfl)) (qpe_ix (ix_listK K (by rfl)) (qpv 1) (qpv 0) (λ_ _=>rfl)) (qpv 0) (λ_ _=>rfl)) qpe_int (nomark _))),(qpb_emit (by rfl) (by rfl) (qpv 0))⟩)) qpa_nil)))
   (qpss_one (qps_for PassesOwn.never rfl (qpi_range1 (by rfl) (by exact T.range) (qpa_cons (qpv 3) qpa_nil)) (qpgn 4 sc_chain_corners.nd) (qpss_one (qps_for PassesOwn.never rfl (qpi_range2 (by rfl) (by exact T.range) (qpa_cons (qpe_op op_add (qpv 4) qpe_int) (qpa_cons (qpv 3) qpa_nil))) (qpgn 5 sc_chain_corners.nd) (qpss_one (qps_if (qpt_cmpR op_ne (qpe_op op_modN (qpe_ix (ix_listK K (by rfl)) (qpe_ix (ix_listK K (by rfl)) (qpv 0) (qpv 5) (λ_ _=>rfl)) (qpv 5) (λ_ _=>rfl)) (qpe_ix (ix_listK K (by rfl)) (qpe_ix (ix_listK K (by rfl)) (qpv 0) (qpv 4) (λ_ _=>rfl)) (qpv 4) (λ_ _=>rfl))) qpe_int (nomark _)) (qpss_one (qps_expr (qpe_df (by exact D_chain_pair) (by exact hr.mono (by decide)) (qpa_cons (qpv 0) (qpa_cons (qpv 1) (qpa_cons (qpv 2) (qpa_cons (qpv 4) (qpa_cons (qpv 5) qpa_nil)))))))) qpss_nil))))))) ?_
 show (_:TS) _ [some (.ref a),some (.ref l),some (.ref r),none,none,none] H
 walk_at "rd"
 have O1:=Z.n0
 have O2:=Z.m0
 have kn:=C.rn
 have km:=C.rm
 have msl:=Z.RM.len
 have lM:=Z.lM.1
 have rowM:∀ {H':Hp} {ls rs:List Addr} {M L R:List (List Int)} {d:Nat->Int} {e i:Nat},Tri n m H' a l r ms ls rs M L R->Ch n m k D G (gm M) (gm L) (gm R) d e->i < n->i < m->∃ p z,ms[i]?=some p/\M[i]?=some z/\H' p=some (.lst (z.map V.int))/\z.length=m/\gv z i=if i < k then d i else 0:=λ{H' ls rs M L R d e i} Z C hn hm=>by
  obtain ⟨z,hz⟩:∃ z,M[i]?=some z:=⟨_,List.getElem?_eq_getElem (by rw[Z.lM.1];lia)⟩
  obtain ⟨p,h1,h2⟩:=Z.RM.get hz
  refine ⟨p,z,h1,hz,h2,Z.lM.2 z (mem_of_getElem? hz),?_⟩
  rw[<-gm_get hz,C.cell i i (by lia) (by lia)]
  by_cases h:i < k
  ·rw[if_pos ⟨rfl,h⟩,if_pos h]
  ·rw[if_neg (λz=>h z.2),if_neg h]
 obtain ⟨p0,z0,m0,M0,hp0,z0l,_⟩:=rowM Z C O1.1 O2.1
 refine ⟨_,.inl (SqL.of Z.ha),_,SqL.of Z.ha,_,show atI _ ((0:Nat):Int)=_ from atI_nat (by rw[List.getElem?_map,m0];rfl),p0,rfl,_,.inl (SqL.of hp0),_,_,⟨rfl,rfl⟩,?_⟩
 rw[length_map,length_map,msl,lM,z0l]
 obtain ⟨mn,hmn,h1,h2,h3⟩:∃ mn:Nat,(if (m:Int) < (n:Int) then (m:Int) else n)=mn/\mn<=n/\mn<=m/\k<=mn:=by
  split
  ·exact ⟨m,rfl,by lia,by lia,by lia⟩
  ·exact ⟨n,rfl,by lia,by lia,by lia⟩
 rw[hmn]
 refine ⟨by lia,by lia,λacc hacc=>?_⟩
 have sm0:Same H (upd H acc (.lst [])):=Same.new hacc
 have e0:upd H acc (.lst []) acc=some (.lst []):=upd_same
 have hbn:∀ {b o},H b=some o->b≠acc:=λh e=>by rw[e,hacc] at h;cases h
 generalize upd H acc (.lst [])=H0 at *
 refine loop_range (λi σ H2=>∃ x:Option V,σ=[x,some (.ref a)]/\Same H H2/\H2 acc=some (.lst ((List.range (min i k)).map λx=>V.int (x:Nat)))) ⟨_,rfl,sm0,by rw[Nat.zero_min];exact e0⟩ (λi σ H2 hi ⟨x,e,sm,ha⟩=>?_) ?_
 ·subst e
  rw[Int.toNat_natCast] at hi
  rw[show (0:Int)+(i:Int)=((i:Nat):Int) by lia]
  obtain ⟨p,z,g1,g2,g3,g4,g5⟩:=rowM Z C (i:=i) (by lia) (by lia)
  walk_at "rd"
  refine ⟨_,SqL.of (sm _ _ Z.ha),_,atI_nat (by rw[List.getElem?_map,g1];rfl),_,rfl,_,SqL.of (sm _ _ g3),_,gvv_at (by lia),?_⟩
  rw[g5]
  refine ⟨rfl,?_⟩
  by_cases hk:i < k
  ·rw[if_pos hk]
   have:=C.pos i hk
   rw[if_pos (by simp;lia)]
   refine ⟨_,ha,small_line (by rw[length_map,length_range];lia),λb o h=>by rw[upd_ne (hbn h)];exact sm _ _ h,?_⟩
   rw[upd_same,show min i k=i by lia,show min (i+1) k=i+1 by lia,List.range_succ,map_append];rfl
  ·rw[if_neg hk,if_neg (by simp)]
   exact ⟨sm,by rw[ha,show min (i+1) k=min i k by lia]⟩
 rintro σ H2 ⟨x,rfl,sm,ha⟩
 rw[Int.toNat_natCast,show min mn k=k by lia] at ha
 refine ⟨_,.inl (SqL.of ha),?_⟩
 rw[length_map,length_range]
 refine ⟨by lia,by lia,?_⟩
 refine loop_range (λi σ H3=>∃ (ls' rs':List Addr) (M' L' R':List (List Int)) (d':Nat->Int) (x:Option V) (y:Option V),σ=[some (.ref a),some (.ref l),some (.ref r),some (.int k),x,y]/\(∀ b o,b∉a::l::r::ms->H b=some o->H3 b=some o)/\(∀ x∈ls'++rs',x∈ls++rs\/H x=none)/\Tri n m H3 a l r ms ls' rs' M' L' R'/\Ch n m k D G (gm M') (gm L') (gm R') d' (e+8*i*(2*D+6))/\CI k i (i+1) d')
  ⟨ls,rs,M,L,R,d,_,_,rfl,λb o _ h=>sm _ _ h,λx hx=>.inl hx,Z.same sm,by rw[Nat.mul_zero,Nat.zero_mul];exact C,λp q h1 h2 h3=>by lia⟩ (λi σ H3 hi ⟨ls',rs',M',L',R',d',x,y,e',fr,mr,Z3,C3,I⟩=>?_) ?_
 ·subst e'
  rw[Int.toNat_natCast] at hi
  rw[show (0:Int)+(i:Int)=((i:Nat):Int) by lia]
  walk_at "rd"
  refine ⟨_,_,⟨rfl,rfl⟩,⟨by lia,by lia,by lia,by lia⟩,?_⟩
  refine loop_range (λc σ H4=>∃ (ls' rs':List Addr) (M' L' R':List (List Int)) (d':Nat->Int) (y:Option V),σ=[some (.ref a),some (.ref l),some (.ref r),some (.int k),some (.int i),y]/\(∀ b o,b∉a::l::r::ms->H b=some o->H4 b=some o)/\(∀ x∈ls'++rs',x∈ls++rs\/H x=none)/\Tri n m H4 a l r ms ls' rs' M' L' R'/\Ch n m k D G (gm M') (gm L') (gm R') d' (e+(8*i+c)*(2*D+6))/\CI k i (i+1+c) d')
   ⟨ls',rs',M',L',R',d',_,rfl,fr,mr,Z3,C3,I⟩ (λc σ H4 hc ⟨ls',rs',M',L',R',d',y,e',fr,mr,Z4,C4,I⟩=>?_) ?_
  ·subst e'
   have hc':i+1+c < k:=by lia
   rw[show ((i:Int)+1+(c:Int))=((i+1+c:Nat):Int) by lia]
   have hcm:=Nat.mul_le_mul_right (2*D+6) (show 8*i+c+1<=72 by lia)
   rw[Nat.add_mul,Nat.one_mul] at hcm
   generalize hj:i+1+c=j at *
   obtain ⟨p,z,g1,g2,g3,g4,g5⟩:=rowM Z4 C4 (i:=j) (by lia) (by lia)
   obtain ⟨p',z',f1,f2,f3,f4,f5⟩:=rowM Z4 C4 (i:=i) (by lia) (by lia)
   rw[if_pos (by lia)] at g5 f5
   have di:=C4.pos i (by lia)
   walk_at "rd"
   refine ⟨_,SqL.of Z4.ha,_,atI_nat (by rw[List.getElem?_map,g1];rfl),_,rfl,_,SqL.of g3,_,gvv_at (by lia),_,SqL.of Z4.ha,_,atI_nat (by rw[List.getElem?_map,f1];rfl),_,rfl,_,SqL.of f3,_,gvv_at (by lia),?_⟩
   rw[g5,f5]
   refine ⟨_,rfl,_,rfl,by lia,?_⟩
   rw[Int.fmod_eq_emod_of_nonneg _ (Int.le_of_lt di),show i+1+(c+1)=j+1 by lia,show 8*i+(c+1)=8*i+c+1 by lia]
   have ee:(8*i+c+1)*(2*D+6)=(8*i+c)*(2*D+6)+(2*D+6):=by rw[Nat.add_mul,Nat.one_mul]
   by_cases hd:d' j % d' i=0
   ·rw[if_neg (by simpa using hd)]
    exact ⟨fr,ls',rs',mr,M',L',R',Z4,d',⟨C4.rel,C4.gl,C4.gr,C4.rn,C4.rm,C4.cell,C4.pos,C4.pD,λi' j hi' hj=>(C4.bl i' j hi' hj).up (by lia),λi' j hi' hj=>(C4.br i' j hi' hj).up (by lia)⟩,I.one (Int.dvd_of_emod_eq_zero hd)⟩
   ·rw[if_pos (by simpa using hd)]
    refine ⟨a,l,r,i,j,n,m,k,D,e+(8*i+c)*(2*D+6),ms,ls',rs',M',L',R',G,d',rfl,Z4,by lia,hc',C4,by lia,λH5 ls5 rs5 M5 L5 R5 g s t fr5 mr5 Z5 S C5=>⟨λb o hb h=>fr5 b o hb (fr b o hb h),ls5,rs5,λx hx=>?_,M5,L5,R5,Z5,_,⟨C5.rel,C5.gl,C5.gr,C5.rn,C5.rm,C5.cell,C5.pos,C5.pD,λi' j hi' hj=>(C5.bl i' j hi' hj).up (by lia),λi' j hi' hj=>(C5.br i' j hi' hj).up (by lia)⟩,I.pair (by lia) hc' S⟩⟩
    rcases mr5 x hx with h|h
    ·exact mr x h
    ·refine .inr ?_
     cases e':H x with
     | none=>rfl
     | some o =>
      by_cases hb:x∈a::l::r::ms
      ·obtain ⟨o',h'⟩:=Z4.some (x:=x) (by
        simp only[mem_cons,mem_append] at hb ⊢
        rcases hb with h|h|h|h
        ·exact .inl h
        ·exact .inr (.inl h)
        ·exact .inr (.inr (.inl h))
        ·exact .inr (.inr (.inr (.inl h))))
       rw[h] at h';cases h'
      ·rw[fr x o hb e'] at h;cases h
  ·rintro σ H4 ⟨ls',rs',M',L',R',d',y,rfl,fr,mr,Z4,C4,I⟩
   rw[show ((k:Int) - ((i:Int)+1)).toNat=k - (i+1) by lia] at C4 I
   rw[show i+1+(k - (i+1))=k by lia] at I
   refine ⟨ls',rs',M',L',R',d',_,_,rfl,fr,mr,Z4,⟨C4.rel,C4.gl,C4.gr,C4.rn,C4.rm,C4.cell,C4.pos,C4.pD,λi' j hi' hj=>(C4.bl i' j hi' hj).up ?_,λi' j hi' hj=>(C4.br i' j hi' hj).up ?_⟩,I.next⟩
   ·have:=Nat.mul_le_mul_right (2*D+6) (show 8*i+(k - (i+1))<=8*(i+1) by lia)
    lia
   ·have:=Nat.mul_le_mul_right (2*D+6) (show 8*i+(k - (i+1))<=8*(i+1) by lia)
    lia
 ·rintro σ H3 ⟨ls',rs',M',L',R',d',x,y,rfl,fr,mr,Z3,C3,I⟩
  rw[Int.toNat_natCast] at C3 I
  refine q H3 ls' rs' M' L' R' d' fr mr Z3 ⟨C3.rel,C3.gl,C3.gr,C3.rn,C3.rm,C3.cell,C3.pos,C3.pD,λi j hi hj=>(C3.bl i j hi hj).up ?_,λi j hi hj=>(C3.br i j hi hj).up ?_⟩ λp q h1 h2 h3=>I p q h1 h2 (by lia)
  ·have:=Nat.mul_le_mul_right (2*D+6) (show 8*k<=72 by lia)
   lia
  ·have:=Nat.mul_le_mul_right (2*D+6) (show 8*k<=72 by lia)
   lia
def Sh (n m:Nat) (g:List (List Int)):Prop:=g.length=n/\∀ r∈g,r.length=m
def mat (R:List (List Int)):MDet.Mat:=λi j=>(R.getD i []).getD j 0
theorem mat_get {R:List (List Int)} {i j:Nat} {r:List Int} {x:Int} (h:R[i]?=some r) (h':r[j]?=some x):mat R i j=x:=by
 unfold mat
 rw[getD_eq_getElem?_getD,getD_eq_getElem?_getD,h,Option.getD_some,h'];rfl
theorem Sh.row {n m:Nat} {R:List (List Int)} (h:Sh n m R) {i:Nat} (hi:i < n):∃ r,R[i]?=some r/\r.length=m/\r∈R:=by
 have hi':i < R.length:=by rw[h.1];exact hi
 exact ⟨R[i],List.getElem?_eq_getElem hi',h.2 _ (List.getElem_mem hi'),List.getElem_mem hi'⟩
theorem Sh.cell {n m:Nat} {R:List (List Int)} (h:Sh n m R) {i j:Nat} (hi:i < n) (hj:j < m):∃ r,R[i]?=some r/\r[j]?=some (mat R i j)/\r∈R/\mat R i j∈r:=by
 obtain ⟨r,h1,h2,h3⟩:=h.row hi
 have hj':j < r.length:=by rw[h2];exact hj
 have h4:r[j]?=some r[j]:=List.getElem?_eq_getElem hj'
 have h5:=mat_get h1 h4
 exact ⟨r,h1,by rw[h5];exact h4,h3,by rw[h5];exact List.getElem_mem hj'⟩
def tab (n m:Nat) (M:MDet.Mat):List (List Int):=(List.range n).map λi=>(List.range m).map λj=>M i j
theorem tab_sh (n m:Nat) (M:MDet.Mat):Sh n m (tab n m M):=⟨by simp[tab],λr hr=>by
 obtain ⟨i,_,rfl⟩:=mem_map.mp hr
 simp⟩
theorem range_get {α:Type} {n i:Nat} (f:Nat->α) (h:i < n):((List.range n).map f)[i]?=some (f i):=by
 rw[List.getElem?_map,List.getElem?_range h];rfl
theorem tab_mat {n m:Nat} {M:MDet.Mat} {i j:Nat} (hi:i < n) (hj:j < m):mat (tab n m M) i j=M i j:=mat_get (range_get _ hi) (range_get _ hj)
theorem range_snoc {α:Type} (f:Nat->α) (n:Nat):(List.range n).map f++[f n]=(List.range (n+1)).map f:=by rw[List.range_succ,map_append];rfl
theorem sum_S (f:Nat->Int):∀ n,((List.range n).map f).sum=MDet.S n f
 | 0=>rfl
 | n+1=>by rw[<-range_snoc,List.sum_append,sum_S f n];simp[MDet.S]
theorem tab_eq {n m:Nat} {R:List (List Int)} {M:MDet.Mat} (sh:Sh n m R) (h:∀ i j,i < n->j < m->mat R i j=M i j):R=tab n m M:=by
 refine List.ext_getElem? λi=>?_
 by_cases hi:i < n
 ·obtain ⟨r,r1,r2,r3⟩:=sh.row hi
  rw[r1]
  unfold tab
  rw[range_get _ hi]
  congr 1
  refine List.ext_getElem? λj=>?_
  by_cases hj:j < m
  ·obtain ⟨r',a1,a2,_⟩:=sh.cell hi hj
   rw[r1] at a1
   injection a1 with a1
   subst a1
   rw[a2,range_get _ hj,h i j hi hj]
  ·rw[List.getElem?_eq_none (by lia),List.getElem?_eq_none (by simp;lia)]
 ·rw[List.getElem?_eq_none (by rw[sh.1];lia),List.getElem?_eq_none (by rw[(tab_sh n m M).1];lia)]
theorem col_iD {n m i:Nat} {g:List (List Int)} (sh:Sh n m g) (hi':i < m):PyData.list (g.map λr=>PyData.int (r.getD i 0))=iD ((List.range n).map λj=>mat g j i):=by
 have hgl:=sh.1
 unfold iD
 rw[map_map]
 congr 1
 refine List.ext_getElem? λj=>?_
 by_cases hj:j < n
 ·obtain ⟨r,b1,b2,_⟩:=sh.cell hj hi'
  rw[List.getElem?_map,b1,range_get _ hj]
  show some (PyData.int (r.getD i 0))=_
  rw[getD_eq_getElem?_getD,b2];rfl
 ·rw[List.getElem?_eq_none (by rw[length_map];lia),List.getElem?_eq_none (by simp;lia)]
abbrev s_plain_grid:Stmt:=top 8
theorem sc_plain_grid:FnScope ["n"] ["n"] (defScope s_plain_grid):=by walk_at "sc"
def sp_plain:SpD:=λds Q _=>∃ (n:Nat),ds=[.int n]/\n<=8/\Q (gD (tab n n MDet.idm)) true
theorem ok_plain_grid {f:Addr} {fd:FuncData} (F:Fun K "plain_grid" "plain_grid" s_plain_grid f fd) (T:Blt mg):FnOk P w K mg base CX0 1 f fd ["n"] (SpL K sp_plain):=by
 refine ok0 F sc_plain_grid (λds Q X h=>?_) (λcdv A outer s H E hr=>?_) λds Qd Xd h=>h
 ·obtain ⟨n,rfl,_⟩:=h;rfl
 refine ⟨_,(dpss_one (dps_ret (dpe_lc ["i"] [("n",0)] rfl (LcScope.of (by kernel_rfl)) (dpi_range1 (by rfl) (by exact T.range) (dpa_cons (dpv 0) dpa_nil)) (λ_ _ _ _=>⟨(dpgn 0 (nd_of (by kernel_rfl))),dpts_nil,(dpb_emit (by rfl) (by rfl) (dpe_lc ["j"] [("i",0)] rfl (LcScope.of (by kernel_rfl)) (dpi_range1 (by rfl) (by exact T.range) (dpa_cons (dpv 1) dpa_nil)) (λ_ _ _ _=>⟨(dpgn 0 (nd_of (by kernel_rfl))),dpts_nil,(dpb_emit (by rfl) (by rfl) (dpe_ifExp (dpt_cmp (dop_eq (by rfl) (by exact hr.units)) (dpv 1) (dpv 0) (nomark _)) dpe_int dpe_int))⟩)))⟩)))),λds Qd h=>?_⟩
 obtain ⟨n,rfl,hn,q⟩:=h
 show (_:TSD) _ [some (false,.int n)] _
 cbv
 refine lc_mapA (L:=List.range ((n:Int)).toNat) (λx:Nat=>.int (0+(x:Int))) (λi=>iD ((List.range n).map λj=>MDet.idm i j)) (λi hi es Q' hl q'=>?_) (by rw[length_range];lia) ?_
 ·cbv
  refine lc_mapA (L:=List.range ((n:Int)).toNat) (λx:Nat=>.int (0+(x:Int))) (λj=>.int (MDet.idm i j)) (λj hj es Q' hl q'=>?_) (by rw[length_range];lia) ?_
  ·cbv
   refine ite2 (λe=>?_) λe=>?_
   ·cbv
    have e' : i = j := by have : (0 : Int) + (i : Int) = 0 + (j : Int) := by simpa using e
                          lia
    have:MDet.idm i j=1:=by unfold MDet.idm;rw[if_pos e']
    rw[this] at q'
    exact q'
   ·cbv
    have e':¬ i=j:=λz=>e (by simp[z])
    have:MDet.idm i j=0:=by unfold MDet.idm;rw[if_neg e']
    rw[this] at q'
    exact q'
  ·have e:PyData.list ((List.range ((n:Int)).toNat).map λj=>PyData.int (MDet.idm i j))=iD ((List.range n).map λj=>MDet.idm i j):=by
    unfold iD;rw[map_map,Int.toNat_natCast];rfl
   rw[e]
   cbv
   exact q'
 ·have e:PyData.list ((List.range ((n:Int)).toNat).map λi=>iD ((List.range n).map λj=>MDet.idm i j))=gD (tab n n MDet.idm):=by
   unfold gD tab;rw[map_map,Int.toNat_natCast];rfl
  rw[e]
  cbv
  exact q
abbrev s_flipped:Stmt:=top 9
theorem sc_flipped:FnScope ["grid"] ["grid"] (defScope s_flipped):=by walk_at "sc"
def sp_flip:SpD:=λds Q _=>∃ (g:List (List Int)) (n m:Nat),ds=[gD g]/\Sh n m g/\1<=n/\n<=8/\m<=8/\Q (gD (tab m n λi j=>mat g j i)) true
theorem ok_flipped {f:Addr} {fd:FuncData} (F:Fun K "flipped" "flipped" s_flipped f fd) (T:Blt mg):FnOk P w K mg base CX0 1 f fd ["grid"] (SpL K sp_flip):=by
 refine ok0 F sc_flipped (λds Q X h=>?_) (λcdv A outer s H E hr=>?_) λds Qd Xd h=>h
 ·obtain ⟨g,n,m,rfl,_⟩:=h;rfl
 refine ⟨_,(dpss_one (dps_ret (dpe_lc ["at"] [("grid",0)] rfl (LcScope.of (by kernel_rfl)) (dpi_range1 (by rfl) (by exact T.range) (dpa_cons (dpe_callB (dcl_len (by rfl)) (by rfl) (by exact T.len) (by decide +kernel) (dpa_cons (dpe_ix (dix (by rfl)) (dpv 0) dpe_int (λ_ _=>rfl)) dpa_nil)) dpa_nil)) (λ_ _ _ _=>⟨(dpgn 0 (nd_of (by kernel_rfl))),dpts_nil,(dpb_emit (by rfl) (by rfl) (dpe_lc ["row"] [("at",0)] rfl (LcScope.of (by kernel_rfl)) (dpi_list (by rfl) (dpv 1)) (λ_ _ _ _=>⟨(dpgn 0 (nd_of (by kernel_rfl))),dpts_nil,(dpb_emit (by rfl) (by rfl) (dpe_ix (dix (by rfl)) (dpv 0) (dpv 1) (λ_ _=>rfl)))⟩)))⟩)))),λds Qd h=>?_⟩
 obtain ⟨g,n,m,rfl,sh,hn1,hn,hm,q⟩:=h
 show (_:TSD) _ [some (false,gD g)] _
 have hgl:=sh.1
 obtain ⟨r0,a1,a2,a3⟩:=sh.row (show 0 < n by lia)
 cbv
 refine ⟨iD r0,atI_nat (j:=0) (by rw[List.getElem?_map,a1];rfl),?_⟩
 cbv
 rw[a2,Int.toNat_natCast]
 refine lc_mapA (L:=List.range m) (λx:Nat=>.int (0+(x:Int))) (λi=>iD ((List.range n).map λj=>mat g j i)) (λi hi es Q' hl q'=>?_) (by rw[length_range];lia) ?_
 ·have hi':=mem_range.mp hi
  cbv
  refine lc_mapA (L:=g) iD (λr=>.int (r.getD i 0)) (λr hr es Q' hl q'=>?_) (by lia) ?_
  ·have hrl:=sh.2 r hr
   cbv
   refine ⟨.int (r.getD i 0),by rw[Int.zero_add];exact atI_nat (by rw[List.getElem?_map,List.getElem?_eq_getElem (by lia),getD_eq_getElem?_getD,List.getElem?_eq_getElem (by lia)];rfl),?_⟩
   cbv
   exact q'
  ·rw[col_iD sh hi']
   cbv
   exact q'
 ·have e:PyData.list ((List.range m).map λi=>iD ((List.range n).map λj=>mat g j i))=gD (tab m n λi j=>mat g j i):=by
   unfold gD tab;rw[map_map];rfl
  rw[e]
  cbv
  exact q
section
variable {α:Type}
theorem go_map1 {f:D->Els->(Els->Prop)->Prop} {Q:Els->Prop} (F G:α->D) (L:List α) (es:Els) (hs:∀ a∈L,∀ es (Q':Els->Prop),es.length < 1000000->Q' (es++[(G a,true)])->f (F a) es Q') (hm:es.length+L.length<=1000000) (q:Q (es++(L.map G).map λd=>(d,true))):go f (L.map F) es Q :=
 go_fltA F G (λ_=>true) L es hs hm (by rw[List.filter_eq_self.mpr λ_ _=>rfl];rw[map_map] at q;exact q)
theorem go_flat1 {f:D->Els->(Els->Prop)->Prop} {Q:Els->Prop} (F:α->D) (G:α->List D):∀ (L:List α) (es:Els),(∀ a∈L,∀ es (Q':Els->Prop),es.length+(G a).length<=1000000->Q' (es++(G a).map λd=>(d,true))->f (F a) es Q')->es.length+(L.flatMap G).length<=1000000->Q (es++(L.flatMap G).map λd=>(d,true))->go f (L.map F) es Q
 | [],es,_,_,q=>by
  show Q es
  simpa using q
 | a::r,es,hs,hm,q=>by
  rw[List.flatMap_cons,length_append] at hm
  rw[List.flatMap_cons,map_append,<-append_assoc] at q
  refine hs a mem_cons_self es _ (by lia) ?_
  exact go_flat1 F G r _ (λb hb=>hs b (mem_cons_of_mem _ hb)) (by rw[length_append,length_map];lia) q
theorem lc_flat1 {f:D->Els->(Els->Prop)->Prop} {ok:Bool} {Q:QD} {L:List α} (F:α->D) (G:α->List D) (hs:∀ a∈L,∀ es (Q':Els->Prop),es.length+(G a).length<=1000000->Q' (es++(G a).map λd=>(d,true))->f (F a) es Q') (hm:(L.flatMap G).length<=1000000) (q:Q (.list (L.flatMap G)) (.own [])):LcD f (L.map F) ok Q:=by
 refine go_flat1 F G L [] hs (by simpa using hm) ?_
 have e1:((((L.flatMap G).map λd=>(d,true)):Els).map (·.1))=L.flatMap G:=by rw[map_map];exact List.map_id _
 have e2:((((L.flatMap G).map λd=>(d,true)):Els).all (·.2))=true:=by rw[List.all_map];exact all_eq_true.mpr λ_ _=>rfl
 rw[nil_append,e1,if_pos e2];exact q
end
theorem flat_le1 {α β:Type} {f:α->List β} {m:Nat} (h:∀ a,(f a).length<=m):∀ L:List α,(L.flatMap f).length<=L.length*m
 | []=>Nat.zero_le _
 | a::L=>by
  rw[List.flatMap_cons,length_append,length_cons,Nat.succ_mul]
  have:=flat_le1 h L
  have:=h a
  lia
theorem enum_eq:∀ (ds:List D) (s:Nat),enumD s ds=(List.range ds.length).map λi=>.tuple [.int ((s+i:Nat):Int),ds.getD i (.int 0)]
 | [],_=>rfl
 | d::r,s=>by
  rw[length_cons,List.range_succ_eq_map,map_cons,map_map,enumD,enum_eq r (s+1)]
  rw[show (List.range r.length).map (λi=>PyData.tuple [.int ((s+1+i:Nat):Int),r.getD i (.int 0)])=(List.range r.length).map ((λi=>PyData.tuple [.int ((s+i:Nat):Int),(d::r).getD i (.int 0)]) ∘ Nat.succ) from List.map_congr_left λi _=>by
   show _=PyData.tuple [.int ((s+(i+1):Nat):Int),_]
   rw[show s+1+i=s+(i+1) by lia];rfl]
  rfl
abbrev s_is_diagonal:Stmt:=top 14
theorem sc_is_diagonal:FnScope ["grid"] ["grid"] (defScope s_is_diagonal):=by walk_at "sc"
def sp_diag:SpD:=λds Q _=>∃ (g:List (List Int)) (n m:Nat) (b:Bool),ds=[gD g]/\Sh n m g/\n<=8/\m<=8/\(b=true ↔ ∀ i j,i < n->j < m->i≠j->mat g i j=0)/\Q (.bool b) true
theorem ok_is_diagonal {f:Addr} {fd:FuncData} (F:Fun K "is_diagonal" "is_diagonal" s_is_diagonal f fd) (T:Blt mg):FnOk P w K mg base CX0 1 f fd ["grid"] (SpL K sp_diag):=by
 refine ok0 F sc_is_diagonal (λds Q X h=>?_) (λcdv A outer s H E hr=>?_) λds Qd Xd h=>h
 ·obtain ⟨g,n,m,b,rfl,_⟩:=h;rfl
 refine ⟨_,(dpss_one (dps_ret (dpe_callB (dcl_all (by rfl) (by rfl)) (by rfl) (by exact T.all) (by decide +kernel) (dpa_cons (dpe_lc ["i","row","j","x"] [] rfl (LcScope.of (by kernel_rfl)) (dpi_enum (by rfl) (by rfl) (by exact T.enumerate) (dpa_cons (dpv 0) dpa_nil) (by rfl)) (λ_ _ _ _=>⟨(dpg_tup 2 (by rfl) (by rfl) (dpgs_cons (dpgn 0 (nd_of (by kernel_rfl))) (dpgs_cons (dpgn 1 (nd_of (by kernel_rfl))) dpgs_nil)) (by rfl) (by rfl)),dpts_nil,(dpb_for (by rfl) (by rfl) (by rfl) (by exact λ_=>rfl) (dpi_enum (by rfl) (by rfl) (by exact T.enumerate) (dpa_cons (dpv 1) dpa_nil) (by rfl)) (dpg_tup 2 (by rfl) (by rfl) (dpgs_cons (dpgn 2 (nd_of (by kernel_rfl))) (dpgs_cons (dpgn 3 (nd_of (by kernel_rfl))) dpgs_nil)) (by rfl) (by rfl)) dpts_nil (dpb_emit (by rfl) (by rfl) (dpe_or (dpe_cmp (dop_eq (by rfl) (by exact hr.units)) (dpv 3) dpe_int (nomark _)) (dpe_one (dpe_cmp (dop_eq (by rfl) (by exact hr.units)) (dpv 0) (dpv 2) (nomark _))))))⟩)) dpa_nil)))),λds Qd h=>?_⟩
 obtain ⟨g,n,m,b,rfl,sh,hn,hm,hb,q⟩:=h
 show (_:TSD) _ [some (false,gD g)] _
 have hgl:=sh.1
 cbv
 rw[enum_eq,length_map,hgl]
 refine lc_flat1 (L:=List.range n) (λi=>.tuple [.int ((0+i:Nat):Int),(g.map iD).getD i (.int 0)]) (λi=>(List.range m).map λj=>.bool (mat g i j==0||i==j)) (λi hi es Q' hl q'=>?_) ?_ ?_
 ·have hi':=mem_range.mp hi
  obtain ⟨r,r1,r2,r3⟩:=sh.row hi'
  rw[show (g.map iD).getD i (.int 0)=iD r by rw[getD_eq_getElem?_getD,List.getElem?_map,r1];rfl]
  rw[length_map,length_range] at hl
  cbv
  rw[enum_eq,length_map,r2]
  refine go_map1 (λj:Nat=>.tuple [.int ((0+j:Nat):Int),(r.map PyData.int).getD j (.int 0)]) (λj=>.bool (mat g i j==0||i==j)) (List.range m) es (λj hj es Q' hl q'=>?_) (by rw[length_range];lia) q'
  have hj':=mem_range.mp hj
  rw[show (r.map PyData.int).getD j (.int 0)=.int (mat g i j) by
   rw[getD_eq_getElem?_getD,List.getElem?_map]
   obtain ⟨r',c1,c2,_⟩:=sh.cell hi' hj'
   rw[r1] at c1;cases c1
   rw[c2];rfl]
  cbv
  by_cases e:mat g i j=0
  ·rw[if_pos (by simpa using e)]
   have q2:Q' (es++[(PyData.bool true,true)]):=by
    have:(mat g i j==0||i==j)=true:=by simp[e]
    rw[this] at q';exact q'
   exact ⟨hl,trivial,q2⟩
  ·rw[if_neg (by simpa using e)]
   cbv
   have q2:Q' (es++[(PyData.bool (((0+i:Nat):Int)==((0+j:Nat):Int)),true)]):=by
    have:(mat g i j==0||i==j)=(((0+i:Nat):Int)==((0+j:Nat):Int)):=by
     rw[Bool.eq_iff_iff];simp[e];lia
    rw[this] at q';exact q'
   exact q2
 ·refine Nat.le_trans (flat_le1 (m:=8) (λi=>by rw[length_map,length_range];exact hm) _) ?_
  rw[length_range];lia
 ·have eb:((List.range n).flatMap λi=>(List.range m).map λj=>PyData.bool (mat g i j==0||i==j))=((List.range n).flatMap λi=>(List.range m).map λj=>(mat g i j==0||i==j)).map λb=>PyData.bool b:=by
   rw[List.map_flatMap]
   congr 1
   funext r
   rw[map_map];rfl
  rw[eb]
  cbv
  refine ⟨_,bools_map (λb=>b) _,?_⟩
  rw[show (((List.range n).flatMap λi=>(List.range m).map λj=>(mat g i j==0||i==j)).map λb=>b)=((List.range n).flatMap λi=>(List.range m).map λj=>(mat g i j==0||i==j)) from List.map_id _]
  cbv
  have:((List.range n).flatMap λi=>(List.range m).map λj=>(mat g i j==0||i==j)).all id=b:=by
   refine Bool.eq_iff_iff.mpr (Iff.trans ?_ hb.symm)
   rw[all_eq_true]
   refine ⟨λh i j hi hj hij=>?_,λh x hx=>?_⟩
   ·have:=h _ (List.mem_flatMap.mpr ⟨i,mem_range.mpr hi,mem_map.mpr ⟨j,mem_range.mpr hj,rfl⟩⟩)
    simp[hij] at this
    exact this
   ·obtain ⟨i,hi,hx⟩:=List.mem_flatMap.mp hx
    obtain ⟨j,hj,rfl⟩:=mem_map.mp hx
    by_cases e:i=j
    ·simp[e]
    ·simp[h i j (mem_range.mp hi) (mem_range.mp hj) e]
  rw[this]
  exact q
open M06 (Bt Shr Ch CI two SI Reg Out rowsE ext Ph Fi Sm)
theorem ow_ints {H:Hp}:∀ {r:List Int} {us:List V} {ms:List Addr},Ows K H us (r.map PyData.int) ms->us=r.map V.int/\ms=[]
 | [],_,_,h=>by cases h;exact ⟨rfl,rfl⟩
 | x::r,_,_,h=>by
  cases h with
  | cons h1 h2 =>
   cases h1
   obtain ⟨e1,e2⟩:=ow_ints h2
   subst e1;subst e2
   exact ⟨rfl,rfl⟩
theorem ow_row {H:Hp} {r:List Int} {v:V} {ms:List Addr} (h:Ow K H v (iD r) ms):∃ a,v=.ref a/\ms=[a]/\H a=some (.lst (r.map V.int)):=by
 unfold iD at h
 cases h with
 | lst h1 h2 =>
  obtain ⟨e1,e2⟩:=ow_ints h2
  subst e1;subst e2
  exact ⟨_,rfl,rfl,h1⟩
theorem ow_rows {H:Hp}:∀ {g:List (List Int)} {us:List V} {ms:List Addr},Ows K H us (g.map iD) ms->us=ms.map V.ref/\Rws H ms g
 | [],_,_,h=>by cases h;exact ⟨rfl,.nil⟩
 | x::g,_,_,h=>by
  cases h with
  | cons h1 h2 =>
   obtain ⟨a,rfl,rfl,ha⟩:=ow_row h1
   obtain ⟨e1,e2⟩:=ow_rows h2
   subst e1
   exact ⟨rfl,.cons ha e2⟩
theorem ow_grid {H:Hp} {g:List (List Int)} {v:V} {ms:List Addr} (h:Ow K H v (gD g) ms):∃ (a:Addr) (rs:List Addr),v=.ref a/\ms=a::rs/\H a=some (.lst (rs.map V.ref))/\Rws H rs g:=by
 unfold gD at h
 cases h with
 | lst h1 h2 =>
  obtain ⟨e1,e2⟩:=ow_rows h2
  subst e1
  exact ⟨_,_,rfl,rfl,h1,e2⟩
theorem dn_grid {H:Hp} {a:Addr} {rs:List Addr} {g:List (List Int)} (h:H a=some (.lst (rs.map V.ref))) (R:Rws H rs g):Dn K H (.ref a) (gD g):=.lst h R.dns
theorem c_plain {H:Hp} {n:Nat} {Q:VK} {E:XK} (hn:n<=8) (q:∀ a rs H',Same H H'->(a::rs).Nodup->(∀ x∈a::rs,H x=none)->H' a=some (.lst (rs.map V.ref))->Rws H' rs (tab n n MDet.idm)->Q (.ref a) H'):SpL K sp_plain [.int n] H Q E:=by
 refine ⟨[.int n],λd o=>d=gD (tab n n MDet.idm)/\o=true,Xf,.cons (.int _) .nil,⟨n,rfl,hn,rfl,rfl⟩,λd o v H' e sm r=>?_,λ_ _ z _=>z.elim⟩
 obtain ⟨rfl,rfl⟩:=e
 obtain ⟨ms,ow,nd,fr⟩:=r
 obtain ⟨a,rs,rfl,rfl,h1,h2⟩:=ow_grid ow
 exact q a rs H' sm nd fr h1 h2
theorem c_flip {H:Hp} {p:Addr} {ps:List Addr} {g:List (List Int)} {n m:Nat} {Q:VK} {E:XK} (hp:H p=some (.lst (ps.map V.ref))) (R:Rws H ps g) (sh:Sh n m g) (h1:1<=n) (h8:n<=8) (hm:m<=8) (q:∀ a rs H',Same H H'->(a::rs).Nodup->(∀ x∈a::rs,H x=none)->H' a=some (.lst (rs.map V.ref))->Rws H' rs (tab m n λi j=>gm g j i)->Q (.ref a) H'):SpL K sp_flip [.ref p] H Q E:=by
 refine ⟨[gD g],λd o=>d=gD (tab m n λi j=>gm g j i)/\o=true,Xf,.cons (dn_grid hp R) .nil,⟨g,n,m,rfl,sh,h1,h8,hm,rfl,rfl⟩,λd o v H' e sm r=>?_,λ_ _ z _=>z.elim⟩
 obtain ⟨rfl,rfl⟩:=e
 obtain ⟨ms,ow,nd,fr⟩:=r
 obtain ⟨a,rs,rfl,rfl,h1,h2⟩:=ow_grid ow
 exact q a rs H' sm nd fr h1 h2
theorem c_diag {H:Hp} {p:Addr} {ps:List Addr} {g:List (List Int)} {n m:Nat} {Q:VK} {E:XK} (hp:H p=some (.lst (ps.map V.ref))) (R:Rws H ps g) (sh:Sh n m g) (h8:n<=8) (hm:m<=8) (q:∀ (b:Bool) H',Same H H'->(b=true ↔ ∀ i j,i < n->j < m->i≠j->gm g i j=0)->Q (.bl b) H'):SpL K sp_diag [.ref p] H Q E:=by
 obtain ⟨b,hb⟩:∃ b:Bool,(b=true ↔ ∀ i j,i < n->j < m->i≠j->gm g i j=0):=by
  by_cases h:∀ i j,i < n->j < m->i≠j->gm g i j=0
  ·exact ⟨true,⟨λ_=>h,λ_=>rfl⟩⟩
  ·exact ⟨false,⟨λz=>by simp at z,λz=>absurd z h⟩⟩
 refine ⟨[gD g],λd o=>d=.bool b,Xf,.cons (dn_grid hp R) .nil,⟨g,n,m,b,rfl,sh,h8,hm,hb,rfl⟩,λd o v H' e sm r=>?_,λ_ _ z _=>z.elim⟩
 subst e
 have hv:Dn K H' v (.bool b):=by
  cases o with
  | true=>obtain ⟨ms,h1,_⟩:=r;exact h1.den
  | false=>exact r
 cases hv
 exact q b H' sm hb
theorem gm_map {T:List (List Int)} {f:List Int->List Int} {i:Nat} {z:List Int} (h:T[i]?=some z):gm (T.map f) i=gv (f z):=gm_get (by rw[List.getElem?_map,h];rfl)
theorem gv_app {a b:List Int}:gv (a++b)=ext a.length (gv a) (gv b):=by
 funext j
 unfold gv ext
 split
 ·rename_i h;rw[getD_eq_getElem?_getD,List.getElem?_append_left h,<-getD_eq_getElem?_getD]
 ·rename_i h;rw[getD_eq_getElem?_getD,List.getElem?_append_right (by lia),<-getD_eq_getElem?_getD]
theorem gv_parts {z:List Int} {m:Nat} (h:m<=z.length):gv z=ext m (gv (z.take m)) (gv (z.drop m)):=by
 have:=@gv_app (z.take m) (z.drop m)
 rw[List.take_append_drop,length_take,Nat.min_eq_left h] at this
 exact this
theorem out_of {n m:Nat} {U Z:List (List Int)} (hl:∀ z∈U++Z,z.length=m+n) (hn:(U++Z).length=n):Out n m (U.map gv) (Z.map gv) (gm ((U++Z).map λz=>z.take m)) (gm ((U++Z).map λz=>z.drop m)):=by
 refine ⟨by rw[<-map_append,length_map,hn],λi hi j hj=>?_⟩
 obtain ⟨z,hz⟩:∃ z,(U++Z)[i]?=some z:=⟨_,List.getElem?_eq_getElem (by lia)⟩
 rw[gm_map hz,gm_map hz,<-map_append,getD_eq_getElem?_getD,List.getElem?_map,hz,<-gv_parts (by have:=hl z (mem_of_getElem? hz);lia)]
 rfl
theorem c_stair {H:Hp} {g b:Addr} {gs bs:List Addr} {G B:List (List Int)} {n m Y X C D E K1 KK:Nat} {Q:VK} {Ex:XK} (hg:H g=some (.lst (gs.map V.ref))) (hb:H b=some (.lst (bs.map V.ref))) (RG:Rws H gs G) (RB:Rws H bs B) (sG:Sh n m G) (sB:Sh n n B) (n0:1<=n/\n<=8) (m0:1<=m/\m<=8)
  (Rg:Reg m (rowsE n m (gm G) (gm B)) Y X C D) (bG:∀ i j,i < n->j < m->Bt E (gm G i j)) (bB:∀ i j,i < n->j < n->Bt E (gm B i j)) (hK:2*Y+9*X+40<=K1) (hKK:16*K1<=KK) (bits:2*(E+9*KK)+1000<=134217728)
  (q:∀ (H':Hp) (p p1 p2:Addr) (ts us:List Addr) (M L:List (List Int)) (U Z:List M06.V),Same H H'->SqT K H' p [.ref p1,.ref p2]->H' p1=some (.lst (ts.map V.ref))->H' p2=some (.lst (us.map V.ref))->Rws H' ts M->Rws H' us L->Sh n m M->Sh n n L->(p1::ts++p2::us).Nodup->(∀ x∈p1::ts++p2::us,H x=none)->SI m (m+n) (rowsE n m (gm G) (gm B)) X E KK n U Z->Out n m U Z (gm M) (gm L)->Q (.ref p) H'):sp_staired (K:=K) [.ref g,.ref b] H Q Ex:=by
 refine ⟨g,b,m+n,m,Y,X,C,D,E,K1,KK,G,B,gs,bs,rowsE n m (gm G) (gm B),rfl,hg,hb,RG,RB,⟨sG.2,λz hz=>by rw[sB.2 z hz];lia,by rw[sG.1,sB.1],⟨by rw[M06.rowsE_len,sG.1],λi a c ha hc=>?_⟩,by rw[sG.1];exact n0.1,by rw[sG.1];exact n0.2,m0.1,by lia,Rg,M06.rowsE_bt rfl bG bB,hK,hKK,bits⟩,λH' p p1 p2 ts us U Z sm hp h1 h2 R1 R2 hl nd fr S=>?_⟩
 ·have hi:i < n:=by rw[<-sG.1];exact (List.getElem?_eq_some_iff.mp ha).1
  rw[M06.rowsE_get hi,gm_get ha,gm_get hc,gv_app,sG.2 a (mem_of_getElem? ha)]
 ·rw[sG.1] at S
  have hn:(U++Z).length=n:=by have:=S.len;rw[length_map,length_map] at this;rw[length_append];exact this
  refine q H' p p1 p2 ts us _ _ _ _ sm hp h1 h2 R1 R2 ⟨by rw[length_map,hn],λr hr=>?_⟩ ⟨by rw[length_map,hn],λr hr=>?_⟩ nd fr S (out_of hl hn)
  ·obtain ⟨z,hz,rfl⟩:=mem_map.mp hr
   rw[length_take,hl z hz];lia
  ·obtain ⟨z,hz,rfl⟩:=mem_map.mp hr
   rw[length_drop,hl z hz];lia
theorem mat_gm:mat=gm:=rfl
section
variable {a l r:Addr} {ms ls rs:List Addr}
theorem nd_app {A B:List Addr} (h1:A.Nodup) (h2:B.Nodup) (h:∀ x∈A,x∉B):(A++B).Nodup:=nodup_append.mpr ⟨h1,h2,λx hx y hy e=>h x hx (e ▸ hy)⟩
theorem tri_perm:List.Perm (a::l::r::(ms++(ls++rs))) (l::ls++(r::rs++a::ms)):=by
 refine List.perm_iff_count.mpr λx=>?_
 simp only[List.count_cons,List.count_append]
 lia
theorem nd_tri:(a::l::r::(ms++(ls++rs))).Nodup ↔ (l::ls++(r::rs++a::ms)).Nodup:=tri_perm.nodup_iff
theorem mem_tri {x:Addr}:x∈a::l::r::(ms++(ls++rs)) ↔ x∈l::ls++(r::rs++a::ms):=tri_perm.mem_iff
theorem some_of {H:Hp} {p:Addr} {ts:List Addr} {T:List (List Int)} (hp:H p=some (.lst (ts.map V.ref))) (R:Rws H ts T):∀ x∈p::ts,H x≠none:=λx hx=>by
 rcases mem_cons.mp hx with rfl|hx
 ·rw[hp];exact λz=>by cases z
 ·obtain ⟨o,e⟩:=R.mem hx
  rw[e];exact λz=>by cases z
theorem no_of {H H':Hp} {x:Addr} (sm:Same H H') (h:H' x=none):H x=none:=by
 cases e:H x with
 | none=>rfl
 | some o=>rw[sm _ _ e] at h;cases h
end
abbrev s_corner_form:Stmt:=top 13
theorem sc_corner_form:FnScope ["grid","middle","left","turned_right","settled","turned"] ["grid"] (defScope s_corner_form):=by walk_at "sc"
structure CfOk (n m:Nat) (G:List (List Int)):Prop where
 sh:Sh n m G
 n0:1<=n/\n<=8
 m0:1<=m/\m<=8
 bt:∀ i j,i < n->j < m->Bt 103 (gm G i j)
 few:n+m<=8\/∀ i j,i < n->j < m->Bt 50 (gm G i j)
structure CfEnd (n m:Nat) (G:List (List Int)) (H H':Hp) (p:Addr) (pl pm pr:Addr) (ls ms rs:List Addr) (L C R:List (List Int)):Prop where
 sm:Same H H'
 tp:H' p=some (.tup [.ref pl,.ref pm,.ref pr])
 hl:H' pl=some (.lst (ls.map V.ref))
 hm:H' pm=some (.lst (ms.map V.ref))
 hr:H' pr=some (.lst (rs.map V.ref))
 RL:Rws H' ls L
 RC:Rws H' ms C
 RR:Rws H' rs R
 nd:(pl::ls++(pm::ms++pr::rs)).Nodup
 fr:∀ x∈p::(pl::ls++(pm::ms++pr::rs)),H x=none
 sL:Sh n n L
 sC:Sh n m C
 sR:Sh m m R
 sm6:Sm n m (gm G) (gm L) (gm C) (λi j=>gm R j i)
 bL:∀ i j,i < n->j < n->Bt 8000000 (gm L i j)
 bC:∀ i j,i < n->j < m->Bt 425 (gm C i j)
 bR:∀ i j,i < m->j < m->Bt 8000000 (gm R i j)
def sp_cf:Sp:=λvs H Q _=>∃ (g:Addr) (n m:Nat) (G:List (List Int)) (gs:List Addr),vs=[.ref g]/\H g=some (.lst (gs.map V.ref))/\Rws H gs G/\CfOk n m G/\∀ (H':Hp) (p pl pm pr:Addr) (ls ms rs:List Addr) (L C R:List (List Int)),CfEnd n m G H H' p pl pm pr ls ms rs L C R->Q (.ref p) H'
theorem ok_corner_form {f:Addr} {fd:FuncData} (F:Fun K "corner_form" "corner_form" s_corner_form f fd) (T:Blt mg) (D_plain_grid:Df P w K mg base "plain_grid" ["n"] 1 (SpL K sp_plain)) (D_flipped:Df P w K mg base "flipped" ["grid"] 1 (SpL K sp_flip)) (D_is_diagonal:Df P w K mg base "is_diagonal" ["grid"] 1 (SpL K sp_diag)) (D_staired:Df P w K mg base "staired" ["grid","beside"] 44 (sp_staired (K:=K))) (D_chain_corners:Df P w K mg base "chain_corners" ["middle","left","turned_right"] 43 sp_chain):FnOk P w K mg base CX0 45 f fd ["grid"] sp_cf:=by
 refine F.ok sc_corner_form (λvs H Q E h=>?_) (λcdv A outer s H vs Q E hr h=>?_)
 ·obtain ⟨g,n,m,G,gs,rfl,_⟩:=h;rfl
 obtain ⟨g,n,m,G,gs,rfl,hg,RG,O,q⟩:=h
 refine qmk (qpss_cons (qpset 1 sc_corner_form.nd (qpv 0))
   (qpss_cons (qpset 2 sc_corner_form.nd (qpe_df (by exact D_plain_grid) (by exact hr.mono (by decide)) (qpa_cons (qpe_callB (call_lenK K (by rfl)) (by rfl) (by exact T.len) (by decide +kernel) (qpa_cons (qpv 0) qpa_nil)) qpa_nil)))
   (qpss_cons (qpset 3 sc_corner_form.nd (qpe_df (by exact D_plain_grid) (by exact hr.mono (by decide)) (qpa_cons (qpe_callB (call_lenK K (by rfl)) (by rfl) (by exact T.len) (by decide +kernel) (qpa_cons (qpe_ix (ix_listK K (by rfl)) (qpv 0) qpe_int (λ_ _=>rfl)) qpa_nil)) qpa_nil)))
   (qpss_cons (qpset 4 sc_corner_form.nd qpe_bl)
   (qpss_cons (qps_while PassesOwn.never (qpt_not (qpt_val (qpv 4))) (qpss_cons (qps_asg (qpe_df (by exact D_staired) (by exact hr.mono (by decide)) (qpa_cons (qpv 1) (qpa_cons (qpv 2) qpa_nil))) (qpg_tupK K 2 (by rfl) (by rfl) (qpgs_cons (qpgn 1 sc_corner_form.nd) (qpgs_cons (qpgn 2 sc_corner_form.nd) qpgs_nil)) (by rfl) (by rfl)))
   (qpss_cons (qps_asg (qpe_df (by exact D_staired) (by exact hr.mono (by decide)) (qpa_cons (qpe_df (by exact D_flipped) (by exact hr.mono (by decide)) (qpa_cons (qpv 1) qpa_nil)) (qpa_cons (qpv 3) qpa_nil))) (qpg_tupK K 2 (by rfl) (by rfl) (qpgs_cons (qpgn 5 sc_corner_form.nd) (qpgs_cons (qpgn 3 sc_corner_form.nd) qpgs_nil)) (by rfl) (by rfl)))
   (qpss_cons (qpset 1 sc_corner_form.nd (qpe_df (by exact D_flipped) (by exact hr.mono (by decide)) (qpa_cons (qpv 5) qpa_nil)))
   (qpss_one (qpset 4 sc_corner_form.nd (qpe_df (by exact D_is_diagonal) (by exact hr.mono (by decide)) (qpa_cons (qpv 1) qpa_nil))))))))
   (qpss_cons (qps_expr (qpe_df (by exact D_chain_corners) (by exact hr.mono (by decide)) (qpa_cons (qpv 1) (qpa_cons (qpv 2) (qpa_cons (qpv 3) qpa_nil)))))
   (qpss_one (qps_ret (qpe_tup (qpa_cons (qpv 2) (qpa_cons (qpv 1) (qpa_cons (qpe_df (by exact D_flipped) (by exact hr.mono (by decide)) (qpa_cons (qpv 3) qpa_nil)) qpa_nil)))))))))))) ?_
 show (_:TS) _ [some (.ref g),none,none,none,none,none] H
 walk_at "rd"
 have n0:=O.n0
 have m0:=O.m0
 have shG:=O.sh
 have gsl:=RG.len
 have Gl:=O.sh.1
 obtain ⟨z0,G0⟩:∃ z,G[0]?=some z:=⟨_,List.getElem?_eq_getElem (by lia)⟩
 obtain ⟨p0,g0,hp0⟩:=RG.get G0
 have z0l:=O.sh.2 z0 (mem_of_getElem? G0)
 refine ⟨_,.inl (SqL.of hg),?_⟩
 rw[length_map,gsl,Gl]
 refine c_plain n0.2 λl0 ls0 H1 sm1 nd1 fr1 hl0 RL0=>?_
 refine ⟨_,SqL.of (sm1 _ _ hg),_,show atI _ ((0:Nat):Int)=_ from atI_nat (by rw[List.getElem?_map,g0];rfl),p0,rfl,_,.inl (SqL.of (sm1 _ _ hp0)),?_⟩
 rw[length_map,z0l]
 refine c_plain m0.2 λr0 rs0 H2 sm2 nd2 fr2 hr0 RR0=>?_
 refine ⟨λμ σ H3=>∃ (a l r:Addr) (ms ls rs:List Addr) (M L R:List (List Int)) (b:Bool) (x5:Option V),σ=[some (.ref g),some (.ref a),some (.ref l),some (.ref r),some (.bl b),x5]/\Same H H3/\H3 a=some (.lst (ms.map V.ref))/\H3 l=some (.lst (ls.map V.ref))/\H3 r=some (.lst (rs.map V.ref))/\Rws H3 ms M/\Rws H3 ls L/\Rws H3 rs R/\Sh n m M/\Sh n n L/\Sh m m R /\
  ((b=false/\μ=9*426+2/\M=G/\L=tab n n MDet.idm/\R=tab m m MDet.idm)\/(∃ (k:Nat) (T:List M06.V) (s lv:Nat),Ph n m k 425 103 (gm G) (gm M) (gm L) (gm R) T s lv/\(b=true ↔ ∀ i j,i < n->j < m->i≠j->gm M i j=0)/\μ=(k - s)*426+lv+1/\(a::l::r::(ms++(ls++rs))).Nodup/\∀ x∈a::l::r::(ms++(ls++rs)),H x=none)),
  ⟨_,g,l0,r0,gs,ls0,rs0,G,_,_,false,_,rfl,sm1.trans sm2,sm2 _ _ (sm1 _ _ hg),sm2 _ _ hl0,hr0,RG.same (sm1.trans sm2),RL0.same sm2,RR0,O.sh,tab_sh _ _ _,tab_sh _ _ _,.inl ⟨rfl,rfl,rfl,rfl,rfl⟩⟩,?_⟩
 rintro μ σ H3 ⟨a,l,r,ms,ls,rs,M,L,R,b,x5,rfl,sm3,ha,hl,hr,RM,RL,RR,sM,sL,sR,st⟩
 walk_at "rd"
 have bid:∀ {i j e:Nat},1<=e->Bt e (MDet.idm i j):=λ{i j e} he=>by
  refine Bt.up (b:=1) ?_ he
  unfold MDet.idm
  split
  ·show (1:Int).natAbs < 2 ^ 1;decide
  ·show (0:Int).natAbs < 2 ^ 1;decide
 have gid:∀ {n i j:Nat},i < n->j < n->gm (tab n n MDet.idm) i j=MDet.idm i j:=λhi hj=>by rw[<-mat_gm];exact tab_mat hi hj
 have gtr:∀ {n m i j:Nat} {F:List (List Int)},i < m->j < n->gm (tab m n λi j=>gm F j i) i j=gm F j i:=λhi hj=>by rw[<-mat_gm];exact tab_mat hi hj
 cases b with
 | false =>
  rw[if_pos (by rfl)]
  refine ⟨_,λσ' H' h=>h,?_⟩
  have tail:∀ (H5:Hp) (pl:Addr) (us:List Addr) (L1:List (List Int)) (q1:Addr) (ts2:List Addr) (M2:List (List Int)) (pr:Addr) (us2:List Addr) (R2:List (List Int)) (k:Nat) (T:List M06.V) (s lv:Nat),Same H H5->H5 pl=some (.lst (us.map V.ref))->Rws H5 us L1->Sh n n L1->H5 q1=some (.lst (ts2.map V.ref))->Rws H5 ts2 M2->Sh m n M2->H5 pr=some (.lst (us2.map V.ref))->Rws H5 us2 R2->Sh m m R2->(pl::us++pr::us2).Nodup->(∀ x∈pl::us++pr::us2,H x=none)->Ph n m k 425 103 (gm G) (λi j=>gm M2 j i) (gm L1) (gm R2) T s lv->(k - s)*426+lv+1 < μ ->
   SpL K sp_flip [V.ref q1] H5 (λx H1=>SpL K sp_diag [x] H1 (λx_1 H'=>∃ m',m' < μ/\∃ (a l r:Addr) (ms ls rs:List Addr) (M L R:List (List Int)) (b:Bool) (x5:Option V),[some (V.ref g),some x,some (.ref pl),some (.ref pr),some x_1,some (.ref q1)]=[some (.ref g),some (.ref a),some (.ref l),some (.ref r),some (.bl b),x5]/\Same H H'/\H' a=some (.lst (ms.map V.ref))/\H' l=some (.lst (ls.map V.ref))/\H' r=some (.lst (rs.map V.ref))/\Rws H' ms M/\Rws H' ls L/\Rws H' rs R/\Sh n m M/\Sh n n L/\Sh m m R /\
  ((b=false/\m'=9*426+2/\M=G/\L=tab n n MDet.idm/\R=tab m m MDet.idm)\/(∃ (k:Nat) (T:List M06.V) (s lv:Nat),Ph n m k 425 103 (gm G) (gm M) (gm L) (gm R) T s lv/\(b=true ↔ ∀ i j,i < n->j < m->i≠j->gm M i j=0)/\m'=(k - s)*426+lv+1/\(a::l::r::(ms++(ls++rs))).Nodup/\∀ x∈a::l::r::(ms++(ls++rs)),H x=none))) E0) E0:=λH5 pl us L1 q1 ts2 M2 pr us2 R2 k T s lv sm5 h1 h2 h3 h4 h5 h6 h7 h8 h9 nd fr P hμ=>by
   refine c_flip h4 h5 h6 m0.1 m0.2 n0.2 λa6 rs6 H6 sm6 nd6 fr6 ha6 R6=>?_
   have sN:=tab_sh n m λi j=>gm M2 j i
   refine c_diag ha6 R6 sN n0.2 m0.2 λb H7 sm7 hb=>?_
   have P':=P.congr (N:=gm (tab n m λi j=>gm M2 j i)) λi j hi hj=>(gtr hi hj).symm
   refine ⟨_,hμ,a6,pl,pr,rs6,us,us2,_,L1,R2,b,_,rfl,(sm5.trans sm6).trans sm7,sm7 _ _ ha6,sm7 _ _ (sm6 _ _ h1),sm7 _ _ (sm6 _ _ h7),R6.same sm7,h2.same (sm6.trans sm7),h8.same (sm6.trans sm7),sN,h3,h9,.inr ⟨k,T,s,lv,P',hb,rfl,nd_tri.mpr ?_,λx hx=>?_⟩⟩
   ·rw[<-append_assoc]
    refine nd_app nd nd6 λx hx hy=>?_
    have:=fr6 x hy
    rcases mem_append.mp hx with hx|hx
    ·exact some_of h1 h2 x hx this
    ·exact some_of h7 h8 x hx this
   ·have hx:=mem_tri.mp hx
    rw[<-append_assoc] at hx
    rcases mem_append.mp hx with hx|hx
    ·exact fr x hx
    ·exact no_of sm5 (fr6 x hx)
  have hEF2:∀ x,M06.E1 425 103+(9*(425+1) - x)*(425+11)<=M06.EF 425 103:=λx=>by
   have:=Nat.mul_le_mul_right (425+11) (show 9*(425+1) - x<=9*(425+1) by lia)
   unfold M06.EF;lia
  rcases st with ⟨_,rfl,rfl,rfl,rfl⟩|⟨k,T,s,lv,P,hb,rfl,_,_⟩
  ·have Rg:Reg m (rowsE n m _ (gm (tab n n MDet.idm))) 425 (M06.X1 425 103) (2*425+2) 425:=M06.first_all (L:=gm (tab n n MDet.idm)) n0.2 m0.2 O.bt O.few
   refine c_stair ha hl RM RL sM sL n0 m0 Rg (λi j hi hj=>(O.bt i j hi hj).up (by decide)) (λi j hi hj=>by rw[gid hi hj];exact bid (by decide)) (E:=M06.X1 425 103) (K1:=(M06.K1 425 103)) (KK:=16*(M06.K1 425 103)) (by decide) (Nat.le_refl _) (by decide) λH4 p p1 p2 ts us M1 L1 U Z sm4 hp h1 h2 R1 R2 s1 s2 nd4 fr4 I O1=>⟨p,rfl,_,hp,rfl,_,_,rfl,_,_,rfl,rfl,?_⟩
   refine c_flip h1 R1 s1 n0.1 n0.2 m0.2 λf1 fs H5 sm5 nd5 fr5 hf Rf=>?_
   have Fi1:=M06.first_half (D:=425) (b:=103) n0.2 Rg (M06.Rel.start (λi j hi hj=>gid hi hj) λi j hi hj=>gid hi hj) (M06.Gen.id λi j hi hj=>gid hi hj) (M06.Gen.id λi j hi hj=>gid hi hj) (λi j hi hj=>by rw[gid hi hj];exact bid (by decide)) I O1
   have er:=M06.rowsE_congr (n:=m) (m:=n) (M:=gm (tab m n λi j=>gm M1 j i)) (N:=λi j=>gm M1 j i) (L:=gm (tab m m MDet.idm)) λi j hi hj=>gtr hi hj
   have Rg2:=Fi1.reg
   rw[<-er] at Rg2
   refine c_stair hf (sm5 _ _ (sm4 _ _ hr)) Rf (RR.same (sm4.trans sm5)) (tab_sh m n _) sR m0 n0 Rg2 (λi j hi hj=>by rw[gtr hi hj];exact Fi1.cB j i hj hi) (λi j hi hj=>(Fi1.br i j hi hj).up (by decide)) (E:=M06.X1 425 103) (K1:=(M06.K2 425 103)) (KK:=16*(M06.K2 425 103)) (by decide) (Nat.le_refl _) (by decide) λH6 q' q1 q2 ts2 us2 M2 R2' U2 Z2 sm6 hq k1 k2 R6 R7 s6 s7 nd6 fr6 I2 O2=>⟨q',rfl,_,hq,rfl,_,_,rfl,_,_,rfl,rfl,?_⟩
   have nda:=(nodup_append.mp nd4).2.1
   have ndb:=(nodup_append.mp nd6).2.1
   have hp25:=sm5 _ _ h2
   have R25:=R2.same sm5
   have ndc:(p2::us++q2::us2).Nodup:=nd_app nda ndb λx hx hy=>some_of hp25 R25 x hx (fr6 x (mem_append_right _ hy))
   have frc:∀ x∈p2::us++q2::us2,H x=none:=λx hx=>by
    rcases mem_append.mp hx with hx|hx
    ·exact no_of sm3 (fr4 x (mem_append_right _ hx))
    ·exact no_of ((sm3.trans sm4).trans sm5) (fr6 x (mem_append_right _ hx))
   rw[er] at I2
   have P:=Fi1.half m0.2 I2 O2
   exact tail H6 p2 us L1 q1 ts2 M2 q2 us2 R2' _ _ _ _ (((sm3.trans sm4).trans sm5).trans sm6) (sm6 _ _ hp25) (R25.same sm6) s2 k1 R6 s6 k2 R7 s7 ndc frc P (by have:=Fi1.len.1;lia)
  ·have Rg:=P.reg
   have hsk:s < k:=Nat.lt_of_le_of_ne P.ms.sr λe=>by
    have:=hb.mpr λi j hi hj hij=>P.diag e hi hj hij
    simp at this
   have hEF:=hEF2 ((k - s)*(425+1)+lv)
   refine c_stair ha hl RM RL sM sL n0 m0 Rg (λi j hi hj=>(P.cB hi hj).up (by decide)) (λi j hi hj=>(P.bl i j hi hj).up hEF) (E:=M06.EF 425 103) (K1:=(M06.K3 425)) (KK:=16*(M06.K3 425)) (by decide) (Nat.le_refl _) (by decide) λH4 p p1 p2 ts us M1 L1 U Z sm4 hp h1 h2 R1 R2 s1 s2 nd4 fr4 I O1=>⟨p,rfl,_,hp,rfl,_,_,rfl,_,_,rfl,rfl,?_⟩
   refine c_flip h1 R1 s1 n0.1 n0.2 m0.2 λf1 fs H5 sm5 nd5 fr5 hf Rf=>?_
   obtain ⟨s',l',P1,hμ1,hd1⟩:=P.half (by decide) (.inl hsk) I O1
   have hl1:s' < k\/1<=l':=by lia
   have P2:=P1.congr (N:=gm (tab m n λi j=>gm M1 j i)) λi j hi hj=>(gtr hi hj).symm
   have Rg2:=P2.reg
   refine c_stair hf (sm5 _ _ (sm4 _ _ hr)) Rf (RR.same (sm4.trans sm5)) (tab_sh m n _) sR m0 n0 Rg2 (λi j hi hj=>(P2.cB hi hj).up (by decide)) (λi j hi hj=>(P2.bl i j hi hj).up (hEF2 _)) (E:=M06.EF 425 103) (K1:=(M06.K3 425)) (KK:=16*(M06.K3 425)) (by decide) (Nat.le_refl _) (by decide) λH6 q' q1 q2 ts2 us2 M2 R2' U2 Z2 sm6 hq k1 k2 R6 R7 s6 s7 nd6 fr6 I2 O2=>⟨q',rfl,_,hq,rfl,_,_,rfl,_,_,rfl,rfl,?_⟩
   have nda:=(nodup_append.mp nd4).2.1
   have ndb:=(nodup_append.mp nd6).2.1
   have hp25:=sm5 _ _ h2
   have R25:=R2.same sm5
   have ndc:(p2::us++q2::us2).Nodup:=nd_app nda ndb λx hx hy=>some_of hp25 R25 x hx (fr6 x (mem_append_right _ hy))
   have frc:∀ x∈p2::us++q2::us2,H x=none:=λx hx=>by
    rcases mem_append.mp hx with hx|hx
    ·exact no_of sm3 (fr4 x (mem_append_right _ hx))
    ·exact no_of ((sm3.trans sm4).trans sm5) (fr6 x (mem_append_right _ hx))
   obtain ⟨s'',l'',P3,hμ3,_⟩:=P2.half (by decide) hl1 I2 O2
   exact tail H6 p2 us L1 q1 ts2 M2 q2 us2 R2' _ _ _ _ (((sm3.trans sm4).trans sm5).trans sm6) (sm6 _ _ hp25) (R25.same sm6) s2 k1 R6 s6 k2 R7 s7 ndc frc P3 (by lia)
 | true =>
  rw[if_neg (by simp)]
  rcases st with ⟨z,_⟩|⟨k,T,s,lv,P,hb,_,nd,fr⟩
  ·cases z
  have C:=P.ch (hb.mp rfl)
  have Z:Tri n m H3 a l r ms ls rs M L R:=⟨ha,hl,hr,RM,RL,RR,nd,n0,m0,sM,sL,sR⟩
  refine ⟨a,l,r,n,m,k,425,_,ms,ls,rs,M,L,R,gm G,_,rfl,Z,C,by decide,λH4 ls' rs' M' L' R' d' fr4 mem4 Z4 C4 ci=>?_⟩
  have sm4:Same H H4:=λx o h=>by
   refine fr4 x o (λhx=>?_) (sm3 x o h)
   have:=fr x (by
    simp only[mem_cons,mem_append] at hx ⊢
    rcases hx with h|h|h|h
    ·exact .inl h
    ·exact .inr (.inl h)
    ·exact .inr (.inr (.inl h))
    ·exact .inr (.inr (.inr (.inl h))))
   rw[this] at h;cases h
  refine c_flip Z4.hr Z4.RR Z4.lR m0.1 m0.2 m0.2 λa5 rs5 H5 sm5 nd5 fr5 ha5 R5=>?_
  refine ⟨Nat.le_of_lt (small_line (show 3 < 1000000 by decide)),λp hp=>?_⟩
  have sm6:Same H5 (upd H5 p (.tup [.ref l,.ref a,.ref a5])):=Same.new hp
  have nd4:=nd_tri.mp Z4.nd
  have ex:∀ x∈l::ls'++a::ms,H4 x≠none:=λx hx=>by
   rcases mem_append.mp hx with hx|hx
   ·exact some_of Z4.hl Z4.RL x hx
   ·exact some_of Z4.ha Z4.RM x hx
  obtain ⟨q1,q2,q3⟩:=nodup_append.mp nd4
  have ndA:(l::ls'++a::ms).Nodup:=nd_app q1 (nodup_append.mp q2).2.1 λx hx hy=>q3 x hx x (mem_append_right _ hy) rfl
  have frA:∀ x∈l::ls'++a::ms,H x=none:=λx hx=>by
   have up:∀ {x},x∈l::ls++(r::rs++a::ms)->H x=none:=λh=>fr _ (mem_tri.mpr h)
   rcases mem_append.mp hx with hx|hx
   ·rcases mem_cons.mp hx with rfl|hx
    ·exact up (mem_append_left _ mem_cons_self)
    ·rcases mem4 x (mem_append_left _ hx) with h|h
     ·refine up ?_
      rcases mem_append.mp h with h|h
      ·exact mem_append_left _ (mem_cons_of_mem _ h)
      ·exact mem_append_right _ (mem_append_left _ (mem_cons_of_mem _ h))
     ·exact no_of sm3 h
   ·exact up (mem_append_right _ (mem_append_right _ hx))
  refine q _ p l a a5 ls' ms rs5 L' M' _ ⟨(sm4.trans sm5).trans sm6,upd_same,sm6 _ _ (sm5 _ _ Z4.hl),sm6 _ _ (sm5 _ _ Z4.ha),sm6 _ _ ha5,Z4.RL.same (sm5.trans sm6),Z4.RM.same (sm5.trans sm6),R5.same sm6,?_,λx hx=>?_,Z4.lL,Z4.lM,tab_sh _ _ _,(C4.sm ci).congr λi j hi hj=>(gtr hj hi).symm,λi j hi hj=>(C4.bl i j hi hj).up (by decide),λi j hi hj=>?_,λi j hi hj=>by rw[gtr hi hj];exact (C4.br j i hj hi).up (by decide)⟩
  ·rw[<-append_assoc]
   exact nd_app ndA nd5 λx hx hy=>ex x hx (fr5 x hy)
  ·rcases mem_cons.mp hx with rfl|hx
   ·exact no_of (sm4.trans sm5) hp
   rw[<-append_assoc] at hx
   rcases mem_append.mp hx with hx|hx
   ·exact frA x hx
   ·exact no_of sm4 (fr5 x hx)
  ·rw[C4.cell i j hi hj]
   split
   ·rename_i z;exact C4.dD z.2
   ·exact .zero
def scr (ns:List Int):D:=.dict [(.none,.list (ns.map .int))]
abbrev s_l_cell_at:Stmt:=top 32
theorem sc_l_cell_at:FnScope ["_law_script","_law_k"] ["_law_script","_law_k"] (defScope s_l_cell_at):=by walk_at "sc"
def sp_cell:SpD:=λds Q _=>∃ (ns:List Int) (k:Int),ds=[scr ns,.int k]/\0<=k/\∀ z:Int,Q (.int z) true
theorem ok_l_cell_at {f:Addr} {fd:FuncData} (F:Fun K "_law_cell_at" "_law_cell_at" s_l_cell_at f fd) (T:Blt mg):FnOk P w K mg base CX0 1 f fd ["_law_script","_law_k"] (SpL K sp_cell):=by
 refine ok0 F sc_l_cell_at (λds Q X h=>?_) (λcdv A outer s H E hr=>?_) λds Qd Xd h=>h
 ·obtain ⟨ns,k,rfl,_⟩:=h;rfl
 refine ⟨_,(dpss_cons (dps_if (dpt_cmp dop_lt (dpv 1) (dpe_callB (dcl_len (by rfl)) (by rfl) (by exact T.len) (by decide +kernel) (dpa_cons (dpv 0) dpa_nil)) (nomark _)) (dpss_one (dps_ret (dpe_ix (dix (by rfl)) (dpv 0) (dpv 1) (λ_ _=>rfl)))) dpss_nil)
   (dpss_one (dps_ret dpe_int))),λds Qd h=>?_⟩
 obtain ⟨ns,k,rfl,hk,q⟩:=h
 show (_:TSD) _ [some (false,.dict [(.none,.list (ns.map .int))]),some (false,.int k)] _
 cbv
 refine ite2 (λh1=>?_) λ_=>?_
 ·cbv
  have hlt:k.toNat < ns.length:=by simp at h1;lia
  refine ⟨.int ns[k.toNat],?_,?_⟩
  ·have:=atI_nat (xs:=ns.map PyData.int) (j:=k.toNat) (v:=PyData.int ns[k.toNat]) (by simp[hlt])
   rw[show ((k.toNat:Nat):Int)=k from Int.toNat_of_nonneg hk] at this
   exact this
  ·exact q _
 ·cbv
  exact q _
abbrev s_l_big:Stmt:=top 33
theorem sc_l_big:FnScope ["_law_script","_law_at","_law_cell","_law_primes","_law_big_here","_law_k","_law_one"] ["_law_script","_law_at"] (defScope s_l_big):=by walk_at "sc"
def sp_big:SpD:=λds Q _=>∃ (ns:List Int) (k:Int),ds=[scr ns,.int k]/\0<=k/\∀ z:Int,0<=z->Q (.int z) true
theorem ok_l_big {f:Addr} {fd:FuncData} (F:Fun K "_law_big" "_law_big" s_l_big f fd) (T:Blt mg) (D_l_cell_at:Df P w K mg base "_law_cell_at" ["_law_script","_law_k"] 1 (SpL K sp_cell)):FnOk P w K mg base CX0 2 f fd ["_law_script","_law_at"] (SpL K sp_big):=by
 refine ok0 F sc_l_big (λds Q X h=>?_) (λcdv A outer s H E hr=>?_) λds Qd Xd h=>h
 ·obtain ⟨ns,k,rfl,_⟩:=h;rfl
 refine ⟨_,(dpss_cons (dpset 2 sc_l_big.nd (dpe_df (by exact D_l_cell_at) (by exact hr.mono (by lia)) (dpa_cons (dpv 0) (dpa_cons (dpv 1) dpa_nil))))
   (dpss_cons (dps_if (dpt_cmp dop_ge (dpv 2) (dpe_op dop_pow dpe_int dpe_int) (nomark _)) (dpss_one (dps_ret (dpv 2))) dpss_nil)
   (dpss_cons (dpset 3 sc_l_big.nd (dpe_tup (dpa_ints (by rfl))))
   (dpss_cons (dpset 4 sc_l_big.nd dpe_int)
   (dpss_cons (dps_for PassesOwn.never rfl (dpi_range1 (by rfl) (by exact T.range) (dpa_cons dpe_int dpa_nil)) (dpgn 5 sc_l_big.nd) (dpss_cons (dpset 6 sc_l_big.nd (dpe_op dop_add (dpe_op dop_add (dpe_op dop_mod (dpe_df (by exact D_l_cell_at) (by exact hr.mono (by lia)) (dpa_cons (dpv 0) (dpa_cons (dpe_op dop_add (dpv 1) (dpe_op dop_mod (dpv 5) dpe_int)) dpa_nil))) (dpe_op dop_pow dpe_int dpe_int)) (dpe_op dop_mul dpe_int (dpv 5))) dpe_int))
   (dpss_one (dpset 4 sc_l_big.nd (dpe_op dop_add (dpe_op dop_mul (dpv 4) dpe_int) (dpe_op dop_mod (dpe_op dop_mul (dpe_op dop_mod (dpe_op dop_add (dpe_op dop_mul (dpv 6) (dpv 6)) (dpe_op dop_mul dpe_int (dpv 5))) (dpe_ix (dix (by rfl)) (dpv 3) (dpe_op dop_mod (dpv 5) dpe_int) (λ_ _=>rfl))) (dpe_op dop_add (dpv 5) dpe_int)) dpe_int))))))
   (dpss_one (dps_ret (dpv 4)))))))),λds Qd h=>?_⟩
 obtain ⟨ns,k,rfl,hk,q⟩:=h
 show (_:TSD) _ [some (false,scr ns),some (false,.int k),none,none,none,none,none] _
 cbv
 refine ⟨ns,k,rfl,hk,λz=>?_⟩
 cbv
 refine ite2 (λh1=>?_) λh1=>?_
 ·cbv
  refine q z ?_
  have:(0:Int)<=10 ^ Int.toNat 18:=by decide
  simp at h1;lia
 cbv
 refine lp_rng (λi ρ=>∃ (b:Int) (x y:Option (Bool × D)),ρ=[some (false,scr ns),some (false,.int k),some (false,.int z),some (false,.tuple [.int 99989,.int 99971,.int 99961,.int 99929,.int 99923,.int 99907,.int 99901,.int 99881,.int 99877]),some (false,.int b),x,y]/\0<=b) ⟨0,_,_,rfl,by decide⟩ ?_ ?_
 ·rintro i ρ hi ⟨b,x,y,rfl,hb⟩
  cbv
  have h9:=Int.emod_nonneg (0+(i:Int)) (show (9:Int)≠0 by decide)
  have h9':=Int.emod_lt_of_pos (0+(i:Int)) (show (0:Int) < 9 by decide)
  refine ⟨ns,_,rfl,by lia,λc=>?_⟩
  cbv
  have c1:(10:Int) ^ Int.toNat 18=1000000000000000000:=by decide
  rw[c1]
  have hi':i < 64:=hi
  have h0:=Int.emod_nonneg c (show (1000000000000000000:Int)≠0 by decide)
  have h1:=Int.emod_lt_of_pos c (show (0:Int) < 1000000000000000000 by decide)
  refine ⟨CMul.ok (.inl ⟨by lia,by lia⟩),?_⟩
  cbv
  obtain ⟨m,hm,em⟩:∃ m:Nat,m < 9/\(0+(i:Int)) % 9=(m:Int):=⟨((0+(i:Int)) % 9).toNat,by lia,by lia⟩
  obtain ⟨pr,hpr,hpp⟩:∃ pr:Int,[PyData.int 99989,.int 99971,.int 99961,.int 99929,.int 99923,.int 99907,.int 99901,.int 99881,.int 99877][m]?=some (PyData.int pr)/\0 < pr/\pr < 100000:=by
   match m,hm with
   | 0,_=>exact ⟨_,rfl,by decide,by decide⟩
   | 1,_=>exact ⟨_,rfl,by decide,by decide⟩
   | 2,_=>exact ⟨_,rfl,by decide,by decide⟩
   | 3,_=>exact ⟨_,rfl,by decide,by decide⟩
   | 4,_=>exact ⟨_,rfl,by decide,by decide⟩
   | 5,_=>exact ⟨_,rfl,by decide,by decide⟩
   | 6,_=>exact ⟨_,rfl,by decide,by decide⟩
   | 7,_=>exact ⟨_,rfl,by decide,by decide⟩
   | 8,_=>exact ⟨_,rfl,by decide,by decide⟩
  refine ⟨.int pr,by rw[em];exact atI_nat hpr,?_⟩
  cbv
  refine ⟨CMul.ok (.inr ⟨by lia,by lia⟩),?_⟩
  cbv
  refine ⟨_,_,_,rfl,?_⟩
  have:=Int.emod_nonneg (((c % 1000000000000000000+7*(0+(i:Int))+1)*(c % 1000000000000000000+7*(0+(i:Int))+1)+31*(0+(i:Int))) % pr*(0+(i:Int)+3)) (show (8191:Int)≠0 by decide)
  lia
 ·rintro ρ ⟨b,x,y,rfl,hb⟩
  cbv
  exact q b hb
abbrev s_l_copy:Stmt:=top 36
theorem sc_l_copy:FnScope ["_law_grid"] ["_law_grid"] (defScope s_l_copy):=by walk_at "sc"
def Bd (m:Nat) (x:Int):Prop:=-(2 ^ m) < x/\x < 2 ^ m
def sp_copy:SpD:=λds Q _=>∃ (g:List (List Int)),ds=[gD g]/\g.length<=1000/\Q (gD g) true
theorem ok_l_copy {f:Addr} {fd:FuncData} (F:Fun K "_law_copy" "_law_copy" s_l_copy f fd) (T:Blt mg):FnOk P w K mg base CX0 1 f fd ["_law_grid"] (SpL K sp_copy):=by
 refine ok0 F sc_l_copy (λds Q X h=>?_) (λcdv A outer s H E hr=>?_) λds Qd Xd h=>h
 ·obtain ⟨b,rfl,_⟩:=h;rfl
 refine ⟨_,(dpss_one (dps_ret (dpe_lc ["_law_row"] [] rfl (LcScope.of (by kernel_rfl)) (dpi_list (by rfl) (dpv 0)) (λ_ _ _ _=>⟨(dpgn 0 (nd_of (by kernel_rfl))),dpts_nil,(dpb_emit (by rfl) (by rfl) (dpe_callTy (dcl_list (by rfl)) (by rfl) (by exact T.list) (by decide +kernel) (dpa_cons (dpv 0) dpa_nil)))⟩)))),λds Qd h=>?_⟩
 obtain ⟨g,rfl,hg,q⟩:=h
 show (_:TSD) _ [some (false,gD g)] _
 cbv
 refine lc_map id (λd hd es Q' hl q'=>?_) (by rw[length_map];lia) ?_
 ·obtain ⟨r,hr',rfl⟩:=mem_map.mp hd
  cbv
  exact q'
 ·cbv
  rw[List.map_id]
  exact q
theorem Bd.iff {m:Nat} {x:Int}:Bd m x ↔ x.natAbs < 2 ^ m:=by
 have e:((2 ^ m:Nat):Int)=(2:Int) ^ m:=by simp
 unfold Bd
 rw[<-e]
 lia
theorem Bd.mono {m n:Nat} {x:Int} (h:Bd m x) (l:m<=n):Bd n x :=
 Bd.iff.mpr (Nat.lt_of_lt_of_le (Bd.iff.mp h) (Nat.pow_le_pow_right (by decide) l))
theorem Bd.mul {m n:Nat} {x y:Int} (h:Bd m x) (h':Bd n y):Bd (m+n) (x*y):=by
 rw[Bd.iff,Int.natAbs_mul,Nat.pow_add]
 exact Nat.mul_lt_mul'' (Bd.iff.mp h) (Bd.iff.mp h')
theorem Bd.sub {m:Nat} {x y:Int} (h:Bd m x) (h':Bd m y):Bd (m+1) (x - y):=by
 have h1:=Bd.iff.mp h
 have h2:=Bd.iff.mp h'
 rw[Bd.iff,Nat.pow_succ]
 lia
theorem Bd.mulOk {m n:Nat} {x y:Int} (h:Bd m x) (h':Bd n y) (l:m+n<=134217728):IntMulOk x y:=mulB h.1 h.2 h'.1 h'.2 l
open M06 (Bt Sm)
theorem dns_rws {H:Hp}:∀ {us:List V} {g:List (List Int)},Dns K H us (g.map iD)->∃ rs:List Addr,us=rs.map V.ref/\Rws H rs g
 | [],[],_=>⟨[],rfl,.nil⟩
 | _::_,x::g,.cons h t=>by
  obtain ⟨a,rfl,ha⟩:=row_of h
  obtain ⟨rs,rfl,e2⟩:=dns_rws t
  exact ⟨a::rs,rfl,.cons ha e2⟩
theorem dn_rws {H:Hp} {v:V} {g:List (List Int)} (h:Dn K H v (gD g)):∃ (a:Addr) (rs:List Addr),v=.ref a/\H a=some (.lst (rs.map V.ref))/\Rws H rs g:=by
 obtain ⟨a,us,rfl,h1,h2⟩:=dns_of_lst h
 obtain ⟨rs,rfl,e⟩:=dns_rws h2
 exact ⟨a,rs,rfl,h1,e⟩
theorem ows_ints {H:Hp}:∀ (r:List Int),Ows K H (r.map V.int) (r.map PyData.int) []
 | []=>.nil
 | x::r=>.cons (ns:=[]) (ms:=[]) (.int x) (ows_ints r)
theorem Rws.ows {H:Hp} {rs:List Addr} {g:List (List Int)} (R:Rws H rs g):Ows K H (rs.map V.ref) (g.map iD) rs:=by
 induction R with
 | nil=>exact .nil
 | cons h _ ih=>exact .cons (ns:=[_]) (.lst h (ows_ints _)) ih
theorem Rws.ow {H:Hp} {a:Addr} {rs:List Addr} {g:List (List Int)} (ha:H a=some (.lst (rs.map V.ref))) (R:Rws H rs g):Ow K H (.ref a) (gD g) (a::rs):=.lst ha R.ows
structure CfData (n m:Nat) (G L C R:List (List Int)):Prop where
 sL:Sh n n L
 sC:Sh n m C
 sR:Sh m m R
 sm6:Sm n m (gm G) (gm L) (gm C) (λi j=>gm R j i)
 bL:∀ i j,i < n->j < n->Bt 8000000 (gm L i j)
 bC:∀ i j,i < n->j < m->Bt 425 (gm C i j)
 bR:∀ i j,i < m->j < m->Bt 8000000 (gm R i j)
def sp_cfD:SpD:=λds Q _=>∃ (n m:Nat) (G:List (List Int)),ds=[gD G]/\CfOk n m G/\∀ L C R,CfData n m G L C R->Q (.tuple [gD L,gD C,gD R]) true
theorem cf_of {vs:List V} {H:Hp} {Q:VK} {E:XK} (h:SpL K sp_cfD vs H Q E):sp_cf vs H Q E:=by
 obtain ⟨ds,Qd,Xd,hd,⟨n,m,G,rfl,O,q⟩,r,_⟩:=h
 obtain ⟨v,rfl,hv⟩:=dns1 hd
 obtain ⟨g,gs,rfl,hg,RG⟩:=dn_rws hv
 refine ⟨g,n,m,G,gs,rfl,hg,RG,O,λH' p pl pm pr ls ms rs L C R Z=>?_⟩
 refine r _ true _ _ (q L C R ⟨Z.sL,Z.sC,Z.sR,Z.sm6,Z.bL,Z.bC,Z.bR⟩) Z.sm ⟨pl::ls++(pm::ms++(pr::rs++[])),.tup (SqT.of Z.tp) (.cons (Z.RL.ow Z.hl) (.cons (Z.RC.ow Z.hm) (.cons (Z.RR.ow Z.hr) .nil))),?_,λx hx=>?_⟩
 ·rw[append_nil];exact Z.nd
 ·rw[append_nil] at hx;exact Z.fr x (mem_cons_of_mem _ hx)
theorem ok_corner_formD {f:Addr} {fd:FuncData} (h:FnOk P w K mg base CX0 45 f fd ["grid"] sp_cf):FnOk P w K mg base CX0 45 f fd ["grid"] (SpL K sp_cfD):=h.imp λ_ _ _ _ h=>cf_of h
theorem zip_gD:∀ (x y:List (List Int)),zipD (x.map iD) (y.map iD)=(x.zip y).map λp=>PyData.tuple [iD p.1,iD p.2]
 | [],_=>rfl
 | _::_,[]=>rfl
 | a::x,b::y=>by
  show PyData.tuple [iD a,iD b]::zipD _ _=_
  rw[zip_gD x y];rfl
theorem w_on2Lg {x y:List (List Int)} {f:List D->List D->Prop} (h:f (x.map iD) (y.map iD)):on2L [gD x,gD y] f:=h
abbrev s_require_one_shape:Stmt:=top 10
theorem sc_require_one_shape:FnScope ["one","other"] ["one","other"] (defScope s_require_one_shape):=by walk_at "sc"
def sp_shape:SpD:=λds Q _=>∃ (g h:List (List Int)) (n:Nat),ds=[gD g,gD h]/\Sh n n g/\Sh n n h/\n<=8/\Q .none true
theorem ok_require_one_shape {f cG:Addr} {fd:FuncData} (F:Fun K "require_one_shape" "require_one_shape" s_require_one_shape f fd) (T:Blt mg) (C_NoGrid:ExC K mg "NoGrid" cG):FnOk P w K mg base (CXE P w base) 1 f fd ["one","other"] (SpL K sp_shape):=by
 refine okE F sc_require_one_shape (λds Q X h=>?_) (λcdv A outer s H E hr=>?_)
 ·obtain ⟨g,h,n,rfl,_⟩:=h;rfl
 refine ⟨_,(dpss_one (dps_if (dnT (dpt_cmp (dop_ne (by rfl) (by exact hr.units)) (dpe_lc ["row"] [] rfl (LcScope.of (by kernel_rfl)) (dpi_list (by rfl) (dpv 0)) (λ_ _ _ _=>⟨(dpgn 0 (nd_of (by kernel_rfl))),dpts_nil,(dpb_emit (by rfl) (by rfl) (dpe_callB (dcl_len (by rfl)) (by rfl) (by exact T.len) (by decide +kernel) (dpa_cons (dpv 0) dpa_nil)))⟩)) (dpe_lc ["row"] [] rfl (LcScope.of (by kernel_rfl)) (dpi_list (by rfl) (dpv 1)) (λ_ _ _ _=>⟨(dpgn 0 (nd_of (by kernel_rfl))),dpts_nil,(dpb_emit (by rfl) (by rfl) (dpe_callB (dcl_len (by rfl)) (by rfl) (by exact T.len) (by decide +kernel) (dpa_cons (dpv 0) dpa_nil)))⟩)) (nomark _))) (dpss_one (dps_raise raiseOk_cx (by rfl) (by exact C_NoGrid) (by rfl) (dpa_cons dpe_str dpa_nil))) dpss_nil)),λds Qd Xd h=>?_⟩
 obtain ⟨g,h,n,rfl,shg,shh,hn,q⟩:=h
 show (_:TSD) _ [some (false,gD g),some (false,gD h)] _
 have hgl:=shg.1
 have hhl:=shh.1
 cbv
 refine lc_mapA iD (λr=>.int (r.length:Int)) (λr hr es Q' hl q'=>?_) (by lia) ?_
 ·cbv
  exact q'
 cbv
 refine lc_mapA iD (λr=>.int (r.length:Int)) (λr hr es Q' hl q'=>?_) (by lia) ?_
 ·cbv
  exact q'
 have eq1:∀ {g:List (List Int)},Sh n n g->PyData.list (g.map λr=>PyData.int (r.length:Int))=iD (List.replicate n (n:Int)):=λ{g} sh=>by
  unfold iD
  rw[List.map_replicate]
  congr 1
  refine List.eq_replicate_iff.mpr ⟨by rw[length_map,sh.1],λb hb=>?_⟩
  obtain ⟨r,hr,rfl⟩:=mem_map.mp hb
  rw[sh.2 r hr]
 rw[eq1 shg,eq1 shh]
 cbv
 refine ⟨⟨lay_iD _,lay_iD _,depth_iD _⟩,?_⟩
 rw[eqv_iD]
 cbv
 exact q
abbrev s_taken_off:Stmt:=top 11
theorem sc_taken_off:FnScope ["one","other"] ["one","other"] (defScope s_taken_off):=by walk_at "sc"
def sp_off:SpD:=λds Q _=>∃ (g h:List (List Int)) (n:Nat),ds=[gD g,gD h]/\Sh n n g/\Sh n n h/\n<=8/\Q (gD (tab n n λi j=>mat g i j - mat h i j)) true
theorem ok_taken_off {f:Addr} {fd:FuncData} (F:Fun K "taken_off" "taken_off" s_taken_off f fd) (T:Blt mg) (D_require_one_shape:DfE P w K mg base "require_one_shape" ["one","other"] 1 (SpL K sp_shape)):FnOk P w K mg base (CXE P w base) 2 f fd ["one","other"] (SpL K sp_off):=by
 refine okE F sc_taken_off (λds Q X h=>?_) (λcdv A outer s H E hr=>?_)
 ·obtain ⟨g,h,n,rfl,_⟩:=h;rfl
 refine ⟨_,(dpss_cons (dps_expr (dpe_dfE (by exact D_require_one_shape) passE (by exact hr.mono (by lia)) (dpa_cons (dpv 0) (dpa_cons (dpv 1) dpa_nil))))
   (dpss_one (dnS (dps_ret (dpe_lc ["row","beside"] [] rfl (LcScope.of (by kernel_rfl)) (dpi_zip (by rfl) (by rfl) (by exact T.zip) (dpa_cons (dpv 0) (dpa_cons (dpv 1) dpa_nil))) (λ_ _ _ _=>⟨(dpg_tup 2 (by rfl) (by rfl) (dpgs_cons (dpgn 0 (nd_of (by kernel_rfl))) (dpgs_cons (dpgn 1 (nd_of (by kernel_rfl))) dpgs_nil)) (by rfl) (by rfl)),dpts_nil,(dpb_emit (by rfl) (by rfl) (dpe_lc ["x","y"] [] rfl (LcScope.of (by kernel_rfl)) (dpi_zip (by rfl) (by rfl) (by exact T.zip) (dpa_cons (dpv 0) (dpa_cons (dpv 1) dpa_nil))) (λ_ _ _ _=>⟨(dpg_tup 2 (by rfl) (by rfl) (dpgs_cons (dpgn 0 (nd_of (by kernel_rfl))) (dpgs_cons (dpgn 1 (nd_of (by kernel_rfl))) dpgs_nil)) (by rfl) (by rfl)),dpts_nil,(dpb_emit (by rfl) (by rfl) (dpe_op dop_sub (dpv 0) (dpv 1)))⟩)))⟩)))))),λds Qd Xd h=>?_⟩
 obtain ⟨g,h,n,rfl,shg,shh,hn,q⟩:=h
 show (_:TSD) _ [some (false,gD g),some (false,gD h)] _
 have hgl:=shg.1
 have hhl:=shh.1
 cbv
 refine ⟨g,h,n,rfl,shg,shh,hn,?_⟩
 cbv
 refine w_on2Lg ?_
 rw[zip_gD]
 refine lc_mapA (L:=g.zip h) (λp=>.tuple [iD p.1,iD p.2]) (λp=>iD ((p.1.zip p.2).map λz=>z.1 - z.2)) (λp hp es Q' hl q'=>?_) (by simp;lia) ?_
 ·obtain ⟨r,s⟩:=p
  have hr:=shg.2 r (of_mem_zip hp).1
  cbv
  rw[zip_ints]
  refine lc_mapA (L:=r.zip s) (λp=>.tuple [.int p.1,.int p.2]) (λp=>.int (p.1 - p.2)) (λp hp es Q' hl q'=>?_) (by simp;lia) ?_
  ·obtain ⟨x,y⟩:=p
   cbv
   exact q'
  ·have e:PyData.list ((r.zip s).map λp=>PyData.int (p.1 - p.2))=iD ((r.zip s).map λz=>z.1 - z.2):=by unfold iD;rw[map_map];rfl
   rw[e]
   cbv
   exact q'
 ·have e:PyData.list ((g.zip h).map λp=>iD ((p.1.zip p.2).map λz=>z.1 - z.2))=gD (tab n n λi j=>mat g i j - mat h i j):=by
   rw[<-tab_eq (R:=(g.zip h).map λp=>(p.1.zip p.2).map λz=>z.1 - z.2) ⟨by simp[hgl,hhl],λr hr=>by
    obtain ⟨⟨a,b⟩,hp,rfl⟩:=mem_map.mp hr
    have:=shg.2 a (of_mem_zip hp).1
    have:=shh.2 b (of_mem_zip hp).2
    simp;lia⟩ λi j hi hj=>by
    obtain ⟨a,a1,a2,_⟩:=shg.cell hi hj
    obtain ⟨b,b1,b2,_⟩:=shh.cell hi hj
    refine mat_get (r:=(a.zip b).map λz=>z.1 - z.2) ?_ ?_
    ·rw[List.getElem?_map,List.getElem?_zip_eq_some (z:=(a,b)) |>.mpr ⟨a1,b1⟩];rfl
    ·rw[List.getElem?_map,List.getElem?_zip_eq_some (z:=(mat g i j,mat h i j)) |>.mpr ⟨a2,b2⟩];rfl]
   unfold gD;rw[map_map];rfl
  rw[e]
  cbv
  exact q
abbrev s_less_grid:Stmt:=top 24
theorem sc_less_grid:FnScope ["table"] ["table"] (defScope s_less_grid):=by walk_at "sc"
def sp_less:SpD:=λds Q _=>∃ (g:List (List Int)) (n:Nat),ds=[gD g]/\Sh n n g/\n<=8/\Q (gD (tab n n λi j=>MDet.idm i j - mat g i j)) true
theorem ok_less_grid {f:Addr} {fd:FuncData} (F:Fun K "less_grid" "less_grid" s_less_grid f fd) (T:Blt mg) (D_plain_grid:Df P w K mg base "plain_grid" ["n"] 1 (SpL K sp_plain)) (D_taken_off:DfE P w K mg base "taken_off" ["one","other"] 2 (SpL K sp_off)):FnOk P w K mg base (CXE P w base) 3 f fd ["table"] (SpL K sp_less):=by
 refine okE F sc_less_grid (λds Q X h=>?_) (λcdv A outer s H E hr=>?_)
 ·obtain ⟨g,n,rfl,_⟩:=h;rfl
 refine ⟨_,(dpss_one (dps_ret (dpe_dfE (by exact D_taken_off) passE (by exact hr.mono (by lia)) (dpa_cons (dpe_df (by exact D_plain_grid) (by exact hr.mono (by lia)) (dpa_cons (dpe_callB (dcl_len (by rfl)) (by rfl) (by exact T.len) (by decide +kernel) (dpa_cons (dpv 0) dpa_nil)) dpa_nil)) (dpa_cons (dpv 0) dpa_nil))))),λds Qd Xd h=>?_⟩
 obtain ⟨g,n,rfl,shg,hn,q⟩:=h
 show (_:TSD) _ [some (false,gD g)] _
 have hgl:=shg.1
 cbv
 refine ⟨n,by rw[hgl],hn,?_⟩
 cbv
 refine ⟨_,g,n,rfl,tab_sh _ _ _,shg,hn,?_⟩
 cbv
 have e:(tab n n λi j=>mat (tab n n MDet.idm) i j - mat g i j)=tab n n λi j=>MDet.idm i j - mat g i j:=by
  unfold tab
  refine List.map_congr_left λi hi=>List.map_congr_left λj hj=>?_
  have:=tab_mat (M:=MDet.idm) (mem_range.mp hi) (mem_range.mp hj)
  show mat (tab n n MDet.idm) i j - mat g i j=_
  rw[this]
 rw[e]
 exact q
theorem erase_map {α β:Type} (f:α->β):∀ (l:List α) (i:Nat),(l.map f).eraseIdx i=(l.eraseIdx i).map f
 | [],_=>rfl
 | _::_,0=>rfl
 | a::l,i+1=>by
  show f a::(l.map f).eraseIdx i=f a::(l.eraseIdx i).map f
  rw[erase_map f l i]
theorem put_gD (R:List (List Int)) (row:List Int) (i k:Nat) (v:Int):PyData.list ((R.map iD).set i (.list ((row.map PyData.int).set k (.int v))))=gD (R.set i (row.set k v)):=by
 unfold gD
 rw[map_set]
 unfold iD
 rw[map_set]
theorem put_sh {n m:Nat} {R:List (List Int)} (sh:Sh n m R) {i k:Nat} {v:Int} {row:List Int} (h:R[i]?=some row):Sh n m (R.set i (row.set k v)):=by
 refine ⟨by rw[length_set];exact sh.1,λr hr=>?_⟩
 rcases mem_or_eq_of_mem_set hr with h1|h1
 ·exact sh.2 r h1
 ·rw[h1,length_set];exact sh.2 row (List.mem_iff_getElem?.mpr ⟨i,h⟩)
theorem put_mat {n m:Nat} {R:List (List Int)} (sh:Sh n m R) {i k:Nat} {v:Int} {row:List Int} (h:R[i]?=some row) {r c:Nat} (hr:r < n) (hc:c < m):mat (R.set i (row.set k v)) r c=if r=i/\c=k then v else mat R r c:=by
 obtain ⟨r0,e1,e2,e3,e4⟩:=sh.cell hr hc
 by_cases h1:r=i
 ·subst h1
  rw[h] at e1
  injection e1 with e1
  subst e1
  have hl:=sh.2 row e3
  have g1:(R.set r (row.set k v))[r]?=some (row.set k v):=by
   rw[List.getElem?_set_self (by rw[sh.1];exact hr)]
  by_cases h2:c=k
  ·subst h2
   rw[if_pos ⟨rfl,rfl⟩]
   exact mat_get g1 (List.getElem?_set_self (by rw[hl];exact hc))
  ·rw[if_neg (λz=>h2 z.2)]
   exact mat_get g1 (by rw[List.getElem?_set_ne (λz=>h2 z.symm)];exact e2)
 ·rw[if_neg (λz=>h1 z.1)]
  exact mat_get (by rw[List.getElem?_set_ne (λz=>h1 z.symm)];exact e1) e2
def Le (n:Nat) (k:Int) (R:List (List Int)):Prop:=∀ r c,r < n->c < n->0<=mat R r c/\mat R r c<=k
theorem Le.put {n:Nat} {k:Int} {R:List (List Int)} (sh:Sh n n R) (h:Le n k R) {i j:Nat} {v:Int} {row:List Int} (hr:R[i]?=some row) (h0:0<=v) (hv:v<=k+1):Le n (k+1) (R.set i (row.set j v)):=λr c hr' hc=>by
 have:=h r c hr' hc
 rw[put_mat sh hr hr' hc]
 split<;>lia
def sp_table:SpD:=λds Q _=>∃ (b:Int),ds=[.int b,.int 4,.int 16]/\0<=b/\∀ (g:List (List Int)) (n:Nat) (b':Int),1<=n->n<=4->Sh n n g->Le n 100 g->0<=b'->Q (.tuple [gD g,.int b']) true
abbrev s_l_any_table:Stmt:=top 35
theorem sc_l_any_table:FnScope ["_law_big_here","_law_most","_law_arrows","_law_n","_law_table_here","_law_more","_law_k","_law_i","_law_j"] ["_law_big_here","_law_most","_law_arrows"] (defScope s_l_any_table):=by walk_at "sc"
theorem ok_l_any_table {f:Addr} {fd:FuncData} (F:Fun K "_law_any_table" "_law_any_table" s_l_any_table f fd) (T:Blt mg):FnOk P w K mg base CX0 1 f fd ["_law_big_here","_law_most","_law_arrows"] (SpL K sp_table):=by
 refine ok0 F sc_l_any_table (λds Q X h=>?_) (λcdv A outer s H E hr=>?_) λds Qd Xd h=>h
 ·obtain ⟨b,rfl,_⟩:=h;rfl
 refine ⟨_,(dpss_cons (dpset 3 sc_l_any_table.nd (dpe_op dop_add dpe_int (dpe_op dop_mod (dpv 0) (dpv 1))))
   (dpss_cons (dpset 0 sc_l_any_table.nd (dpe_op dop_fdiv (dpv 0) (dpv 1)))
   (dpss_cons (dps_setlc (i:=4) (hN:=sc_l_any_table.nd) (hyi:=rfl) (hy:=rfl) (hc:=rfl) (own:=["_law_i"]) (cap:=[("_law_n",3)]) (L:=LcScope.of (by kernel_rfl)) (hi:=(dpi_range1 (by rfl) (by exact T.range) (dpa_cons (dpv 3) dpa_nil))) (hin:=(λ_ _ _ _=>⟨(dpgn 0 (nd_of (by kernel_rfl))),dpts_nil,(dpb_emit (by rfl) (by rfl) (dpe_lc ["_law_j"] [] rfl (LcScope.of (by kernel_rfl)) (dpi_range1 (by rfl) (by exact T.range) (dpa_cons (dpv 1) dpa_nil)) (λ_ _ _ _=>⟨(dpgn 0 (nd_of (by kernel_rfl))),dpts_nil,(dpb_emit (by rfl) (by rfl) dpe_int)⟩)))⟩)))
   (dpss_cons (dpset 5 sc_l_any_table.nd (dpe_op dop_mod (dpv 0) (dpe_op dop_add (dpv 2) dpe_int)))
   (dpss_cons (dpset 0 sc_l_any_table.nd (dpe_op dop_fdiv (dpv 0) (dpe_op dop_add (dpv 2) dpe_int)))
   (dpss_cons (dps_for PassesOwn.never rfl (dpi_range1 (by rfl) (by exact T.range) (dpa_cons (dpv 5) dpa_nil)) (dpgn 6 sc_l_any_table.nd) (dpss_cons (dpset 7 sc_l_any_table.nd (dpe_op dop_mod (dpv 0) (dpv 3)))
   (dpss_cons (dpset 8 sc_l_any_table.nd (dpe_op dop_mod (dpe_op dop_fdiv (dpv 0) (dpv 3)) (dpv 3)))
   (dpss_cons (dps_put2 4 (by rfl) (qpv 4) (dpv 7) (dpv 8) (dpe_op dop_add (dpe_ix (dix (by rfl)) (dpe_ix (dix (by rfl)) (dpv 4) (dpv 7) (λ_ _=>rfl)) (dpv 8) (λ_ _=>rfl)) dpe_int) (λ_ _=>rfl))
   (dpss_one (dpset 0 sc_l_any_table.nd (dpe_op dop_fdiv (dpv 0) (dpe_op dop_mul (dpv 3) (dpv 3)))))))))
   (dpss_one (dps_ret (dpe_tup (dpa_cons (dpv 4) (dpa_cons (dpv 0) dpa_nil))))))))))),λds Qd h=>?_⟩
 obtain ⟨b,rfl,hb,q⟩:=h
 show (_:TSD) _ [some (false,.int b),some (false,.int 4),some (false,.int 16),none,none,none,none,none,none] _
 cbv
 obtain ⟨n,hn1,hn6,en⟩:∃ n:Nat,1<=n/\n<=4/\1+b % 4=(n:Int):=⟨(1+b % 4).toNat,by lia,by lia,by lia⟩
 rw[en]
 refine lc_mapA (L:=List.range ((n:Int)).toNat) (λx:Nat=>.int (0+(x:Int))) (λi=>iD ((List.range n).map λj=>(0:Int))) (λi hi es Q' hl q'=>?_) (by rw[length_range];lia) ?_
 ·cbv
  refine lc_mapA (L:=List.range ((n:Int)).toNat) (λx:Nat=>.int (0+(x:Int))) (λj=>.int 0) (λj hj es Q' hl q'=>?_) (by rw[length_range];lia) ?_
  ·cbv
   exact q'
  ·have e:PyData.list ((List.range ((n:Int)).toNat).map λj=>PyData.int 0)=iD ((List.range n).map λj=>(0:Int)):=by
    unfold iD;rw[map_map,Int.toNat_natCast];rfl
   rw[e]
   cbv
   exact q'
 have e:PyData.list ((List.range ((n:Int)).toNat).map λi=>iD ((List.range n).map λj=>(0:Int)))=gD (tab n n λ_ _=>0):=by
  unfold gD tab;rw[map_map,Int.toNat_natCast];rfl
 rw[e]
 cbv
 obtain ⟨mo,hmo,emo⟩:∃ mo:Int,mo<=16/\b / 4 % (16+1)=mo:=⟨_,by lia,rfl⟩
 rw[emo]
 refine lp_rng (λk ρ=>∃ (R:List (List Int)) (b:Int) (x6 x7 x8:Option (Bool × D)),ρ=[some (false,.int b),some (false,.int 4),some (false,.int 16),some (false,.int n),some (true,gD R),some (false,.int mo),x6,x7,x8]/\0<=b/\Sh n n R/\Le n k R) ⟨_,_,_,_,_,rfl,by lia,tab_sh _ _ _,λr c hr hc=>by rw[tab_mat hr hc];exact ⟨by decide,by decide⟩⟩ ?_ ?_
 ·rintro k ρ hk ⟨R,b,x6,x7,x8,rfl,hb,shR,hR⟩
  have hz1:=Int.emod_nonneg b (show (n:Int)≠0 by lia)
  have hz2:=Int.emod_lt_of_pos b (show (0:Int) < n by lia)
  obtain ⟨i,hi,ei⟩:∃ i:Nat,i < n/\b % n=(i:Int):=⟨(b % n).toNat,by lia,by lia⟩
  have hy1:=Int.emod_nonneg (b / n) (show (n:Int)≠0 by lia)
  have hy2:=Int.emod_lt_of_pos (b / n) (show (0:Int) < n by lia)
  obtain ⟨j,hj,ej⟩:∃ j:Nat,j < n/\b / n % n=(j:Int):=⟨(b / n % n).toNat,by lia,by lia⟩
  obtain ⟨r0,a1,a2,a3,a4⟩:=shR.cell hi hj
  have ha:=hR i j hi hj
  cbv
  refine ⟨⟨by lia,by lia⟩,?_⟩
  cbv
  rw[ei,ej]
  refine ⟨iD r0,atI_nat (by rw[List.getElem?_map,a1];rfl),?_⟩
  cbv
  refine ⟨.int (mat R i j),atI_nat (by rw[List.getElem?_map,a2];rfl),?_⟩
  cbv
  refine ⟨R.map iD,rfl,?_⟩
  cbv
  refine ⟨_,i,r0.map .int,rfl,ixN_nat (by rw[length_map,shR.1];exact hi),by rw[List.getElem?_map,a1];rfl,?_⟩
  cbv
  refine ⟨_,j,rfl,ixN_nat (by rw[length_map,shR.2 r0 a3];exact hj),?_⟩
  cbv
  rw[put_gD]
  refine ⟨CMul.ok (.inl ⟨by lia,by lia⟩),?_⟩
  cbv
  have hnn:0 < (n:Int)*n:=Int.mul_pos (by lia) (by lia)
  have hnn2:(n:Int)*n<=4*4:=Int.mul_le_mul (by lia) (by lia) (by lia) (by lia)
  refine ⟨⟨by lia,by lia⟩,?_⟩
  cbv
  exact ⟨_,_,_,_,_,rfl,Int.ediv_nonneg hb (by lia),put_sh shR a1,Le.put shR hR a1 (by lia) (by lia)⟩
 ·rintro ρ ⟨R,b,x6,x7,x8,rfl,hb,shR,hR⟩
  cbv
  exact q R n b hn1 hn6 shR (λr c hr hc=>by have:=hR r c hr hc;lia) hb
abbrev s_l_table:Stmt:=top 34
theorem sc_l_table:FnScope ["_law_big_here","_law_most","_law_arrows","_law_n","_law_rest","_law_ring","_law_table_here","_law_k","_law_more","_law_i","_law_j"] ["_law_big_here","_law_most","_law_arrows"] (defScope s_l_table):=by walk_at "sc"
theorem ok_l_table {f:Addr} {fd:FuncData} (F:Fun K "_law_table" "_law_table" s_l_table f fd) (T:Blt mg):FnOk P w K mg base CX0 1 f fd ["_law_big_here","_law_most","_law_arrows"] (SpL K sp_table):=by
 refine ok0 F sc_l_table (λds Q X h=>?_) (λcdv A outer s H E hr=>?_) λds Qd Xd h=>h
 ·obtain ⟨b,rfl,_⟩:=h;rfl
 refine ⟨_,(dpss_cons (dpset 3 sc_l_table.nd (dpe_op dop_add dpe_int (dpe_op dop_mod (dpv 0) (dpv 1))))
   (dpss_cons (dpset 0 sc_l_table.nd (dpe_op dop_fdiv (dpv 0) (dpv 1)))
   (dpss_cons (dpset 4 sc_l_table.nd (dpe_listrange (by rfl) (by rfl) (by exact T.list) (by rfl) (by exact T.range) (dpa_cons (dpv 3) dpa_nil)))
   (dpss_cons (dpset 5 sc_l_table.nd (dpe_lst dpa_nil))
   (dpss_cons (dps_while PassesOwn.never (dpt_cmp (dop_ne (by rfl) (by exact hr.units)) (dpv 4) (dpe_lst dpa_nil) (nomark _)) (dpss_cons (dps_appPop 5 4 (by rfl) (qpv 5) (qpv 4) (dpe_op dop_mod (dpv 0) (dpe_callB (dcl_len (by rfl)) (by rfl) (by exact T.len) (by decide +kernel) (dpa_cons (dpv 4) dpa_nil))) (by rfl) (by rfl) (by rfl) (by rfl) (by rfl) (by rfl))
   (dpss_one (dpset 0 sc_l_table.nd (dpe_op dop_fdiv (dpv 0) (dpe_op dop_add (dpe_callB (dcl_len (by rfl)) (by rfl) (by exact T.len) (by decide +kernel) (dpa_cons (dpv 4) dpa_nil)) dpe_int))))))
   (dpss_cons (dps_setlc (i:=6) (hN:=sc_l_table.nd) (hyi:=rfl) (hy:=rfl) (hc:=rfl) (own:=["_law_i"]) (cap:=[("_law_n",3)]) (L:=LcScope.of (by kernel_rfl)) (hi:=(dpi_range1 (by rfl) (by exact T.range) (dpa_cons (dpv 3) dpa_nil))) (hin:=(λ_ _ _ _=>⟨(dpgn 0 (nd_of (by kernel_rfl))),dpts_nil,(dpb_emit (by rfl) (by rfl) (dpe_lc ["_law_j"] [] rfl (LcScope.of (by kernel_rfl)) (dpi_range1 (by rfl) (by exact T.range) (dpa_cons (dpv 1) dpa_nil)) (λ_ _ _ _=>⟨(dpgn 0 (nd_of (by kernel_rfl))),dpts_nil,(dpb_emit (by rfl) (by rfl) dpe_int)⟩)))⟩)))
   (dpss_cons (dps_for PassesOwn.never rfl (dpi_range1 (by rfl) (by exact T.range) (dpa_cons (dpv 3) dpa_nil)) (dpgn 7 sc_l_table.nd) (dpss_one (dps_put2 6 (by rfl) (qpv 6) (dpe_ix (dix (by rfl)) (dpv 5) (dpv 7) (λ_ _=>rfl)) (dpe_ix (dix (by rfl)) (dpv 5) (dpe_op dop_mod (dpe_op dop_add (dpv 7) dpe_int) (dpv 3)) (λ_ _=>rfl)) dpe_int (λ_ _=>rfl))))
   (dpss_cons (dpset 8 sc_l_table.nd (dpe_op dop_add dpe_int (dpe_op dop_mod (dpv 0) (dpe_op dop_sub (dpv 2) (dpv 3)))))
   (dpss_cons (dpset 0 sc_l_table.nd (dpe_op dop_fdiv (dpv 0) (dpe_op dop_sub (dpv 2) (dpv 3))))
   (dpss_cons (dps_for PassesOwn.never rfl (dpi_range1 (by rfl) (by exact T.range) (dpa_cons (dpv 8) dpa_nil)) (dpgn 7 sc_l_table.nd) (dpss_cons (dpset 9 sc_l_table.nd (dpe_op dop_mod (dpv 0) (dpv 3)))
   (dpss_cons (dpset 10 sc_l_table.nd (dpe_op dop_mod (dpe_op dop_fdiv (dpv 0) (dpv 3)) (dpv 3)))
   (dpss_cons (dps_put2 6 (by rfl) (qpv 6) (dpv 9) (dpv 10) (dpe_op dop_add (dpe_ix (dix (by rfl)) (dpe_ix (dix (by rfl)) (dpv 6) (dpv 9) (λ_ _=>rfl)) (dpv 10) (λ_ _=>rfl)) dpe_int) (λ_ _=>rfl))
   (dpss_one (dpset 0 sc_l_table.nd (dpe_op dop_fdiv (dpv 0) (dpe_op dop_mul (dpv 3) (dpv 3)))))))))
   (dpss_one (dps_ret (dpe_tup (dpa_cons (dpv 6) (dpa_cons (dpv 0) dpa_nil))))))))))))))),λds Qd h=>?_⟩
 obtain ⟨b,rfl,hb,q⟩:=h
 show (_:TSD) _ [some (false,.int b),some (false,.int 4),some (false,.int 16),none,none,none,none,none,none,none,none] _
 cbv
 obtain ⟨n,hn1,hn6,en⟩:∃ n:Nat,1<=n/\n<=4/\1+b % 4=(n:Int):=⟨(1+b % 4).toNat,by lia,by lia,by lia⟩
 rw[en]
 refine ⟨n,rfl,by lia,?_⟩
 have e0:PyData.list ((List.range n).map λi:Nat=>PyData.int (i:Int))=iD ((List.range n).map λi:Nat=>(i:Int)):=by unfold iD;rw[map_map];rfl
 rw[e0]
 cbv
 refine ⟨λm ρ=>∃ (r g:List Int) (b:Int),ρ=[some (false,.int b),some (false,.int 4),some (false,.int 16),some (false,.int n),some (true,iD r),some (true,iD g),none,none,none,none,none]/\0<=b/\r.length=m/\g.length+m=n/\(∀ x∈r,0<=x/\x < n)/\∀ x∈g,0<=x/\x < n,⟨n,_,[],_,rfl,by lia,by simp,by simp,λx hx=>?_,λ_ z=>by cases z⟩,?_⟩
 ·obtain ⟨i,hi,rfl⟩:=mem_map.mp hx
  have:=mem_range.mp hi
  lia
 rintro m ρ ⟨r,g,b,rfl,hb,hr1,hg1,hr2,hg2⟩
 cbv
 refine ⟨⟨lay_iD _,lay_iD [],depth_iD _⟩,?_⟩
 cases r with
 | cons x r' =>
  rw[show PyData.eqv (iD (x::r')) (PyData.list [])=false from rfl]
  have hl0:0 < (x::r').length:=Nat.succ_pos _
  generalize x::r'=r at *
  cbv
  rw[if_pos trivial]
  cbv
  have hl:r.length<=4:=by lia
  refine ⟨g.map .int,r.map .int,rfl,by decide,rfl,by rw[length_map];lia,by rw[length_map];lia,?_⟩
  cbv
  have hz1:=Int.emod_nonneg b (show (r.length:Int)≠0 by lia)
  have hz2:=Int.emod_lt_of_pos b (show (0:Int) < (r.length:Int) by lia)
  obtain ⟨j,hj,ej⟩:∃ j:Nat,j < r.length/\b % (r.length:Int)=(j:Int):=⟨(b % (r.length:Int)).toNat,by lia,by lia⟩
  rw[ej]
  have hc:r[j]?=some r[j]:=List.getElem?_eq_getElem hj
  refine ⟨_,j,.int r[j],rfl,ixN_nat (by rw[length_map];exact hj),by rw[List.getElem?_map,hc];rfl,rfl,?_⟩
  have e1:PyData.list ((r.map PyData.int).eraseIdx j)=iD (r.eraseIdx j):=by unfold iD;rw[erase_map]
  have e2:PyData.list (g.map PyData.int++[PyData.int r[j]])=iD (g++[r[j]]):=app_iD
  rw[e1,e2]
  cbv
  have hle:(r.eraseIdx j).length+1=r.length:=by rw[List.length_eraseIdx,if_pos hj];lia
  refine ⟨⟨by lia,by lia⟩,?_⟩
  cbv
  refine ⟨m - 1,by lia,_,_,_,rfl,Int.ediv_nonneg hb (by lia),by lia,by rw[length_append,length_singleton];lia,λy hy=>hr2 y (List.mem_of_mem_eraseIdx hy),λy hy=>?_⟩
  rcases mem_append.mp hy with hy|hy
  ·exact hg2 y hy
  ·rw[mem_singleton] at hy
   rw[hy]
   exact hr2 _ (List.getElem_mem hj)
 | nil =>
  have hm:m=0:=by simpa using hr1.symm
  subst hm
  rw[show PyData.eqv (iD []) (PyData.list [])=true from rfl]
  cbv
  refine lc_mapA (L:=List.range ((n:Int)).toNat) (λx:Nat=>.int (0+(x:Int))) (λi=>iD ((List.range n).map λj=>(0:Int))) (λi hi es Q' hl q'=>?_) (by rw[length_range];lia) ?_
  ·cbv
   refine lc_mapA (L:=List.range ((n:Int)).toNat) (λx:Nat=>.int (0+(x:Int))) (λj=>.int 0) (λj hj es Q' hl q'=>?_) (by rw[length_range];lia) ?_
   ·cbv
    exact q'
   ·have e:PyData.list ((List.range ((n:Int)).toNat).map λj=>PyData.int 0)=iD ((List.range n).map λj=>(0:Int)):=by
     unfold iD;rw[map_map,Int.toNat_natCast];rfl
    rw[e]
    cbv
    exact q'
  have e:PyData.list ((List.range ((n:Int)).toNat).map λi=>iD ((List.range n).map λj=>(0:Int)))=gD (tab n n λ_ _=>0):=by
   unfold gD tab;rw[map_map,Int.toNat_natCast];rfl
  rw[e]
  cbv
  refine lp_rng (λk ρ=>∃ (R:List (List Int)) (x7:Option (Bool × D)),ρ=[some (false,.int b),some (false,.int 4),some (false,.int 16),some (false,.int n),some (true,iD []),some (true,iD g),some (true,gD R),x7,none,none,none]/\Sh n n R/\Le n k R) ⟨_,_,rfl,tab_sh _ _ _,λr c hr hc=>by rw[tab_mat hr hc];exact ⟨by decide,by decide⟩⟩ ?_ ?_
  ·rintro k ρ hk ⟨R,x7,rfl,shR,hR⟩
   have hk':k < g.length:=by lia
   have gc:∀ {k:Nat},k < g.length->∃ i:Nat,i < n/\g[k]?=some (i:Int):=λ{k} hk=>by
    have h1:g[k]?=some g[k]:=List.getElem?_eq_getElem hk
    have h2:=hg2 _ (List.getElem_mem hk)
    exact ⟨g[k].toNat,by lia,by rw[h1,Int.toNat_of_nonneg h2.1]⟩
   obtain ⟨i,hi,ei⟩:=gc hk'
   have hz1:=Int.emod_nonneg (0+(k:Int)+1) (show (n:Int)≠0 by lia)
   have hz2:=Int.emod_lt_of_pos (0+(k:Int)+1) (show (0:Int) < n by lia)
   obtain ⟨l,hl,el⟩:∃ l:Nat,l < n/\(0+(k:Int)+1) % n=(l:Int):=⟨((0+(k:Int)+1) % n).toNat,by lia,by lia⟩
   obtain ⟨j,hj,ej⟩:=gc (show l < g.length by lia)
   obtain ⟨r0,a1,a2,a3⟩:=shR.row hi
   cbv
   refine ⟨R.map iD,rfl,?_⟩
   cbv
   refine ⟨.int i,?_,?_⟩
   ·rw[Int.zero_add];exact atI_nat (by rw[List.getElem?_map,ei];rfl)
   cbv
   refine ⟨_,i,r0.map .int,rfl,ixN_nat (by rw[length_map,shR.1];exact hi),by rw[List.getElem?_map,a1];rfl,?_⟩
   cbv
   rw[el]
   refine ⟨.int j,atI_nat (by rw[List.getElem?_map,ej];rfl),?_⟩
   cbv
   refine ⟨_,j,rfl,ixN_nat (by rw[length_map,a2];exact hj),?_⟩
   cbv
   rw[put_gD]
   exact ⟨_,_,rfl,put_sh shR a1,Le.put shR hR a1 (by decide) (by lia)⟩
  rintro ρ ⟨R0,x7,rfl,sh0,hR0⟩
  cbv
  refine ⟨⟨by lia,by lia⟩,?_⟩
  cbv
  have hd0:=Int.emod_nonneg b (show 16 - (n:Int)≠0 by lia)
  have hd1:=Int.emod_lt_of_pos b (show (0:Int) < 16 - (n:Int) by lia)
  have hd2:=Int.ediv_nonneg hb (show (0:Int)<=16 - (n:Int) by lia)
  generalize b / (16 - (n:Int))=b1 at *
  obtain ⟨mo,hmo,emo⟩:∃ mo:Int,mo<=16/\1+b % (16 - (n:Int))=mo:=⟨_,by lia,rfl⟩
  rw[emo]
  refine ⟨⟨by lia,by lia⟩,trivial,?_⟩
  refine lp_rng (λk ρ=>∃ (R:List (List Int)) (b:Int) (x7 x9 x10:Option (Bool × D)),ρ=[some (false,.int b),some (false,.int 4),some (false,.int 16),some (false,.int n),some (true,iD []),some (true,iD g),some (true,gD R),x7,some (false,.int mo),x9,x10]/\0<=b/\Sh n n R/\Le n (n+k) R) ⟨_,_,_,_,_,rfl,hd2,sh0,λr c hr hc=>by have:=hR0 r c hr hc;lia⟩ ?_ ?_
  ·rintro k ρ hk ⟨R,b,x7,x9,x10,rfl,hb,shR,hR⟩
   have hz1:=Int.emod_nonneg b (show (n:Int)≠0 by lia)
   have hz2:=Int.emod_lt_of_pos b (show (0:Int) < n by lia)
   obtain ⟨i,hi,ei⟩:∃ i:Nat,i < n/\b % n=(i:Int):=⟨(b % n).toNat,by lia,by lia⟩
   have hy1:=Int.emod_nonneg (b / n) (show (n:Int)≠0 by lia)
   have hy2:=Int.emod_lt_of_pos (b / n) (show (0:Int) < n by lia)
   obtain ⟨j,hj,ej⟩:∃ j:Nat,j < n/\b / n % n=(j:Int):=⟨(b / n % n).toNat,by lia,by lia⟩
   obtain ⟨r0,a1,a2,a3,a4⟩:=shR.cell hi hj
   have ha:=hR i j hi hj
   cbv
   refine ⟨⟨by lia,by lia⟩,?_⟩
   cbv
   rw[ei,ej]
   refine ⟨iD r0,atI_nat (by rw[List.getElem?_map,a1];rfl),?_⟩
   cbv
   refine ⟨.int (mat R i j),atI_nat (by rw[List.getElem?_map,a2];rfl),?_⟩
   cbv
   refine ⟨R.map iD,rfl,?_⟩
   cbv
   refine ⟨_,i,r0.map .int,rfl,ixN_nat (by rw[length_map,shR.1];exact hi),by rw[List.getElem?_map,a1];rfl,?_⟩
   cbv
   refine ⟨_,j,rfl,ixN_nat (by rw[length_map,shR.2 r0 a3];exact hj),?_⟩
   cbv
   rw[put_gD]
   refine ⟨CMul.ok (.inl ⟨by lia,by lia⟩),?_⟩
   cbv
   have hnn:0 < (n:Int)*n:=Int.mul_pos (by lia) (by lia)
   have hnn2:(n:Int)*n<=4*4:=Int.mul_le_mul (by lia) (by lia) (by lia) (by lia)
   refine ⟨⟨by lia,by lia⟩,?_⟩
   cbv
   refine ⟨_,_,_,_,_,rfl,Int.ediv_nonneg hb (by lia),put_sh shR a1,?_⟩
   have:=Le.put (j:=j) shR hR a1 (v:=mat R i j+1) (by lia) (by lia)
   rw[Int.add_assoc] at this
   exact this
  ·rintro ρ ⟨R,b,x7,x9,x10,rfl,hb,shR,hR⟩
   cbv
   exact q R n b hn1 hn6 shR (λr c hr hc=>by have:=hR r c hr hc;lia) hb
open M06 (Bt Sm)
open M62 (Fr)
abbrev s_common_number:Stmt:=top 4
theorem sc_common_number:FnScope ["one","other"] ["one","other"] (defScope s_common_number):=by walk_at "sc"
def sp_cn:SpD:=λds Q _=>∃ a b:Int,ds=[.int a,.int b]/\∀ g:Int,0<=g->(∀ e,e ∣ g ↔ (e ∣ a/\e ∣ b))->Q (.int g) true
theorem ok_common_number {f:Addr} {fd:FuncData} (F:Fun K "common_number" "common_number" s_common_number f fd) (T:Blt mg):FnOk P w K mg base CX0 1 f fd ["one","other"] (SpL K sp_cn):=by
 refine ok0 F sc_common_number (λds Q X h=>?_) (λcdv A outer s H E hr=>?_) λds Qd Xd h=>h
 ·obtain ⟨a,b,rfl,_⟩:=h;rfl
 refine ⟨_,(dpss_cons (dps_while PassesOwn.never (dpt_cmp (dop_ne (by rfl) (by exact hr.units)) (dpv 1) dpe_int (nomark _)) (dpss_one (dps_par 0 1 (by rfl) sc_common_number.nd (by rfl) (by rfl) (by decide) (by rfl) (by rfl) (dpa_cons (dpv 1) (dpa_cons (dpe_op dop_modN (dpv 0) (dpv 1)) dpa_nil)) (by rfl))))
   (dpss_one (dps_ret (dpe_callB dcl_abs (by rfl) (by exact T.abs) (by decide +kernel) (dpa_cons (dpv 0) dpa_nil))))),λds Qd h=>?_⟩
 obtain ⟨a,b,rfl,q⟩:=h
 show (_:TSD) _ [some (false,.int a),some (false,.int b)] _
 cbv
 refine ⟨λk ρ=>∃ x y:Int,ρ=[some (false,.int x),some (false,.int y)]/\k=y.natAbs/\∀ e,(e ∣ x/\e ∣ y) ↔ (e ∣ a/\e ∣ b),⟨_,_,_,rfl,rfl,λe=>Iff.rfl⟩,?_⟩
 rintro k ρ ⟨x,y,rfl,rfl,he⟩
 cbv
 refine ite2 (λh1=>?_) λh1=>?_
 ·have h1:y≠0:=by simpa using h1
  cbv
  refine w_par ?_
  cbv
  refine ⟨_,?_,_,_,rfl,rfl,λe=>Iff.trans (M62.gcd_step h1) (he e)⟩
  exact M62.fmod_lt h1
 ·have h1:y=0:=by simpa using h1
  subst h1
  cbv
  refine q _ (by split<;>lia) λe=>?_
  rw[show (if x < 0 then -x else x)=(x.natAbs:Int) from by split<;>lia,Int.dvd_natAbs]
  exact ⟨λz=>(he e).mp ⟨z,Int.dvd_zero _⟩,λz=>((he e).mpr z).1⟩
abbrev s_fraction:Stmt:=top 6
theorem sc_fraction:FnScope ["top","bottom","common"] ["top","bottom"] (defScope s_fraction):=by walk_at "sc"
def sp_fr:SpD:=λds Q _=>∃ r b:Int,ds=[.int r,.int b]/\b≠0/\Q (.tuple [.int (r.fdiv (M62.frC r b)),.int (b.fdiv (M62.frC r b))]) true
theorem ok_fraction {f:Addr} {fd:FuncData} (F:Fun K "fraction" "fraction" s_fraction f fd) (T:Blt mg) (hT:P.given.tree=none) (D_common_number:Df P w K mg base "common_number" ["one","other"] 1 (SpL K sp_cn)):FnOk P w K mg base CX0 41 f fd ["top","bottom"] (SpL K sp_fr):=by
 refine ok0 F sc_fraction (λds Q X h=>?_) (λcdv A outer s H E hr=>?_) λds Qd Xd h=>h
 ·obtain ⟨a,b,rfl,_⟩:=h;rfl
 refine ⟨_,(dpss_cons (dpset 2 sc_fraction.nd (dpe_df (by exact D_common_number) (by exact hr.mono (by lia)) (dpa_cons (dpv 0) (dpa_cons (dpv 1) dpa_nil))))
   (dpss_cons (dps_jn (dps_if (dpt_cmp dop_lt (dpv 1) dpe_int (nomark _)) (dpss_one (dpset 2 sc_fraction.nd (dpe_neg (dpv 2)))) dpss_nil))
   (dpss_one (dps_ret (dpe_tup (dpa_cons (dpe_op (dop_fdivP ⟨⟨_,_,rfl,rfl,rfl,rfl,rfl⟩⟩ (by exact hT) (by exact hr.pyl)) (dpv 0) (dpv 2)) (dpa_cons (dpe_op (dop_fdivP ⟨⟨_,_,rfl,rfl,rfl,rfl,rfl⟩⟩ (by exact hT) (by exact hr.pyl)) (dpv 1) (dpv 2)) dpa_nil))))))),λds Qd h=>?_⟩
 obtain ⟨r,b,rfl,hb,q⟩:=h
 show (_:TSD) _ [some (false,.int r),some (false,.int b),none] _
 cbv
 refine ⟨r,b,rfl,λg hg he=>?_⟩
 cbv
 obtain rfl:=M62.gcd_is hg he
 have g0:=M62.gcd_p (r:=r) hb
 refine w_jn (λρ=>ρ=[some (false,.int r),some (false,.int b),some (false,.int (M62.frC r b))]) (λN hN=>?_) ?_
 ·cbv
  refine ite2 (λh1=>?_) λh1=>?_
  ·have h1:b < 0:=by simpa using h1
   cbv
   exact hN _ (by unfold M62.frC;rw[if_pos h1])
  ·have h1:¬ b < 0:=by simpa using h1
   exact hN _ (by unfold M62.frC;rw[if_neg h1])
 rintro ρ rfl
 have c0:=M62.frC_0 (r:=r) hb
 cbv
 exact q
theorem gv_some {r:List Int} {j:Nat} (h:j < r.length):r[j]?=some (gv r j):=by unfold gv;rw[getD_eq_getElem?_getD,List.getElem?_eq_getElem h];rfl
abbrev s_dot:Stmt:=top 28
theorem sc_dot:FnScope ["one","other"] ["one","other"] (defScope s_dot):=by walk_at "sc"
def sp_dot:SpD:=λds Q _=>∃ (x y:List Int) (n a b:Nat),ds=[iD x,iD y]/\x.length=n/\y.length=n/\n<=8/\(∀ z∈x,Bd a z)/\(∀ z∈y,Bd b z)/\a+b<=134217728/\Q (.int (MDet.S n λi=>gv x i*gv y i)) true
theorem ok_dot {f:Addr} {fd:FuncData} (F:Fun K "dot" "dot" s_dot f fd) (T:Blt mg):FnOk P w K mg base CX0 1 f fd ["one","other"] (SpL K sp_dot):=by
 refine ok0 F sc_dot (λds Q X h=>?_) (λcdv A outer s H E hr=>?_) λds Qd Xd h=>h
 ·obtain ⟨x,y,n,a,b,rfl,_⟩:=h;rfl
 refine ⟨_,(dpss_one (dps_ret (dpe_callB (dcl_sum (by rfl) (by rfl)) (by rfl) (by exact T.sum) (by decide +kernel) (dpa_cons (dpe_lc ["x","y"] [] rfl (LcScope.of (by kernel_rfl)) (dpi_zip (by rfl) (by rfl) (by exact T.zip) (dpa_cons (dpv 0) (dpa_cons (dpv 1) dpa_nil))) (λ_ _ _ _=>⟨(dpg_tup 2 (by rfl) (by rfl) (dpgs_cons (dpgn 0 (nd_of (by kernel_rfl))) (dpgs_cons (dpgn 1 (nd_of (by kernel_rfl))) dpgs_nil)) (by rfl) (by rfl)),dpts_nil,(dpb_emit (by rfl) (by rfl) (dpe_op dop_mul (dpv 0) (dpv 1)))⟩)) dpa_nil)))),λds Qd h=>?_⟩
 obtain ⟨x,y,n,a,b,rfl,hx,hy,hn,ha,hb,hab,q⟩:=h
 show (_:TSD) _ [some (false,iD x),some (false,iD y)] _
 cbv
 rw[zip_ints]
 refine lc_mapA (L:=x.zip y) (λz:Int × Int=>.tuple [.int z.1,.int z.2]) (λz=>.int (z.1*z.2)) (λz hz es Q' hl' q'=>?_) (by rw[List.length_zip];lia) ?_
 ·obtain ⟨z1,z2⟩:=z
  obtain ⟨m1,m2⟩:=of_mem_zip hz
  cbv
  refine ⟨Bd.mulOk (ha _ m1) (hb _ m2) hab,?_⟩
  cbv
  exact q'
 ·have e:PyData.list ((x.zip y).map λz=>PyData.int (z.1*z.2))=iD ((List.range n).map λi=>gv x i*gv y i):=by
   unfold iD
   rw[map_map]
   congr 1
   refine List.ext_getElem? λi=>?_
   rw[List.getElem?_map,List.getElem?_map]
   by_cases hi:i < n
   ·rw[List.getElem?_zip_eq_some (z:=(gv x i,gv y i)) |>.mpr ⟨gv_some (by lia),gv_some (by lia)⟩,List.getElem?_range hi];rfl
   ·rw[List.getElem?_eq_none (by rw[List.length_zip];lia),List.getElem?_eq_none (by rw[length_range];lia)];rfl
  rw[e]
  cbv
  rw[sum_S]
  exact q
abbrev s_column_of:Stmt:=top 29
theorem sc_column_of:FnScope ["grid","at"] ["grid","at"] (defScope s_column_of):=by walk_at "sc"
def sp_col:SpD:=λds Q _=>∃ (g:List (List Int)) (n m i:Nat),ds=[gD g,.int i]/\Sh n m g/\n<=8/\i < m/\Q (iD ((List.range n).map λj=>mat g j i)) true
theorem ok_column_of {f:Addr} {fd:FuncData} (F:Fun K "column_of" "column_of" s_column_of f fd) (T:Blt mg):FnOk P w K mg base CX0 1 f fd ["grid","at"] (SpL K sp_col):=by
 refine ok0 F sc_column_of (λds Q X h=>?_) (λcdv A outer s H E hr=>?_) λds Qd Xd h=>h
 ·obtain ⟨g,n,m,i,rfl,_⟩:=h;rfl
 refine ⟨_,(dpss_one (dps_ret (dpe_lc ["row"] [("at",1)] rfl (LcScope.of (by kernel_rfl)) (dpi_list (by rfl) (dpv 0)) (λ_ _ _ _=>⟨(dpgn 0 (nd_of (by kernel_rfl))),dpts_nil,(dpb_emit (by rfl) (by rfl) (dpe_ix (dix (by rfl)) (dpv 0) (dpv 1) (λ_ _=>rfl)))⟩)))),λds Qd h=>?_⟩
 obtain ⟨g,n,m,i,rfl,sh,hn,hi,q⟩:=h
 show (_:TSD) _ [some (false,gD g),some (false,.int i)] _
 cbv
 refine lc_mapA (L:=g) iD (λr=>.int (r.getD i 0)) (λr hr es Q' hl q'=>?_) (by have:=sh.1;lia) ?_
 ·have hrl:=sh.2 r hr
  cbv
  refine ⟨.int (r.getD i 0),atI_nat (by rw[List.getElem?_map,List.getElem?_eq_getElem (by lia),getD_eq_getElem?_getD,List.getElem?_eq_getElem (by lia)];rfl),?_⟩
  cbv
  exact q'
 ·rw[col_iD sh hi]
  cbv
  exact q
abbrev s_divides:Stmt:=top 30
theorem sc_divides:FnScope ["one","other"] ["one","other"] (defScope s_divides):=by walk_at "sc"
def sp_dvd:SpD:=λds Q _=>∃ c s:Int,ds=[.int c,.int s]/\0<=c/\∀ b:Bool,(b=true ↔ c ∣ s)->Q (.bool b) true
theorem ok_divides {f:Addr} {fd:FuncData} (F:Fun K "divides" "divides" s_divides f fd) (T:Blt mg):FnOk P w K mg base CX0 1 f fd ["one","other"] (SpL K sp_dvd):=by
 refine ok0 F sc_divides (λds Q X h=>?_) (λcdv A outer s H E hr=>?_) λds Qd Xd h=>h
 ·obtain ⟨c,s,rfl,_⟩:=h;rfl
 refine ⟨_,(dpss_one (dps_ret (dpe_ifExp (dpt_cmp (dop_eq (by rfl) (by exact hr.units)) (dpv 0) dpe_int (nomark _)) (dpe_cmp (dop_eq (by rfl) (by exact hr.units)) (dpv 1) dpe_int (nomark _)) (dpe_cmp (dop_eq (by rfl) (by exact hr.units)) (dpe_op dop_mod (dpv 1) (dpv 0)) dpe_int (nomark _))))),λds Qd h=>?_⟩
 obtain ⟨c,s,rfl,hc,q⟩:=h
 show (_:TSD) _ [some (false,.int c),some (false,.int s)] _
 cbv
 refine ite2 (λh1=>?_) λh1=>?_
 ·have h1:c=0:=by simpa using h1
  subst h1
  cbv
  exact q _ ⟨λz=>by simpa using z,λz=>by simpa using z⟩
 ·have h1:c≠0:=by simpa using h1
  cbv
  exact q _ ⟨λz=>Int.dvd_of_emod_eq_zero (by simpa using z),λz=>by simpa using Int.emod_eq_zero_of_dvd z⟩
open M06 (Bt Sm)
open M62 (Fr)
def pD (z:Int × Int):D:=.tuple [.int z.1,.int z.2]
def wD (ws:List (Int × Int)):D:=.list (ws.map pD)
def wt (ws:List (Int × Int)) (k:Nat):Int:=(ws.getD k (0,1)).1
def wp (ws:List (Int × Int)) (k:Nat):Int:=(ws.getD k (0,1)).2
def lessM (g:List (List Int)):MDet.Mat:=λi j=>MDet.idm i j - mat g i j
structure Part (n:Nat) (G:MDet.Mat) (gap:Nat->Int) (ws:List (Int × Int)) (r:Nat->Int) (bt:Int):Prop where
 len:ws.length=n
 nz:bt≠0
 fr:∀ k,k < n->Fr (r k) bt (wt ws k) (wp ws k)
 rows:∀ i,i < n->bt ∣ MDet.S n λb=>G i b*r b
 gap:¬ bt ∣ MDet.S n λb=>gap b*r b
 bits:∀ k,k < n->Bt 8000600 (wt ws k)/\Bt 8000600 (wp ws k)
theorem gv_left {ts:List Int} {q:Int} {k:Nat} (h:k < ts.length):gv (ts++[q]) k=gv ts k:=by unfold gv;rw[getD_eq_getElem?_getD,getD_eq_getElem?_getD,List.getElem?_append_left h]
theorem gv_last {ts:List Int} {q:Int}:gv (ts++[q]) ts.length=q:=by unfold gv;rw[getD_eq_getElem?_getD,List.getElem?_append_right (Nat.le_refl _),Nat.sub_self];rfl
theorem gv_range {n:Nat} {f:Nat->Int} {i:Nat} (h:i < n):gv ((List.range n).map f) i=f i:=by
 unfold gv
 rw[getD_eq_getElem?_getD,range_get _ h];rfl
theorem mem_tab {n:Nat} {f:Nat->Int} {b:Nat} (h:∀ i,i < n->Bt b (f i)):∀ z∈(List.range n).map f,Bd b z:=λz hz=>by
 obtain ⟨i,hi,rfl⟩:=mem_map.mp hz
 exact Bd.iff.mpr (h i (mem_range.mp hi))
def gapL (x y:List Int):List Int:=(x.zip y).map λz=>z.1 - z.2
theorem gapL_len {x y:List Int} {n:Nat} (hx:x.length=n) (hy:y.length=n):(gapL x y).length=n:=by unfold gapL;rw[length_map,List.length_zip];lia
theorem gv_gap {x y:List Int} {n i:Nat} (hx:x.length=n) (hy:y.length=n) (hi:i < n):gv (gapL x y) i=gv x i - gv y i:=by
 unfold gapL
 have:((x.zip y).map λz=>z.1 - z.2)[i]?=some (gv x i - gv y i):=by
  rw[List.getElem?_map,List.getElem?_zip_eq_some (z:=(gv x i,gv y i)) |>.mpr ⟨gv_some (by lia),gv_some (by lia)⟩];rfl
 show gv _ i=_
 unfold gv at this ⊢
 rw[getD_eq_getElem?_getD,this];rfl
theorem gap_bd {x y:List Int} (bx:∀ z∈x,Bd 500 z) (by':∀ z∈y,Bd 500 z):∀ z∈gapL x y,Bd 501 z:=λz hz=>by
 obtain ⟨⟨a,b⟩,h,rfl⟩:=mem_map.mp hz
 obtain ⟨m1,m2⟩:=of_mem_zip h
 exact (bx a m1).sub (by' b m2)
theorem rng_iD {n:Nat} {f:Nat->Int}:PyData.list ((List.range n).map λi=>PyData.int (f i))=iD ((List.range n).map f):=by unfold iD;rw[map_map];rfl
def shr (n:Nat) (x y:List Int) (R:List (List Int)) (k:Nat):Int:=MDet.S n λb=>(gv x b - gv y b)*mat R b k
theorem enum_get {l:List Int} {i:Nat} {d:D} (h:(enumD 0 (l.map PyData.int))[i]?=some d):i < l.length/\d=.tuple [.int (i:Int),.int (gv l i)]:=by
 rw[enum_eq,List.getElem?_map,length_map] at h
 by_cases hi:i < l.length
 ·rw[List.getElem?_range hi] at h
  refine ⟨hi,(Option.some.inj h).symm.trans ?_⟩
  show PyData.tuple [.int ((0+i:Nat):Int),(l.map PyData.int).getD i (.int 0)]=_
  rw[Nat.zero_add,getD_eq_getElem?_getD,List.getElem?_map,gv_some hi];rfl
 ·rw[List.getElem?_eq_none (by rw[length_range];lia)] at h;cases h
theorem enum_len (l:List Int):(enumD 0 (l.map PyData.int)).length=l.length:=by rw[enum_eq,length_map,length_range,length_map]
abbrev s_same_class:Stmt:=top 27
theorem sc_same_class:FnScope ["table","one","other","left","corners","right","gap","shares","times","at","share","corner","bottom"] ["table","one","other"] (defScope s_same_class):=by walk_at "sc"
def sp_sc:SpD:=λds Q _=>∃ (g:List (List Int)) (x y:List Int) (n:Nat),ds=[gD g,iD x,iD y]/\Sh n n g/\(1<=n/\n<=4)/\Le n 100 g/\x.length=n/\y.length=n/\(∀ z∈x,Bd 500 z)/\(∀ z∈y,Bd 500 z) /\
 (∀ ts:List Int,ts.length=n->(∀ z∈ts,Bd 17000000 z)->(∀ b,b < n->(MDet.S n λi=>gv ts i*lessM g i b)=gv x b - gv y b)->Q (.tuple [.str "same",iD ts]) true) /\
 (∀ ws r bt,Part n (lessM g) (λb=>gv x b - gv y b) ws r bt->Q (.tuple [.str "apart",wD ws]) true)
theorem ok_same_class {f:Addr} {fd:FuncData} (F:Fun K "same_class" "same_class" s_same_class f fd) (T:Blt mg) (hT:P.given.tree=none) (D_corner_form:Df P w K mg base "corner_form" ["grid"] 45 (SpL K sp_cfD)) (D_less_grid:DfE P w K mg base "less_grid" ["table"] 3 (SpL K sp_less)) (D_fraction:Df P w K mg base "fraction" ["top","bottom"] 41 (SpL K sp_fr)) (D_dot:Df P w K mg base "dot" ["one","other"] 1 (SpL K sp_dot)) (D_column_of:Df P w K mg base "column_of" ["grid","at"] 1 (SpL K sp_col)) (D_divides:Df P w K mg base "divides" ["one","other"] 1 (SpL K sp_dvd)):FnOk P w K mg base CX0 46 f fd ["table","one","other"] (SpL K sp_sc):=by
 refine ok0 F sc_same_class (λds Q X h=>?_) (λcdv A outer s H E hr=>?_) λds Qd Xd h=>h
 ·obtain ⟨g,x,y,n,rfl,_⟩:=h;rfl
 refine ⟨_,(dpss_cons (dps_unp [3,4,5] 3 rfl (by rfl) (by rfl) (qpgs_cons (qpgn 3 sc_same_class.nd) (qpgs_cons (qpgn 4 sc_same_class.nd) (qpgs_cons (qpgn 5 sc_same_class.nd) qpgs_nil))) (by rfl) (by rfl) (dpe_df (by exact D_corner_form) (by exact hr.mono (by lia)) (dpa_cons (dpe_dfE (by exact D_less_grid) passF (by exact hr.mono (by lia)) (dpa_cons (dpv 0) dpa_nil)) dpa_nil)))
   (dpss_cons (dpset 6 sc_same_class.nd (dpe_lc ["x","y"] [] rfl (LcScope.of (by kernel_rfl)) (dpi_zip (by rfl) (by rfl) (by exact T.zip) (dpa_cons (dpv 1) (dpa_cons (dpv 2) dpa_nil))) (λ_ _ _ _=>⟨(dpg_tup 2 (by rfl) (by rfl) (dpgs_cons (dpgn 0 (nd_of (by kernel_rfl))) (dpgs_cons (dpgn 1 (nd_of (by kernel_rfl))) dpgs_nil)) (by rfl) (by rfl)),dpts_nil,(dpb_emit (by rfl) (by rfl) (dpe_op dop_sub (dpv 0) (dpv 1)))⟩)))
   (dpss_cons (dps_setlc (i:=7) (hN:=sc_same_class.nd) (hyi:=rfl) (hy:=rfl) (hc:=rfl) (own:=["at"]) (cap:=[("gap",6),("right",5)]) (L:=LcScope.of (by kernel_rfl)) (hi:=(dpi_range1 (by rfl) (by exact T.range) (dpa_cons (dpe_callB (dcl_len (by rfl)) (by rfl) (by exact T.len) (by decide +kernel) (dpa_cons (dpv 6) dpa_nil)) dpa_nil))) (hin:=(λ_ _ _ _=>⟨(dpgn 0 (nd_of (by kernel_rfl))),dpts_nil,(dpb_emit (by rfl) (by rfl) (dpe_df (by exact D_dot) (by exact hr.mono (by lia)) (dpa_cons (dpv 1) (dpa_cons (dpe_df (by exact D_column_of) (by exact hr.mono (by lia)) (dpa_cons (dpv 2) (dpa_cons (dpv 0) dpa_nil))) dpa_nil))))⟩)))
   (dpss_cons (dpset 8 sc_same_class.nd (dpe_lst dpa_nil))
   (dpss_cons (dps_frz 7 (dps_for PassesOwn.never rfl (dpi_enum (by rfl) (by rfl) (by exact T.enumerate) (dpa_cons (dpv 7) dpa_nil) (by rfl)) (dpg_tup 2 (by rfl) (by rfl) (dpgs_cons (dpgn 9 sc_same_class.nd) (dpgs_cons (dpgn 10 sc_same_class.nd) dpgs_nil)) (by rfl) (by rfl)) (dpss_cons (dpset 11 sc_same_class.nd (dpe_ix (dix (by rfl)) (dpe_ix (dix (by rfl)) (dpv 4) (dpv 9) (λ_ _=>rfl)) (dpv 9) (λ_ _=>rfl)))
   (dpss_cons (dps_if (dpt_not (dpt_val (dpe_df (by exact D_divides) (by exact hr.mono (by lia)) (dpa_cons (dpv 11) (dpa_cons (dpv 10) dpa_nil))))) (dpss_cons (dps_jn (dpset 12 sc_same_class.nd (dpe_ifExp (dpt_cmp (dop_ne (by rfl) (by exact hr.units)) (dpv 11) dpe_int (nomark _)) (dpv 11) (dpe_op dop_mul dpe_int (dpv 10)))))
   (dpss_one (dps_ret (dpe_tup (dpa_cons dpe_str (dpa_cons (dpe_lc ["top"] [("bottom",12)] rfl (LcScope.of (by kernel_rfl)) (dpi_list (by rfl) (dpe_df (by exact D_column_of) (by exact hr.mono (by lia)) (dpa_cons (dpv 5) (dpa_cons (dpv 9) dpa_nil)))) (λ_ _ _ _=>⟨(dpgn 0 (nd_of (by kernel_rfl))),dpts_nil,(dpb_emit (by rfl) (by rfl) (dpe_df (by exact D_fraction) (by exact hr.mono (by lia)) (dpa_cons (dpv 0) (dpa_cons (dpv 1) dpa_nil))))⟩)) dpa_nil)))))) dpss_nil)
   (dpss_one (dps_append 8 (by rfl) (qpv 8) (dpe_ifExp (dpt_cmp (dop_ne (by rfl) (by exact hr.units)) (dpv 11) dpe_int (nomark _)) (dpe_op (dop_fdivP ⟨⟨_,_,rfl,rfl,rfl,rfl,rfl⟩⟩ (by exact hT) (by exact hr.pyl)) (dpv 10) (dpv 11)) dpe_int) (by rfl) (by rfl) (by rfl)))))))
   (dpss_one (dps_ret (dpe_tup (dpa_cons dpe_str (dpa_cons (dpe_lc ["at"] [("times",8),("left",3)] rfl (LcScope.of (by kernel_rfl)) (dpi_range1 (by rfl) (by exact T.range) (dpa_cons (dpe_callB (dcl_len (by rfl)) (by rfl) (by exact T.len) (by decide +kernel) (dpa_cons (dpv 6) dpa_nil)) dpa_nil)) (λ_ _ _ _=>⟨(dpgn 0 (nd_of (by kernel_rfl))),dpts_nil,(dpb_emit (by rfl) (by rfl) (dpe_df (by exact D_dot) (by exact hr.mono (by lia)) (dpa_cons (dpv 1) (dpa_cons (dpe_df (by exact D_column_of) (by exact hr.mono (by lia)) (dpa_cons (dpv 2) (dpa_cons (dpv 0) dpa_nil))) dpa_nil))))⟩)) dpa_nil)))))))))),λds Qd h=>?_⟩
 obtain ⟨g,x,y,n,rfl,sh,⟨n1,n6⟩,le,hx,hy,bx,by',qs,qa⟩:=h
 show (_:TSD) _ [some (false,gD g),some (false,iD x),some (false,iD y),none,none,none,none,none,none,none,none,none,none] _
 cbv
 refine ⟨g,n,rfl,sh,by lia,?_⟩
 cbv
 have hl1:∀ i j,i < n->j < n->Bt 7 (lessM g i j):=λi j hi hj=>by
  have:=le i j hi hj
  unfold lessM MDet.idm
  show _ < 128
  split<;>lia
 have hgm:∀ i j,i < n->j < n->gm (tab n n λi j=>MDet.idm i j - mat g i j) i j=lessM g i j:=λi j hi hj=>by rw[<-mat_gm,tab_mat hi hj];rfl
 refine ⟨n,n,_,rfl,⟨tab_sh n n _,⟨n1,by lia⟩,⟨n1,by lia⟩,λi j hi hj=>by rw[hgm i j hi hj];exact (hl1 i j hi hj).up (by decide),.inr λi j hi hj=>by rw[hgm i j hi hj];exact (hl1 i j hi hj).up (by decide)⟩,λL C R Z=>?_⟩
 cbv
 have sm:Sm n n (lessM g) (gm L) (gm C) (λi j=>gm R j i):=⟨⟨λi j hi hj=>by
  rw[Z.sm6.rel.eq i j hi hj]
  exact MDet.S_congr λa ha=>by rw[MDet.S_congr λb hb=>by rw[hgm a b ha hb]]⟩,Z.sm6.gl,Z.sm6.gr,Z.sm6.off,Z.sm6.nn,Z.sm6.ch⟩
 rw[zip_ints]
 refine lc_mapA (L:=x.zip y) (λz:Int × Int=>.tuple [.int z.1,.int z.2]) (λz=>.int (z.1 - z.2)) (λz hz es Q' hl' q'=>?_) (by rw[List.length_zip];lia) ?_
 ·obtain ⟨z1,z2⟩:=z
  cbv
  exact q'
 rw[show PyData.list ((x.zip y).map λz=>PyData.int (z.1 - z.2))=iD (gapL x y) from by unfold iD gapL;rw[map_map];rfl]
 have gl:=gapL_len hx hy
 have gb:=gap_bd bx by'
 have hg:∀ i,i < n->gv (gapL x y) i=gv x i - gv y i:=λi hi=>gv_gap hx hy hi
 generalize gapL x y=gp at gl gb hg ⊢
 cbv
 rw[gl,Int.toNat_natCast]
 have colR:∀ k,k < n->∀ z∈(List.range n).map (λj=>mat R j k),Bd 8000000 z:=λk hk=>mem_tab λi hi=>Z.bR i k hi hk
 refine lc_mapA (L:=List.range n) (λk:Nat=>.int (0+(k:Int))) (λk=>.int (shr n x y R k)) (λk hk es Q' hl q'=>?_) (by rw[length_range];lia) ?_
 ·have hk:=mem_range.mp hk
  cbv
  refine ⟨R,n,n,k,by rw[Int.zero_add],Z.sR,by lia,hk,?_⟩
  cbv
  refine ⟨gp,_,n,501,8000000,rfl,gl,by simp,by lia,gb,colR k hk,by decide,?_⟩
  rw[MDet.S_congr (g:=λb=>(gv x b - gv y b)*mat R b k) λb hb=>by rw[hg b hb,gv_range hb]]
  cbv
  exact q'
 rw[rng_iD]
 cbv
 have bS:∀ k,k < n->Bt 8000510 (shr n x y R k):=λk hk=>(M06.Bt.sum (b:=501+8000000) (by lia) λi hi=>by
  rw[<-hg i hi]
  have h1:Bt 501 (gv gp i):=Bd.iff.mp (gb _ (mem_of_getElem? (gv_some (by lia))))
  exact h1.mul (Z.bR i k hi hk)).up (by decide)
 refine lp_list (λi ρ=>∃ (ts:List Int) (x9 x10 x11 x12:Option (Bool × D)),ρ=[some (false,gD g),some (false,iD x),some (false,iD y),some (true,gD L),some (true,gD C),some (true,gD R),some (true,iD gp),some (false,iD ((List.range n).map (shr n x y R))),some (true,iD ts),x9,x10,x11,x12]/\ts.length=i/\(∀ k,k < i->shr n x y R k=gv ts k*mat C k k)/\∀ z∈ts,Bd 8000512 z) ⟨[],_,_,_,_,rfl,rfl,λk hk=>absurd hk (Nat.not_lt_zero k),λz hz=>(by cases hz)⟩ ?_ ?_
 ·rintro i d ρ hd ⟨ts,x9,x10,x11,x12,rfl,tl,te,tb⟩
  obtain ⟨hi,rfl⟩:=enum_get hd
  have hi:i < n:=by simpa using hi
  rw[gv_range hi]
  cbv
  obtain ⟨r,v1,v2,v3,v4⟩:=Z.sC.cell hi hi
  refine ⟨iD r,atI_nat (by rw[List.getElem?_map,v1];rfl),?_⟩
  cbv
  refine ⟨.int (mat C i i),atI_nat (by rw[List.getElem?_map,v2];rfl),?_⟩
  cbv
  refine ⟨_,_,rfl,sm.nn i hi hi,λb hb=>?_⟩
  cbv
  cases b with
  | true =>
   have hdv:=hb.mp rfl
   cbv
   have push:∀ q:Int,shr n x y R i=q*mat C i i->q.natAbs<=(shr n x y R i).natAbs->(ts++[q]).length=i+1/\(∀ k,k < i+1->shr n x y R k=gv (ts++[q]) k*mat C k k)/\∀ z∈ts++[q],Bd 8000512 z:=λq h1 h2=>by
    refine ⟨by rw[length_append,tl];rfl,λk hk=>?_,λz hz=>?_⟩
    ·rcases Nat.lt_or_eq_of_le (Nat.le_of_lt_succ hk) with hk|rfl
     ·rw[te k hk,gv_left (by lia)]
     ·rw[h1,<-tl,gv_last]
    ·rcases mem_append.mp hz with hz|hz
     ·exact tb z hz
     ·rw[mem_singleton.mp hz]
      exact (Bd.iff.mpr (Nat.lt_of_le_of_lt h2 (bS i hi)):Bd 8000510 q).mono (by decide)
   refine w_app rfl (by rw[length_map];lia) ?_
   cbv
   refine ite2 (λh1=>?_) λh1=>?_
   ·have h1:mat C i i≠0:=by simpa using h1
    cbv
    obtain ⟨q,hq⟩:=hdv
    have eq:(shr n x y R i).fdiv (mat C i i)=q:=by rw[hq];exact Int.mul_fdiv_cancel_left _ h1
    rw[eq]
    obtain ⟨p1,p2,p3⟩:=push q (by rw[hq,Int.mul_comm]) (by rw[hq,Int.natAbs_mul];exact Nat.le_mul_of_pos_left _ (Int.natAbs_pos.mpr h1))
    exact ⟨_,_,_,_,_,rfl,p1,p2,p3⟩
   ·have h1:mat C i i=0:=by simpa using h1
    cbv
    rw[h1] at hdv
    have hz:=Int.zero_dvd.mp hdv
    obtain ⟨p1,p2,p3⟩:=push 0 (by rw[hz,Int.zero_mul]) (by exact Nat.zero_le _)
    exact ⟨_,_,_,_,_,rfl,p1,p2,p3⟩
  | false =>
   have hdv:¬ mat C i i ∣ shr n x y R i:=λz=>by cases hb.mpr z
   cbv
   rw[if_pos trivial]
   cbv
   have cd:∀ a,a < n->mat C i i ∣ MDet.S n λb=>lessM g a b*mat R b i:=λa ha=>M62.col_dvd sm hi ha
   refine w_jn (λρ=>∃ bt:Int,ρ=[some (false,gD g),some (false,iD x),some (false,iD y),some (true,gD L),some (true,gD C),some (true,gD R),some (true,iD gp),some (false,iD ((List.range n).map (shr n x y R))),some (true,iD ts),some (false,.int i),some (false,.int (shr n x y R i)),some (false,.int (mat C i i)),some (false,.int bt)]/\bt≠0/\Bt 8000512 bt/\(∀ a,a < n->bt ∣ MDet.S n λb=>lessM g a b*mat R b i)/\¬ bt ∣ shr n x y R i) (λN hN=>?_) ?_
   ·cbv
    refine ite2 (λh1=>?_) λh1=>?_
    ·have h1:mat C i i≠0:=by simpa using h1
     cbv
     exact hN _ ⟨_,rfl,h1,(Z.bC i i hi hi).up (by decide),cd,hdv⟩
    ·have h1:mat C i i=0:=by simpa using h1
     rw[h1] at hdv cd
     have hs:shr n x y R i≠0:=λz=>hdv (by rw[z];exact Int.dvd_refl 0)
     cbv
     refine hN _ ⟨_,rfl,by lia,?_,λa ha=>by rw[Int.zero_dvd.mp (cd a ha)];exact Int.dvd_zero _,M62.two_dvd hs⟩
     exact ((show Bt 2 2 from M62.bt_two).mul (bS i hi)).up (by decide)
   rintro ρ ⟨bt,rfl,b0,bb,brow,bgap⟩
   cbv
   refine ⟨R,n,n,i,rfl,Z.sR,by lia,hi,?_⟩
   cbv
   rw[map_map]
   refine lc_mapA (L:=List.range n) (PyData.int ∘ λj=>mat R j i) (λj=>pD ((mat R j i).fdiv (M62.frC (mat R j i) bt),bt.fdiv (M62.frC (mat R j i) bt))) (λj hj es Q' hl q'=>?_) (by rw[length_range];lia) ?_
   ·show bName 0 (.int (mat R j i)) _ _
    cbv
    refine ⟨_,_,rfl,b0,?_⟩
    cbv
    exact q'
   ·cbv
    rw[kcons_own rfl]
    cbv
    obtain ⟨ws,ew⟩:∃ ws:List (Int × Int),ws=(List.range n).map λj=>((mat R j i).fdiv (M62.frC (mat R j i) bt),bt.fdiv (M62.frC (mat R j i) bt)):=⟨_,rfl⟩
    have ed:PyData.list ((List.range n).map λj=>pD ((mat R j i).fdiv (M62.frC (mat R j i) bt),bt.fdiv (M62.frC (mat R j i) bt)))=wD ws:=by rw[ew];unfold wD;rw[map_map];rfl
    rw[ed]
    have hw:∀ k,k < n->Fr (mat R k i) bt (wt ws k) (wp ws k):=λk hk=>by
     have:=M62.fr_ok (r:=mat R k i) b0
     unfold wt wp
     rw[ew,getD_eq_getElem?_getD,range_get _ hk]
     exact this
    exact qa ws (λk=>mat R k i) bt ⟨by rw[ew];simp,b0,hw,brow,bgap,λk hk=>⟨Bt.up (b:=8000000) (Nat.lt_of_le_of_lt (hw k hk).tl (Z.bR k i hk hi)) (by decide),Bt.up (b:=8000512) (Nat.lt_of_le_of_lt (hw k hk).pl (bb.up (by decide))) (by decide)⟩⟩
 ·rintro ρ ⟨ts,x9,x10,x11,x12,rfl,tl,te,tb⟩
  rw[enum_len] at tl te
  have tl:ts.length=n:=by simpa using tl
  cbv
  rw[gl,Int.toNat_natCast]
  have colL:∀ k,k < n->∀ z∈(List.range n).map (λj=>mat L j k),Bd 8000000 z:=λk hk=>mem_tab λi hi=>Z.bL i k hi hk
  have bts:∀ k,k < n->Bt 8000512 (gv ts k):=λk hk=>Bd.iff.mp (tb _ (mem_of_getElem? (gv_some (by lia))))
  refine lc_mapA (L:=List.range n) (λk:Nat=>.int (0+(k:Int))) (λa=>.int (MDet.S n λk=>gv ts k*mat L k a)) (λk hk es Q' hl q'=>?_) (by rw[length_range];lia) ?_
  ·have hk:=mem_range.mp hk
   cbv
   refine ⟨L,n,n,k,by rw[Int.zero_add],Z.sL,by lia,hk,?_⟩
   cbv
   refine ⟨ts,_,n,8000512,8000000,rfl,tl,by simp,by lia,tb,colL k hk,by decide,?_⟩
   rw[MDet.S_congr (g:=λb=>gv ts b*mat L b k) λb hb=>by rw[gv_range hb]]
   cbv
   exact q'
  rw[rng_iD]
  cbv
  refine qs _ (by simp) (mem_tab λa ha=>(M06.Bt.sum (b:=8000512+8000000) (by lia) λk hk=>(bts k hk).mul (Z.bL k a hk ha)).up (by decide)) λb hb=>?_
  rw[MDet.S_congr (g:=λi=>(MDet.S n λk=>gv ts k*mat L k i)*lessM g i b) λi hi=>by rw[gv_range hi]]
  exact M62.same_ok sm (gap:=λb=>gv x b - gv y b) (t:=gv ts) (λk hk=>te k (by simpa using hk)) hb
open M06 (Bt Sm)
open M64 (E crn ords)
abbrev s_corners_of:Stmt:=top 25
theorem sc_corners_of:FnScope ["table","corners"] ["table"] (defScope s_corners_of):=by walk_at "sc"
structure Tbl (n:Nat) (g:List (List Int)):Prop where
 sh:Sh n n g
 n1:1<=n/\n<=4
 le:Le n 100 g
structure Cor (n:Nat) (g:List (List Int)) (C:MDet.Mat):Prop where
 sm:∃ L R,Sm n n (lessM g) L C R
 bt:∀ k,k < n->Bt 425 (C k k)
def sp_cof:SpD:=λds Q _=>∃ (g:List (List Int)) (n:Nat),ds=[gD g]/\Tbl n g/\∀ C,Cor n g C->Q (iD (crn n C)) true
theorem ok_corners_of {f:Addr} {fd:FuncData} (F:Fun K "corners_of" "corners_of" s_corners_of f fd) (T:Blt mg) (D_corner_form:Df P w K mg base "corner_form" ["grid"] 45 (SpL K sp_cfD)) (D_less_grid:DfE P w K mg base "less_grid" ["table"] 3 (SpL K sp_less)):FnOk P w K mg base CX0 46 f fd ["table"] (SpL K sp_cof):=by
 refine ok0 F sc_corners_of (λds Q X h=>?_) (λcdv A outer s H E hr=>?_) λds Qd Xd h=>h
 ·obtain ⟨g,n,rfl,_⟩:=h;rfl
 refine ⟨_,(dpss_cons (dpset 1 sc_corners_of.nd (dpe_ix (dix (by rfl)) (dpe_df (by exact D_corner_form) (by exact hr.mono (by lia)) (dpa_cons (dpe_dfE (by exact D_less_grid) passF (by exact hr.mono (by lia)) (dpa_cons (dpv 0) dpa_nil)) dpa_nil)) dpe_int (λ_ _=>rfl)))
   (dpss_one (dps_ret (dpe_lc ["at","row"] [] rfl (LcScope.of (by kernel_rfl)) (dpi_enum (by rfl) (by rfl) (by exact T.enumerate) (dpa_cons (dpv 1) dpa_nil) (by rfl)) (λ_ _ _ _=>⟨(dpg_tup 2 (by rfl) (by rfl) (dpgs_cons (dpgn 0 (nd_of (by kernel_rfl))) (dpgs_cons (dpgn 1 (nd_of (by kernel_rfl))) dpgs_nil)) (by rfl) (by rfl)),dpts_nil,(dpb_emit (by rfl) (by rfl) (dpe_ix (dix (by rfl)) (dpv 1) (dpv 0) (λ_ _=>rfl)))⟩))))),λds Qd h=>?_⟩
 obtain ⟨g,n,rfl,⟨sh,⟨n1,n6⟩,le⟩,q⟩:=h
 show (_:TSD) _ [some (false,gD g),none] _
 cbv
 refine ⟨g,n,rfl,sh,by lia,?_⟩
 cbv
 have hl1:∀ i j,i < n->j < n->Bt 7 (lessM g i j):=λi j hi hj=>by
  have:=le i j hi hj
  unfold lessM MDet.idm
  show _ < 128
  split<;>lia
 have hgm:∀ i j,i < n->j < n->gm (tab n n λi j=>MDet.idm i j - mat g i j) i j=lessM g i j:=λi j hi hj=>by rw[<-mat_gm,tab_mat hi hj];rfl
 refine ⟨n,n,_,rfl,⟨tab_sh n n _,⟨n1,by lia⟩,⟨n1,by lia⟩,λi j hi hj=>by rw[hgm i j hi hj];exact (hl1 i j hi hj).up (by decide),.inr λi j hi hj=>by rw[hgm i j hi hj];exact (hl1 i j hi hj).up (by decide)⟩,λL C R Z=>?_⟩
 have sm:Sm n n (lessM g) (gm L) (gm C) (λi j=>gm R j i):=⟨⟨λi j hi hj=>by
  rw[Z.sm6.rel.eq i j hi hj]
  exact MDet.S_congr λa ha=>by rw[MDet.S_congr λb hb=>by rw[hgm a b ha hb]]⟩,Z.sm6.gl,Z.sm6.gr,Z.sm6.off,Z.sm6.nn,Z.sm6.ch⟩
 cbv
 refine ⟨gD C,atI_nat (j:=1) rfl,?_⟩
 cbv
 rw[enum_eq,length_map,Z.sC.1]
 refine lc_mapA (L:=List.range n) (λi=>.tuple [.int ((0+i:Nat):Int),(C.map iD).getD i (.int 0)]) (λi=>.int (gm C i i)) (λi hi es Q' hl q'=>?_) (by rw[length_range];lia) ?_
 ·have hi:=mem_range.mp hi
  obtain ⟨r,v1,v2,v3,v4⟩:=Z.sC.cell hi hi
  rw[Nat.zero_add,show (C.map iD).getD i (.int 0)=iD r from by rw[getD_eq_getElem?_getD,List.getElem?_map,v1];rfl]
  cbv
  refine ⟨.int (mat C i i),atI_nat (by rw[List.getElem?_map,v2];rfl),?_⟩
  cbv
  exact q'
 rw[rng_iD]
 exact q (gm C) ⟨⟨_,_,sm⟩,λk hk=>Z.bC k k hk hk⟩
abbrev s_group_of:Stmt:=top 26
theorem sc_group_of:FnScope ["table","corners"] ["table"] (defScope s_group_of):=by walk_at "sc"
def sp_grp:SpD:=λds Q _=>∃ (g:List (List Int)) (n:Nat),ds=[gD g]/\Tbl n g/\∀ C,Cor n g C->Q (.tuple [iD (ords n C),.int (((crn n C).filter λx=>x==0).length:Nat)]) true
theorem ok_group_of {f:Addr} {fd:FuncData} (F:Fun K "group_of" "group_of" s_group_of f fd) (T:Blt mg) (D_corners_of:Df P w K mg base "corners_of" ["table"] 46 (SpL K sp_cof)):FnOk P w K mg base CX0 47 f fd ["table"] (SpL K sp_grp):=by
 refine ok0 F sc_group_of (λds Q X h=>?_) (λcdv A outer s H E hr=>?_) λds Qd Xd h=>h
 ·obtain ⟨g,n,rfl,_⟩:=h;rfl
 refine ⟨_,(dpss_cons (dpset 1 sc_group_of.nd (dpe_df (by exact D_corners_of) (by exact hr.mono (by lia)) (dpa_cons (dpv 0) dpa_nil)))
   (dpss_one (dps_ret (dpe_tup (dpa_cons (dpe_lc ["corner"] [] rfl (LcScope.of (by kernel_rfl)) (dpi_list (by rfl) (dpv 1)) (λ_ _ _ _=>⟨(dpgn 0 (nd_of (by kernel_rfl))),(dpts_one (dpt_cmp dop_gt (dpv 0) dpe_int (nomark _))),(dpb_emit (by rfl) (by rfl) (dpv 0))⟩)) (dpa_cons (dpe_count (by rfl) (by exact hr.units) (dpv 1) dpe_int) dpa_nil)))))),λds Qd h=>?_⟩
 obtain ⟨g,n,rfl,T',q⟩:=h
 show (_:TSD) _ [some (false,gD g),none] _
 cbv
 refine ⟨g,n,rfl,T',λC hC=>?_⟩
 cbv
 refine lc_fltA (L:=crn n C) PyData.int PyData.int (λx=>decide (1 < x)) (λx hx es Q' hl q'=>?_) (by unfold crn;rw[length_map,length_range];have:=T'.n1;lia) ?_
 ·cbv
  by_cases h1:1 < x
  ·rw[if_pos (by simpa using h1)] at q' ⊢
   cbv
   exact q'
  ·rw[if_neg (by simpa using h1)] at q' ⊢
   exact q'
 rw[show PyData.list (((crn n C).filter λx=>decide (1 < x)).map PyData.int)=iD (ords n C) from rfl]
 cbv
 refine w_cnt ?_
 cbv
 refine ⟨⟨rfl,by decide,lay_ints _⟩,?_⟩
 rw[List.countP_map,List.countP_eq_length_filter,show ((λy=>PyData.eqv y (PyData.int 0)) ∘ PyData.int)=λx:Int=>x==0 from rfl]
 cbv
 rw[kcons_own rfl]
 exact q C hC
theorem setK_2 {ρ:Ren} {i:Nat} {t:Str} {x:List Int}:setK ρ i (.tuple [.str t,iD x]) (.own [])=ρ.set i (some (true,.tuple [.str t,iD x])):=rfl
theorem setK_2w {ρ:Ren} {i:Nat} {t:Str} {x:List (Int × Int)}:setK ρ i (.tuple [.str t,wD x]) (.own [])=ρ.set i (some (true,.tuple [.str t,wD x])):=rfl
abbrev s_l_same:Stmt:=top 37
theorem sc_l_same:FnScope ["_law_table_here","_law_one","_law_other","_law_found"] ["_law_table_here","_law_one","_law_other"] (defScope s_l_same):=by walk_at "sc"
def sp_same:SpD:=λds Q _=>∃ (g:List (List Int)) (x y:List Int) (n:Nat),ds=[gD g,iD x,iD y]/\Tbl n g/\x.length=n/\y.length=n/\(∀ z∈x,Bd 500 z)/\(∀ z∈y,Bd 500 z)/\∀ b:Bool,(b=true ↔ E n (lessM g) (gv x) (gv y))->Q (.bool b) true
theorem ok_l_same {f:Addr} {fd:FuncData} (F:Fun K "_law_same" "_law_same" s_l_same f fd) (T:Blt mg) (D_same_class:Df P w K mg base "same_class" ["table","one","other"] 46 (SpL K sp_sc)) (D_l_copy:Df P w K mg base "_law_copy" ["_law_grid"] 1 (SpL K sp_copy)):FnOk P w K mg base CX0 47 f fd ["_law_table_here","_law_one","_law_other"] (SpL K sp_same):=by
 refine ok0 F sc_l_same (λds Q X h=>?_) (λcdv A outer s H E hr=>?_) λds Qd Xd h=>h
 ·obtain ⟨g,x,y,n,rfl,_⟩:=h;rfl
 refine ⟨_,(dpss_cons (dpset 3 sc_l_same.nd (dpe_df (by exact D_same_class) (by exact hr.mono (by lia)) (dpa_cons (dpe_df (by exact D_l_copy) (by exact hr.mono (by lia)) (dpa_cons (dpv 0) dpa_nil)) (dpa_cons (dpe_callTy (dcl_list (by rfl)) (by rfl) (by exact T.list) (by decide +kernel) (dpa_cons (dpv 1) dpa_nil)) (dpa_cons (dpe_callTy (dcl_list (by rfl)) (by rfl) (by exact T.list) (by decide +kernel) (dpa_cons (dpv 2) dpa_nil)) dpa_nil)))))
   (dpss_one (dps_ret (dpe_cmp (dop_eq (by rfl) (by exact hr.units)) (dpe_ix (dix (by rfl)) (dpv 3) dpe_int (λ_ _=>rfl)) dpe_str (nomark _))))),λds Qd h=>?_⟩
 obtain ⟨g,x,y,n,rfl,⟨sh,n1,le⟩,hx,hy,bx,by',q⟩:=h
 show (_:TSD) _ [some (false,gD g),some (false,iD x),some (false,iD y),none] _
 have gl:=sh.1
 cbv
 refine ⟨g,rfl,by lia,?_⟩
 cbv
 refine ⟨g,x,y,n,rfl,sh,n1,le,hx,hy,bx,by',λts tl tb te=>?_,λws r bt Z=>?_⟩
 ·cbv
  rw[setK_2]
  cbv
  refine ⟨_,atI_nat (j:=0) rfl,?_⟩
  cbv
  refine ⟨⟨by decide +kernel,by decide +kernel,Nat.zero_le _⟩,?_⟩
  rw[show (PyData.str (Str.ofString "same")).eqv (PyData.str (Str.ofString "same"))=true from by decide +kernel]
  exact q _ ⟨λ_=>⟨gv ts,λb hb=>(te b hb).symm⟩,λ_=>rfl⟩
 ·cbv
  rw[setK_2w]
  cbv
  refine ⟨_,atI_nat (j:=0) rfl,?_⟩
  cbv
  refine ⟨⟨by decide +kernel,by decide +kernel,Nat.zero_le _⟩,?_⟩
  rw[show (PyData.str (Str.ofString "apart")).eqv (PyData.str (Str.ofString "same"))=false from by decide +kernel]
  refine q _ ⟨λz=>(by cases z),λ⟨t,ht⟩=>absurd ?_ Z.gap⟩
  rw[MDet.S_congr (g:=λb=>(MDet.S n λi=>t i*lessM g i b)*r b) λb hb=>by rw[ht b hb],M62.sum_swap]
  exact M62.dvd_S λi hi=>Int.dvd_mul_of_dvd_right (Z.rows i hi)
open M06 (Bt Sm)
open M64 (E crn ords up)
theorem go_fltF {α:Type} {f:D->Els->(Els->Prop)->Prop} {Q:Els->Prop} (F G:α->D) (p:α->Bool):∀ (L:List α) (es:Els),(∀ a∈L,∀ es (Q':Els->Prop),es.length < 1000000->Q' (if p a=true then es++[(G a,false)] else es)->f (F a) es Q')->es.length+L.length<=1000000->Q (es++(L.filter p).map λa=>(G a,false))->go f (L.map F) es Q
 | [],es,_,_,q=>by
  show Q es
  simpa using q
 | a::r,es,hs,hm,q=>by
  rw[length_cons] at hm
  refine hs a mem_cons_self es _ (by lia) ?_
  refine go_fltF F G p r _ (λb hb=>hs b (mem_cons_of_mem _ hb)) ?_ ?_
  ·split
   ·rw[length_append,length_singleton];lia
   ·lia
  ·rw[List.filter_cons] at q
   by_cases hp:p a=true
   ·rw[if_pos hp] at q ⊢
    rw[append_assoc];exact q
   ·rw[if_neg hp] at q ⊢;exact q
theorem lc_fltF {α:Type} {f:D->Els->(Els->Prop)->Prop} {ok:Bool} {Q:QD} {L:List α} (F G:α->D) (p:α->Bool) (hs:∀ a∈L,∀ es (Q':Els->Prop),es.length < 1000000->Q' (if p a=true then es++[(G a,false)] else es)->f (F a) es Q') (hm:L.length<=1000000) (q:∀ k,Q (.list ((L.filter p).map G)) k):LcD f (L.map F) ok Q:=by
 refine go_fltF F G p L [] hs (by simpa using hm) ?_
 have e1:((((L.filter p).map λa=>(G a,false)):Els).map (·.1))=(L.filter p).map G:=by rw[map_map];rfl
 rw[nil_append,e1];exact q _
theorem E_same {n:Nat} {G:MDet.Mat} {x y:Nat->Int} (h:∀ b,b < n->x b=y b):E n G x y:=⟨λ_=>0,λb hb=>by rw[h b hb,Int.sub_self,MDet.S_zero λi _=>Int.zero_mul _]⟩
def one (f:List Int) (k:Nat):List Int:=f.set k (gv f k+1)
theorem one_gv {f:List Int} {k b:Nat} (h:k < f.length):gv (one f k) b=M64.up (gv f) k 1 b:=by
 unfold one gv M64.up
 rw[getD_eq_getElem?_getD,List.getElem?_set]
 by_cases e:k=b
 ·subst e;rw[if_pos rfl,if_pos h,if_pos rfl];rfl
 ·rw[if_neg e,if_neg (Ne.symm e)]
  show f[b]?.getD 0=f.getD b 0
  rw[getD_eq_getElem?_getD]
abbrev s_l_classes:Stmt:=top 38
theorem sc_l_classes:FnScope ["_law_table_here","_law_n","_law_found","_law_at","_law_k","_law_later"] ["_law_table_here"] (defScope s_l_classes):=by walk_at "sc"
structure Fnd (n:Nat) (g:List (List Int)) (F:List (List Int)) (N:Nat):Prop where
 sh:∀ f∈F,f.length=n
 bd:∀ f∈F,∀ x∈f,0<=x/\x<=(N:Int)
 ap:F.Pairwise λx y=>¬ M64.E n (lessM g) (gv x) (gv y)
 z:∃ f∈F,M64.E n (lessM g) (gv f) λ_=>0
def Clo (n:Nat) (g:List (List Int)) (F:List (List Int)) (t:Nat):Prop:=∀ i f,i < t->F[i]?=some f->∀ k,k < n->∃ h∈F,M64.E n (lessM g) (gv h) (M64.up (gv f) k 1)
def sp_cls:SpD:=λds Q _=>∃ (g:List (List Int)) (n:Nat),ds=[gD g]/\Tbl n g/\∀ F N,Fnd n g F N->(F.length < 9->Clo n g F F.length)->F.length<=20->Q (gD F) true
theorem ok_l_classes {f:Addr} {fd:FuncData} (F:Fun K "_law_classes" "_law_classes" s_l_classes f fd) (T:Blt mg) (D_l_same:Df P w K mg base "_law_same" ["_law_table_here","_law_one","_law_other"] 47 (SpL K sp_same)):FnOk P w K mg base CX0 48 f fd ["_law_table_here"] (SpL K sp_cls):=by
 refine ok0 F sc_l_classes (λds Q X h=>?_) (λcdv A outer s H E hr=>?_) λds Qd Xd h=>h
 ·obtain ⟨g,n,rfl,_⟩:=h;rfl
 refine ⟨_,(dpss_cons (dpset 1 sc_l_classes.nd (dpe_callB (dcl_len (by rfl)) (by rfl) (by exact T.len) (by decide +kernel) (dpa_cons (dpv 0) dpa_nil)))
   (dpss_cons (dpset 2 sc_l_classes.nd (dpe_lst (dpa_cons (dpe_lc ["_law_k"] [] rfl (LcScope.of (by kernel_rfl)) (dpi_range1 (by rfl) (by exact T.range) (dpa_cons (dpv 1) dpa_nil)) (λ_ _ _ _=>⟨(dpgn 0 (nd_of (by kernel_rfl))),dpts_nil,(dpb_emit (by rfl) (by rfl) dpe_int)⟩)) dpa_nil)))
   (dpss_cons (dpset 3 sc_l_classes.nd dpe_int)
   (dpss_cons (dps_while PassesOwn.never (dPWpt (dpw_and (dpt_cmp dop_lt (dpv 3) (dpe_callB (dcl_len (by rfl)) (by rfl) (by exact T.len) (by decide +kernel) (dpa_cons (dpv 2) dpa_nil)) (nomark _)) (dpw_and1 (dpt_cmp dop_lt (dpe_callB (dcl_len (by rfl)) (by rfl) (by exact T.len) (by decide +kernel) (dpa_cons (dpv 2) dpa_nil)) dpe_int (nomark _))))) (dpss_cons (dps_for PassesOwn.never rfl (dpi_range1 (by rfl) (by exact T.range) (dpa_cons (dpv 1) dpa_nil)) (dpgn 4 sc_l_classes.nd) (dpss_cons (dpset 5 sc_l_classes.nd (dpe_callTy (dcl_list (by rfl)) (by rfl) (by exact T.list) (by decide +kernel) (dpa_cons (dpe_ix (dix (by rfl)) (dpv 2) (dpv 3) (λ_ _=>rfl)) dpa_nil)))
   (dpss_cons (dps_put1 5 (qpv 5) (dpv 4) (dpe_op dop_add (dpe_ix (dix (by rfl)) (dpv 5) (dpv 4) (λ_ _=>rfl)) dpe_int))
   (dpss_one (dps_if (dpt_cmp (dop_eq (by rfl) (by exact hr.units)) (dpe_lc ["_law_one"] [("_law_table_here",0),("_law_later",5)] rfl (LcScope.of (by kernel_rfl)) (dpi_list (by rfl) (dpv 2)) (λ_ _ _ _=>⟨(dpgn 0 (nd_of (by kernel_rfl))),(dpts_one (dpt_val (dpe_df (by exact D_l_same) (by exact hr.mono (by lia)) (dpa_cons (dpv 1) (dpa_cons (dpv 0) (dpa_cons (dpv 2) dpa_nil)))))),(dpb_emit (by rfl) (by rfl) (dpv 0))⟩)) (dpe_lst dpa_nil) (nomark _)) (dpss_one (dps_append 2 (by rfl) (qpv 2) (dpv 5) (by rfl) (by rfl) (by rfl))) dpss_nil)))))
   (dpss_one (dpset 3 sc_l_classes.nd (dpe_op dop_add (dpv 3) dpe_int)))))
   (dpss_one (dps_ret (dpv 2))))))),λds Qd h=>?_⟩
 obtain ⟨g,n,rfl,T',q⟩:=h
 show (_:TSD) _ [some (false,gD g),none,none,none,none,none] _
 have gl:=T'.sh.1
 cbv
 rw[gl,Int.toNat_natCast]
 have n1:=T'.n1
 refine ⟨⟨by lia,by lia⟩,?_⟩
 refine lc_mapA (L:=List.range n) (λx:Nat=>.int (0+(x:Int))) (λk=>.int 0) (λk hk es Q' hl q'=>?_) (by rw[length_range];lia) ?_
 ·cbv
  exact q'
 rw[rng_iD (f:=λ_=>0)]
 cbv
 rw[kcons_own rfl,nil_append]
 cbv
 refine ⟨λm ρ=>∃ (F:List (List Int)) (t:Nat) (x4 x5:Option (Bool × D)),ρ=[some (false,gD g),some (false,.int n),some (true,gD F),some (false,.int t),x4,x5]/\m=20 - t/\Fnd n g F t/\Clo n g F t/\t<=F.length/\F.length<=12,⟨_,[(List.range n).map λ_=>0],0,_,_,rfl,rfl,⟨λf hf=>?_,λf hf x hx=>?_,List.pairwise_singleton _ _,⟨_,mem_singleton.mpr rfl,E_same λb hb=>gv_range hb⟩⟩,λi f hi=>absurd hi (Nat.not_lt_zero i),Nat.zero_le _,show 1<=12 by decide⟩,?_⟩
 ·rw[mem_singleton.mp hf,length_map,length_range]
 ·rw[mem_singleton.mp hf] at hx
  obtain ⟨_,_,rfl⟩:=mem_map.mp hx
  exact ⟨by decide,by decide⟩
 rintro m ρ ⟨F,t,x4,x5,rfl,rfl,hF,hC,ht,hl⟩
 cbv
 refine iteb (λh1=>?_) λh1=>?_
 ·have h1:t < F.length:=by simpa using h1
  cbv
  refine iteb (λh2=>?_) λh2=>?_
  ·have h2:F.length < 9:=by simp at h2;lia
   obtain ⟨f,hf⟩:∃ f,F[t]?=some f:=⟨_,List.getElem?_eq_getElem h1⟩
   have fl:=hF.sh f (mem_of_getElem? hf)
   have fb:=hF.bd f (mem_of_getElem? hf)
   cbv
   rw[Int.toNat_natCast]
   refine lp_rng (λj ρ=>∃ (F':List (List Int)) (x4 x5:Option (Bool × D)),ρ=[some (false,gD g),some (false,.int n),some (true,gD F'),some (false,.int t),x4,x5]/\Fnd n g F' (t+1)/\Clo n g F' t/\F'[t]?=some f/\F'.length<=F.length+j/\∀ k,k < j->∃ h∈F',M64.E n (lessM g) (gv h) (M64.up (gv f) k 1)) ⟨F,_,_,rfl,⟨hF.sh,λf hf x hx=>⟨(hF.bd f hf x hx).1,by have:=(hF.bd f hf x hx).2;lia⟩,hF.ap,hF.z⟩,hC,hf,Nat.le_add_right _ _,λk hk=>absurd hk (Nat.not_lt_zero k)⟩ ?_ ?_
   ·rintro j ρ hj ⟨F',x4,x5,rfl,hF',hC',hf',hl',hk'⟩
    have hjn:j < f.length:=by lia
    cbv
    refine ⟨iD f,atI_nat (by rw[List.getElem?_map,hf'];rfl),?_⟩
    cbv
    refine ⟨.int (gv f j),by rw[Int.zero_add];exact atI_nat (by rw[List.getElem?_map,gv_some hjn];rfl),?_⟩
    cbv
    refine ⟨_,rfl,?_⟩
    cbv
    refine ⟨j,by rw[Int.zero_add];exact ixN_nat (by rw[length_map];exact hjn),?_⟩
    rw[show PyData.list ((f.map PyData.int).set j (.int (gv f j+1)))=iD (one f j) from by unfold iD one;rw[map_set]]
    cbv
    have ol:(one f j).length=n:=by unfold one;rw[length_set];exact fl
    have ob:∀ x∈one f j,0<=x/\x<=((t+1:Nat):Int):=λx hx=>by
     rcases mem_or_eq_of_mem_set hx with hx|rfl
     ·have:=fb x hx;lia
     ·have:=fb _ (mem_of_getElem? (gv_some hjn));lia
    have og:∀ b,b < n->gv (one f j) b=M64.up (gv f) j 1 b:=λb _=>one_gv hjn
    have bd5:∀ y:List Int,(∀ x∈y,0<=x/\x<=((t+1:Nat):Int))->∀ x∈y,Bd 500 x:=λy hy x hx=>by
     have:=hy x hx
     refine Bd.mono (Bd.iff.mpr (?_:_ < 2 ^ 10)) (by decide)
     show _ < 1024
     lia
    have dec:∀ a:List Int,Decidable (M64.E n (lessM g) (gv a) (gv (one f j))):=λa=>Classical.propDecidable _
    refine lc_fltF (L:=F') iD iD (λa=>@decide _ (dec a)) (λa ha es Q' hl q'=>?_) (by lia) λk=>?_
    ·cbv
     refine ⟨g,a,one f j,n,rfl,T',hF'.sh a ha,ol,bd5 a (hF'.bd a ha),bd5 _ ob,λb hb=>?_⟩
     cbv
     by_cases e:M64.E n (lessM g) (gv a) (gv (one f j))
     ·obtain rfl:b=true:=hb.mpr e
      rw[if_pos (decide_eq_true e)] at q'
      rw[if_pos rfl]
      cbv
      exact q'
     ·obtain rfl:b=false:=by
       cases b with
       | false=>rfl
       | true=>exact absurd (hb.mp rfl) e
      rw[if_neg (by rw[decide_eq_true_eq];exact e)] at q'
      rw[if_neg Bool.false_ne_true]
      exact q'
    ·cbv
     refine ⟨⟨lay_gD _,rfl,depth_gD _⟩,?_⟩
     cases efl:F'.filter λa=>@decide _ (dec a) with
     | nil =>
      have none:∀ a∈F',¬ M64.E n (lessM g) (gv a) (gv (one f j)):=λa ha e=>by
       have:=(List.mem_filter (p:=λa=>@decide _ (dec a))).mpr ⟨ha,@decide_eq_true _ (dec a) e⟩
       rw[efl] at this;cases this
      rw[show id (PyData.eqv (gD []) (PyData.list []))=true from by decide +kernel]
      cbv
      refine w_app rfl (by rw[length_map];lia) ?_
      cbv
      have htl:=(List.getElem?_eq_some_iff.mp hf').1
      have mr:one f j∈F'++[one f j]:=mem_append_right _ (mem_singleton.mpr rfl)
      refine ⟨F'++[one f j],_,_,rfl,⟨λh hh=>?_,λh hh=>?_,List.pairwise_append.mpr ⟨hF'.ap,List.pairwise_singleton _ _,λa ha b hb=>by rw[mem_singleton.mp hb];exact none a ha⟩,?_⟩,λi h hi hh k hk=>?_,by rw[List.getElem?_append_left htl];exact hf',by rw[length_append,length_singleton];lia,λk hk=>?_⟩
      ·rcases mem_append.mp hh with hh|hh
       ·exact hF'.sh h hh
       ·rw[mem_singleton.mp hh];exact ol
      ·rcases mem_append.mp hh with hh|hh
       ·exact hF'.bd h hh
       ·rw[mem_singleton.mp hh];exact ob
      ·obtain ⟨z,hz,ez⟩:=hF'.z
       exact ⟨z,mem_append_left _ hz,ez⟩
      ·rw[List.getElem?_append_left (Nat.lt_trans hi htl)] at hh
       obtain ⟨y,hy,ey⟩:=hC' i h hi hh k hk
       exact ⟨y,mem_append_left _ hy,ey⟩
      ·rcases Nat.lt_or_eq_of_le (Nat.le_of_lt_succ hk) with hk|rfl
       ·obtain ⟨y,hy,ey⟩:=hk' k hk
        exact ⟨y,mem_append_left _ hy,ey⟩
       ·exact ⟨_,mr,E_same og⟩
     | cons h r =>
      have hh:h∈F'/\M64.E n (lessM g) (gv h) (gv (one f j)):=by
       have:h∈F'.filter λa=>@decide _ (dec a):=by rw[efl];exact mem_cons_self
       obtain ⟨m1,m2⟩:=List.mem_filter.mp this
       exact ⟨m1,@of_decide_eq_true _ (dec h) m2⟩
      rw[show id (PyData.eqv (gD (h::r)) (PyData.list []))=false from rfl]
      cbv
      refine ⟨F',_,_,rfl,hF',hC',hf',by lia,λk hk=>?_⟩
      rcases Nat.lt_or_eq_of_le (Nat.le_of_lt_succ hk) with hk|rfl
      ·exact hk' k hk
      ·exact ⟨h,hh.1,M64.E_congr hh.2 λb hb=>by rw[og b hb]⟩
   ·rintro ρ ⟨F',x4,x5,rfl,hF',hC',hf',hl',hk'⟩
    cbv
    refine ⟨20 - (t+1),by lia,F',t+1,_,_,rfl,rfl,hF',λi h hi hh k hk=>?_,(List.getElem?_eq_some_iff.mp hf').1,by lia⟩
    rcases Nat.lt_or_eq_of_le (Nat.le_of_lt_succ hi) with hi|rfl
    ·exact hC' i h hi hh k hk
    ·rw[hf'] at hh
     obtain rfl:=Option.some.inj hh
     exact hk' k hk
  ·have h2:¬ F.length < 9:=by simp at h2;lia
   cbv
   exact q F t hF (λz=>absurd z h2) (by lia)
 ·have h1:¬ t < F.length:=by simpa using h1
  cbv
  exact q F t hF (λ_=>(by rw[show F.length=t by lia];exact hC)) (by lia)
open M06 (Bt Sm)
open M64 (crn ords)
theorem rr_bl {H H':Hp} {o:Bool} {v:V} {b:Bool} (r:RR K H H' o v (.bool b)):v=.bl b:=by
 have hv:Dn K H' v (.bool b):=by
  cases o with
  | true=>obtain ⟨ms,h1,_⟩:=r;exact h1.den
  | false=>exact r
 cases hv;rfl
theorem ok_corner_formL {f:Addr} {fd:FuncData} (F:Fun K "corner_form" "corner_form" s_corner_form f fd) (T:Blt mg) (D_plain_grid:Df P w K mg base "plain_grid" ["n"] 1 (SpL K sp_plain)) (D_flipped:Df P w K mg base "flipped" ["grid"] 1 (SpL K sp_flip)) (D_is_diagonal:Df P w K mg base "is_diagonal" ["grid"] 1 (SpL K sp_diag)) (D_staired:Df P w K mg base "staired" ["grid","beside"] 44 (sp_staired (K:=K))) (D_chain_corners:Df P w K mg base "chain_corners" ["middle","left","turned_right"] 43 sp_chain):FnOk P w K mg base CX0 45 f fd ["grid"] (SpL K sp_cfD):=ok_corner_formD (ok_corner_form F T D_plain_grid D_flipped D_is_diagonal D_staired D_chain_corners)
theorem prI_bt {b:Nat}:∀ {l:List Int},(∀ x∈l,Bt b x)->Bt (b*l.length+1) (M64.prI l)
 | [],_=>by show (1:Int).natAbs < 2 ^ (b*0+1);rw[Nat.mul_zero];decide
 | x::l,h=>by
  have:=(h x mem_cons_self).mul (prI_bt λy hy=>h y (mem_cons_of_mem _ hy))
  exact Bt.up this (by rw[length_cons,Nat.mul_add];lia)
theorem cor_pos {n:Nat} {G L C R:MDet.Mat} (s:Sm n n G L C R) (h:((crn n C).filter λx=>x==0).length=0):∀ k,k < n->0 < C k k:=λk hk=>by
 have h0:=s.nn k hk hk
 have hm:C k k∈crn n C:=mem_map.mpr ⟨k,mem_range.mpr hk,rfl⟩
 have:=List.filter_eq_nil_iff.mp (List.length_eq_zero_iff.mp h) _ hm
 have:C k k≠0:=by simpa using this
 lia
theorem cor_zero {n:Nat} {C:MDet.Mat} (h:((crn n C).filter λx=>x==0).length≠0):∃ k,k < n/\C k k=0:=by
 obtain ⟨x,hx⟩:=List.exists_mem_of_length_pos (Nat.pos_of_ne_zero h)
 obtain ⟨m1,m2⟩:=List.mem_filter.mp hx
 obtain ⟨k,hk,rfl⟩:=mem_map.mp m1
 exact ⟨k,mem_range.mp hk,by simpa using m2⟩
theorem cls_len {n N:Nat} {g F:List (List Int)} {L C R:MDet.Mat} (s:Sm n n (lessM g) L C R) (hp:∀ k,k < n->0 < C k k) (h9:M64.prI (ords n C) < 9) (hF:Fnd n g F N) (hC:F.length < 9->Clo n g F F.length):(F.length:Int)=M64.prI (ords n C):=by
 have e:(M64.prodN (M64.cs n C):Int)=M64.prI (ords n C):=(M64.prodN_Pk n hp).trans (M64.prI_ords n hp).symm
 have h1:=M64.few s hp (F:=F.map gv) (List.pairwise_map.mpr hF.ap)
 rw[length_map] at h1
 have hc:=hC (by lia)
 have h2:=M64.all s hp (F:=F.map gv) λx=>M64.closed_all s hp (by
  obtain ⟨f,hf,ef⟩:=hF.z
  exact ⟨gv f,mem_map.mpr ⟨f,hf,rfl⟩,ef⟩) (λv hv k hk=>by
  obtain ⟨f,hf,rfl⟩:=mem_map.mp hv
  obtain ⟨i,hi⟩:=List.getElem?_of_mem hf
  obtain ⟨h,hh,eh⟩:=hc i f ((List.getElem?_eq_some_iff (l:=F)).mp hi).1 hi k hk
  exact ⟨gv h,mem_map.mpr ⟨h,hh,rfl⟩,eh⟩) x
 rw[length_map] at h2
 lia
theorem take_add {α:Type} {L:List α} {i:Nat} {l:α} (h:L[i]?=some l):L.take (i+1)=L.take i++[l]:=by
 obtain ⟨h,e⟩:=List.getElem?_eq_some_iff.mp h
 rw[List.take_succ_eq_append_getElem h,e]
theorem ords_len (n:Nat) (C:MDet.Mat):(ords n C).length<=n:=by
 have:=List.length_filter_le (λx=>decide (1 < x)) (crn n C)
 have e:(crn n C).length=n:=by unfold crn;rw[length_map,length_range]
 unfold ords;lia
theorem ne_nil:∀ {r:List Int},r≠[]->(!PyData.eqv (iD r) (PyData.list []))=true
 | [],h=>absurd rfl h
 | _::_,_=>rfl
theorem gv_zero {n b:Nat}:gv ((List.range n).map λ_=>0) b=0:=by
 by_cases h:b < n
 ·exact gv_range h
 ·unfold gv;rw[getD_eq_getElem?_getD,List.getElem?_eq_none (by rw[length_map,length_range];lia)];rfl
theorem bd_zero {n:Nat}:∀ x∈(List.range n).map (λ_=>(0:Int)),Bd 500 x:=λx hx=>by
 obtain ⟨_,_,rfl⟩:=mem_map.mp hx
 exact Bd.iff.mpr (Nat.two_pow_pos _)
def unit (n j:Nat):List Int:=((List.range n).map λ_=>0).set j 1
theorem unit_gv {n j b:Nat} (hj:j < n) (m:Int):gv ((unit n j).map λx=>m*x) b=m*if b=j then 1 else 0:=by
 unfold gv unit
 rw[getD_eq_getElem?_getD,List.getElem?_map,List.getElem?_set]
 by_cases e:j=b
 ·subst e;rw[if_pos rfl,if_pos (by rw[length_map,length_range];exact hj),if_pos rfl];rfl
 ·rw[if_neg e,if_neg (Ne.symm e),Int.mul_zero]
  by_cases h:b < n
  ·rw[range_get _ h];show m*0=0;rw[Int.mul_zero]
  ·rw[List.getElem?_eq_none (by rw[length_map,length_range];lia)];rfl
theorem unit_bd {n j:Nat}:∀ x∈unit n j,0<=x/\x<=1:=λx hx=>by
 rcases mem_or_eq_of_mem_set hx with hx|rfl
 ·obtain ⟨_,_,rfl⟩:=mem_map.mp hx;exact ⟨by decide,by decide⟩
 ·exact ⟨by decide,by decide⟩
abbrev s_law:Stmt:=top 39
theorem sc_law:FnScope ["_law_script","_law_big_here","_law_table_here","_law_n","_law_noughts","_law_orders","_law_free","_law_whole","_law_one","_law_some","_law_k","_law_never","_law_times"] ["_law_script"] (defScope s_law):=by walk_at "sc"
def sp_lawD:SpD:=λds Q _=>∃ (ns:List Int),ds=[scr ns]/\∀ o,Q (.bool true) o
theorem ok_lawD {f:Addr} {fd:FuncData} (F:Fun K "law" "law" s_law f fd) (T:Blt mg) (D_l_big:Df P w K mg base "_law_big" ["_law_script","_law_at"] 2 (SpL K sp_big)) (D_l_table:Df P w K mg base "_law_table" ["_law_big_here","_law_most","_law_arrows"] 1 (SpL K sp_table)) (D_l_any_table:Df P w K mg base "_law_any_table" ["_law_big_here","_law_most","_law_arrows"] 1 (SpL K sp_table)) (D_l_copy:Df P w K mg base "_law_copy" ["_law_grid"] 1 (SpL K sp_copy)) (D_group_of:Df P w K mg base "group_of" ["table"] 47 (SpL K sp_grp)) (D_l_same:Df P w K mg base "_law_same" ["_law_table_here","_law_one","_law_other"] 47 (SpL K sp_same)) (D_l_classes:Df P w K mg base "_law_classes" ["_law_table_here"] 48 (SpL K sp_cls)):FnOk P w K mg base CX0 49 f fd ["_law_script"] (SpL K sp_lawD):=by
 refine ok0 F sc_law (λds Q X h=>?_) (λcdv A outer s H E hr=>?_) λds Qd Xd h=>h
 ·obtain ⟨ns,rfl,_⟩:=h;rfl
 refine ⟨_,(dpss_cons (dpset 1 sc_law.nd (dpe_df (by exact D_l_big) (by exact hr.mono (by lia)) (dpa_cons (dpv 0) (dpa_cons dpe_int dpa_nil))))
   (dpss_cons (dps_jn (dps_if (dpt_cmp (dop_eq (by rfl) (by exact hr.units)) (dpe_op dop_mod (dpv 1) dpe_int) dpe_int (nomark _)) (dpss_one (dps_unp [2,1] 2 rfl (by rfl) (by rfl) (qpgs_cons (qpgn 2 sc_law.nd) (qpgs_cons (qpgn 1 sc_law.nd) qpgs_nil)) (by rfl) (by rfl) (dpe_df (by exact D_l_table) (by exact hr.mono (by lia)) (dpa_cons (dpe_op dop_fdiv (dpv 1) dpe_int) (dpa_cons dpe_int (dpa_cons dpe_int dpa_nil)))))) (dpss_one (dps_unp [2,1] 2 rfl (by rfl) (by rfl) (qpgs_cons (qpgn 2 sc_law.nd) (qpgs_cons (qpgn 1 sc_law.nd) qpgs_nil)) (by rfl) (by rfl) (dpe_df (by exact D_l_any_table) (by exact hr.mono (by lia)) (dpa_cons (dpe_op dop_fdiv (dpv 1) dpe_int) (dpa_cons dpe_int (dpa_cons dpe_int dpa_nil))))))))
   (dpss_cons (dpset 3 sc_law.nd (dpe_callB (dcl_len (by rfl)) (by rfl) (by exact T.len) (by decide +kernel) (dpa_cons (dpv 2) dpa_nil)))
   (dpss_cons (dpset 4 sc_law.nd (dpe_lc ["_law_k"] [] rfl (LcScope.of (by kernel_rfl)) (dpi_range1 (by rfl) (by exact T.range) (dpa_cons (dpv 3) dpa_nil)) (λ_ _ _ _=>⟨(dpgn 0 (nd_of (by kernel_rfl))),dpts_nil,(dpb_emit (by rfl) (by rfl) dpe_int)⟩)))
   (dpss_cons (dps_unp [5,6] 2 rfl (by rfl) (by rfl) (qpgs_cons (qpgn 5 sc_law.nd) (qpgs_cons (qpgn 6 sc_law.nd) qpgs_nil)) (by rfl) (by rfl) (dpe_df (by exact D_group_of) (by exact hr.mono (by lia)) (dpa_cons (dpe_df (by exact D_l_copy) (by exact hr.mono (by lia)) (dpa_cons (dpv 2) dpa_nil)) dpa_nil)))
   (dpss_cons (dpset 7 sc_law.nd dpe_int)
   (dpss_cons (dps_frz 5 (dps_for PassesOwn.never rfl (dpi_list (by rfl) (dpv 5)) (dpgn 8 sc_law.nd) (dpss_one (dpset 7 sc_law.nd (dpe_op dop_mul (dpv 7) (dpv 8))))))
   (dpss_cons (dps_if (dPWpt (dpw_and (dpt_cmp (dop_eq (by rfl) (by exact hr.units)) (dpv 6) dpe_int (nomark _)) (dpw_and1 (dpt_cmp dop_lt (dpv 7) dpe_int (nomark _))))) (dpss_one (dps_ret (dpe_cmp (dop_eq (by rfl) (by exact hr.units)) (dpe_callB (dcl_len (by rfl)) (by rfl) (by exact T.len) (by decide +kernel) (dpa_cons (dpe_df (by exact D_l_classes) (by exact hr.mono (by lia)) (dpa_cons (dpv 2) dpa_nil)) dpa_nil)) (dpv 7) (nomark _)))) dpss_nil)
   (dpss_cons (dps_if (dpt_cmp (dop_eq (by rfl) (by exact hr.units)) (dpv 6) dpe_int (nomark _)) (dpss_cons (dpset 9 sc_law.nd (dpe_lst dpa_nil))
   (dpss_cons (dps_for PassesOwn.never rfl (dpi_range1 (by rfl) (by exact T.range) (dpa_cons (dpv 3) dpa_nil)) (dpgn 10 sc_law.nd) (dpss_cons (dps_append 9 (by rfl) (qpv 9) (dpe_op dop_mul (dpe_op dop_sub (dpe_op dop_mod (dpv 1) dpe_int) dpe_int) (dpe_ix (dix (by rfl)) (dpv 5) (dpe_op dop_sub (dpe_callB (dcl_len (by rfl)) (by rfl) (by exact T.len) (by decide +kernel) (dpa_cons (dpv 5) dpa_nil)) dpe_int) (λ_ _=>rfl))) (by rfl) (by rfl) (by rfl))
   (dpss_one (dpset 1 sc_law.nd (dpe_op dop_fdiv (dpv 1) dpe_int)))))
   (dpss_one (dps_ret (dpe_df (by exact D_l_same) (by exact hr.mono (by lia)) (dpa_cons (dpv 2) (dpa_cons (dpv 9) (dpa_cons (dpv 4) dpa_nil)))))))) dpss_nil)
   (dpss_cons (dpset 11 sc_law.nd (dpe_lst dpa_nil))
   (dpss_cons (dps_for PassesOwn.never rfl (dpi_range1 (by rfl) (by exact T.range) (dpa_cons (dpv 3) dpa_nil)) (dpgn 10 sc_law.nd) (dpss_cons (dpset 9 sc_law.nd (dpe_callTy (dcl_list (by rfl)) (by rfl) (by exact T.list) (by decide +kernel) (dpa_cons (dpv 4) dpa_nil)))
   (dpss_cons (dps_put1 9 (qpv 9) (dpv 10) dpe_int)
   (dpss_cons (dps_setlc (i:=12) (hN:=sc_law.nd) (hyi:=rfl) (hy:=rfl) (hc:=rfl) (own:=["_law_many"]) (cap:=[("_law_table_here",2),("_law_some",9),("_law_noughts",4)]) (L:=LcScope.of (by kernel_rfl)) (hi:=(dpi_range2 (by rfl) (by exact T.range) (dpa_cons dpe_int (dpa_cons dpe_int dpa_nil)))) (hin:=(λ_ _ _ _=>⟨(dpgn 0 (nd_of (by kernel_rfl))),(dpts_one (dpt_val (dpe_df (by exact D_l_same) (by exact hr.mono (by lia)) (dpa_cons (dpv 1) (dpa_cons (dpe_lc ["_law_one"] [("_law_many",0)] rfl (LcScope.of (by kernel_rfl)) (dpi_list (by rfl) (dpv 2)) (λ_ _ _ _=>⟨(dpgn 0 (nd_of (by kernel_rfl))),dpts_nil,(dpb_emit (by rfl) (by rfl) (dpe_op dop_mul (dpv 1) (dpv 0)))⟩)) (dpa_cons (dpv 3) dpa_nil)))))),(dpb_emit (by rfl) (by rfl) (dpv 0))⟩)))
   (dpss_one (dps_if (dpt_cmp (dop_eq (by rfl) (by exact hr.units)) (dpv 12) (dpe_lst dpa_nil) (nomark _)) (dpss_one (dps_append 11 (by rfl) (qpv 11) (dpv 10) (by rfl) (by rfl) (by rfl))) dpss_nil))))))
   (dpss_one (dps_ret (dpe_cmp (dop_ne (by rfl) (by exact hr.units)) (dpv 11) (dpe_lst dpa_nil) (nomark _))))))))))))))),λds Qd h=>?_⟩
 obtain ⟨ns,rfl,q⟩:=h
 show (_:TSD) _ [some (false,scr ns),none,none,none,none,none,none,none,none,none,none,none,none] _
 cbv
 refine ⟨ns,0,rfl,by lia,λz hz=>?_⟩
 cbv
 refine w_jn (λρ=>∃ (g:List (List Int)) (n:Nat) (b:Int),ρ=[some (false,scr ns),some (false,.int b),some (true,gD g),none,none,none,none,none,none,none,none,none,none]/\1<=n/\n<=4/\Sh n n g/\Le n 100 g/\0<=b) (λN hN=>?_) ?_
 ·cbv
  refine ite2 (λh1=>?_) λh1=>?_
  ·cbv
   refine ⟨z / 2,rfl,by lia,λg n b a1 a2 a3 a4 a5=>?_⟩
   cbv
   exact hN _ ⟨g,n,b,rfl,a1,a2,a3,a4,a5⟩
  ·cbv
   refine ⟨z / 2,rfl,by lia,λg n b a1 a2 a3 a4 a5=>?_⟩
   cbv
   exact hN _ ⟨g,n,b,rfl,a1,a2,a3,a4,a5⟩
 clear hz z
 rintro ρ ⟨g,n,z,rfl,n1,n4,sh,le,hz⟩
 have T':Tbl n g:=⟨sh,⟨n1,n4⟩,le⟩
 cbv
 rw[sh.1,Int.toNat_natCast]
 refine ⟨⟨by lia,by lia⟩,?_⟩
 refine lc_mapA (L:=List.range n) (λx:Nat=>.int (0+(x:Int))) (λk=>.int 0) (λk hk es Q' hl q'=>?_) (by rw[length_range];lia) ?_
 ·cbv
  exact q'
 rw[rng_iD (f:=λ_=>0)]
 cbv
 refine ⟨g,rfl,by have:=sh.1;lia,?_⟩
 cbv
 refine ⟨g,n,rfl,T',λC hC=>?_⟩
 cbv
 obtain ⟨⟨L,R,sm⟩,cb⟩:=hC
 have ol:=ords_len n C
 have ob:∀ x∈ords n C,Bt 425 x:=λx hx=>by
  obtain ⟨k,hk,rfl⟩:=mem_map.mp (List.mem_filter.mp hx).1
  exact cb k (mem_range.mp hk)
 refine lp_list (λi ρ=>∃ (x8:Option (Bool × D)),ρ=[some (false,scr ns),some (false,.int z),some (true,gD g),some (false,.int n),some (true,iD ((List.range n).map λ_=>0)),some (false,iD (ords n C)),some (false,.int (((crn n C).filter λx=>x==0).length:Nat)),some (false,.int (M64.prI ((ords n C).take i))),x8,none,none,none,none]) ⟨_,rfl⟩ ?_ ?_
 ·rintro i d ρ hd ⟨x8,rfl⟩
  rw[List.getElem?_map] at hd
  cases e:(ords n C)[i]? with
  | none=>rw[e] at hd;cases hd
  | some x =>
   rw[e] at hd
   obtain rfl:=Option.some.inj hd
   cbv
   have hb:=prI_bt (l:=(ords n C).take i) λy hy=>ob y (List.mem_of_mem_take hy)
   have hi:=(List.getElem?_eq_some_iff.mp e).1
   refine ⟨mulT (Bt.up hb (c:=425*4+1) (by have:=List.length_take_le' i (ords n C);have:=Nat.mul_le_mul_left 425 (show ((ords n C).take i).length<=4 by lia);lia)) (ob x (mem_of_getElem? e)) (by decide),?_⟩
   cbv
   rw[show M64.prI ((ords n C).take i)*x=M64.prI ((ords n C).take (i+1)) from by rw[take_add e,M64.prI_app];show _=_*(x*1);rw[Int.mul_one]]
   exact ⟨_,rfl⟩
 rintro ρ ⟨x8,rfl⟩
 rw[length_map,List.take_length]
 cbv
 refine ite2 (λhz1=>?_) λhz1=>?_
 ·have h1:((crn n C).filter λx=>x==0).length=0:=by simpa using hz1
  have hp:=cor_pos sm h1
  cbv
  refine ite2 (λh2=>?_) λh2=>?_
  ·have h2:M64.prI (ords n C) < 9:=by simpa using h2
   cbv
   refine ⟨g,n,rfl,T',λF N hF hC hl=>?_⟩
   cbv
   rw[cls_len sm hp h2 hF hC,show id (M64.prI (ords n C)==M64.prI (ords n C))=true from beq_self_eq_true _]
   exact q true
  ·have h2:¬ M64.prI (ords n C) < 9:=by simpa using h2
   cbv
   rw[if_pos hz1]
   cbv
   obtain ⟨m,l0,hm,el⟩:=M64.last_ord sm hp (by lia)
   have hmn:m < n:=by lia
   refine lp_rng (λj ρ=>∃ (b:Int) (xs:List Int) (qv:Nat->Int) (x10:Option (Bool × D)),ρ=[some (false,scr ns),some (false,.int b),some (true,gD g),some (false,.int n),some (true,iD ((List.range n).map λ_=>0)),some (false,iD (ords n C)),some (false,.int (((crn n C).filter λx=>x==0).length:Nat)),some (false,.int (M64.prI (ords n C))),x8,some (true,iD xs),x10,none,none]/\0<=b/\xs.length=j/\(∀ k,k < j->gv xs k=qv k*C m m)/\∀ x∈xs,Bd 500 x) ⟨z,[],λ_=>0,_,rfl,hz,rfl,λk hk=>absurd hk (Nat.not_lt_zero k),λx hx=>(by cases hx)⟩ ?_ ?_
   ·rintro j ρ hj ⟨b,xs,qv,x10,rfl,hb,xl,xq,xb⟩
    cbv
    refine w_app rfl (by rw[length_map];lia) ?_
    cbv
    have eidx:((ords n C).length:Int) - 1=(l0.length:Nat):=by rw[el,length_append,length_singleton];lia
    rw[eidx]
    refine ⟨.int (C m m),atI_nat (by rw[el,map_append,List.getElem?_append_right (by rw[length_map];exact Nat.le_refl _),length_map,Nat.sub_self];rfl),?_⟩
    cbv
    have q0:=Int.emod_nonneg b (show (41:Int)≠0 by decide)
    have q1:=Int.emod_lt_of_pos b (show (0:Int) < 41 by decide)
    have b5:Bt 5 (b % 41 - 20):=by show _ < 32;lia
    refine ⟨mulT b5 (cb m hmn) (by decide),?_⟩
    cbv
    refine ⟨_,_,λk=>if k < j then qv k else b % 41 - 20,_,rfl,Int.ediv_nonneg hb (by decide),by rw[length_append,xl];rfl,λk hk=>?_,λx hx=>?_⟩
    ·show gv (xs++[(b % 41 - 20)*C m m]) k=(if k < j then qv k else b % 41 - 20)*C m m
     rcases Nat.lt_or_eq_of_le (Nat.le_of_lt_succ hk) with hk|rfl
     ·rw[if_pos hk,gv_left (by lia),xq k hk]
     ·rw[if_neg (Nat.lt_irrefl k),<-xl,gv_last]
    ·rcases mem_append.mp hx with hx|hx
     ·exact xb x hx
     ·rw[mem_singleton.mp hx]
      exact (Bd.iff.mpr (b5.mul (cb m hmn)):Bd (5+425) _).mono (by decide)
   ·rintro ρ ⟨b,xs,qv,x10,rfl,hb,xl,xq,xb⟩
    cbv
    refine ⟨g,xs,_,n,rfl,T',xl,by rw[length_map,length_range],xb,bd_zero,λbb hbb=>?_⟩
    obtain rfl:bb=true:=hbb.mpr (M64.last_E sm hm qv λb hb=>by rw[gv_zero,Int.sub_zero];exact xq b hb)
    exact q true
 ·have h1:((crn n C).filter λx=>x==0).length≠0:=by simpa using hz1
  cbv
  rw[if_neg hz1]
  cbv
  obtain ⟨k0,hk0,c0⟩:=cor_zero h1
  obtain ⟨j0,hj0,nev⟩:=M64.never sm hk0 c0
  refine lp_rng (λj ρ=>∃ (nv:List Int) (x9 x10 x12:Option (Bool × D)),ρ=[some (false,scr ns),some (false,.int z),some (true,gD g),some (false,.int n),some (true,iD ((List.range n).map λ_=>0)),some (false,iD (ords n C)),some (false,.int (((crn n C).filter λx=>x==0).length:Nat)),some (false,.int (M64.prI (ords n C))),x8,x9,x10,some (true,iD nv),x12]/\(j0 < j->nv≠[])/\nv.length<=j) ⟨[],_,_,_,rfl,λz=>absurd z (Nat.not_lt_zero _),Nat.le_refl _⟩ ?_ ?_
  ·rintro j ρ hj ⟨nv,x9,x10,x12,rfl,hnv,hnl⟩
   cbv
   refine ⟨_,rfl,?_⟩
   cbv
   refine ⟨j,by rw[Int.zero_add];exact ixN_nat (by rw[length_map,length_map,length_range];exact hj),?_⟩
   rw[show PyData.list ((((List.range n).map λ_=>(0:Int)).map PyData.int).set j (.int 1))=iD (unit n j) from by unfold iD unit;rw[map_set]]
   cbv
   have dec:∀ m:Nat,Decidable (M64.E n (lessM g) (gv ((unit n j).map λx=>(1+(m:Int))*x)) (gv ((List.range n).map λ_=>0))):=λm=>Classical.propDecidable _
   have ul:(unit n j).length=n:=by unfold unit;rw[length_set,length_map,length_range]
   refine lc_fltA (L:=List.range (41 - 1:Int).toNat) (λm:Nat=>.int (1+(m:Int))) (λm:Nat=>.int (1+(m:Int))) (λm=>@decide _ (dec m)) (λm hm' es Q' hl q'=>?_) (by decide) ?_
   ·have hm':m < 40:=mem_range.mp hm'
    cbv
    refine lc_mapA (L:=unit n j) PyData.int (λx=>.int ((1+(m:Int))*x)) (λx hx es Q' hl q'=>?_) (by lia) ?_
    ·cbv
     have:=unit_bd x hx
     refine ⟨CMul.ok (.inl ⟨by lia,by lia⟩),?_⟩
     cbv
     exact q'
    rw[show PyData.list ((unit n j).map λx=>PyData.int ((1+(m:Int))*x))=iD ((unit n j).map λx=>(1+(m:Int))*x) from by unfold iD;rw[map_map];rfl]
    cbv
    refine ⟨g,_,_,n,rfl,T',by rw[length_map];exact ul,by rw[length_map,length_range],λx hx=>?_,bd_zero,λb hb=>?_⟩
    ·obtain ⟨y,hy,rfl⟩:=mem_map.mp hx
     have:=unit_bd y hy
     have h40:(1+(m:Int))*y<=40*1:=Int.mul_le_mul (by lia) this.2 this.1 (by decide)
     have h00:0<=(1+(m:Int))*y:=Int.mul_nonneg (by lia) this.1
     refine Bd.mono (Bd.iff.mpr (?_:_ < 2 ^ 10)) (by decide)
     show _ < 1024
     lia
    cbv
    by_cases e:M64.E n (lessM g) (gv ((unit n j).map λx=>(1+(m:Int))*x)) (gv ((List.range n).map λ_=>0))
    ·obtain rfl:b=true:=hb.mpr e
     rw[if_pos (@decide_eq_true _ (dec m) e)] at q'
     rw[if_pos rfl]
     cbv
     exact q'
    ·obtain rfl:b=false:=by
      cases b with
      | false=>rfl
      | true=>exact absurd (hb.mp rfl) e
     rw[if_neg (by rw[decide_eq_true_eq];exact e)] at q'
     rw[if_neg Bool.false_ne_true]
     exact q'
   rw[show PyData.list (((List.range (41 - 1:Int).toNat).filter λm=>@decide _ (dec m)).map λm:Nat=>PyData.int (1+(m:Int)))=iD (((List.range (41 - 1:Int).toNat).filter λm=>@decide _ (dec m)).map λm:Nat=>1+(m:Int)) from by unfold iD;rw[map_map];rfl]
   cbv
   refine ⟨⟨lay_iD _,rfl,depth_iD _⟩,?_⟩
   cases efl:(List.range (41 - 1:Int).toNat).filter λm=>@decide _ (dec m) with
   | nil =>
    rw[show id (PyData.eqv (iD ([].map λm:Nat=>1+(m:Int))) (PyData.list []))=true from by decide +kernel]
    cbv
    refine w_app rfl (by rw[length_map];lia) ?_
    cbv
    exact ⟨_,_,_,_,rfl,λ_=>List.append_ne_nil_of_right_ne_nil _ (List.cons_ne_nil _ _),by rw[length_append,length_singleton];lia⟩
   | cons h r =>
    rw[show id (PyData.eqv (iD ((h::r).map λm:Nat=>1+(m:Int))) (PyData.list []))=false from rfl]
    cbv
    refine ⟨nv,_,_,_,rfl,λhj1=>?_,by lia⟩
    rcases Nat.lt_or_eq_of_le (Nat.le_of_lt_succ hj1) with hj1|hj1
    ·exact hnv hj1
    ·have:h∈(List.range (41 - 1:Int).toNat).filter λm=>@decide _ (dec m):=by rw[efl];exact mem_cons_self
     have e:=@of_decide_eq_true _ (dec h) (List.mem_filter.mp this).2
     exact absurd e (nev _ _ (1+(h:Int)) (by lia) λb hb=>by rw[unit_gv (show j < n by lia),gv_zero,Int.sub_zero,hj1])
  ·rintro ρ ⟨nv,x9,x10,x12,rfl,hnv,hnl⟩
   cbv
   refine ⟨⟨lay_iD _,rfl,depth_iD _⟩,?_⟩
   rw[ne_nil (hnv hj0)]
   exact q true
def sp_law (K:W.Frag):Sp:=λvs H Q _=>∃ (a:Addr) (ns:List Int),vs=[.ref a]/\SqL K H a (ns.map V.int)/\∀ H',Q (.bl true) H'
theorem law_of {vs:List V} {H:Hp} {Q:VK} {E:XK} (h:sp_law K vs H Q E):SpL K sp_lawD vs H Q E:=by
 obtain ⟨a,ns,rfl,hS,q⟩:=h
 refine ⟨[scr ns],λd _=>d=.bool true,Xf,.cons (.scr ns hS) .nil,⟨ns,rfl,λ_=>rfl⟩,λd o v H' e _ r=>?_,λ_ _ z _=>z.elim⟩
 subst e
 rw[rr_bl r]
 exact q H'
theorem ok_law {f:Addr} {fd:FuncData} (F:Fun K "law" "law" s_law f fd) (T:Blt mg) (D_l_big:Df P w K mg base "_law_big" ["_law_script","_law_at"] 2 (SpL K sp_big)) (D_l_table:Df P w K mg base "_law_table" ["_law_big_here","_law_most","_law_arrows"] 1 (SpL K sp_table)) (D_l_any_table:Df P w K mg base "_law_any_table" ["_law_big_here","_law_most","_law_arrows"] 1 (SpL K sp_table)) (D_l_copy:Df P w K mg base "_law_copy" ["_law_grid"] 1 (SpL K sp_copy)) (D_group_of:Df P w K mg base "group_of" ["table"] 47 (SpL K sp_grp)) (D_l_same:Df P w K mg base "_law_same" ["_law_table_here","_law_one","_law_other"] 47 (SpL K sp_same)) (D_l_classes:Df P w K mg base "_law_classes" ["_law_table_here"] 48 (SpL K sp_cls)):FnOk P w K mg base CX0 49 f fd ["_law_script"] (sp_law K):=(ok_lawD F T D_l_big D_l_table D_l_any_table D_l_copy D_group_of D_l_same D_l_classes).imp λ_ _ _ _ h=>law_of h
end
theorem len0 (us:List Value) (h:us.length=0):us=[]:=List.eq_nil_of_length_eq_zero h
theorem len1 (us:List Value) (h:us.length=1):∃ a0,us=[a0]:=by
 cases us with
 | nil=>exact absurd h.symm (Nat.succ_ne_zero _)
 | cons a r =>
  have e:=len0 r (Nat.succ.inj h)
  subst e
  exact ⟨a,rfl⟩
theorem len2 (us:List Value) (h:us.length=2):∃ a0 a1,us=[a0,a1]:=by
 cases us with
 | nil=>exact absurd h.symm (Nat.succ_ne_zero _)
 | cons a r =>
  obtain ⟨a1,e⟩:=len1 r (Nat.succ.inj h)
  subst e
  exact ⟨a,a1,rfl⟩
theorem len3 (us:List Value) (h:us.length=3):∃ a0 a1 a2,us=[a0,a1,a2]:=by
 cases us with
 | nil=>exact absurd h.symm (Nat.succ_ne_zero _)
 | cons a r =>
  obtain ⟨a1,a2,e⟩:=len2 r (Nat.succ.inj h)
  subst e
  exact ⟨a,a1,a2,rfl⟩
theorem len4 (us:List Value) (h:us.length=4):∃ a0 a1 a2 a3,us=[a0,a1,a2,a3]:=by
 cases us with
 | nil=>exact absurd h.symm (Nat.succ_ne_zero _)
 | cons a r =>
  obtain ⟨a1,a2,a3,e⟩:=len3 r (Nat.succ.inj h)
  subst e
  exact ⟨a,a1,a2,a3,rfl⟩
theorem len5 (us:List Value) (h:us.length=5):∃ a0 a1 a2 a3 a4,us=[a0,a1,a2,a3,a4]:=by
 cases us with
 | nil=>exact absurd h.symm (Nat.succ_ne_zero _)
 | cons a r =>
  obtain ⟨a1,a2,a3,a4,e⟩:=len4 r (Nat.succ.inj h)
  subst e
  exact ⟨a,a1,a2,a3,a4,rfl⟩
theorem len1b {C:List Value->Prop} (h:∀ a0,C [a0]) (us:List Value) (hl:us.length=1):C us:=by
 obtain ⟨a0,e⟩:=len1 us hl
 subst e
 exact h _
theorem len2b {C:List Value->Prop} (h:∀ a0 a1,C [a0,a1]) (us:List Value) (hl:us.length=2):C us:=by
 obtain ⟨a0,a1,e⟩:=len2 us hl
 subst e
 exact h _ _
theorem len3b {C:List Value->Prop} (h:∀ a0 a1 a2,C [a0,a1,a2]) (us:List Value) (hl:us.length=3):C us:=by
 obtain ⟨a0,a1,a2,e⟩:=len3 us hl
 subst e
 exact h _ _ _
theorem len4b {C:List Value->Prop} (h:∀ a0 a1 a2 a3,C [a0,a1,a2,a3]) (us:List Value) (hl:us.length=4):C us:=by
 obtain ⟨a0,a1,a2,a3,e⟩:=len4 us hl
 subst e
 exact h _ _ _ _
theorem len5b {C:List Value->Prop} (h:∀ a0 a1 a2 a3 a4,C [a0,a1,a2,a3,a4]) (us:List Value) (hl:us.length=5):C us:=by
 obtain ⟨a0,a1,a2,a3,a4,e⟩:=len5 us hl
 subst e
 exact h _ _ _ _ _
structure Fq (K:W.Frag) (n:Str) (st:Stmt) (f:Addr):Prop where
 a:PySem.W.nsIn K mainGlobals n=some (some (.ref f))
 k:PySem.W.keepIn K (.ref f)=true
 F:∃ fd,Fun K n n st f fd
theorem fq {K:W.Frag} {n:Str} {st:Stmt} {f:Addr} {oc:Value} {od an:Option Addr} {osl:Array (Option Value)} {kV doc pm cdv ct:Value} (a:PySem.W.nsIn K mainGlobals n=some (some (.ref f))) (l:K.lookup f=some ⟨oc,od,.func (PySem.W.fnOf n n (defArgs st) (defBody st) (defScope st) .none kV doc pm an cdv ct),osl⟩) (c:PySem.W.codeIn K cdv n=true) (k:PySem.W.keepIn K (.ref f)=true):Fq K n st f:=⟨a,k,_,fun_mk l c k⟩
theorem Fq.at {K:W.Frag} {n:Str} {st:Stmt} {f:Addr} {h:Heap} {mg:Str->Option Value} (d:Fq K n st f) (X:K.In h) (G:h.Ns mainGlobals mg):mg n=some (.ref f)/\PySem.W.keepIn K (.ref f)=true/\∃ fd,Fun K n n st f fd:=⟨PySem.W.mg_of X G d.a,d.k,d.F⟩
theorem all_mk {l:PySem.W.OpenLaw} {w:World} {K:W.Frag} {h:Heap} {mg:Str->Option Value} {fa:Addr} (X:K.In h) (G:h.Ns mainGlobals mg) (hfa:mg "law"=some (.ref fa))
  {f1 f2 f3 f4 f5 f6 f7 f8 f9 f10 f11 f12 f13 f14 f15 f16 f17 f18 f19 f20 f21 f22 f23 f24 f25 f26 f27 f28 f29 f30 f31:Addr}
  {od32 an32:Option Addr} {sl32:Array (Option Value)} {oc32 kV32 dc32 pm32 cd32 ct32:Value} {f32:Addr}
  (d1:Fq K "common_shares" s_common_shares f1) (d2:Fq K "lead" s_lead f2) (d3:Fq K "blended" s_blended f3) (d4:Fq K "made_small" s_made_small f4) (d5:Fq K "plain_grid" s_plain_grid f5) (d6:Fq K "flipped" s_flipped f6) (d7:Fq K "is_diagonal" s_is_diagonal f7) (d8:Fq K "put_in" s_put_in f8) (d9:Fq K "tidy" s_tidy f9) (d10:Fq K "staired" s_staired f10) (d11:Fq K "chain_pair" s_chain_pair f11) (d12:Fq K "chain_corners" s_chain_corners f12) (d13:Fq K "corner_form" s_corner_form f13) (d14:Fq K "require_one_shape" s_require_one_shape f14) (d15:Fq K "taken_off" s_taken_off f15) (d16:Fq K "less_grid" s_less_grid f16) (d17:Fq K "corners_of" s_corners_of f17) (d18:Fq K "group_of" s_group_of f18) (d19:Fq K "common_number" s_common_number f19) (d20:Fq K "fraction" s_fraction f20) (d21:Fq K "dot" s_dot f21) (d22:Fq K "column_of" s_column_of f22) (d23:Fq K "divides" s_divides f23) (d24:Fq K "same_class" s_same_class f24) (d25:Fq K "_law_cell_at" s_l_cell_at f25) (d26:Fq K "_law_big" s_l_big f26) (d27:Fq K "_law_table" s_l_table f27) (d28:Fq K "_law_any_table" s_l_any_table f28) (d29:Fq K "_law_copy" s_l_copy f29) (d30:Fq K "_law_same" s_l_same f30) (d31:Fq K "_law_classes" s_l_classes f31)
  (a32:PySem.W.nsIn K mainGlobals "law"=some (some (.ref f32))) (l32:K.lookup f32=some ⟨oc32,od32,.func (PySem.W.fnOf "law" "law" (defArgs s_law) (defBody s_law) (defScope s_law) .none kV32 dc32 pm32 an32 cd32 ct32),sl32⟩) (c32:PySem.W.codeIn K cd32 "law"=true) (k32:PySem.W.keepIn K (.ref f32)=true)
  {cG:Addr}
  (x_NoGrid:PySem.W.nsIn K mainGlobals "NoGrid"=some (some (.ref cG))) (y_NoGrid:PySem.W.excIn K cG bmV "ValueError.__new__"=true) (ht:l.prog.given.tree=none)
  (z_len:PySem.W.nsIn K mainGlobals "len"=some none) (z_range:PySem.W.nsIn K mainGlobals "range"=some none) (z_list:PySem.W.nsIn K mainGlobals "list"=some none) (z_int:PySem.W.nsIn K mainGlobals "int"=some none) (z_isinstance:PySem.W.nsIn K mainGlobals "isinstance"=some none) (z_all:PySem.W.nsIn K mainGlobals "all"=some none) (z_zip:PySem.W.nsIn K mainGlobals "zip"=some none) (z_bool:PySem.W.nsIn K mainGlobals "bool"=some none) (z_enumerate:PySem.W.nsIn K mainGlobals "enumerate"=some none) (z_reversed:PySem.W.nsIn K mainGlobals "reversed"=some none) (z_sum:PySem.W.nsIn K mainGlobals "sum"=some none) (z_min:PySem.W.nsIn K mainGlobals "min"=some none) (z_abs:PySem.W.nsIn K mainGlobals "abs"=some none) (z_tuple:PySem.W.nsIn K mainGlobals "tuple"=some none) :
  ∃ fd:FuncData,(∀ (s:Shared) (v:Value),BindsTo s fd ⟨[v],[]⟩ [("_law_script",v)])/\∀ base:Heap,K.In base->base.Ns mainGlobals mg->FnOk l.prog w K mg base CX0 49 fa fd ["_law_script"] (sp_law K):=by
 have e:=hfa.symm.trans (PySem.W.mg_of X G a32)
 cases e
 have T:Blt mg:=⟨PySem.W.mg_none_of X G z_len,PySem.W.mg_none_of X G z_range,PySem.W.mg_none_of X G z_list,PySem.W.mg_none_of X G z_int,PySem.W.mg_none_of X G z_isinstance,PySem.W.mg_none_of X G z_all,PySem.W.mg_none_of X G z_zip,PySem.W.mg_none_of X G z_bool,PySem.W.mg_none_of X G z_enumerate,PySem.W.mg_none_of X G z_reversed,PySem.W.mg_none_of X G z_sum,PySem.W.mg_none_of X G z_min,PySem.W.mg_none_of X G z_abs,PySem.W.mg_none_of X G z_tuple⟩
 obtain ⟨m1,k1,_,F1⟩:=d1.at X G
 have b1:=F1.binds (ps:=["one","other"]) λ_ _ _ _ _ _=>len2b λ_ _=>rfl
 obtain ⟨m2,k2,_,F2⟩:=d2.at X G
 have b2:=F2.binds (ps:=["row","width"]) λ_ _ _ _ _ _=>len2b λ_ _=>rfl
 obtain ⟨m3,k3,_,F3⟩:=d3.at X G
 have b3:=F3.binds (ps:=["one","s","other","t"]) λ_ _ _ _ _ _=>len4b λ_ _ _ _=>rfl
 obtain ⟨m4,k4,_,F4⟩:=d4.at X G
 have b4:=F4.binds (ps:=["row","stairs","width"]) λ_ _ _ _ _ _=>len3b λ_ _ _=>rfl
 obtain ⟨m5,k5,_,F5⟩:=d5.at X G
 have b5:=F5.binds (ps:=["n"]) λ_ _ _ _ _ _=>len1b λ_=>rfl
 obtain ⟨m6,k6,_,F6⟩:=d6.at X G
 have b6:=F6.binds (ps:=["grid"]) λ_ _ _ _ _ _=>len1b λ_=>rfl
 obtain ⟨m7,k7,_,F7⟩:=d7.at X G
 have b7:=F7.binds (ps:=["grid"]) λ_ _ _ _ _ _=>len1b λ_=>rfl
 obtain ⟨m8,k8,_,F8⟩:=d8.at X G
 have b8:=F8.binds (ps:=["stairs","row","width"]) λ_ _ _ _ _ _=>len3b λ_ _ _=>rfl
 obtain ⟨m9,k9,_,F9⟩:=d9.at X G
 have b9:=F9.binds (ps:=["stairs","width"]) λ_ _ _ _ _ _=>len2b λ_ _=>rfl
 obtain ⟨m10,k10,_,F10⟩:=d10.at X G
 have b10:=F10.binds (ps:=["grid","beside"]) λ_ _ _ _ _ _=>len2b λ_ _=>rfl
 obtain ⟨m11,k11,_,F11⟩:=d11.at X G
 have b11:=F11.binds (ps:=["middle","left","turned_right","i","j"]) λ_ _ _ _ _ _=>len5b λ_ _ _ _ _=>rfl
 obtain ⟨m12,k12,_,F12⟩:=d12.at X G
 have b12:=F12.binds (ps:=["middle","left","turned_right"]) λ_ _ _ _ _ _=>len3b λ_ _ _=>rfl
 obtain ⟨m13,k13,_,F13⟩:=d13.at X G
 have b13:=F13.binds (ps:=["grid"]) λ_ _ _ _ _ _=>len1b λ_=>rfl
 obtain ⟨m14,k14,_,F14⟩:=d14.at X G
 have b14:=F14.binds (ps:=["one","other"]) λ_ _ _ _ _ _=>len2b λ_ _=>rfl
 obtain ⟨m15,k15,_,F15⟩:=d15.at X G
 have b15:=F15.binds (ps:=["one","other"]) λ_ _ _ _ _ _=>len2b λ_ _=>rfl
 obtain ⟨m16,k16,_,F16⟩:=d16.at X G
 have b16:=F16.binds (ps:=["table"]) λ_ _ _ _ _ _=>len1b λ_=>rfl
 obtain ⟨m17,k17,_,F17⟩:=d17.at X G
 have b17:=F17.binds (ps:=["table"]) λ_ _ _ _ _ _=>len1b λ_=>rfl
 obtain ⟨m18,k18,_,F18⟩:=d18.at X G
 have b18:=F18.binds (ps:=["table"]) λ_ _ _ _ _ _=>len1b λ_=>rfl
 obtain ⟨m19,k19,_,F19⟩:=d19.at X G
 have b19:=F19.binds (ps:=["one","other"]) λ_ _ _ _ _ _=>len2b λ_ _=>rfl
 obtain ⟨m20,k20,_,F20⟩:=d20.at X G
 have b20:=F20.binds (ps:=["top","bottom"]) λ_ _ _ _ _ _=>len2b λ_ _=>rfl
 obtain ⟨m21,k21,_,F21⟩:=d21.at X G
 have b21:=F21.binds (ps:=["one","other"]) λ_ _ _ _ _ _=>len2b λ_ _=>rfl
 obtain ⟨m22,k22,_,F22⟩:=d22.at X G
 have b22:=F22.binds (ps:=["grid","at"]) λ_ _ _ _ _ _=>len2b λ_ _=>rfl
 obtain ⟨m23,k23,_,F23⟩:=d23.at X G
 have b23:=F23.binds (ps:=["one","other"]) λ_ _ _ _ _ _=>len2b λ_ _=>rfl
 obtain ⟨m24,k24,_,F24⟩:=d24.at X G
 have b24:=F24.binds (ps:=["table","one","other"]) λ_ _ _ _ _ _=>len3b λ_ _ _=>rfl
 obtain ⟨m25,k25,_,F25⟩:=d25.at X G
 have b25:=F25.binds (ps:=["_law_script","_law_k"]) λ_ _ _ _ _ _=>len2b λ_ _=>rfl
 obtain ⟨m26,k26,_,F26⟩:=d26.at X G
 have b26:=F26.binds (ps:=["_law_script","_law_at"]) λ_ _ _ _ _ _=>len2b λ_ _=>rfl
 obtain ⟨m27,k27,_,F27⟩:=d27.at X G
 have b27:=F27.binds (ps:=["_law_big_here","_law_most","_law_arrows"]) λ_ _ _ _ _ _=>len3b λ_ _ _=>rfl
 obtain ⟨m28,k28,_,F28⟩:=d28.at X G
 have b28:=F28.binds (ps:=["_law_big_here","_law_most","_law_arrows"]) λ_ _ _ _ _ _=>len3b λ_ _ _=>rfl
 obtain ⟨m29,k29,_,F29⟩:=d29.at X G
 have b29:=F29.binds (ps:=["_law_grid"]) λ_ _ _ _ _ _=>len1b λ_=>rfl
 obtain ⟨m30,k30,_,F30⟩:=d30.at X G
 have b30:=F30.binds (ps:=["_law_table_here","_law_one","_law_other"]) λ_ _ _ _ _ _=>len3b λ_ _ _=>rfl
 obtain ⟨m31,k31,_,F31⟩:=d31.at X G
 have b31:=F31.binds (ps:=["_law_table_here"]) λ_ _ _ _ _ _=>len1b λ_=>rfl
 have F32:=fun_mk (st:=s_law) l32 c32 k32
 refine ⟨PySem.W.fnOf "law" "law" (defArgs s_law) (defBody s_law) (defScope s_law) .none kV32 dc32 pm32 an32 cd32 ct32,λs v=>.of_eq rfl,λbase _ _=>?_⟩
 have C_NoGrid:ExC K mg "NoGrid" cG:=⟨PySem.W.mg_of X G x_NoGrid,y_NoGrid⟩
 have D_common_shares:Df l.prog w K mg base "common_shares" ["one","other"] 41 (DL.SpL K sp_shr):=⟨_,_,ok_common_shares F1 T ht,m1,k1,b1⟩
 have D_lead:Df l.prog w K mg base "lead" ["row","width"] 41 (DL.SpL K sp_lead):=⟨_,_,ok_lead F2 T ,m2,k2,b2⟩
 have D_blended:Df l.prog w K mg base "blended" ["one","s","other","t"] 41 (DL.SpL K sp_bld):=⟨_,_,ok_blended F3 T ,m3,k3,b3⟩
 have D_made_small:Df l.prog w K mg base "made_small" ["row","stairs","width"] 42 (DL.SpL K sp_mks):=⟨_,_,ok_made_small F4 T ht D_lead D_blended,m4,k4,b4⟩
 have D_plain_grid:Df l.prog w K mg base "plain_grid" ["n"] 1 (DL.SpL K sp_plain):=⟨_,_,ok_plain_grid F5 T ,m5,k5,b5⟩
 have D_flipped:Df l.prog w K mg base "flipped" ["grid"] 1 (DL.SpL K sp_flip):=⟨_,_,ok_flipped F6 T ,m6,k6,b6⟩
 have D_is_diagonal:Df l.prog w K mg base "is_diagonal" ["grid"] 1 (DL.SpL K sp_diag):=⟨_,_,ok_is_diagonal F7 T ,m7,k7,b7⟩
 have D_put_in:Df l.prog w K mg base "put_in" ["stairs","row","width"] 43 (sp_putin):=⟨_,_,ok_put_in F8 T ht D_lead D_blended D_made_small D_common_shares,m8,k8,b8⟩
 have D_tidy:Df l.prog w K mg base "tidy" ["stairs","width"] 43 (sp_tidy):=⟨_,_,ok_tidy F9 T D_made_small,m9,k9,b9⟩
 have D_staired:Df l.prog w K mg base "staired" ["grid","beside"] 44 (sp_staired (K:=K)):=⟨_,_,ok_staired F10 T D_put_in D_tidy,m10,k10,b10⟩
 have D_chain_pair:Df l.prog w K mg base "chain_pair" ["middle","left","turned_right","i","j"] 42 (sp_pair):=⟨_,_,ok_chain_pair F11 T ht D_blended D_common_shares,m11,k11,b11⟩
 have D_chain_corners:Df l.prog w K mg base "chain_corners" ["middle","left","turned_right"] 43 (sp_chain):=⟨_,_,ok_chain_corners F12 T ht D_chain_pair,m12,k12,b12⟩
 have D_corner_form:Df l.prog w K mg base "corner_form" ["grid"] 45 (DL.SpL K sp_cfD):=⟨_,_,ok_corner_formL F13 T D_plain_grid D_flipped D_is_diagonal D_staired D_chain_corners,m13,k13,b13⟩
 have D_require_one_shape:DfE l.prog w K mg base "require_one_shape" ["one","other"] 1 (DL.SpL K sp_shape):=⟨_,_,ok_require_one_shape F14 T C_NoGrid,m14,k14,b14⟩
 have D_taken_off:DfE l.prog w K mg base "taken_off" ["one","other"] 2 (DL.SpL K sp_off):=⟨_,_,ok_taken_off F15 T D_require_one_shape,m15,k15,b15⟩
 have D_less_grid:DfE l.prog w K mg base "less_grid" ["table"] 3 (DL.SpL K sp_less):=⟨_,_,ok_less_grid F16 T D_plain_grid D_taken_off,m16,k16,b16⟩
 have D_corners_of:Df l.prog w K mg base "corners_of" ["table"] 46 (DL.SpL K sp_cof):=⟨_,_,ok_corners_of F17 T D_corner_form D_less_grid,m17,k17,b17⟩
 have D_group_of:Df l.prog w K mg base "group_of" ["table"] 47 (DL.SpL K sp_grp):=⟨_,_,ok_group_of F18 T D_corners_of,m18,k18,b18⟩
 have D_common_number:Df l.prog w K mg base "common_number" ["one","other"] 1 (DL.SpL K sp_cn):=⟨_,_,ok_common_number F19 T ,m19,k19,b19⟩
 have D_fraction:Df l.prog w K mg base "fraction" ["top","bottom"] 41 (DL.SpL K sp_fr):=⟨_,_,ok_fraction F20 T ht D_common_number,m20,k20,b20⟩
 have D_dot:Df l.prog w K mg base "dot" ["one","other"] 1 (DL.SpL K sp_dot):=⟨_,_,ok_dot F21 T ,m21,k21,b21⟩
 have D_column_of:Df l.prog w K mg base "column_of" ["grid","at"] 1 (DL.SpL K sp_col):=⟨_,_,ok_column_of F22 T ,m22,k22,b22⟩
 have D_divides:Df l.prog w K mg base "divides" ["one","other"] 1 (DL.SpL K sp_dvd):=⟨_,_,ok_divides F23 T ,m23,k23,b23⟩
 have D_same_class:Df l.prog w K mg base "same_class" ["table","one","other"] 46 (DL.SpL K sp_sc):=⟨_,_,ok_same_class F24 T ht D_corner_form D_less_grid D_fraction D_dot D_column_of D_divides,m24,k24,b24⟩
 have D_l_cell_at:Df l.prog w K mg base "_law_cell_at" ["_law_script","_law_k"] 1 (DL.SpL K sp_cell):=⟨_,_,ok_l_cell_at F25 T ,m25,k25,b25⟩
 have D_l_big:Df l.prog w K mg base "_law_big" ["_law_script","_law_at"] 2 (DL.SpL K sp_big):=⟨_,_,ok_l_big F26 T D_l_cell_at,m26,k26,b26⟩
 have D_l_table:Df l.prog w K mg base "_law_table" ["_law_big_here","_law_most","_law_arrows"] 1 (DL.SpL K sp_table):=⟨_,_,ok_l_table F27 T ,m27,k27,b27⟩
 have D_l_any_table:Df l.prog w K mg base "_law_any_table" ["_law_big_here","_law_most","_law_arrows"] 1 (DL.SpL K sp_table):=⟨_,_,ok_l_any_table F28 T ,m28,k28,b28⟩
 have D_l_copy:Df l.prog w K mg base "_law_copy" ["_law_grid"] 1 (DL.SpL K sp_copy):=⟨_,_,ok_l_copy F29 T ,m29,k29,b29⟩
 have D_l_same:Df l.prog w K mg base "_law_same" ["_law_table_here","_law_one","_law_other"] 47 (DL.SpL K sp_same):=⟨_,_,ok_l_same F30 T D_same_class D_l_copy,m30,k30,b30⟩
 have D_l_classes:Df l.prog w K mg base "_law_classes" ["_law_table_here"] 48 (DL.SpL K sp_cls):=⟨_,_,ok_l_classes F31 T D_l_same,m31,k31,b31⟩
 exact ok_law F32 T D_l_big D_l_table D_l_any_table D_l_copy D_group_of D_l_same D_l_classes
theorem walk {l:PySem.W.OpenLaw} {q:Program} {loose:List Str} {XP:(Str->Option Value)->Heap->Prop} {YP:World->Heap->Prop} {d:DefRec} {K:Params->W.Frag} (hn:l.most=some 63) (hdf:d.params.defaults=[]) (hi:importsNone q=true)
  (hY:∀ (w:World) (h:Heap),YP w h->(K w.params).In h)
  (F:∀ (w:World) (mg:Str->Option Value) (fa:Addr) (h:Heap),(K w.params).In h->h.Ns mainGlobals mg->mg d.name=some (.ref fa) ->
   ∃ fd:FuncData,(∀ (s:Shared) (u:Value),BindsTo s fd ⟨[u],[]⟩ [("_law_script",u)])/\∀ base:Heap,(K w.params).In base->base.Ns mainGlobals mg->FnOk l.prog w (K w.params) mg base CX0 49 fa fd ["_law_script"] (sp_law (K w.params))) :
  PySem.W.WalkO q loose XP YP l.row.toRowW d [] (λf vs=>PySem.call f vs) :=
 L2.walk_of (n:=63) (k:=49) (x:="_law_script") (CX:=λ_=>CX0) (sp:=λw=>sp_law (K w.params)) hn (by decide) hdf ⟨rfl,by decide,by decide,rfl⟩ hi hY F (λ_ _ a ns hl _ hS=>⟨a,ns,rfl,hS,λ_=>rfl⟩) λ_ _ _ _ _ z=>z
end K64
namespace PySem.W.Fast
def tw13485526843851680114:=()
def tw2669547472588034815:=()
def tw15285807175991442378:=()
def tw3879083253398249962:=()
def tw15986773526828339556:=()
def tw10404414699882866748:=()
def tw14650266437752482581:=()
def tw2234236684361294622:=()
def tw3196683366535013515:=()
def tw5551170235138120046:=()
def tw36329552742592349:=()
def tw10513777535079979058:=()
def tw1221342173780658407:=()
def tw2879500995159444321:=()
def tw2604894464224981881:=()
def tw9377904114527806478:=()
def tw11760085798750376138:=()
def tw7393361191758267524:=()
def tw4029160958859949924:=()
def tw15801718776024095250:=()
def tw2192078369294612461:=()
def tw13668236602692743319:=()
def tw8950086340936729440:=()
def tw4291405063988057390:=()
def tw7194333989818537756:=()
def tw11123703050225334094:=()
def tw15755690158306471595:=()
def tw10013464650112151271:=()
def tw1845969657702394804:=()
def tw4168948919345022450:=()
def tw2383640044679549353:=()
def tw12835990383839231448:=()
def tw9795628788225488286:=()
def tw12962412545096303249:=()
def tw2699453402700548587:=()
def tw10641671252931374070:=()
def tw5305286816483995112:=()
def tw8306977466614368200:=()
def tw15512400760374804331:=()
def tw8493342269782607514:=()
def tw16094937525644585523:=()
def tw8745706346643938351:=()
def tw5862921366813430380:=()
def tw11338643585997546783:=()
def tw14400136253770046581:=()
def tw14062875508276382997:=()
def tw1479253797197659845:=()
def tw12003310159561228736:=()
def tw7083167898844306675:=()
def tw523680744390341298:=()
def tw15747307052488610889:=()
def tw948205270423882638:=()
def tw5595634315320292098:=()
def tw10424530847283761822:=()
def tw8970734679257147465:=()
def tw6504418880872072154:=()
def tw8002423822586738553:=()
def tw3796182163762099274:=()
def tw9813618659645292457:=()
def tw16271542122114404862:=()
def tw6539580521524731279:=()
def tw14202942909780485879:=()
def tw2635352564933281775:=()
def tw1903765672475454129:=()
def tw3821336898540338385:=()
def tw151153004926283576:=()
def tw3550386315959548033:=()
def tw14394697854085509065:=()
def tw3620693743837206549:=()
def tw16834147687575209816:=()
def tw11251812568058742200:=()
def tw9692814482243691509:=()
def tw6778139063055463045:=()
def tw7776093449602317545:=()
def tw3558345454501536384:=()
def tw6865205712505159862:=()
def tw9761325166134668216:=()
def tw5274866306465322115:=()
def tw14739382564796278383:=()
def tw11776826444489880985:=()
def tw2226227259852233393:=()
def tw3778164891095371814:=()
def tw1963818411375811353:=()
def tw6511542403593726755:=()
def tw11343216762491948563:=()
def tw17266618639804216165:=()
def tw17505602480716535286:=()
def tw3922164768527219055:=()
def tw15826612192785049620:=()
def tw8918031534843558068:=()
def tw4808133096320831663:=()
def tw9215491696747153408:=()
def tw15589561561224188910:=()
def tw15818376879312459210:=()
def tw5777586208758178853:=()
def tw5613726492900523364:=()
def tw5702855960054558463:=()
def tw338543181022072246:=()
def tw17496184375659658937:=()
def tw17045012370962774111:=()
def tw7843809205218906568:=()
def tw16207969660080990199:=()
def tw11263618095599839791:=()
def tw6563171615519599754:=()
def tw3739767626093992931:=()
def tw8465561478705727107:=()
def tw9659974252707682598:=()
def tw16293795859039772939:=()
def tw12514516683570937501:=()
def tw16705608963682760882:=()
def tw16586670500557754030:=()
def tw3124507650067784989:=()
def tw7567314754906764265:=()
def tw12775045031164069398:=()
def tw10048824482770979026:=()
def tw2911207219889413174:=()
def tw10805668668673908438:=()
def tw17226166520498041545:=()
def tw11267023925286214016:=()
def tw11567758518951278700:=()
def tw3108362283620990026:=()
def tw3682284368523857601:=()
def tw9101739607114701170:=()
def tw13390857218752666849:=()
def tw18325871257256210695:=()
def tw10797131843343623868:=()
def tw3904192241793063953:=()
def tw9974710340362770659:=()
def tw17495201490074649892:=()
def tw10321690643229457595:=()
def tw4381606188773491240:=()
def tw13707329928895865471:=()
def tw6696526113626613688:=()
def tw4628810566721322972:=()
def tw2976570380645088944:=()
def tw8501066719280860672:=()
def tw16321579986972674991:=()
def tw10264059475911889800:=()
def tw11245124688310424138:=()
def tw6914312279763873598:=()
def tw999797917809476299:=()
def tw17461995289629164296:=()
def tw5221754865635487009:=()
def tw14382367499254573712:=()
def tw342268707662859105:=()
def tw11749919445606052821:=()
def tw4236649517246754878:=()
def tw17942675056784584260:=()
def tw15314568436792935303:=()
def tw8271390231947090668:=()
def tw4439093536678392149:=()
def tw11405933217602165478:=()
def tw3285823975201090916:=()
def tw18250548546623412693:=()
def tw750265450718657530:=()
def tw16366077344561034150:=()
def tw3401870211008024859:=()
def tw3205921428081726218:=()
def tw7433663678500132137:=()
def tw2189819593873451671:=()
def tw8191939157993064500:=()
def tw1718062843321295809:=()
def tw6073632788655837191:=()
def tw17416920865269790896:=()
def tw3212537700619121129:=()
def tw11236548902844306256:=()
def tw13907194942810837030:=()
def tw10016429669536014278:=()
def tw10193408996684791212:=()
def tw8526487388624941738:=()
def tw10151117460071692692:=()
def tw7506797460251365058:=()
def tw17076008294480975355:=()
def tw12787640576487978797:=()
def tw14697022597719471147:=()
def tw15168949100380723761:=()
def tw17788829461133382597:=()
def tw1443375877106898361:=()
def tw15465028409755623083:=()
def tw12927204309910968608:=()
def tw11464557487568930855:=()
def tw15160859343174048071:=()
def tw17287901090498184808:=()
def tw1118816335715172043:=()
def tw6258649307995476376:=()
def tw467695472300169996:=()
def tw16541844580390960700:=()
def tw11618595107190548218:=()
def tw1776192184568560180:=()
def tw658158882313321615:=()
def tw15650535197874451713:=()
def tw5503813091990015018:=()
def tw10308424147291584197:=()
def tw8521169306661738432:=()
def tw9971808447123514996:=()
def tw3193333078702789162:=()
def tw5128714318690299377:=()
def tw1876640606252459684:=()
def tw13048385368988868271:=()
def tw4161301233000328515:=()
def tw4114710048389476690:=()
def tw14478698285755238281:=()
def tw6507652114341796096:=()
def tw11796256168747747388:=()
def tw11790150347383090687:=()
def tw10837734096938114619:=()
end PySem.W.Fast
open PySem PySem.W PyProof.Rows
local macro_rules | `(tactic| walk_at "f") => `(tactic| (refine' K64.fq ?a ?l ?c ?k; (case a => k_is); (case l => k_is); (case c => k_is); (case k => k_is)))
set_option maxRecDepth 100000 in
set_option maxHeartbeats 0 in
theorem PySem.Challenge.cw_foreverrows_k64_whole_classes_counted_holds : PySem.Challenge.rw_foreverrows_k64_whole_classes_counted.Holds := by
 w_on;o_law;k_head;(case hw=>w_witness2)
 k_fill
 refine K64.walk (l := PySem.Challenge.rw_foreverrows_k64_whole_classes_counted) rfl rfl (by decide +kernel) (λw h Y => PySem.W.kIn_of Y) ?F
 case F =>
  intro w mg fa h KX G hmg
  refine' K64.all_mk KX G hmg ?d1 ?d2 ?d3 ?d4 ?d5 ?d6 ?d7 ?d8 ?d9 ?d10 ?d11 ?d12 ?d13 ?d14 ?d15 ?d16 ?d17 ?d18 ?d19 ?d20 ?d21 ?d22 ?d23 ?d24 ?d25 ?d26 ?d27 ?d28 ?d29 ?d30 ?d31 ?a32 ?l32 ?c32 ?k32 ?x_NoGrid ?y_NoGrid ?ht ?z_len ?z_range ?z_list ?z_int ?z_isinstance ?z_all ?z_zip ?z_bool ?z_enumerate ?z_reversed ?z_sum ?z_min ?z_abs ?z_tuple
  (case d1=>walk_at "f")
  (case d2=>walk_at "f")
  (case d3=>walk_at "f")
  (case d4=>walk_at "f")
  (case d5=>walk_at "f")
  (case d6=>walk_at "f")
  (case d7=>walk_at "f")
  (case d8=>walk_at "f")
  (case d9=>walk_at "f")
  (case d10=>walk_at "f")
  (case d11=>walk_at "f")
  (case d12=>walk_at "f")
  (case d13=>walk_at "f")
  (case d14=>walk_at "f")
  (case d15=>walk_at "f")
  (case d16=>walk_at "f")
  (case d17=>walk_at "f")
  (case d18=>walk_at "f")
  (case d19=>walk_at "f")
  (case d20=>walk_at "f")
  (case d21=>walk_at "f")
  (case d22=>walk_at "f")
  (case d23=>walk_at "f")
  (case d24=>walk_at "f")
  (case d25=>walk_at "f")
  (case d26=>walk_at "f")
  (case d27=>walk_at "f")
  (case d28=>walk_at "f")
  (case d29=>walk_at "f")
  (case d30=>walk_at "f")
  (case d31=>walk_at "f")
  (case a32=>k_is)
  (case l32=>k_is)
  (case c32=>k_is)
  (case k32=>k_is)
  (case z_len=>k_is)
  (case z_range=>k_is)
  (case z_list=>k_is)
  (case z_int=>k_is)
  (case z_isinstance=>k_is)
  (case z_all=>k_is)
  (case z_zip=>k_is)
  (case z_bool=>k_is)
  (case z_enumerate=>k_is)
  (case z_reversed=>k_is)
  (case z_sum=>k_is)
  (case z_min=>k_is)
  (case z_abs=>k_is)
  (case z_tuple=>k_is)
  (case x_NoGrid=>k_is)
  (case y_NoGrid=>first|k_exc|k_is|kernel_rfl)
  (case ht=>exact rfl)
