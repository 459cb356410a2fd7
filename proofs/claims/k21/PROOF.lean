import PyProof.Rows.All
import Wide.All
import OpenK.AllK
import Wide.FinOn
import Lean
import PyProof.EqAt
import PyProof.EqKinds
import PyProof.TupleCall
import PyProof.NeData
import PyProof.P3Eq
import PyProof.EnumMake
import PyProof.EnumFor
import PyProof.ConsumeWalk
import PyProof.ListRange
import PyProof.ZipIter
import KE.IntBitsLaws
import KE.RegMulBits
import PyProof.ExcArgs
import PyProof.DictWalks
import KE.KRevSl
import PyProof.DictItems
import PyProof.DictDisplay
import PyProof.SeqI3
import PyProof.NsDelKeeps
import PyProof.StrWalks
import PyProof.StrBlockH
import PyProof.StrBlock2
import KE.KMinKey
import PyProof.Rows.CallKwBuiltin
import KE.KIntText
import PyProof.StrCalls2
import PyProof.StrLawsTight
import PyProof.Rows.StrItems
import PyProof.FactsAll.tuple_1
import PyProof.FactsAll.tuple_2
import PyProof.FString5
import PyProof.Rows.RuleC_int
import PyProof.Rows.SortRunsK
import PyProof.StrLawsOcc
import PyProof.StrLawsFirst
import PySem.Challenge.RW_foreverrows_k21_readers_of_bars
set_option Elab.async false
set_option linter.all false
set_option maxRecDepth 100000
open List (mem_filter mem_range mem_cons_self mem_cons_of_mem mem_cons mem_append mem_append_left mem_append_right size_toArray append_nil nodup_cons length_take mem_of_getElem? length_append length_map length_drop map_cons all_cons any_cons length_cons mem_map all_eq_true any_eq_true mem_singleton length_set nodup_nil nodup_append length_range append_assoc map_append map_map find?_cons_of_neg mem_of_mem_take take_append_drop take_length take_add_one length_filter_le filter_append)
namespace L2
open PySem PySem.Spec PyProof.Rows
abbrev C2:=Sum Int Str
def A6o:C2->Value->Bool
 | .inl k,v=>Value.isInt k v
 | .inr x,v=>Value.isStrOf x v
def D8q (w:World):C2->Int
 | .inl k=>hashInt k
 | .inr x=>hashStr w x
theorem E8:∀ {k:C2} {v:Value},A6o k v=true->(∃ i t,k=Sum.inl i/\v=Value.int i t)\/(∃ x t,k=Sum.inr x/\v=Value.str x t)
 | .inl i,v,h=>by
  obtain ⟨t,e⟩:=Value.isInt_shape (k:=i) (v:=v) h;exact .inl ⟨i,t,rfl,e⟩
 | .inr x,v,h=>by
  obtain ⟨t,e⟩:=Value.isStrOf_shape (x:=x) (v:=v) h;exact .inr ⟨x,t,rfl,e⟩
theorem B7t (i:Int) (t:Tok):A6o (.inl i) (.int i t)=true:=by simp [A6o,Value.isInt]
theorem B7l (x:Str) (t:Tok):A6o (.inr x) (.str x t)=true:=by simp [A6o,Value.isStrOf]
theorem D0y (a b:Int):decide ((Sum.inl a:C2)=Sum.inl b)=(a==b):=by
 by_cases e:a=b
 ·subst e;simp
 ·have h:¬ (Sum.inl a:C2)=Sum.inl b:=fun q=>e (Sum.inl.inj q);rw [decide_eq_false h];exact (beq_eq_false_iff_ne.mpr e).symm
theorem D34 (a b:Str):decide ((Sum.inr a:C2)=Sum.inr b)=decide (a=b):=by
 by_cases e:a=b
 ·subst e;simp
 ·have h:¬ (Sum.inr a:C2)=Sum.inr b:=fun q=>e (Sum.inr.inj q);rw [decide_eq_false h,decide_eq_false e]
theorem D2b (a:Int) (b:Str):decide ((Sum.inl a:C2)=Sum.inr b)=false:=decide_eq_false (fun q=>nomatch q)
theorem D1l (a:Str) (b:Int):decide ((Sum.inr a:C2)=Sum.inl b)=false:=decide_eq_false (fun q=>nomatch q)
def J1 (prog:Program) (w:World):PySem.KeyKind prog w C2 where
 is:=A6o
 hash:=D8q w
 inj:=fun v a b ha hb=>by
  rcases E8 ha with ⟨i,t,rfl,rfl⟩|⟨x,t,rfl,rfl⟩
  ·rcases E8 hb with ⟨j,u,rfl,e⟩|⟨y,u,rfl,e⟩
   ·injection e with e1 _;rw [e1]
   ·exact nomatch e
  ·rcases E8 hb with ⟨j,u,rfl,e⟩|⟨y,u,rfl,e⟩
   ·exact nomatch e
   ·injection e with e1 _;rw [e1]
 byValue:=fun k v h=>by
  rcases E8 h with ⟨i,t,rfl,rfl⟩|⟨x,t,rfl,rfl⟩<;>rfl
 pyHash:=fun hv h=>by
  rcases E8 hv with ⟨i,t,rfl,rfl⟩|⟨x,t,rfl,rfl⟩
  ·exact wpAny_pyHash_int h
  ·exact wpAny_pyHash_str h
 eqBool:=fun hu hv h=>by
  rcases E8 hu with ⟨i,t,rfl,rfl⟩|⟨x,t,rfl,rfl⟩
  ·rcases E8 hv with ⟨j,u,rfl,rfl⟩|⟨y,u,rfl,rfl⟩
   ·rw [D0y] at h;exact wpAny_eqBool_int h
   ·rw [D2b] at h;exact SeqAt.EqAt.int_str i t y u _ _ _ _ h
  ·rcases E8 hv with ⟨j,u,rfl,rfl⟩|⟨y,u,rfl,rfl⟩
   ·rw [D1l] at h;exact SeqAt.EqAt.str_int x t j u _ _ _ _ h
   ·rw [D34] at h;exact wpAny_eqBool_str h
 «strs»:=fun k x t v h=>by
  rcases E8 h with ⟨i,u,rfl,e⟩|⟨y,u,rfl,e⟩
  ·exact nomatch e
  ·injection e with e1 _
   subst e1;cases v<;>rfl
theorem B0s (prog:Program) (w:World) (i:Int) (t:Tok):(J1 prog w).is (.inl i) (.int i t)=true:=B7t i t
theorem A9m (prog:Program) (w:World) (x:Str) (t:Tok):(J1 prog w).is (.inr x) (.str x t)=true:=B7l x t
inductive V where
 | non|bl (b:Bool)|int (i:Int)|str (x:Str)|byt (b:Array UInt8)|flt (b:UInt64)|ref (a:Addr)|ty (n:String)
 deriving DecidableEq
def C8:V->Value->Prop
 | .non,u=>u=Value.none
 | .bl b,u=>u=Value.bool b
 | .int i,u=>∃ t,u=Value.int i t
 | .str x,u=>∃ t,u=Value.str x t
 | .byt b,u=>∃ t,u=Value.bytes b t
 | .flt b,u=>∃ t,u=Value.float b t
 | .ref a,u=>u=Value.ref a
 | .ty n,u=>u=Value.type n
abbrev C4:List V->List Value->Prop:=Paired C8
theorem C4.length {xs:List V} {us:List Value} (r:C4 xs us):xs.length=us.length:=Paired.length r
theorem C4.get:∀ {xs:List V} {us:List Value} {i:Nat} {x:V},C4 xs us->xs[i]?=some x->∃ u,us[i]?=some u/\C8 x u
 | _,_,_,_,.nil,e=>by simp at e
 | _,_,0,_,.cons r _,e=>by simp at e;subst e;exact ⟨_,rfl,r⟩
 | _,_,i+1,x,.cons _ t,e=>by
  obtain ⟨u,h1,h2⟩:=C4.get (i:=i) (x:=x) t (by simpa using e);exact ⟨u,by simpa using h1,h2⟩
theorem C4.set {x:V} {u:Value} (r:C8 x u):∀ {xs:List V} {us:List Value} (i:Nat),C4 xs us->C4 (xs.set i x) (us.set i u)
 | _,_,_,.nil=>.nil
 | _,_,0,.cons _ t=>.cons r t
 | _,_,i+1,.cons q t=>.cons q (C4.set r i t)
theorem C4.append:∀ {xs ys:List V} {us ws:List Value},C4 xs us->C4 ys ws->C4 (xs++ys) (us++ws)
 | _,_,_,_,.nil,s=>s
 | _,_,_,_,.cons r t,s=>.cons r (C4.append t s)
theorem C4.take:∀ {xs:List V} {us:List Value} (n:Nat),C4 xs us->C4 (xs.take n) (us.take n)
 | _,_,0,_=>.nil
 | _,_,_+1,.nil=>.nil
 | _,_,n+1,.cons r t=>.cons r (C4.take n t)
theorem C4.drop:∀ {xs:List V} {us:List Value} (n:Nat),C4 xs us->C4 (xs.drop n) (us.drop n)
 | _,_,0,r=>r
 | _,_,_+1,.nil=>.nil
 | _,_,n+1,.cons _ t=>C4.drop n t
def A4z:Option V->Option Value->Prop
 | some v,some u=>C8 v u
 | none,none=>True
 | _,_=>False
def KV {κ:Type}:List (κ × V)->List (κ × Value)->Prop:=Paired fun (p:κ × V) (q:κ × Value)=>p.1=q.1/\C8 p.2 q.2
def kV:C2->V
 | .inl i=>.int i
 | .inr x=>.str x
inductive HO where
 /-- a list -/
 | lst (xs:List V)
 /-- a tuple (never changes) -/
 | tup (xs:List V)
 /-- a dict whose keys are ints and texts;one whose keys are tuples of ints and texts (the empty one is both) -/
 | dK (kvs:List (C2 × V))|dT (kvs:List (List C2 × V))
 /-- a set of ints: its members,its size -/
 | set (S:Int->Bool) (n:Nat)
 /-- an instance of the class at C,its dict at dx,its attributes -/
 | ins (C dx:Addr) (fs:List (Str × V))
 /-- the dict of the instance at x -/
 | own (x:Addr)
 /-- the dict of an exception -/
 | xd (fs:List (Str × V))
 /-- a bound method,f of x -/
 | met (f x:Addr)
 /-- a range object lo,lo+1,.. below hi -/
 | rng (lo hi:Int)
 /-- a thing that is known to the object (the script;a dict while a loop walks it): read,never written while it is so -/
 | frz (o:Obj) (u:HO)
 /-- a code object's table -/
 | tbl (ps:Array Value)
 /-- any other thing,by what is true of its one object (a def of one's own: SetO a S n:=HO.ext fun h=>..) -/
 | ext (φ:Heap->Prop)
abbrev Hp:=Addr->Option HO
def upd (H:Hp) (a:Addr) (o:HO):Hp:=fun b=>if b=a then some o else H b
theorem B3 {H:Hp} {a:Addr} {o:HO}:upd H a o a=some o:=by unfold upd;rw [if_pos rfl]
theorem B1 {H:Hp} {a b:Addr} {o:HO} (h:b≠a):upd H a o b=H b:=by unfold upd;rw [if_neg h]
theorem B14 {H:Hp} {a b:Addr} {o u:HO} (h:H a=some o) (h':H b=some u) (d:o≠u):a≠b:=by
 intro e;subst e;rw [h] at h';exact d (Option.some.inj h')
theorem G4 {H:Hp} {a b:Addr} {o:HO} (h:H a=some o) (h':H b=none):a≠b:=by
 intro e;subst e;rw [h] at h';cases h'
section
variable (P:Program) (w:World)
def E1 (H:Hp) (h:Heap) (a:Addr):HO->Prop
 | .lst xs=>xs.length<=sizeLine/\∃ (its:List Value) (n:Nat),C4 xs its/\h.get? a=some { cls:=.type "list",data:=.seq its.toArray n }
 | .tup xs=>xs.length<=sizeLine/\∃ its:List Value,C4 xs its/\IsTup h a its.toArray
 | .dK kvs=>kvs.length<=sizeLine/\(a==sysModules)=false/\∃ vs,KV kvs vs/\h.DictOf (J1 P w) a vs
 | .dT kvs=>kvs.length<=sizeLine/\(a==sysModules)=false/\∃ xs:List (List C2 × Addr × Value),
   Paired (fun (p:List C2 × V) (q:List C2 × Addr × Value)=>p.1=q.1/\H q.2.1=some (.tup (p.1.map kV))/\C8 p.2 q.2.2) kvs xs /\
   ∃ o es ep,h.get? a=some o/\o.ExactDict/\o.data=.dict es ep/\es.toList=xs.map (entryOfKey (tupleKind (J1 P w)))/\(xs.map (·.1)).Nodup
 | .set S n=>h.SetOf (intKind P w) a S n
 | .ins C dx fs=>H dx=some (.own a)/\fs.length<=1000/\dx≠a/\h.get? a=some (PySem.W.instObj C dx) /\
   ∃ mA,h.Ns1 dx mA/\(∀ f,A4z (fs.lookup f) (mA f))/\PySem.Within mA (fs.map (·.1))
 | .own _=>∃ o,h.get? a=some o
 | .xd fs=>∃ mA,h.Ns1 a mA/\∀ f,A4z (fs.lookup f) (mA f)
 | .rng lo hi=>∃ t u v,h.get? a=some { cls:=.type "range",data:=.fields #[.int lo t,.int hi u,.int 1 v] }
 | .frz o u=>h.get? a=some o/\E1 H h a u
 | .tbl ps=>h.get? a=some { cls:=.none,data:=.fields ps }
 | .met f x=>h.get? a=some (PySem.W.methodObj (.ref f) (.ref x))
 | .ext φ=>φ h/\(∃ o,h.get? a=some o)/\∀ h1 h2:Heap,φ h1->(∀ o,h1.get? a=some o->h2.get? a=some o)->φ h2
def HOk (H:Hp) (h:Heap):Prop:=∀ a o,H a=some o->E1 P w H h a o
end
section
variable {P:Program} {w:World} {H H':Hp} {h h':Heap} {a:Addr} {o:HO}
theorem E1.lt (x:E1 P w H h a o):a < h.objs.size:=by
 cases o with
 | lst xs=>obtain ⟨_,_,_,_,e⟩:=x;exact Heap.lt_size e
 | tup xs=>obtain ⟨_,_,_,p⟩:=x;exact p.lt
 | dK kvs=>obtain ⟨_,_,_,_,o,_,_,e,_⟩:=x;exact Heap.lt_size e
 | dT kvs=>obtain ⟨_,_,_,_,o,_,_,e,_⟩:=x;exact Heap.lt_size e
 | set S n=>obtain ⟨o,_,_,_,e,_⟩:=x;exact Heap.lt_size e
 | ins C dx fs=>obtain ⟨_,_,_,e,_⟩:=x;exact Heap.lt_size e
 | own y=>obtain ⟨_,e⟩:=x;exact Heap.lt_size e
 | xd fs=>obtain ⟨_,⟨_,_,_,e,_⟩,_⟩:=x;exact Heap.lt_size e
 | rng lo hi=>obtain ⟨_,_,_,e⟩:=x;exact Heap.lt_size e
 | frz ob u=>obtain ⟨e,_⟩:=x;exact Heap.lt_size e
 | tbl ps=>exact Heap.lt_size (show h.get? a=some _ from x)
 | met f y=>exact Heap.lt_size (show h.get? a=some _ from x)
 | ext φ=>obtain ⟨_,⟨_,e⟩,_⟩:=x;exact Heap.lt_size e
theorem Paired.mapP {α β:Type} {F G:α->β->Prop}:∀ {l₁:List α} {l₂:List β},Paired F l₁ l₂->(∀ a b,F a b->G a b)->Paired G l₁ l₂
 | _,_,.nil,_=>.nil
 | _,_,.cons r t,f=>.cons (f _ _ r) (Paired.mapP t f)
theorem E1.stay (x:E1 P w H h a o) (k:∀ b u,(b=a\/H b=some (.own a))->h.get? b=some u->h'.get? b=some u)
  (ho:∀ b,H b=some (.own a)->H' b=some (.own a)) (ht:∀ b xs,H b=some (.tup xs)->H' b=some (.tup xs)):E1 P w H' h' a o:=by
 induction o with
 | lst xs=>obtain ⟨z,its,n,r,e⟩:=x;exact ⟨z,its,n,r,k _ _ (.inl rfl) e⟩
 | tup xs=>obtain ⟨z,its,r,ob,e,c⟩:=x;exact ⟨z,its,r,ob,k _ _ (.inl rfl) e,c⟩
 | dK kvs=>obtain ⟨z,y,vs,r,ob,es,ep,e,c⟩:=x;exact ⟨z,y,vs,r,ob,es,ep,k _ _ (.inl rfl) e,c⟩
 | dT kvs =>
  obtain ⟨z,y,xs,r,ob,es,ep,e,c⟩:=x;exact ⟨z,y,xs,Paired.mapP r fun p q z=>⟨z.1,ht _ _ z.2.1,z.2.2⟩,ob,es,ep,k _ _ (.inl rfl) e,c⟩
 | set S n=>obtain ⟨ob,es,ep,t,e,c⟩:=x;exact ⟨ob,es,ep,t,k _ _ (.inl rfl) e,c⟩
 | ins C dx fs =>
  obtain ⟨d,z,ne,e,mA,⟨od,es,ep,e2,c⟩,r⟩:=x;exact ⟨ho _ d,z,ne,k _ _ (.inl rfl) e,mA,⟨od,es,ep,k _ _ (.inr d) e2,c⟩,r⟩
 | own y=>obtain ⟨ob,e⟩:=x;exact ⟨ob,k _ _ (.inl rfl) e⟩
 | xd fs=>obtain ⟨mA,⟨od,es,ep,e,c⟩,r⟩:=x;exact ⟨mA,⟨od,es,ep,k _ _ (.inl rfl) e,c⟩,r⟩
 | rng lo hi=>obtain ⟨t,u,v,e⟩:=x;exact ⟨t,u,v,k _ _ (.inl rfl) e⟩
 | frz ob u ih=>obtain ⟨e,q⟩:=x;exact ⟨k _ _ (.inl rfl) e,ih q⟩
 | tbl ps =>
  have e:h.get? a=some { cls:=.none,data:=.fields ps }:=x;show h'.get? a=some { cls:=.none,data:=.fields ps };exact k a _ (.inl rfl) e
 | met f y =>
  have e:h.get? a=some (PySem.W.methodObj (.ref f) (.ref y)):=x;show h'.get? a=some (PySem.W.methodObj (.ref f) (.ref y));exact k a _ (.inl rfl) e
 | ext φ=>obtain ⟨p,⟨o,e⟩,st⟩:=x;exact ⟨st _ _ p fun o q=>k _ _ (.inl rfl) q,⟨o,k _ _ (.inl rfl) e⟩,st⟩
theorem HOk.lt (x:HOk P w H h) (e:H a=some o):a < h.objs.size:=(x a o e).lt
theorem HOk.fresh (x:HOk P w H h) (e:h.objs.size<=a):H a=none:=by
 cases q:H a with
 | none=>rfl
 | some u=>exact absurd (Nat.lt_of_lt_of_le (x.lt q) e) (Nat.lt_irrefl _)
theorem HOk.kept (x:HOk P w H h) (k:∀ b u,h.get? b=some u->h'.get? b=some u):HOk P w H h':=fun a o e =>
 (x a o e).stay (fun b u _ q=>k b u q) (fun _ q=>q) fun _ _ q=>q
theorem HOk.laid (x:HOk P w H h) (k:∀ b u,h.get? b=some u->h'.get? b=some u) (hp:h.objs.size<=a) (new:E1 P w (upd H a o) h' a o):HOk P w (upd H a o) h':=fun b u e=>by
 have hn:=x.fresh hp;by_cases hb:b=a
 ·subst hb;rw [B3] at e;cases e;exact new
 ·rw [B1 hb] at e;exact (x b u e).stay (fun c v _ q=>k c v q) (fun c q=>by rw [B1 (G4 q hn)];exact q) fun c xs q=>by rw [B1 (G4 q hn)];exact q
end
def Rd (H:Hp) (a:Addr) (u:HO):Prop:=H a=some u\/∃ o,H a=some (.frz o u)
theorem Rd.ok {P:Program} {w:World} {H:Hp} {h:Heap} {a:Addr} {u:HO} (r:Rd H a u) (x:HOk P w H h):E1 P w H h a u:=by
 rcases r with r|⟨o,r⟩
 ·exact x a u r
 ·obtain ⟨_,q⟩:=x a _ r;exact q
def Mut:Option HO->Prop
 | some (.lst _)=>True
 | some (.dK _)=>True
 | some (.dT _)=>True
 | some (.set _ _)=>True
 | some (.ins _ _ _)=>True
 | some (.ext _)=>True
 | _=>False
section
variable {P:Program} {w:World} {H:Hp} {h h':Heap} {x e:Addr} {o':HO}
theorem HOk.write (ok:HOk P w H h) (mu:Mut (H x)) (he:e=x\/H e=some (.own x)) (k:∀ b u,b≠e->h.get? b=some u->h'.get? b=some u) (heo:∃ u,h'.get? e=some u)
  (new:E1 P w (upd H x o') h' x o'):HOk P w (upd H x o') h':=fun b u q=>by
 have nown:∀ c y,H c=some (.own y)->c≠x:=fun c y r z=>by subst z;rw [r] at mu;exact mu
 have ntup:∀ c xs,H c=some (.tup xs)->c≠x:=fun c xs r z=>by subst z;rw [r] at mu;exact mu
 by_cases hb:b=x
 ·subst hb;rw [B3] at q;cases q;exact new
 ·rw [B1 hb] at q;by_cases hbe:b=e
  ·have q':H b=some (.own x):=by
    rcases he with z|z
    ·exact absurd (hbe.trans z) hb
    ·rw [hbe];exact z
   rw [q] at q';cases q';obtain ⟨v,hv⟩:=heo;exact ⟨v,by rw [hbe];exact hv⟩
  ·refine (ok b u q).stay (fun c v hc r=>k c v ?_ r) (fun c r=>by rw [B1 (nown c b r)];exact r) fun c xs r=>by rw [B1 (ntup c xs r)];exact r
   rcases hc with rfl|hc
   ·exact hbe
   ·rintro rfl;rcases he with z|z
    ·exact nown c b hc z
    ·rw [hc] at z;cases z;exact hb rfl
end
structure Un (fs ex:List Addr) (H H':Hp) (h h':Heap):Prop where
 keep:∀ b o,h.get? b=some o->H b=none->b∉fs->b∉ex->h'.get? b=some o
 slot:∀ b o,h.get? b=some o->H b=none->b∈fs->b∉ex->∃ sl,h'.get? b=some { o with slots:=sl }
 free:∀ b o,h.get? b=some o->H b=none->b∉ex->H' b=none
 there:∀ b o,h.get? b=some o->b∉ex->∃ o',h'.get? b=some o'
 tups:∀ b xs,H b=some (.tup xs)->H' b=some (.tup xs)
 frzs:∀ b o u,H b=some (.frz o u)->H' b=some (.frz o u)
 tbls:∀ b ps,H b=some (.tbl ps)->∃ more,H' b=some (.tbl (ps++more))
section
variable {fs ex:List Addr} {H H1:Hp} {h h1 h':Heap} {a x e:Addr} {o:HO}
theorem Un.any (u:Un fs ex H H1 h h1) {b:Addr} {ob:Obj} (q:h.get? b=some ob) (n:H b=none) (hx:b∉ex):∃ sl,h1.get? b=some { ob with slots:=sl }:=by
 by_cases hb:b∈fs
 ·exact u.slot b ob q n hb hx
 ·exact ⟨ob.slots,u.keep b ob q n hb hx⟩
theorem Un.kept (k:∀ b u,h.get? b=some u->h'.get? b=some u):Un fs ex H H h h' :=
 ⟨fun b ob q _ _ _=>k b ob q,fun b ob q _ _ _=>⟨ob.slots,k b ob q⟩,fun _ _ _ n _=>n,fun b ob q _=>⟨ob,k b ob q⟩,fun _ _ q=>q,fun _ _ _ q=>q,fun _ ps q=>⟨#[],by rw [q];simp⟩⟩
theorem Un.refl:Un fs ex H H h h:=Un.kept fun _ _ q=>q
theorem Un.laid (k:∀ b u,h.get? b=some u->h'.get? b=some u) (hp:h.objs.size<=a) (hn:H a=none):Un fs ex H (upd H a o) h h' where
 keep:=fun b u q _ _ _=>k b u q
 slot:=fun b u q _ _ _=>⟨u.slots,k b u q⟩
 free:=fun b u q n _=>by rw [B1 (Nat.ne_of_lt (Nat.lt_of_lt_of_le (Heap.lt_size q) hp))];exact n
 there:=fun b u q _=>⟨u,k b u q⟩
 tups:=fun b xs q=>by rw [B1 (G4 q hn)];exact q
 frzs:=fun b u xs q=>by rw [B1 (G4 q hn)];exact q
 tbls:=fun b ps q=>⟨#[],by rw [B1 (G4 q hn),q];simp⟩
theorem Un.write (mu:Mut (H x)) (he:e=x\/H e=some (.own x)) (k:∀ b u,b≠e->h.get? b=some u->h'.get? b=some u) (heo:∃ u,h'.get? e=some u):Un fs ex H (upd H x o) h h':=by
 have hx:∀ b,H b=none->b≠x:=fun b n z=>by subst z;rw [n] at mu;exact mu
 have hb:∀ b,H b=none->b≠e:=fun b n z=>by
  subst z;rcases he with r|r
  ·exact hx b n r
  ·rw [n] at r;cases r
 have hm:∀ b u,H b=some u->¬ Mut (some u)->b≠x:=fun b u q nm z=>by subst z;rw [q] at mu;exact nm mu
 refine ⟨fun b u q n _ _=>k b u (hb b n) q,fun b u q n _ _=>⟨u.slots,k b u (hb b n) q⟩,fun b u q n _=>by rw [B1 (hx b n)];exact n,fun b u q _=>?_,
  fun b xs q=>by rw [B1 (hm b _ q fun z=>z)];exact q,fun b u xs q=>by rw [B1 (hm b _ q fun z=>z)];exact q,fun b ps q=>⟨#[],by rw [B1 (hm b _ q fun z=>z),q];simp⟩⟩
 by_cases hbe:b=e
 ·subst hbe;exact heo
 ·exact ⟨u,k b u hbe q⟩
end
def trk (h:Heap) (H:Hp):List Addr:=(List.range h.objs.size).filter fun a=>(H a).isSome
def A5g (h:Heap) (H:Hp):Heap:=PySem.W.hideAll h (trk h H)
theorem B5e (h:Heap) (H:Hp):(A5g h H).objs.size=h.objs.size:=PySem.W.hideAll_size _ _
theorem C0h {h:Heap} {H:Hp} {b:Addr} {o:Obj} (e:h.get? b=some o) (n:H b=none):(A5g h H).get? b=some o :=
 PySem.W.hideAll_get _ e fun hm=>by
  have q:(H b).isSome=true:=(mem_filter.mp hm).2;rw [n] at q;simp at q
theorem C5f {h:Heap} {H:Hp} {b:Addr} {o:Obj} (e:(A5g h H).get? b=some o):h.get? b=some o/\H b=none:=by
 have e':h.get? b=some o:=PySem.W.of_hideAll (trk h H) e;refine ⟨e',?_⟩;cases q:H b with
 | none=>rfl
 | some x =>
  have hm:b∈trk h H:=mem_filter.mpr ⟨mem_range.mpr (Heap.lt_size e'),by simp [q]⟩;have z:(A5g h H).get? b=none:=PySem.W.hideAll_none (trk h H) hm;rw [z] at e;cases e
def C3g (g h:Heap) (L:Addr):List (Addr × Obj):=(List.range h.objs.size).filterMap fun a=>if a=L\/(g.get? a).isSome=true then none else (h.get? a).map fun o=>(a,o)
def E7 (g h:Heap) (L d:Addr):List (Addr × Obj):=(C3g g h L).filter fun p=>decide (p.1≠d)
structure Mod (K:W.Frag) (mg:Str->Option Value) (base:Heap):Prop where
 kin:K.In base
 glob:base.Ns mainGlobals mg
 blt:∃ mb,base.Ns builtinsNs mb/\∀ x:Str,x≠"__name__"->mb x=bootBuiltins x
 nolimit:base.NoLimit
 seer:base.NoSeer
structure Cx where
 prog:Program
 w:World
 K:W.Frag
 mg:Str->Option Value
 base:Heap
 A:Around
 N:List Str
 s₀:Shared
 H₀:Hp
 env:Env
 outer:List Env
 stack:List Env
 ex:List Addr
 fn:Str->Bool
 calm:Bool
 pn:List (Addr × Obj)
 xe:Value->Shared->Prop
def frs (l:List Env):List Addr:=l.filterMap (·.frame)
abbrev Cx.fs (X:Cx):List Addr:=frs X.outer
def Vis (sc:Scope) (x:Str):Prop:=sc.names.lookup x=some .local\/sc.names.lookup x=some .cell\/sc.names.lookup x=some .free
def Loc (sc:Scope) (x:Str):Prop:=sc.names.lookup x=some .local\/sc.names.lookup x=some .cell
def D9b (env:Env) (h:Heap) (m:Str->Option Value) (x:Str) (u:Value):Prop :=
 (env.kindOf x=some .local/\m x=some u)\/((env.kindOf x=some .cell\/env.kindOf x=some .free)/\∃ c,env.cells.lookup x=some c/\h.IsCell c (some u))
structure Cx.Ok (X:Cx):Prop where
 mod:Mod X.K X.mg X.base
 kind:X.env.scope.kind=.function
 glob:X.env.globals=mainGlobals
 blt:X.env.builtins=builtinsNs
 above:X.s₀.heap.objs.size<=X.env.locals
 inj:∀ x y c,X.env.cells.lookup x=some c->X.env.cells.lookup y=some c->x=y
 has:∀ x,(X.env.kindOf x=some .cell\/X.env.kindOf x=some .free)->∃ c,X.env.cells.lookup x=some c
 cab:∀ x c,X.fn x=true->X.env.cells.lookup x=some c->X.s₀.heap.objs.size<=c
 hd:X.calm=true->X.A.handled=none
 frames:X.A.frames=some X.stack
 stk:X.stack=X.outer\/(X.stack=X.env::X.outer/\X.env.frame=some X.env.locals)
 exf:∀ b∈X.ex,b≠X.env.locals/\∀ x c,X.env.cells.lookup x=some c->c≠b
 bs:∀ b o,X.base.get? b=some o->X.s₀.heap.get? b=some o/\X.H₀ b=none
 bsz:X.base.objs.size<=X.s₀.heap.objs.size
 noex:∀ b o,X.base.get? b=some o->b∉X.ex
 exfs:∀ b∈X.ex,b∉X.fs
 funs:X.s₀.heap.FunFrames X.base X.outer
 frf:∀ b∈X.fs,X.H₀ b=none
structure B4 (X:Cx) (pins:List (Addr × Obj)) (σ:List (Option V)) (H:Hp) (s:Shared):Prop where
 ok:X.Ok
 os:s.os=X.s₀.os
 bare:AllBare s.gens
 base:Un X.fs X.ex X.H₀ H X.s₀.heap s.heap
 loc:∃ m,s.heap.Ns X.env.locals m/\∀ (i:Nat) (x:Str) (v:V),X.N[i]?=some x->σ[i]?=some (some v)->Vis X.env.scope x->∃ u,C8 v u/\D9b X.env s.heap m x u
 cell:∀ x c,X.env.cells.lookup x=some c->∃ v,s.heap.IsCell c v
 free:H X.env.locals=none
 freeC:∀ x c,X.env.cells.lookup x=some c->H c=none
 pin:∀ p∈X.pn++pins,s.heap.get? p.1=some p.2/\H p.1=none/\p.1≠X.env.locals/\p.1∉X.fs/\∀ v,p.2.data≠.cell v
 hok:HOk X.prog X.w H s.heap
 len:σ.length=X.N.length
section
variable {X:Cx} {pins:List (Addr × Obj)} {σ:List (Option V)} {H H':Hp} {s:Shared} {h':Heap}
theorem Cx.Ok.nofr (ok:X.Ok) {b:Addr} {o:Obj} (e:X.base.get? b=some o):b∉X.fs:=fun hb=>by
 have:=(ok.funs.mem hb).1;rw [e] at this;cases this
theorem B4.bs (I:B4 X pins σ H s):∀ b o,X.base.get? b=some o->s.heap.get? b=some o/\H b=none:=fun b o e =>
 ⟨I.base.keep b o (I.ok.bs b o e).1 (I.ok.bs b o e).2 (I.ok.nofr e) (I.ok.noex b o e),I.base.free b o (I.ok.bs b o e).1 (I.ok.bs b o e).2 (I.ok.noex b o e)⟩
theorem B4.bk (I:B4 X pins σ H s):∀ b o,X.base.get? b=some o->s.heap.get? b=some o:=fun b o e=>(I.bs b o e).1
theorem B4.mod (I:B4 X pins σ H s):Mod X.K X.mg X.base:=I.ok.mod
theorem B4.kIn (I:B4 X pins σ H s):X.K.In s.heap:=I.ok.mod.kin.keeps I.bk
theorem B4.lt (I:B4 X pins σ H s):X.env.locals < s.heap.objs.size:=let ⟨_,hn,_⟩:=I.loc;hn.lt
theorem B4.sz (I:B4 X pins σ H s):X.s₀.heap.objs.size<=s.heap.objs.size:=Nat.le_trans I.ok.above (Nat.le_of_lt I.lt)
theorem B4.nofs (I:B4 X pins σ H s) {a:Addr} (h:s.heap.objs.size<=a):a∉X.fs:=fun hb=>by
 obtain ⟨_,o,ho,_⟩:=I.ok.funs.mem hb;exact absurd (Nat.lt_of_lt_of_le (Heap.lt_size ho) (Nat.le_trans I.sz h)) (Nat.lt_irrefl _)
theorem B4.cne (I:B4 X pins σ H s):∀ x c,X.env.cells.lookup x=some c->c≠X.env.locals:=fun x c e z=>by
 obtain ⟨v,o,ho,hd⟩:=I.cell x c e;obtain ⟨m,⟨o',es,ep,ho',hd',_⟩,_⟩:=I.loc;rw [z,ho'] at ho;cases ho;rw [hd'] at hd;cases hd
theorem B4.funs (I:B4 X pins σ H s):s.heap.FunFrames X.base X.outer:=by
 have all:∀ (l:List Env),(∀ b∈frs l,b∈X.fs)->X.s₀.heap.FunFrames X.base l->s.heap.FunFrames X.base l:=by
  intro l
  induction l with
  | nil=>intro _ _;trivial
  | cons env r ih =>
   intro hs hl;obtain ⟨hk,⟨L,o,hf,hn,ho,hd⟩,hr⟩:=hl;have hL:L∈X.fs:=hs L (by unfold frs;rw [List.filterMap_cons,hf];exact mem_cons_self);obtain ⟨sl,e⟩:=I.base.slot L o ho (I.ok.frf L hL) hL fun z=>I.ok.exfs L z hL;exact ⟨hk,⟨L,_,hf,hn,e,hd⟩,ih (fun b hb=>hs b (by unfold frs;rw [List.filterMap_cons,hf];exact mem_cons_of_mem _ hb)) hr⟩
 exact all X.outer (fun _ hb=>hb) I.ok.funs
theorem B4.stack (I:B4 X pins σ H s):s.heap.FunFrames X.base X.stack:=by
 rcases I.ok.stk with e|⟨e,hf⟩
 ·rw [e];exact I.funs
 ·rw [e];obtain ⟨m,hn,_⟩:=I.loc;refine .cons (by rw [I.ok.kind];decide) hf hn ?_ I.funs;exact Heap.get?_none_of_le (Nat.le_trans I.ok.bsz I.ok.above)
theorem B4.stkSub (I:B4 X pins σ H s):∀ b∈frs X.stack,b∈X.env.locals::X.fs:=fun b hb=>by
 rcases I.ok.stk with e|⟨e,hf⟩
 ·rw [e] at hb;exact mem_cons_of_mem _ hb
 ·rw [e] at hb;unfold frs at hb;rw [List.filterMap_cons,hf] at hb;exact hb
theorem B4.stkFree (I:B4 X pins σ H s):∀ b∈frs X.stack,H b=none:=fun b hb=>by
 rcases mem_cons.mp (I.stkSub b hb) with e|hb
 ·rw [e];exact I.free
 ·obtain ⟨_,o,ho,_⟩:=I.ok.funs.mem hb;exact I.base.free b o ho (I.ok.frf b hb) fun z=>I.ok.exfs b z hb
theorem B4.step {g':Array GenState} {t':Nat} {d':Drawn} {ch:List Addr} (I:B4 X pins σ H s)
  (hch:∀ b∈ch,(b∈X.ex\/X.s₀.heap.objs.size<=b)/\b≠X.env.locals/\(∀ x c,X.env.cells.lookup x=some c->c≠b)/\∀ p∈X.pn++pins,p.1≠b)
  (keep:∀ b o,b≠X.env.locals->b∉X.fs->b∉ch->s.heap.get? b=some o->H b=none->h'.get? b=some o)
  (slot:∀ b o,b≠X.env.locals->b∈X.fs->b∉ch->s.heap.get? b=some o->H b=none->∃ sl,h'.get? b=some { o with slots:=sl }) (free:∀ b o,b∉ch->s.heap.get? b=some o->H b=none->H' b=none)
  (there:∀ b o,b∉ch->s.heap.get? b=some o->∃ o',h'.get? b=some o')
  (tups:∀ b xs,H b=some (.tup xs)->H' b=some (.tup xs)) (frzs:∀ b o u,H b=some (.frz o u)->H' b=some (.frz o u)) (tbls:∀ b ps,H b=some (.tbl ps)->∃ more,H' b=some (.tbl (ps++more)))
  (ns:∀ m,s.heap.Ns X.env.locals m->h'.Ns X.env.locals m) (hok:HOk X.prog X.w H' h') (hg:AllBare g') :
  B4 X pins σ H' { s with heap:=h',gens:=g',drawn:=d',toks:=t' }:=by
 have neL:∀ b o,X.s₀.heap.get? b=some o->b≠X.env.locals:=fun b o e=>Nat.ne_of_lt (Nat.lt_of_lt_of_le (Heap.lt_size e) I.ok.above);have neC:∀ b o,X.s₀.heap.get? b=some o->b∉X.ex->b∉ch:=fun b o e hx hb=>by
  rcases (hch b hb).1 with z|z
  ·exact hx z
  ·exact absurd (Nat.lt_of_lt_of_le (Heap.lt_size e) z) (Nat.lt_irrefl _)
 have cellK:∀ x c,X.env.cells.lookup x=some c->∀ v,s.heap.IsCell c v->h'.IsCell c v:=fun x c e v ⟨o,ho,hd⟩=>by
  have nch:c∉ch:=fun z=>(hch c z).2.2.1 x c e rfl;by_cases hc:c∈X.fs
  ·obtain ⟨sl,q⟩:=slot c o (I.cne x c e) hc nch ho (I.freeC x c e);exact ⟨_,q,hd⟩
  ·exact ⟨o,keep c o (I.cne x c e) hc nch ho (I.freeC x c e),hd⟩
 refine ⟨I.ok,I.os,hg,⟨fun b o e n hb hx=>?_,fun b o e n hb hx=>?_,fun b o e n hx=>?_,fun b o e hx=>?_,fun b xs e=>tups b xs (I.base.tups b xs e),fun b o xs e=>frzs b o xs (I.base.frzs b o xs e),fun b ps e=>?_⟩,?_,fun x c e=>?_,?_,fun x c e=>?_,fun p hp=>?_,hok,I.len⟩
 ·exact keep b o (neL b o e) hb (neC b o e hx) (I.base.keep b o e n hb hx) (I.base.free b o e n hx)
 ·obtain ⟨sl,e1⟩:=I.base.slot b o e n hb hx;obtain ⟨sl',e2⟩:=slot b _ (neL b o e) hb (neC b o e hx) e1 (I.base.free b o e n hx);exact ⟨sl',e2⟩
 ·obtain ⟨o',e1⟩:=I.base.there b o e hx;exact free b o' (neC b o e hx) e1 (I.base.free b o e n hx)
 ·obtain ⟨o',e1⟩:=I.base.there b o e hx;exact there b o' (neC b o e hx) e1
 ·obtain ⟨m1,e1⟩:=I.base.tbls b ps e;obtain ⟨m2,e2⟩:=tbls b _ e1;exact ⟨m1++m2,by rw [e2,Array.append_assoc]⟩
 ·obtain ⟨m,hn,hl⟩:=I.loc;refine ⟨m,ns m hn,fun i x v e1 e2 e3=>?_⟩;obtain ⟨u,r,l⟩:=hl i x v e1 e2 e3;refine ⟨u,r,?_⟩;rcases l with l|⟨k,c,e,z⟩
  ·exact .inl l
  ·exact .inr ⟨k,c,e,cellK x c e _ z⟩
 ·obtain ⟨v,z⟩:=I.cell x c e;exact ⟨v,cellK x c e v z⟩
 ·obtain ⟨m,⟨o,_,_,ho,_⟩,_⟩:=I.loc;exact free _ o (fun z=>(hch _ z).2.1 rfl) ho I.free
 ·obtain ⟨v,o,ho,hd⟩:=I.cell x c e;exact free c o (fun z=>(hch c z).2.2.1 x c e rfl) ho (I.freeC x c e)
 ·obtain ⟨e,n,ne,nf,d⟩:=I.pin p hp;have nch:p.1∉ch:=fun z=>(hch p.1 z).2.2.2 p hp rfl;exact ⟨keep p.1 p.2 ne nf nch e n,free p.1 p.2 nch e n,ne,nf,d⟩
theorem B4.un {t':Nat} (I:B4 X pins σ H s) (u:Un X.fs [] H H' s.heap h') (hok:HOk X.prog X.w H' h'):B4 X pins σ H' { s with heap:=h',toks:=t' }:=by
 obtain ⟨m,⟨o,es,ep,ho,r⟩,_⟩:=id I.loc;obtain ⟨sl,hL⟩:=u.any ho I.free (by simp);exact I.step (g':=s.gens) (d':=s.drawn) (ch:=[]) (fun _ z=>nomatch z) (fun b o _ hb _ e n=>u.keep b o e n hb (by simp)) (fun b o _ hb _ e n=>u.slot b o e n hb (by simp)) (fun b o _ e n=>u.free b o e n (by simp)) (fun b o _ e=>u.there b o e (by simp)) u.tups u.frzs u.tbls (fun m' hm=>by
  obtain ⟨o',es',ep',ho',r'⟩:=hm;rw [ho] at ho';cases ho';exact ⟨_,es',ep',hL,r'⟩) hok I.bare
theorem B4.call {g':Array GenState} {t':Nat} {d':Drawn} {ch:List Addr} (I:B4 X pins σ H s) (u:Un (frs X.stack) ch H H' s.heap h') (hok:HOk X.prog X.w H' h') (hg:AllBare g')
  (hch:∀ b∈ch,(b∈X.ex\/X.s₀.heap.objs.size<=b)/\b≠X.env.locals/\(∀ x c,X.env.cells.lookup x=some c->c≠b)/\∀ p∈X.pn++pins,p.1≠b) :
  B4 X pins σ H' { s with heap:=h',gens:=g',drawn:=d',toks:=t' }:=by
 obtain ⟨m,⟨o,es,ep,ho,r⟩,_⟩:=id I.loc;obtain ⟨sl,hL⟩:=u.any ho I.free fun z=>(hch _ z).2.1 rfl;exact I.step (ch:=ch) hch (fun b o hL hb hc e n=>u.keep b o e n (fun z=>(mem_cons.mp (I.stkSub b z)).elim hL hb) hc) (fun b o _ _ hc e n=>u.any e n hc) (fun b o hc e n=>u.free b o e n hc) (fun b o hc e=>u.there b o e hc) u.tups u.frzs u.tbls (fun m' hm=>by
  obtain ⟨o',es',ep',ho',r'⟩:=hm;rw [ho] at ho';cases ho';exact ⟨_,es',ep',hL,r'⟩) hok hg
theorem B4.turned {t':Nat} {it:Addr} (I:B4 X pins σ H s) (k:∀ b o,b≠it->s.heap.get? b=some o->h'.get? b=some o) (hn:H it=none) (hL:it≠X.env.locals)
  (h1:it∈X.ex\/X.s₀.heap.objs.size<=it) (h2:∀ x c,X.env.cells.lookup x=some c->c≠it) (h3:∀ p∈X.pn++pins,p.1≠it):B4 X pins σ H { s with heap:=h',toks:=t' }:=by
 have nit:∀ b u,H b=some u->b≠it:=fun b u e z=>by rw [z,hn] at e;cases e
 refine I.step (g':=s.gens) (d':=s.drawn) (ch:=[it]) (fun b hb=>?_) (fun b o _ _ hc e _=>k b o (fun z=>hc (by simp [z])) e) (fun b o _ _ hc e _=>⟨o.slots,k b o (fun z=>hc (by simp [z])) e⟩) (fun _ _ _ _ n=>n)
  (fun b o hc e=>⟨o,k b o (fun z=>hc (by simp [z])) e⟩) (fun _ _ e=>e) (fun _ _ _ e=>e) (fun b ps e=>⟨#[],by rw [e];simp⟩) (fun m hm=>?_) (fun b u e=>?_) I.bare
 ·have e:b=it:=by simpa using hb
  subst e;exact ⟨h1,hL,h2,h3⟩
 ·obtain ⟨o,es,ep,ho,r⟩:=hm;exact ⟨o,es,ep,k _ o (Ne.symm hL) ho,r⟩
 ·refine (I.hok b u e).stay (fun c v hc q=>k c v ?_ q) (fun _ q=>q) fun _ _ q=>q;rcases hc with z|z
  ·rw [z];exact nit b u e
  ·exact nit c _ z
theorem B4.tok (I:B4 X pins σ H s) (t:Nat):B4 X pins σ H { s with toks:=t }:=I.un (h':=s.heap) (t':=t) Un.refl I.hok
theorem B4.kept {t':Nat} (I:B4 X pins σ H s) (k:∀ b u,s.heap.get? b=some u->h'.get? b=some u):B4 X pins σ H { s with heap:=h',toks:=t' }:=I.un (Un.kept k) (I.hok.kept k)
theorem B4.laid {a:Addr} {o:HO} {t':Nat} (I:B4 X pins σ H s) (k:∀ b u,s.heap.get? b=some u->h'.get? b=some u) (hp:s.heap.objs.size<=a) (new:E1 X.prog X.w (upd H a o) h' a o) :
  B4 X pins σ (upd H a o) { s with heap:=h',toks:=t' }:=I.un (Un.laid k hp (I.hok.fresh hp)) (I.hok.laid k hp new)
theorem B4.write {x e:Addr} {o:HO} {t':Nat} (I:B4 X pins σ H s) (mu:Mut (H x)) (he:e=x\/H e=some (.own x)) (k:∀ b u,b≠e->s.heap.get? b=some u->h'.get? b=some u) (heo:∃ u,h'.get? e=some u)
  (new:E1 X.prog X.w (upd H x o) h' x o):B4 X pins σ (upd H x o) { s with heap:=h',toks:=t' }:=I.un (Un.write mu he k heo) (I.hok.write mu he k heo new)
theorem B4.pins_of {pins':List (Addr × Obj)} (I:B4 X pins σ H s) (h:∀ p∈pins',s.heap.get? p.1=some p.2/\H p.1=none/\p.1≠X.env.locals/\p.1∉X.fs/\∀ v,p.2.data≠.cell v):B4 X pins' σ H s :=
 ⟨I.ok,I.os,I.bare,I.base,I.loc,I.cell,I.free,I.freeC,fun p hp=>(mem_append.mp hp).elim (fun z=>I.pin p (mem_append_left _ z)) (h p),I.hok,I.len⟩
theorem A9n {N:List Str} (hN:N.Nodup) {i j:Nat} {x:Str} (a:N[i]?=some x) (b:N[j]?=some x):i=j:=by
 obtain ⟨h1,e1⟩:=List.getElem?_eq_some_iff.mp a;obtain ⟨h2,e2⟩:=List.getElem?_eq_some_iff.mp b;exact (List.getElem_inj hN).mp (e1.trans e2.symm)
theorem A2i {M:Model} {A:Around} {E:Value->Shared->Prop} {i:Nat} {x:Str} {v:V} {u:Value} {Q:Unit->Shared->Prop} (I:B4 X pins σ H s) (hN:X.N.Nodup) (hi:X.N[i]?=some x) (hx:Loc X.env.scope x) (r:C8 v u)
  (h:∀ s',B4 X pins (σ.set i (some v)) H s'->(∃ a,Heap.SameBut a s.heap s'.heap/\(a=X.env.locals\/X.env.cells.lookup x=some a))->Q () s') (hf:X.fn x=true\/X.env.scope.names.lookup x=some .local:=by first|exact .inl rfl|exact .inr rfl|assumption):wpAny M A (storeName X.env x u) Q E s:=by
 obtain ⟨m,hn,hl⟩:=id I.loc;have hcls:(X.env.scope.kind==.class||(X.env.scope.kind==.module&&X.env.locals != X.env.globals))=false:=by rw [I.ok.kind];rfl
 have hiσ:i < σ.length:=by rw [I.len];exact (List.getElem?_eq_some_iff.mp hi).1
 have cne:=I.cne;have tracked:∀ {a:Addr} {h':Heap},(∃ o,s.heap.get? a=some o/\H a=none)->Heap.SameBut a s.heap h'->HOk X.prog X.w H h':=fun {a h'} ha hs b ob e=>by
  obtain ⟨_,_,hfree⟩:=ha;refine (I.hok b ob e).stay (fun c w' hc q=>(hs.2 c ?_).trans q) (fun _ q=>q) fun _ _ q=>q;rintro rfl;rcases hc with rfl|hc
  ·rw [hfree] at e;cases e
  ·rw [hfree] at hc;cases hc
 rcases hx with hk|hk
 ·refine wpAny_storeName_local hk hn (fun h' hn' hs=>?_) hcls;obtain ⟨oL,_,_,hoL,_⟩:=id hn;refine h _ ⟨I.ok,I.os,I.bare,⟨fun b o e n hb hx=>?_,fun b o e n hb hx=>?_,I.base.free,fun b o e hx=>?_,I.base.tups,I.base.frzs,I.base.tbls⟩,⟨_,hn',fun j y v' e1 e2 e3=>?_⟩,fun y c e=>?_,I.free,I.freeC,fun p hp=>?_,tracked ⟨oL,hoL,I.free⟩ hs,by simpa using I.len⟩ ⟨_,hs,.inl rfl⟩
  ·exact (hs.2 b (Nat.ne_of_lt (Nat.lt_of_lt_of_le (Heap.lt_size e) I.ok.above))).trans (I.base.keep b o e n hb hx)
  ·obtain ⟨sl,e1⟩:=I.base.slot b o e n hb hx;exact ⟨sl,(hs.2 b (Nat.ne_of_lt (Nat.lt_of_lt_of_le (Heap.lt_size e) I.ok.above))).trans e1⟩
  ·obtain ⟨o',e1⟩:=I.base.there b o e hx;exact ⟨o',(hs.2 b (Nat.ne_of_lt (Nat.lt_of_lt_of_le (Heap.lt_size e) I.ok.above))).trans e1⟩
  ·by_cases hj:j=i
   ·subst hj;rw [hi] at e1;cases e1;rw [List.getElem?_set_self hiσ] at e2;cases e2;exact ⟨u,r,.inl ⟨hk,by simp⟩⟩
   ·rw [List.getElem?_set_ne (Ne.symm hj)] at e2;obtain ⟨u',r',q⟩:=hl j y v' e1 e2 e3;refine ⟨u',r',?_⟩;rcases q with ⟨k,e⟩|⟨k,c,e,z⟩
    ·refine .inl ⟨k,?_⟩;have:y≠x:=fun e=>hj (A9n hN e1 (e ▸ hi));simp [this,e]
    ·exact .inr ⟨k,c,e,z.sameBut hs (cne y c e)⟩
  ·obtain ⟨w',z⟩:=I.cell y c e;exact ⟨w',z.sameBut hs (cne y c e)⟩
  ·obtain ⟨e,n,ne,nf,d⟩:=I.pin p hp;exact ⟨(hs.2 p.1 ne).trans e,n,ne,nf,d⟩
 ·have hfn:X.fn x=true:=by
   rcases hf with z|z
   ·exact z
   ·rw [z] at hk;cases hk
  obtain ⟨c,hc⟩:=I.ok.has x (.inl hk);obtain ⟨w',z⟩:=I.cell x c hc;refine wpAny_storeName_cell I.ok.kind hk hc z (fun h' hc' hs=>?_);obtain ⟨oc,hoc,hocd⟩:=id z;refine h { s with heap:=h' } ⟨I.ok,I.os,I.bare,⟨fun b o e n hb hx=>?_,fun b o e n hb hx=>?_,I.base.free,fun b o e hx=>?_,I.base.tups,I.base.frzs,I.base.tbls⟩,⟨m,hn.sameBut hs (Ne.symm (cne x c hc)),fun j y v' e1 e2 e3=>?_⟩,fun y c' e=>?_,I.free,I.freeC,fun p hp=>?_,tracked ⟨oc,hoc,I.freeC x c hc⟩ hs,by simpa using I.len⟩ ⟨c,hs,.inr hc⟩
  ·exact (hs.2 b (Nat.ne_of_lt (Nat.lt_of_lt_of_le (Heap.lt_size e) (I.ok.cab x c hfn hc)))).trans (I.base.keep b o e n hb hx)
  ·obtain ⟨sl,e1⟩:=I.base.slot b o e n hb hx;exact ⟨sl,(hs.2 b (Nat.ne_of_lt (Nat.lt_of_lt_of_le (Heap.lt_size e) (I.ok.cab x c hfn hc)))).trans e1⟩
  ·obtain ⟨o',e1⟩:=I.base.there b o e hx;exact ⟨o',(hs.2 b (Nat.ne_of_lt (Nat.lt_of_lt_of_le (Heap.lt_size e) (I.ok.cab x c hfn hc)))).trans e1⟩
  ·by_cases hj:j=i
   ·subst hj;rw [hi] at e1;cases e1;rw [List.getElem?_set_self hiσ] at e2;cases e2;exact ⟨u,r,.inr ⟨.inl hk,c,hc,hc'⟩⟩
   ·rw [List.getElem?_set_ne (Ne.symm hj)] at e2;obtain ⟨u',r',q⟩:=hl j y v' e1 e2 e3;refine ⟨u',r',?_⟩;rcases q with q|⟨k,c',e,z'⟩
    ·exact .inl q
    ·refine .inr ⟨k,c',e,z'.sameBut hs ?_⟩;rintro rfl;exact hj (A9n hN e1 (I.ok.inj _ _ _ e hc ▸ hi))
  ·by_cases hcc:c'=c
   ·subst hcc;exact ⟨_,hc'⟩
   ·obtain ⟨w2,z2⟩:=I.cell y c' e;exact ⟨w2,z2.sameBut hs hcc⟩
  ·obtain ⟨e,n,ne,nf,d⟩:=I.pin p hp;refine ⟨(hs.2 p.1 ?_).trans e,n,ne,nf,d⟩;intro q;rw [q,hoc] at e;have q':oc=p.2:=Option.some.inj e;exact d w' (by rw [<-q'];exact hocd)
theorem A53 {M:Model} {A:Around} {E:Value->Shared->Prop} {i:Nat} {x:Str} {v:V} {u:Value} {Q:Unit->Shared->Prop} (I:B4 X pins σ H s) (hN:X.N.Nodup) (hi:X.N[i]?=some x) (hx:Loc X.env.scope x) (r:C8 v u)
  (h:∀ s',B4 X pins (σ.set i (some v)) H s'->Q () s') (hf:X.fn x=true\/X.env.scope.names.lookup x=some .local:=by first|exact .inl rfl|exact .inr rfl|assumption):wpAny M A (storeName X.env x u) Q E s :=
 A2i I hN hi hx r (fun s' I' _=>h s' I') hf
theorem B4.call' {s':Shared} {ch:List Addr} (I:B4 X pins σ H s) (ho:s'.os=s.os) (u:Un (frs X.stack) ch H H' s.heap s'.heap) (hok:HOk X.prog X.w H' s'.heap) (hg:AllBare s'.gens)
  (hch:∀ b∈ch,(b∈X.ex\/X.s₀.heap.objs.size<=b)/\b≠X.env.locals/\(∀ x c,X.env.cells.lookup x=some c->c≠b)/\∀ p∈X.pn++pins,p.1≠b):B4 X pins σ H' s':=by
 obtain ⟨h',g',d',t',o'⟩:=s';have e:o'=s.os:=ho;subst e;exact I.call (g':=g') (t':=t') (d':=d') u hok hg hch
end
abbrev XK:=Value->Option Addr->Hp->Prop
abbrev St:=List (Option V)
abbrev VK:=V->Hp->Prop
abbrev TE:=St->Hp->VK->Prop
abbrev TT:=St->Hp->(Bool->Hp->Prop)->Prop
abbrev TA:=St->Hp->(List V->Hp->Prop)->Prop
structure T1 where
 nx:St->Hp->Prop
 rt:VK
 bk:St->Hp->Prop:=fun _ _=>False
 ct:St->Hp->Prop:=fun _ _=>False
abbrev TS:=T1->St->Hp->Prop
def EP (X:Cx) (pins:List (Addr × Obj)) (σ:St) (Q:VK) (u:Value) (s':Shared):Prop:=∃ v H',B4 X pins σ H' s'/\C8 v u/\Q v H'
def TP (X:Cx) (pins:List (Addr × Obj)) (σ:St) (Q:Bool->Hp->Prop) (b:Bool) (s':Shared):Prop:=∃ H',B4 X pins σ H' s'/\Q b H'
def AP (X:Cx) (pins:List (Addr × Obj)) (σ:St) (Q:List V->Hp->Prop) (us:List Value) (s':Shared):Prop:=∃ vs H',B4 X pins σ H' s'/\C4 vs us/\Q vs H'
def SP (X:Cx) (pins:List (Addr × Obj)) (D:T1) (f:Flow) (s':Shared):Prop :=
 match f with
 | .next=>∃ σ' H',B4 X pins σ' H' s'/\D.nx σ' H'
 | .brk=>∃ σ' H',B4 X pins σ' H' s'/\D.bk σ' H'
 | .cont=>∃ σ' H',B4 X pins σ' H' s'/\D.ct σ' H'
 | .ret u=>∃ v σ' H',B4 X pins σ' H' s'/\C8 v u/\D.rt v H'
def PE (X:Cx) (e:Expr) (t:TE):Prop :=
 ∀ (pins:List (Addr × Obj)) (s:Shared) (σ:St) (H:Hp) (Q:VK),B4 X pins σ H s->t σ H Q->wpAny (model X.prog X.w) X.A (eval e X.env) (EP X pins σ Q) X.xe s
def PT (X:Cx) (e:Expr) (t:TT):Prop :=
 ∀ (pins:List (Addr × Obj)) (s:Shared) (σ:St) (H:Hp) (Q:Bool->Hp->Prop),B4 X pins σ H s->t σ H Q->wpAny (model X.prog X.w) X.A (isTrue e X.env (eval e X.env)) (TP X pins σ Q) X.xe s
def PW (X:Cx) (e:Expr) (t:TT):Prop :=
 ∀ (whole:Sem Value) (pins:List (Addr × Obj)) (s:Shared) (σ:St) (H:Hp) (Q:Bool->Hp->Prop),B4 X pins σ H s->t σ H Q->wpAny (model X.prog X.w) X.A (isTrue e X.env whole) (TP X pins σ Q) X.xe s
theorem PW.pt {X:Cx} {e:Expr} {t:TT} (h:PW X e t):PT X e t:=h _
def PA (X:Cx) (es:List Expr) (t:TA):Prop :=
 ∀ (pos:Pos) (pins:List (Addr × Obj)) (s:Shared) (σ:St) (H:Hp) (Q:List V->Hp->Prop),B4 X pins σ H s->t σ H Q->wpAny (model X.prog X.w) X.A (spliced (backTo pos (starEach es X.env))) (AP X pins σ Q) X.xe s
def PS (X:Cx) (st:Stmt) (t:TS):Prop :=
 ∀ (pins:List (Addr × Obj)) (s:Shared) (σ:St) (H:Hp) (D:T1),B4 X pins σ H s->t D σ H->wpAny (model X.prog X.w) X.A (exec st X.env) (SP X pins D) X.xe s
def PSs (X:Cx) (st:List Stmt) (t:TS):Prop :=
 ∀ (pins:List (Addr × Obj)) (s:Shared) (σ:St) (H:Hp) (D:T1),B4 X pins σ H s->t D σ H->wpAny (model X.prog X.w) X.A (execs st X.env) (SP X pins D) X.xe s
theorem D6 {α:Type} {t:Sem α} {Q Q':α->Shared->Prop} {M:Model} {A:Around} {E:Value->Shared->Prop} {s:Shared} (h:wpAny M A t Q E s) (hQ:∀ a s,Q a s->Q' a s):wpAny M A t Q' E s:=wpAny_mono h hQ fun _ _ x=>x
section
variable {X:Cx}
theorem bin {a b:Expr} {ta tb:TE} (ha:PE X a ta) (hb:PE X b tb) {pins:List (Addr × Obj)} {s:Shared} {σ:St} {H:Hp} {R:V->V->Hp->Prop} (I:B4 X pins σ H s) (h:ta σ H fun x H1=>tb σ H1 fun y H2=>R x y H2)
  {α:Type} {Q:α->Shared->Prop} {f:Value->Value->Sem α}
  (hf:∀ v u s2 x y H2,B4 X pins σ H2 s2->C8 x v->C8 y u->R x y H2->wpAny (model X.prog X.w) X.A (f v u) Q X.xe s2) :
  wpAny (model X.prog X.w) X.A (eval a X.env) (fun v s₁=>wpAny (model X.prog X.w) X.A (eval b X.env) (fun u s₂=>wpAny (model X.prog X.w) X.A (f v u) Q X.xe s₂) X.xe s₁) X.xe s:=by
 refine D6 (ha pins s σ H _ I h) fun v s1 ⟨x,H1,I1,r1,q1⟩=>?_;refine D6 (hb pins s1 σ H1 _ I1 q1) fun u s2 ⟨y,H2,I2,r2,q2⟩=>?_;exact hf v u s2 x y H2 I2 r1 r2 q2
def V4 (i:Nat):TE:=fun σ H Q=>∃ v,σ[i]?=some (some v)/\Q v H
def tC (v:V):TE:=fun _ H Q=>Q v H
theorem D00 {i:Nat} {x:Str} {pos:Pos} (hN:X.N[i]?=some x) (hv:Vis X.env.scope x) (hd:(x==("__debug__":Str))=false:=by decide) (hcd:(x==("__classdict__":Str))=false:=by decide):PE X (.Name x pos) (V4 i):=by
 intro pins s σ H Q I h;obtain ⟨v,e,h⟩:=h;obtain ⟨m,hn,hl⟩:=I.loc;obtain ⟨u,r,l⟩:=hl i x v hN e hv;have fin:EP X pins σ Q u s:=⟨v,H,I,r,h⟩;rcases l with ⟨hk,hm⟩|⟨hk,c,hc,hcell⟩
 ·exact wpAny_Name (wpAny_loadName_local I.ok.kind hk hn hm fin) hd
 ·rcases hk with hk|hk
  ·exact wpAny_Name (wpAny_loadName_cell I.ok.kind hk hc hcell fin) hd
  ·exact wpAny_Name (wpAny_loadName_free I.ok.kind hk hc hcell fin hcd) hd
theorem C26 {i j pos}:PE X (.Constant (.int i) j pos) (tC (.int i)):=fun _ _ _ H _ I h=>wpAny_Constant_int ⟨.int i,H,I.tok _,⟨_,rfl⟩,h⟩
theorem B9l {b j pos}:PE X (.Constant (.bool b) j pos) (tC (.bl b)):=fun _ _ _ H _ I h=>Constant_bool ⟨.bl b,H,I,rfl,h⟩
theorem D2n {j pos}:PE X (.Constant .none j pos) (tC .non):=fun _ _ _ H _ I h=>Constant_none ⟨.non,H,I,rfl,h⟩
theorem C8l {x j pos}:PE X (.Constant (.str x) j pos) (tC (.str x)):=fun _ _ _ H _ I h=>Calls.Constant_str ⟨.str x,H,I.tok _,⟨_,rfl⟩,h⟩
def Gl (X:Cx) (x:Str):Prop:=X.env.kindOf x=some .globalImplicit
theorem A0d {E:Value->Shared->Prop} {pins:List (Addr × Obj)} {s:Shared} {σ:St} {H:Hp} {x:Str} {u:Value} {pos:Pos} {Q:Value->Shared->Prop} (I:B4 X pins σ H s) (hg:Gl X x) (hm:X.mg x=some u) (h:Q u s)
  (hd:(x==("__debug__":Str))=false:=by decide):wpAny (model X.prog X.w) X.A (eval (.Name x pos) X.env) Q E s :=
 Calls.Name_function_global I.ok.kind hg (Calls.loadGlobal_global (by rw [I.ok.glob];exact I.mod.glob.keeps I.bk) hm h) hd
theorem A2u {E:Value->Shared->Prop} {pins:List (Addr × Obj)} {s:Shared} {σ:St} {H:Hp} {x:Str} {u:Value} {pos:Pos} {Q:Value->Shared->Prop} (I:B4 X pins σ H s) (hg:Gl X x) (hm:X.mg x=none) (hv:bootBuiltins x=some u) (h:Q u s)
  (hn:x≠"__name__":=by decide) (hd:(x==("__debug__":Str))=false:=by decide):wpAny (model X.prog X.w) X.A (eval (.Name x pos) X.env) Q E s:=by
 obtain ⟨mb,h1,h2⟩:=I.mod.blt;exact Calls.Name_function_global I.ok.kind hg (Calls.loadGlobal_builtin (by rw [I.ok.glob];exact I.mod.glob.keeps I.bk) hm (by rw [I.ok.blt];exact h1.keeps I.bk) ((h2 x hn).trans hv) h) hd
theorem A6u {x:Str} {v:V} {u:Value} {pos:Pos} (hg:Gl X x) (hm:X.mg x=some u) (r:C8 v u) (hd:(x==("__debug__":Str))=false:=by decide):PE X (.Name x pos) (tC v) :=
 fun _ _ _ H _ I h=>A0d I hg hm ⟨v,H,I,r,h⟩ hd
theorem C3t {x:Str} {v:V} {u:Value} {pos:Pos} (hg:Gl X x) (hm:X.mg x=none) (hv:bootBuiltins x=some u) (r:C8 v u) (hn:x≠"__name__":=by decide) (hd:(x==("__debug__":Str))=false:=by decide):PE X (.Name x pos) (tC v) :=
 fun _ _ _ H _ I h=>A2u I hg hm hv ⟨v,H,I,r,h⟩ hn hd
variable {a b:Expr} {ta tb:TE} {pos:Pos}
def PC (X:Cx) (op:CmpOp) (a b:Expr) (t:TE):Prop :=
 ∀ (pins:List (Addr × Obj)) (s:Shared) (σ:St) (H:Hp) (Q:VK),B4 X pins σ H s->t σ H Q ->
  wpAny (model X.prog X.w) X.A (eval a X.env) (fun v s₁=>wpAny (model X.prog X.w) X.A (eval b X.env) (fun u s₂=>wpAny (model X.prog X.w) X.A (compareOp op v u) (EP X pins σ Q) X.xe s₂) X.xe s₁) X.xe s
def tB (t:TE):TT:=fun σ H Q=>t σ H fun x H1=>∃ c,x=.bl c/\Q c H1
theorem C8w {op:CmpOp} {t:TE} (h:PC X op a b t) (h1:behindInMarks op b=false:=by first|exact nobehind _ (by decide) (by decide)|rfl):PE X (.Compare a [op] [b] pos) t:=fun pins s σ H Q I hw=>wpAny_Compare1 (h pins s σ H Q I hw) h1
theorem D2x {op:CmpOp} {t:TE} (h:PC X op a b t) (h1:behindInMarks op b=false:=by first|exact nobehind _ (by decide) (by decide)|rfl):PT X (.Compare a [op] [b] pos) (tB t):=by
 intro pins s σ H Q I hw;refine wpAny_isTrue_Compare1 (D6 (h pins s σ H _ I hw) fun v s1 h1=>D6 h1 fun u s2 h2=>D6 h2 fun c s3 ⟨x,H1,I1,r1,q1⟩=>?_) h1;obtain ⟨d,rfl,q⟩:=q1;cases r1;exact wpAny_truthy_bool ⟨H1,I1,q⟩
theorem D1n {e:Expr} {t:TE} (h:PE X e t) (he:∀ whole,isTrue e X.env whole=(do let v <- whole;standAt e.pos;holding [v] (truthy v)):=by intro _;rfl):PT X e (tB t):=by
 intro pins s σ H Q I hw;refine isTrue_plain (D6 (h pins s σ H _ I hw) fun v s1 ⟨x,H1,I1,r1,q1⟩=>?_) (he _);obtain ⟨d,rfl,q⟩:=q1;cases r1;exact wpAny_truthy_bool ⟨H1,I1,q⟩
variable {tA tB':TT} {E7:List Expr}
def tOr (t u:TT):TT:=fun σ H Q=>t σ H fun c H1=>if c=true then Q true H1 else u σ H1 Q
def D52 (t:TT):TT:=fun σ H Q=>t σ H fun c H1=>Q (!c) H1
theorem C9l (ha:PT X a tA):PW X (.BoolOp .Or [a] pos) tA:=by
 intro wh pins s σ H Q I h;refine isTrue_or (D6 (ha pins s σ H Q I h) fun c s1 e=>?_);cases c with
 | false=>exact isTrue_or_nil e
 | true=>exact e
theorem D4m (ha:PT X a tA) (hb:PW X (.BoolOp .Or (b::E7) pos) tB'):PW X (.BoolOp .Or (a::b::E7) pos) (tOr tA tB'):=by
 intro wh pins s σ H Q I h;refine isTrue_or (D6 (ha pins s σ H _ I h) fun c s1 ⟨H1,I1,q1⟩=>?_);cases c with
 | true=>exact ⟨H1,I1,q1⟩
 | false=>exact hb wh pins s1 σ H1 Q I1 q1
theorem C9y (ha:PT X a tA):PT X (.UnaryOp .Not a pos) (D52 tA):=by
 intro pins s σ H Q I h;exact isTrue_not (ha pins s σ H (fun c H1=>Q (!c) H1) I h)
def C7v (ta tb:TE):TE:=fun σ H Q=>ta σ H fun x H1=>∃ c,x=.bl c/\if c=true then tb σ H1 Q else Q (.bl false) H1
def C7x (ta:TE):TE:=fun σ H Q=>ta σ H fun x H1=>∃ c,x=.bl c/\Q (.bl (!c)) H1
theorem D0m {op} {t:TE} (h:PE X a t):PE X (.BoolOp op [a] pos) t:=fun pins s σ H Q I hw=>BoolOp_one (h pins s σ H Q I hw)
theorem D0x (ha:PE X a ta) (hb:PE X (.BoolOp .And (b::E7) pos) tb):PE X (.BoolOp .And (a::b::E7) pos) (C7v ta tb):=by
 intro pins s σ H Q I h;refine BoolOp_and (D6 (ha pins s σ H _ I h) fun v s1 ⟨x,H1,I1,r1,q1⟩=>?_);obtain ⟨c,rfl,q1⟩:=q1;cases r1;refine wpAny_truthy_bool ?_;cases c with
 | true=>exact hb pins s1 σ H1 Q I1 q1
 | false=>exact ⟨.bl false,H1,I1,rfl,q1⟩
theorem C8t (ha:PE X a ta):PE X (.UnaryOp .Not a pos) (C7x ta):=by
 intro pins s σ H Q I h;refine UnaryOp_ (D6 (ha pins s σ H _ I h) fun v s1 ⟨x,H1,I1,r1,q1⟩=>?_);obtain ⟨c,rfl,q1⟩:=q1;cases r1;exact not_of (wpAny_truthy_bool ⟨.bl (!c),H1,I1,rfl,q1⟩)
end
def L4 (K:W.Frag) (H:Hp) (a:Addr) (xs:List V):Prop :=
 Rd H a (.lst xs) \/
  ∃ (o:Obj) (its:Array Value) (n:Nat),K.lookup a=some o/\o.cls=.type "list"/\o.dict=none/\o.data=.seq its n/\its.size<=sizeLine/\C4 xs its.toList
def R4 (K:W.Frag) (H:Hp) (a:Addr) (xs:List V):Prop :=
 Rd H a (.tup xs) \/
  ∃ (o:Obj) (its:Array Value) (n:Nat),K.lookup a=some o/\o.cls=.type "tuple"/\o.data=.seq its n/\its.size<=sizeLine/\C4 xs its.toList
def D8m:Value->Option V
 | .none=>some .non
 | .bool b=>some (.bl b)
 | .int i _=>some (.int i)
 | .str x _=>some (.str x)
 | .bytes b _=>some (.byt b)
 | .float b _=>some (.flt b)
 | .ref a=>some (.ref a)
 | .type n=>some (.ty n)
 | _=>none
theorem C8.abs {x:V} {u:Value} (r:C8 x u):D8m u=some x:=by
 cases x with
 | non=>cases r;rfl
 | bl _=>cases r;rfl
 | int _=>obtain ⟨t,rfl⟩:=r;rfl
 | str _=>obtain ⟨t,rfl⟩:=r;rfl
 | byt _=>obtain ⟨t,rfl⟩:=r;rfl
 | flt _=>obtain ⟨t,rfl⟩:=r;rfl
 | ref _=>cases r;rfl
 | ty _=>cases r;rfl
theorem C8.inj {x y:V} {u:Value} (r:C8 x u) (q:C8 y u):x=y:=Option.some.inj (r.abs.symm.trans q.abs)
theorem C4.inj:∀ {xs ys:List V} {us:List Value},C4 xs us->C4 ys us->xs=ys
 | _,_,_,.nil,.nil=>rfl
 | _,_,_,.cons r t,.cons r' t'=>by rw [r.inj r',C4.inj t t']
section
variable {X:Cx} {pins:List (Addr × Obj)} {σ:St} {H:Hp} {s:Shared} {a:Addr} {xs ys:List V}
theorem L4.of {K:W.Frag} (h:H a=some (.lst xs)):L4 K H a xs:=.inl (.inl h)
theorem R4.of {K:W.Frag} (h:H a=some (.tup xs)):R4 K H a xs:=.inl (.inl h)
theorem B4.list (I:B4 X pins σ H s) (h:L4 X.K H a xs):∃ its:List Value,C4 xs its/\PlainL s.heap a its.toArray/\xs.length<=sizeLine:=by
 rcases h with h|⟨o,its,n,hk,hc,hd,hs,hz,r⟩
 ·obtain ⟨z,its,n,r,e⟩:=h.ok I.hok;exact ⟨its,r,⟨_,n,e,rfl,rfl,rfl⟩,z⟩
 ·refine ⟨its.toList,r,⟨o,n,I.kIn a o hk,hc,hd,by simpa using hs⟩,?_⟩;have e:=r.length;simp only [Array.length_toList] at e;omega
theorem B4.tuple (I:B4 X pins σ H s) (h:R4 X.K H a xs):∃ its:List Value,C4 xs its/\IsTup s.heap a its.toArray/\xs.length<=sizeLine:=by
 rcases h with h|⟨o,its,n,hk,hc,hs,hz,r⟩
 ·obtain ⟨z,its,r,p⟩:=h.ok I.hok;exact ⟨its,r,p,z⟩
 ·refine ⟨its.toList,r,⟨o,I.kIn a o hk,hc,n,by simpa using hs⟩,?_⟩;have e:=r.length;simp only [Array.length_toList] at e;omega
theorem B4.list_inj (I:B4 X pins σ H s) (h:L4 X.K H a xs) (h':L4 X.K H a ys):xs=ys:=by
 obtain ⟨its,r,⟨o,n,e,_,_,d⟩,_⟩:=I.list h;obtain ⟨its',r',⟨o',n',e',_,_,d'⟩,_⟩:=I.list h';rw [e] at e';cases e';rw [d] at d';injection d' with d1 _
 have:its=its':=by simpa using congrArg Array.toList d1
 subst this;exact r.inj r'
theorem B4.tuple_inj (I:B4 X pins σ H s) (h:R4 X.K H a xs) (h':R4 X.K H a ys):xs=ys:=by
 obtain ⟨its,r,⟨o,e,_,n,d⟩,_⟩:=I.tuple h;obtain ⟨its',r',⟨o',e',_,n',d'⟩,_⟩:=I.tuple h';rw [e] at e';cases e';rw [d] at d';injection d' with d1 _
 have:its=its':=by simpa using congrArg Array.toList d1
 subst this;exact r.inj r'
end
abbrev Cx.wish (X:Cx) (E:Value->Shared->Prop):Cx:={ X with xe:=E }
abbrev Cx.nox (X:Cx):Cx:=X.wish fun _ _=>False
theorem Cx.Ok.wish {X:Cx} (ok:X.Ok) (E:Value->Shared->Prop):(X.wish E).Ok :=
 ⟨ok.mod,ok.kind,ok.glob,ok.blt,ok.above,ok.inj,ok.has,ok.cab,ok.hd,ok.frames,ok.stk,ok.exf,ok.bs,ok.bsz,ok.noex,ok.exfs,ok.funs,ok.frf⟩
theorem Cx.Ok.unwish {X:Cx} {E:Value->Shared->Prop} (ok:(X.wish E).Ok):X.Ok :=
 ⟨ok.mod,ok.kind,ok.glob,ok.blt,ok.above,ok.inj,ok.has,ok.cab,ok.hd,ok.frames,ok.stk,ok.exf,ok.bs,ok.bsz,ok.noex,ok.exfs,ok.funs,ok.frf⟩
section
variable {X:Cx} {pins:List (Addr × Obj)} {σ:St} {H:Hp} {s:Shared} {E:Value->Shared->Prop}
theorem B4.wish (I:B4 X pins σ H s) (E:Value->Shared->Prop):B4 (X.wish E) pins σ H s:=⟨I.ok.wish E,I.os,I.bare,I.base,I.loc,I.cell,I.free,I.freeC,I.pin,I.hok,I.len⟩
theorem B4.unwish (I:B4 (X.wish E) pins σ H s):B4 X pins σ H s:=⟨I.ok.unwish,I.os,I.bare,I.base,I.loc,I.cell,I.free,I.freeC,I.pin,I.hok,I.len⟩
theorem SP.unwish {D:T1} {f:Flow} {s':Shared} (h:SP (X.wish E) pins D f s'):SP X pins D f s':=by
 cases f with
 | next=>obtain ⟨σ',H',I,q⟩:=h;exact ⟨σ',H',I.unwish,q⟩
 | brk=>obtain ⟨σ',H',I,q⟩:=h;exact ⟨σ',H',I.unwish,q⟩
 | cont=>obtain ⟨σ',H',I,q⟩:=h;exact ⟨σ',H',I.unwish,q⟩
 | ret u=>obtain ⟨v,σ',H',I,r,q⟩:=h;exact ⟨v,σ',H',I.unwish,r,q⟩
theorem PT.nox {e:Expr} {t:TT} (h:PT X.nox e t):PT X e t:=fun pins s σ H Q I hw =>
 wpAny_mono (h pins s σ H Q (I.wish _) hw) (fun _ _ ⟨H',I',q⟩=>⟨H',I'.unwish,q⟩) fun _ _ z=>False.elim z
theorem PSs.nox {st:List Stmt} {t:TS} (h:PSs X.nox st t):PSs X st t:=fun pins s σ H D I hw =>
 wpAny_mono (h pins s σ H D (I.wish _) hw) (fun _ _ q=>q.unwish) fun _ _ z=>False.elim z
end
section
variable {X:Cx} {st:Stmt} {E7:List Stmt} {t u:TS} {e:Expr} {te:TE} {pos:Pos}
def B4s:TS:=fun D σ H=>D.nx σ H
def D5x (t u:TS):TS:=fun D σ H=>t { D with nx:=u D } σ H
theorem C38:PSs X [] B4s:=fun _ _ σ H _ I h=>wpAny_execs_nil ⟨σ,H,I,h⟩
theorem B9d (h1:PS X st t) (h2:PSs X E7 u):PSs X (st::E7) (D5x t u):=by
 intro pins s σ H D I h;refine wpAny_execs_cons (D6 (h1 pins s σ H { D with nx:=u D } I h) fun f s1 q=>?_);cases f with
 | next =>
  obtain ⟨σ',H',I',q⟩:=q;exact h2 pins s1 σ' H' D I' q
 | ret v=>exact q
 | brk=>exact q
 | cont=>exact q
theorem C51 (h1:PS X st t):PSs X [st] t:=by
 intro pins s σ H D I h;refine wpAny_execs_cons (D6 (h1 pins s σ H D I h) fun f s1 q=>?_);cases f with
 | next=>exact wpAny_execs_nil q
 | ret v=>exact q
 | brk=>exact q
 | cont=>exact q
theorem B4.quiet {pins:List (Addr × Obj)} {σ:St} {H:Hp} {s:Shared} (I:B4 X pins σ H s):interactive X.env=false:=by simp [interactive,I.ok.kind]
def B0y (te:TE):TS:=fun D σ H=>te σ H fun _ H1=>D.nx σ H1
theorem C56 (he:PE X e te) (hs:swapsWith e none pos.line X.env=pure false:=by rfl):PS X (.Expr e pos) (B0y te):=by
 intro pins s σ H D I h;exact wpAny_Expr_any (D6 (he pins s σ H _ I h) fun v s1 ⟨x,H1,I1,r1,q1⟩=>⟨σ,H1,I1,q1⟩) I.quiet hs
def D5l (te:TE):TS:=fun D σ H=>te σ H D.rt
theorem C8y (he:PE X e te):PS X (.Return (some e) pos) (D5l te):=by
 intro pins s σ H D I h;exact wpAny_Return_some (D6 (he pins s σ H _ I h) fun v s1 ⟨x,H1,I1,r1,q1⟩=>⟨x,σ,H1,I1,r1,q1⟩)
def C5y (c:TT) (t u:TS):TS:=fun D σ H=>c σ H fun b H1=>if b=true then t D σ H1 else u D σ H1
theorem D4p {c:Expr} {a b:List Stmt} {tc:TT} (hc:PT X c tc) (ha:PSs X a t) (hb:PSs X b u):PS X (.If c a b pos) (C5y tc t u):=by
 intro pins s σ H D I h;refine wpAny_If (D6 (hc pins s σ H _ I h) fun d s1 ⟨H1,I1,q1⟩=>?_);cases d with
 | true=>exact ha pins s1 σ H1 D I1 q1
 | false=>exact hb pins s1 σ H1 D I1 q1
end
abbrev TG:=V->St->Hp->(St->Hp->Prop)->Prop
abbrev TGs:=List V->St->Hp->(St->Hp->Prop)->Prop
def PG (X:Cx) (target:Expr) (t:TG):Prop :=
 ∀ (pins:List (Addr × Obj)) (s:Shared) (σ:St) (H:Hp) (v:V) (u:Value) (Q:St->Hp->Prop),B4 X pins σ H s->C8 v u->t v σ H Q ->
  wpAny (model X.prog X.w) X.A (assign target X.env u) (fun _ s'=>∃ σ' H',B4 X pins σ' H' s'/\Q σ' H') X.xe s
def PGs (X:Cx) (ts:List Expr) (t:TGs):Prop :=
 ∀ (pins:List (Addr × Obj)) (s:Shared) (σ:St) (H:Hp) (vs:List V) (us:List Value) (Q:St->Hp->Prop),B4 X pins σ H s->C4 vs us->t vs σ H Q ->
  wpAny (model X.prog X.w) X.A (assignInOrder ((assignEach ts X.env).map (·.2)) us) (fun _ s'=>∃ σ' H',B4 X pins σ' H' s'/\Q σ' H') X.xe s
section
variable {X:Cx} {pos:Pos}
def K9 (i:Nat):TG:=fun v σ H Q=>Q (σ.set i (some v)) H
theorem C4p {i:Nat} {x:Str} (hN:X.N.Nodup) (hi:X.N[i]?=some x) (hx:Loc X.env.scope x) (hf:X.fn x=true\/X.env.scope.names.lookup x=some .local:=by first|exact .inl rfl|exact .inr rfl|assumption):PG X (.Name x pos) (K9 i):=by
 intro pins s σ H v u Q I r h;exact wpAny_assign_Name (A53 I hN hi hx r (fun s' I'=>⟨_,H,I',h⟩) hf)
def C1n:TGs:=fun vs σ H Q=>vs=[]/\Q σ H
def A4w (t:TG) (u:TGs):TGs:=fun vs σ H Q=>∃ v r,vs=v::r/\t v σ H fun σ' H'=>u r σ' H' Q
theorem C4s:PGs X [] C1n:=by
 intro pins s σ H vs us Q I r h;obtain ⟨e,h⟩:=h;subst e;cases r;exact assignInOrder_nil ⟨σ,H,I,h⟩
theorem B8k {e:Expr} {es:List Expr} {t:TG} {u:TGs} (h1:PG X e t) (h2:PGs X es u)
  (hs:(assignEach (e::es) X.env).map (·.2)=assign e X.env::(assignEach es X.env).map (·.2):=by rfl):PGs X (e::es) (A4w t u):=by
 intro pins s σ H vs us Q I r h;obtain ⟨v,vr,e1,h⟩:=h;subst e1;cases r with
 | cons r rr =>
  rw [hs];refine assignInOrder_cons (D6 (h1 pins s σ H _ _ _ I r h) fun _ s1 ⟨σ1,H1,I1,q1⟩=>?_);exact h2 pins s1 σ1 H1 _ _ Q I1 rr q1
def B8x (K:W.Frag) (n:Nat) (t:TGs):TG:=fun v σ H Q=>∃ a xs,v=.ref a/\R4 K H a xs/\xs.length=n/\t xs σ H Q
theorem D04 {es:List Expr} {k:Nat} {t:TGs} {n:Nat} (hc:X.calm=true) (h:PGs X es t)
  (hn:(assignEach es X.env).length=n:=by rfl) (hst:(assignEach es X.env).findIdx? (·.1)=none:=by rfl):PG X (.Tuple es k pos) (B8x X.K n t):=by
 intro pins s σ H v u Q I r hw;obtain ⟨a,xs,e1,hq,hl,hw⟩:=hw;subst e1;cases r;obtain ⟨its,rv,ht,hz⟩:=I.tuple hq;refine assign_Tuple_tuple (I.ok.hd hc) ht (by simp [hn,<-hl,rv.length]) hst fun h' hx=>?_;have I1:B4 X pins σ H { s with heap:=h' }:=I.kept (t':=s.toks) fun b o e=>hx b o (Nat.ne_of_lt (Heap.lt_size e)) e;exact h pins _ σ H xs _ Q I1 (by simpa using rv) hw
def A9h (te:TE) (g:TG):TS:=fun D σ H=>te σ H fun x H1=>g x σ H1 D.nx
theorem C9q {tg e:Expr} {te:TE} {g:TG} (he:PE X e te) (hg:PG X tg g) (hs:swapsWithSole [tg] e pos.line X.env=pure false:=by rfl) (hw:swappedStores [tg] e X.env=pure none:=by rfl)
  (h1:(assignEach [tg] X.env).map (·.2)=[assign tg X.env]:=by rfl):PS X (.Assign [tg] e pos) (A9h te g):=by
 intro pins s σ H D I h;refine wpAny_Assign_stores (D6 (he pins s σ H _ I h) fun v s1 ⟨x,H1,I1,r1,q1⟩=>?_) hs hw;rw [h1];exact D6 (hg pins s1 σ H1 x v _ I1 r1 q1) fun _ s2 q=>q
theorem D1y {i:Nat} {x:Str} {e:Expr} {te:TE} {pos':Pos} (hN:X.N.Nodup) (hi:X.N[i]?=some x) (hx:Loc X.env.scope x) (he:PE X e te) (hs:swapsWith e (some (.Name x pos')) pos.line X.env=pure false:=by rfl) (hf:X.fn x=true\/X.env.scope.names.lookup x=some .local:=by first|exact .inl rfl|exact .inr rfl|assumption) :
  PS X (.Assign [.Name x pos'] e pos) (A9h te (K9 i)):=by
 intro pins s σ H D I h;refine wpAny_Assign_Name (D6 (he pins s σ H _ I h) fun v s1 ⟨y,H1,I1,r1,q1⟩=>?_) hs;exact A53 I1 hN hi hx r1 (fun s2 I2=>⟨_,H1,I2,q1⟩) hf
def B98 (c:TT) (tb:TS):TS:=fun D σ H=>∃ W:Nat->St->Hp->Prop,(∃ m,W m σ H)/\∀ m σ H,W m σ H ->
 c σ H fun b H1=>if b=true then ∃ N:St->Hp->Prop,(∀ σ' H',N σ' H'->∃ m',m' < m/\W m' σ' H')/\tb { D with nx:=N,ct:=N,bk:=D.nx } σ H1 else D.nx σ H1
theorem B8m {c:Expr} {body:List Stmt} {tc:TT} {tb:TS} (hp:PassesOwn (model X.prog X.w) X.A X.env X.xe) (hc:PT X c tc) (hb:PSs X body tb):PS X (.While c body [] pos) (B98 tc tb):=by
 intro pins s σ H D I h;obtain ⟨W,⟨m0,w0⟩,turn⟩:=h;refine wpAny_While (codeAny_whileLoop (fun n s'=>∃ σ' H',B4 X pins σ' H' s'/\W n σ' H') ?_ m0 ⟨σ,H,I,w0⟩);rintro n s1 ⟨σ1,H1,I1,w1⟩;refine wpAny_passesOwn hp (D6 (hc pins s1 σ1 H1 _ I1 (turn n σ1 H1 w1)) fun b s2 ⟨H2,I2,q2⟩=>?_);cases b with
 | true =>
  obtain ⟨N,hN,q2⟩:=q2;rw [if_pos rfl];refine wpAny_passesOwn hp (D6 (hb pins s2 σ1 H2 _ I2 q2) fun f s3 q3=>?_);cases f with
  | next =>
   obtain ⟨σ3,H3,I3,n3⟩:=q3;obtain ⟨m',hm,w3⟩:=hN σ3 H3 n3;exact ⟨m',hm,σ3,H3,I3,w3⟩
  | cont =>
   obtain ⟨σ3,H3,I3,n3⟩:=q3;obtain ⟨m',hm,w3⟩:=hN σ3 H3 n3;exact ⟨m',hm,σ3,H3,I3,w3⟩
  | brk=>exact q3
  | ret v=>exact q3
 | false =>
  rw [if_neg Bool.false_ne_true];exact wpAny_execs_nil ⟨σ1,H2,I2,q2⟩
end
structure It where
 go:Nat->Hp->Prop
 yld:Nat->Hp->V->Hp->Prop
 stop:Nat->Hp->Prop
def U0 (X:Cx) (pins:List (Addr × Obj)) (H:Hp) (b:Addr):Prop :=
 H b=none/\b≠X.env.locals/\b∉X.fs/\(b∈X.ex\/X.s₀.heap.objs.size<=b)/\(∀ x c,X.env.cells.lookup x=some c->c≠b)/\∀ p∈X.pn++pins,p.1≠b
theorem B4.fpOk {X:Cx} {pins:List (Addr × Obj)} {σ:St} {H H':Hp} {s:Shared} {b:Addr} (I:B4 X pins σ H s) (hb:s.heap.objs.size<=b) (hn:H' b=none):U0 X pins H' b:=by
 refine ⟨hn,Nat.ne_of_gt (Nat.lt_of_lt_of_le I.lt hb),I.nofs hb,.inr (Nat.le_trans I.sz hb),fun x c e z=>?_,fun p hp z=>?_⟩
 ·obtain ⟨v,q⟩:=I.cell x c e;exact absurd (Nat.lt_of_lt_of_le q.lt (by rw [z];exact hb)) (Nat.lt_irrefl _)
 ·exact absurd (Nat.lt_of_lt_of_le (Heap.lt_size (I.pin p hp).1) (by rw [z];exact hb)) (Nat.lt_irrefl _)
structure A7r (P:Program) (w:World) (K:W.Frag) (tg:Expr) (J:It) (fp:List Addr) (it:Addr) (tn:Nat->Heap->Prop):Prop where
 mem:it∈fp
 obj:∀ i h,tn i h->∀ b∈fp,∃ o,h.get? b=some o/\∀ v,o.data≠.cell v
 keep:∀ i h h',tn i h->(∀ b∈fp,∀ o,h.get? b=some o->h'.get? b=some o)->tn i h'
 item:∀ (X:Cx),X.prog=P->X.w=w->X.K=K->X.calm=true->∀ (i:Nat) (pins:List (Addr × Obj)) (s:Shared) (σ:St) (H:Hp) (E:Value->Shared->Prop),B4 X pins σ H s->(∀ b∈fp,U0 X pins H b)->tn i s.heap->J.go i H ->
  wpAny (model P w) X.A (pyNext (.ref it)) (fun r s1=>∃ u,r=some u /\
   wpAny (model P w) X.A (letOwnedTupleGo tg (.ref it) u) (fun _ s2=>∃ x H',B4 X pins σ H' s2/\C8 x u/\J.yld i H x H'/\tn (i+1) s2.heap/\∀ b∈fp,H' b=none) E s1) E s
 done:∀ (X:Cx),X.prog=P->X.w=w->X.K=K->X.calm=true->∀ (i:Nat) (pins:List (Addr × Obj)) (s:Shared) (σ:St) (H:Hp) (E:Value->Shared->Prop),B4 X pins σ H s->(∀ b∈fp,U0 X pins H b)->tn i s.heap->J.stop i H ->
  wpAny (model P w) X.A (pyNext (.ref it)) (fun r s1=>r=none/\B4 X pins σ H s1) E s
 self:∀ (A:Around) (i:Nat) (s:Shared) (Q:Value->Shared->Prop) (E:Value->Shared->Prop),tn i s.heap->Q (.ref it) s->wpAny (model P w) A (pyIter (.ref it)) Q E s
abbrev TI:=St->Hp->(It->Hp->Prop)->Prop
def PIE (X:Cx) (pins:List (Addr × Obj)) (σ:St) (tg:Expr) (R:It->Hp->Prop) (itv:Value) (s2:Shared):Prop :=
 ∃ (it:Addr) (fp:List Addr) (tn:Nat->Heap->Prop) (J:It) (H':Hp),itv=.ref it/\B4 X pins σ H' s2/\A7r X.prog X.w X.K tg J fp it tn/\tn 0 s2.heap/\(∀ b∈fp,U0 X pins H' b)/\R J H'
def PI (X:Cx) (tg iter:Expr) (wi:TI):Prop :=
 ∀ (pins:List (Addr × Obj)) (s:Shared) (σ:St) (H:Hp) (R:It->Hp->Prop),B4 X pins σ H s->wi σ H R ->
  wpAny (model X.prog X.w) X.A (eval iter X.env) (fun v s1=>wpAny (model X.prog X.w) X.A (pyIter v) (PIE X pins σ tg R) X.xe s1) X.xe s
theorem A9j {M:Model} {A:Around} {E:Value->Shared->Prop} {s:Shared} {tg:Expr} {it:Addr} {u:Value} {o:Obj} {n:String} {vs:Array Value} {Q:Unit->Shared->Prop} (ho:s.heap.get? it=some o) (hc:o.cls=.type n) (hd:o.data=.fields vs)
  (hn:["enumerate","zip","dict_itemiterator","dict_reverseitemiterator","odict_iterator","itertools.zip_longest","itertools.pairwise"].contains n=false) (hQ:Q () s):wpAny M A (letOwnedTupleGo tg (.ref it) u) Q E s:=by
 unfold letOwnedTupleGo;cases tg<;>first
  | exact wpAny_pure hQ
  | (cases u<;>first
    | exact wpAny_pure hQ
    | (refine wpAny_bind (wpAny_load ho ?_)
       rw [hc,hd];show wpAny M A (if (["enumerate","zip","dict_itemiterator","dict_reverseitemiterator","odict_iterator","itertools.zip_longest","itertools.pairwise"].contains n&&vs[0]?==some (rawInt _))=true then _ else _) Q E s;rw [if_neg (by intro h;rw [hn,Bool.false_and] at h;cases h)];exact wpAny_pure hQ))
def Itl (K:W.Frag) (a:Addr):It :=
 ⟨fun i H=>∃ xs x,L4 K H a xs/\xs[i]?=some x,fun i H x H'=>H'=H/\∀ xs,L4 K H a xs->xs[i]?=some x,fun i H=>∃ xs,L4 K H a xs/\xs.length<=i⟩
def Itt (K:W.Frag) (a:Addr):It :=
 ⟨fun i H=>∃ xs x,R4 K H a xs/\xs[i]?=some x,fun i H x H'=>H'=H/\∀ xs,R4 K H a xs->xs[i]?=some x,fun i H=>∃ xs,R4 K H a xs/\xs.length<=i⟩
def Itr (lo:Int) (n:Nat):It:=⟨fun i _=>i < n,fun i H x H'=>H'=H/\x=.int (lo+i),fun i _=>n<=i⟩
theorem B5z {P:Program} {w:World} {K:W.Frag} {tg:Expr} (a it:Addr):A7r P w K tg (Itl K a) [it] it (fun i h=>h.IsListIter it a i) where
 mem:=by simp
 obj:=fun i h st b hb=>by
  have e:b=it:=by simpa using hb
  subst e;obtain ⟨o,e,c,d⟩:=st;exact ⟨o,e,fun v z=>by rw [d] at z;cases z⟩
 keep:=fun i h h' st k=>st.at fun o e=>k it (by simp) o e
 item:=by
  intro X hP hw hK hc i pins s σ H E I hf st hg;subst hP hw hK;obtain ⟨xs,x,hq,hx⟩:=hg;obtain ⟨its,rv,p,hz⟩:=I.list hq;obtain ⟨u,hu,ru⟩:=rv.get hx;obtain ⟨f0,f1,f2,f3,f4,f5⟩:=hf it (by simp);refine wpAny_pyNext_list_item st p.isList (x:=u) (by simpa using hu) fun h' st' sb=>?_;have I1:B4 X pins σ H { s with heap:=h' }:=I.turned (t':=s.toks) (fun b o hb e=>(sb.2 b hb).trans e) f0 f1 f3 f4 f5;obtain ⟨o,e,c,d⟩:=id st';exact ⟨u,rfl,A9j (s:={ s with heap:=h' }) e c d (by decide) ⟨x,H,I1,ru,⟨rfl,fun ys hy=>by rw [I.list_inj hy hq];exact hx⟩,st',fun b hb=>(hf b hb).1⟩⟩
 done:=by
  intro X hP hw hK hc i pins s σ H E I hf st hg;subst hP hw hK;obtain ⟨xs,hq,hx⟩:=hg;obtain ⟨its,rv,p,hz⟩:=I.list hq;obtain ⟨f0,f1,f2,f3,f4,f5⟩:=hf it (by simp);have hl:=rv.length;exact wpAny_pyNext_list_end (I.ok.hd hc) st p.isList (by simp;omega) fun h' eb=>⟨rfl,I.turned (t':=s.toks) (fun b o hb e=>eb b o hb e) f0 f1 f3 f4 f5⟩
 self:=fun _ _ _ _ _ st h=>wpAny_pyIter_listiter st h
theorem B28 {P:Program} {w:World} {K:W.Frag} {tg:Expr} (a it:Addr):A7r P w K tg (Itt K a) [it] it (fun i h=>h.IsTupleIter it a i) where
 mem:=by simp
 obj:=fun i h st b hb=>by
  have e:b=it:=by simpa using hb
  subst e;obtain ⟨o,e,c,d⟩:=st;exact ⟨o,e,fun v z=>by rw [d] at z;cases z⟩
 keep:=fun i h h' st k=>st.at fun o e=>k it (by simp) o e
 item:=by
  intro X hP hw hK hc i pins s σ H E I hf st hg;subst hP hw hK;obtain ⟨xs,x,hq,hx⟩:=hg;obtain ⟨its,rv,p,hz⟩:=I.tuple hq;obtain ⟨u,hu,ru⟩:=rv.get hx;obtain ⟨f0,f1,f2,f3,f4,f5⟩:=hf it (by simp);refine wpAny_pyNext_tuple_item st (show s.heap.IsTuple a its.toArray from p) (x:=u) (by simpa using hu) fun h' st' sb=>?_;have I1:B4 X pins σ H { s with heap:=h' }:=I.turned (t':=s.toks) (fun b o hb e=>(sb.2 b hb).trans e) f0 f1 f3 f4 f5;obtain ⟨o,e,c,d⟩:=id st';exact ⟨u,rfl,A9j (s:={ s with heap:=h' }) e c d (by decide) ⟨x,H,I1,ru,⟨rfl,fun ys hy=>by rw [I.tuple_inj hy hq];exact hx⟩,st',fun b hb=>(hf b hb).1⟩⟩
 done:=by
  intro X hP hw hK hc i pins s σ H E I hf st hg;subst hP hw hK;obtain ⟨xs,hq,hx⟩:=hg;obtain ⟨its,rv,p,hz⟩:=I.tuple hq;obtain ⟨f0,f1,f2,f3,f4,f5⟩:=hf it (by simp);have hl:=rv.length;exact wpAny_pyNext_tuple_end (I.ok.hd hc) st (show s.heap.IsTuple a its.toArray from p) (by simp;omega) fun h' eb=>⟨rfl,I.turned (t':=s.toks) (fun b o hb e=>eb b o hb e) f0 f1 f3 f4 f5⟩
 self:=fun _ _ _ _ _ st h=>wpAny_pyIter_tupleiter st h
theorem B23 {P:Program} {w:World} {K:W.Frag} {tg:Expr} (it:Addr) (lo:Int) (n:Nat):A7r P w K tg (Itr lo n) [it] it (fun i h=>IsRangeIter h it (lo+(i:Nat)*1) ((n:Int) - (i:Nat)) 1) where
 mem:=by simp
 obj:=fun i h st b hb=>by
  have e:b=it:=by simpa using hb
  subst e;exact ⟨_,st,fun v z=>by
   have z':Data.fields _=Data.cell v:=z;cases z'⟩
 keep:=fun i h h' st k=>k it (by simp) _ st
 item:=by
  intro X hP hw hK hc i pins s σ H E I hf st hg;subst hP hw hK;obtain ⟨f0,f1,f2,f3,f4,f5⟩:=hf it (by simp);have W:=Walks.range (prog:=X.prog) (w:=X.w) (I.ok.hd hc) it lo 1 n;refine W.item i s _ _ hg st fun v h' tk hv st' kk=>?_;obtain ⟨t,rfl⟩:=hv;have I1:B4 X pins σ H { s with heap:=h',toks:=tk }:=I.turned (fun b o hb e=>kk b o (by simpa using hb) e) f0 f1 f3 f4 f5;refine ⟨_,rfl,A9j (s:={ s with heap:=h',toks:=tk }) (n:="range_iterator") st' rfl rfl (by decide) ⟨.int (lo+i),H,I1,⟨t,?_⟩,⟨rfl,rfl⟩,st',fun b hb=>(hf b hb).1⟩⟩;rw [Int.mul_one]
 done:=by
  intro X hP hw hK hc i pins s σ H E I hf st hg;subst hP hw hK;obtain ⟨f0,f1,f2,f3,f4,f5⟩:=hf it (by simp);exact wpAny_pyNext_range_end (I.ok.hd hc) st (by have:n<=i:=hg;omega) fun h' eb=>⟨rfl,I.turned (t':=s.toks) (fun b o hb e=>eb b o hb e) f0 f1 f3 f4 f5⟩
 self:=fun _ _ _ _ _ st h=>wpAny_pyIter_rangeiter st h
section
variable {X:Cx} {tg:Expr}
def B4v (K:W.Frag) (tl:TE):TI:=fun σ H R=>tl σ H fun x H1=>∃ a,x=.ref a/\(∃ xs,L4 K H1 a xs)/\R (Itl K a) H1
def D3e (K:W.Frag) (tl:TE):TI:=fun σ H R=>tl σ H fun x H1=>∃ a,x=.ref a/\(∃ xs,R4 K H1 a xs)/\R (Itt K a) H1
theorem C50 {l:Expr} {tl:TE} (hl:PE X l tl):PI X tg l (B4v X.K tl):=by
 intro pins s σ H R I h;refine D6 (hl pins s σ H _ I h) fun v s1 ⟨x,H1,I1,r1,q1⟩=>?_;obtain ⟨a,e,⟨xs,hq⟩,q⟩:=q1;subst e;cases r1;obtain ⟨its,rv,p,hz⟩:=I1.list hq;refine wpAny_pyIter_list p.isList ?_;refine ⟨s1.heap.objs.size,[s1.heap.objs.size],_,_,H1,rfl,I1.kept (t':=s1.toks) fun b o e=>Heap.get?_push_of_some _ e,B5z a _,⟨_,Heap.get?_push_size _ rfl,rfl,rfl⟩,fun b hb=>?_,q⟩;have e:b=s1.heap.objs.size:=by simpa using hb
 subst e;exact I1.fpOk (Nat.le_refl _) (I1.hok.fresh (Nat.le_refl _))
theorem C9j {l:Expr} {tl:TE} (hl:PE X l tl):PI X tg l (D3e X.K tl):=by
 intro pins s σ H R I h;refine D6 (hl pins s σ H _ I h) fun v s1 ⟨x,H1,I1,r1,q1⟩=>?_;obtain ⟨a,e,⟨xs,hq⟩,q⟩:=q1;subst e;cases r1;obtain ⟨its,rv,p,hz⟩:=I1.tuple hq;refine wpAny_pyIter_tuple (show s1.heap.IsTuple a its.toArray from p) ?_;refine ⟨s1.heap.objs.size,[s1.heap.objs.size],_,_,H1,rfl,I1.kept (t':=s1.toks) fun b o e=>Heap.get?_push_of_some _ e,B28 a _,⟨_,Heap.get?_push_size _ rfl,rfl,rfl⟩,fun b hb=>?_,q⟩;have e:b=s1.heap.objs.size:=by simpa using hb
 subst e;exact I1.fpOk (Nat.le_refl _) (I1.hok.fresh (Nat.le_refl _))
theorem C20 {pins:List (Addr × Obj)} {σ:St} {H:Hp} {s:Shared} {R:It->Hp->Prop} {E:Value->Shared->Prop} {lo hi:Int} {t u v:Tok} {tk:Nat} (I:B4 X pins σ H s) (h1:-(2 ^ 62)<=lo) (h2:lo < 2 ^ 62) (h3:-(2 ^ 62)<=hi) (h4:hi < 2 ^ 62)
  (q:R (Itr lo (hi - lo).toNat) H):wpAny (model X.prog X.w) X.A (pyIter (.ref s.heap.objs.size)) (PIE X pins σ tg R) E { s with heap:=s.heap.push { cls:=.type "range",data:=.fields #[.int lo t,.int hi u,.int 1 v] },toks:=tk }:=by
 refine wpAny_pyIter_range (IsRange.new ..) (small_one h1 h2 h3 h4) ?_;have I1:B4 X pins σ H { s with heap:=s.heap.push { cls:=.type "range",data:=.fields #[.int lo t,.int hi u,.int 1 v] },toks:=tk }:=I.kept fun b o e=>Heap.get?_push_of_some _ e;refine ⟨(s.heap.push { cls:=.type "range",data:=.fields #[.int lo t,.int hi u,.int 1 v] }).objs.size,[(s.heap.push { cls:=.type "range",data:=.fields #[.int lo t,.int hi u,.int 1 v] }).objs.size],_,_,H,rfl,
  I1.kept (t':=tk) fun b o e=>Heap.get?_push_of_some _ e,B23 _ lo (hi - lo).toNat,?_,fun b hb=>?_,q⟩
 ·have e1:lo+((0:Nat):Int)*1=lo:=by simp
  have e2:(((hi - lo).toNat:Nat):Int) - ((0:Nat):Int)=Builtin.Range.rangeSize lo hi 1:=by rw [rangeSize_one];split<;>omega
  show IsRangeIter _ _ (lo+((0:Nat):Int)*1) ((((hi - lo).toNat:Nat):Int) - ((0:Nat):Int)) 1;rw [e1,e2];exact Heap.get?_push_size _ rfl
 ·have e:b=(s.heap.push { cls:=.type "range",data:=.fields #[.int lo t,.int hi u,.int 1 v] }).objs.size:=by simpa using hb
  subst e;exact I1.fpOk (Nat.le_refl _) (I1.hok.fresh (Nat.le_refl _))
def C87 (ta:TA):TI:=fun σ H R=>ta σ H fun vs H1=>∃ j:Int,vs=[.int j]/\-(2 ^ 62)<=j/\j < 2 ^ 62/\R (Itr 0 j.toNat) H1
theorem B6i {a:Expr} {ta:TA} {p pos:Pos} (hg:Gl X "range") (hm:X.mg "range"=none) (ha:PA X [a] ta) (hs:starEach [a] X.env=[(false,eval a X.env)]:=by rfl):PI X tg (.Call (.Name "range" p) [a] [] pos) (C87 ta):=by
 intro pins s σ H R I h;refine Call_ (A2u I hg hm boot_range (PyProof.Rows.callWith_type1 (D6 (ha pos pins s σ H _ I h) fun us s1 ⟨vs,H1,I1,r1,q1⟩=>?_) hs rfl));obtain ⟨j,e,q1,q2,q⟩:=q1;subst e;cases r1 with
 | cons r rr =>
  cases rr;obtain ⟨t,rfl⟩:=r;exact call_range_1 (C20 I1 (by omega) (by omega) q1 q2 (by simpa using q))
def B1a (wi:TI) (g:TG) (tb:TS):TS:=fun D σ H=>wi σ H fun J H1=>∃ W:Nat->Nat->St->Hp->Prop,(∃ m,W 0 m σ H1)/\∀ i m σ H,W i m σ H ->
 (J.stop i H/\D.nx σ H)\/(J.go i H/\∃ N:St->Hp->Prop,(∀ σ' H',N σ' H'->∃ m',m' < m/\W (i+1) m' σ' H')/\∀ x H',J.yld i H x H'->g x σ H' fun σ2 H2=>tb { D with nx:=N,ct:=N,bk:=D.nx } σ2 H2)
def A3y (fp:List Addr) (h:Heap):List (Addr × Obj):=fp.filterMap fun b=>(h.get? b).map fun o=>(b,o)
theorem L8 {fp:List Addr} {h:Heap} {b:Addr} {o:Obj} (hb:b∈fp) (e:h.get? b=some o):(b,o)∈A3y fp h:=List.mem_filterMap.mpr ⟨b,hb,by rw [e];rfl⟩
theorem B70 {fp:List Addr} {h:Heap} {p:Addr × Obj} (hp:p∈A3y fp h):p.1∈fp/\h.get? p.1=some p.2:=by
 obtain ⟨b,hb,e⟩:=List.mem_filterMap.mp hp;cases q:h.get? b with
 | none=>rw [q] at e;cases e
 | some o =>
  rw [q] at e;have e':(b,o)=p:=Option.some.inj e;subst e';exact ⟨hb,q⟩
theorem B4.pinned {pins:List (Addr × Obj)} {σ:St} {H:Hp} {s:Shared} {fp:List Addr} (I:B4 X pins σ H s) (hf:∀ b∈fp,U0 X pins H b) (ho:∀ b∈fp,∃ o,s.heap.get? b=some o/\∀ v,o.data≠.cell v):B4 X (pins++A3y fp s.heap) σ H s :=
 I.pins_of fun p hp=>(mem_append.mp hp).elim (fun z=>I.pin p (mem_append_right _ z)) fun z=>by
  obtain ⟨hb,e⟩:=B70 z;obtain ⟨f0,f1,f2,_⟩:=hf p.1 hb;obtain ⟨o,e',d⟩:=ho p.1 hb;rw [e] at e';cases e';exact ⟨e,f0,f1,f2,d⟩
theorem B4.unpinned {pins pl:List (Addr × Obj)} {σ:St} {H:Hp} {s:Shared} (I:B4 X (pins++pl) σ H s):B4 X pins σ H s:=I.pins_of fun p hp=>I.pin p (mem_append_right _ (mem_append_left _ hp))
theorem D25 {iter:Expr} {body:List Stmt} {wi:TI} {g:TG} {tb:TS} {pos:Pos} (hp:PassesOwn (model X.prog X.w) X.A X.env X.xe) (hc:X.calm=true) (hi:PI X tg iter wi) (hg:PG X tg g) (hb:PSs X body tb)
  (hs:∀ x,foldedSetIterable iter X.env x=pure x:=by intro _;rfl):PS X (.For tg iter body [] pos) (B1a wi g tb):=by
 intro pins s σ H D I h;refine wpAny_For (D6 (hi pins s σ H _ I h) fun v s1 h1=>D6 h1 fun itv s2 h2=>?_) hs;obtain ⟨it,fp,tn,J,H2,e,I2,T,st2,f2,W,⟨m0,w0⟩,turn⟩:=h2;subst e;have stat:∀ {H':Hp},(∀ b∈fp,H' b=none)->∀ b∈fp,U0 X pins H' b:=fun hn b hb=>⟨hn b hb,(f2 b hb).2⟩;refine codeAny_forLoop_any (fun n s'=>∃ i σ' H',B4 X pins σ' H' s'/\tn i s'.heap/\(∀ b∈fp,H' b=none)/\W i n σ' H') ?_ m0 ⟨0,σ,H2,I2,st2,fun b hb=>(f2 b hb).1,w0⟩;rintro n s3 ⟨i,σ3,H3,I3,st3,fr3,w3⟩;rcases turn i n σ3 H3 w3 with ⟨stop,qn⟩|⟨go,N,hN,step⟩
 ·refine wpAny_passesOwn hp (D6 (T.done X rfl rfl rfl hc i pins s3 σ3 H3 X.xe I3 (stat fr3) st3 stop) fun r s4 ⟨hr,I4⟩=>?_);subst hr;exact wpAny_execs_nil ⟨σ3,H3,I4,qn⟩
 ·refine wpAny_passesOwn hp (D6 (T.item X rfl rfl rfl hc i pins s3 σ3 H3 X.xe I3 (stat fr3) st3 go) fun r s4 ⟨u,hr,h4⟩=>?_);subst hr;refine wpAny_passesOwn hp (D6 h4 fun _ s5 ⟨x,H5,I5,r5,y5,st5,fr5⟩=>?_);have I5':=I5.pinned (stat fr5) (T.obj _ _ st5);refine wpAny_passesOwn hp (D6 (hg _ s5 σ3 H5 x u _ I5' r5 (step x H5 y5)) fun _ s6 ⟨σ6,H6,I6,q6⟩=>?_);refine wpAny_passesOwn hp (D6 (hb _ s6 σ6 H6 _ I6 q6) fun f s7 q7=>?_);have again:∀ {σ7:St} {H7:Hp},B4 X (pins++A3y fp s5.heap) σ7 H7 s7->N σ7 H7->∃ m,m < n/\∃ i σ' H',B4 X pins σ' H' s7/\tn i s7.heap/\(∀ b∈fp,H' b=none)/\W i m σ' H':=fun {σ7 H7} I7 n7=>by
   obtain ⟨m',hm,w7⟩:=hN σ7 H7 n7;refine ⟨m',hm,i+1,σ7,H7,I7.unpinned,T.keep _ _ _ st5 fun b hb o e=>(I7.pin (b,o) (mem_append_right _ (mem_append_right _ (L8 hb e)))).1,fun b hb=>?_,w7⟩;obtain ⟨o,e,d⟩:=T.obj _ _ st5 b hb;exact (I7.pin (b,o) (mem_append_right _ (mem_append_right _ (L8 hb e)))).2.1
  cases f with
  | next=>obtain ⟨σ7,H7,I7,n7⟩:=q7;exact again I7 n7
  | cont=>obtain ⟨σ7,H7,I7,n7⟩:=q7;exact again I7 n7
  | brk=>obtain ⟨σ7,H7,I7,q7⟩:=q7;exact ⟨σ7,H7,I7.unpinned,q7⟩
  | ret v=>obtain ⟨x7,σ7,H7,I7,r7,q7⟩:=q7;exact ⟨x7,σ7,H7,I7.unpinned,r7,q7⟩
end
theorem C10 {K:W.Frag} {a:Addr} {xs:List V} {g:TG} {tb:TS} {D:T1} {σ:St} {H:Hp} (Pv:Nat->St->Hp->Prop) (h0:Pv 0 σ H) (hl:∀ i σ H,i<=xs.length->Pv i σ H->L4 K H a xs)
  (hs:∀ i x σ H,xs[i]?=some x->Pv i σ H->g x σ H fun σ2 H2=>tb { D with nx:=Pv (i+1),ct:=Pv (i+1),bk:=D.nx } σ2 H2) (hd:∀ σ H,Pv xs.length σ H->D.nx σ H) :
  ∃ W:Nat->Nat->St->Hp->Prop,(∃ m,W 0 m σ H)/\∀ i m σ H,W i m σ H ->
   ((Itl K a).stop i H/\D.nx σ H)\/((Itl K a).go i H/\∃ N:St->Hp->Prop,(∀ σ' H',N σ' H'->∃ m',m' < m/\W (i+1) m' σ' H')/\∀ x H',(Itl K a).yld i H x H'->g x σ H' fun σ2 H2=>tb { D with nx:=N,ct:=N,bk:=D.nx } σ2 H2):=by
 refine ⟨fun i m σ H=>m=xs.length - i/\i<=xs.length/\Pv i σ H,⟨xs.length,by simp,Nat.zero_le _,h0⟩,?_⟩;rintro i m σ H ⟨rfl,hi,p⟩;have q:=hl i σ H hi p;by_cases hlt:i < xs.length
 ·refine .inr ⟨⟨xs,xs[i],q,by simp [hlt]⟩,Pv (i+1),fun σ' H' p'=>⟨xs.length - (i+1),by omega,rfl,hlt,p'⟩,fun x H' y=>?_⟩;obtain ⟨e,y⟩:=y;subst e;exact hs i x σ _ (y xs q) p
 ·have e:i=xs.length:=by omega
  subst e;exact .inl ⟨⟨xs,q,Nat.le_refl _⟩,hd σ H p⟩
abbrev R2:=V->V->Hp->VK->Prop
def T5 (X:Cx) (f:Value->Value->Sem Value) (r:R2):Prop :=
 ∀ (pins:List (Addr × Obj)) (s:Shared) (σ:St) (H:Hp) (x y:V) (v u:Value) (Q:VK),B4 X pins σ H s->C8 x v->C8 y u->r x y H Q ->
  wpAny (model X.prog X.w) X.A (f v u) (EP X pins σ Q) X.xe s
def UnR (X:Cx) (f:Value->Sem Value) (r:V->Hp->VK->Prop):Prop :=
 ∀ (pins:List (Addr × Obj)) (s:Shared) (σ:St) (H:Hp) (x:V) (v:Value) (Q:VK),B4 X pins σ H s->C8 x v->r x H Q ->
  wpAny (model X.prog X.w) X.A (f v) (EP X pins σ Q) X.xe s
def K2 (X:Cx) (f:Value) (r:List V->Hp->VK->Prop):Prop :=
 ∀ (pins:List (Addr × Obj)) (s:Shared) (σ:St) (H:Hp) (xs:List V) (us:List Value) (Q:VK),B4 X pins σ H s->C4 xs us->r xs H Q ->
  wpAny (model X.prog X.w) X.A (call f us) (EP X pins σ Q) X.xe s
def D8y (X:Cx) (r:V->Hp->(Bool->Hp->Prop)->Prop):Prop :=
 ∀ (pins:List (Addr × Obj)) (s:Shared) (σ:St) (H:Hp) (x:V) (v:Value) (Q:Bool->Hp->Prop),B4 X pins σ H s->C8 x v->r x H Q ->
  wpAny (model X.prog X.w) X.A (truthy v) (TP X pins σ Q) X.xe s
def tOp (r:R2) (ta tb:TE):TE:=fun σ H Q=>ta σ H fun x H1=>tb σ H1 fun y H2=>r x y H2 Q
def tUn (r:V->Hp->VK->Prop) (ta:TE):TE:=fun σ H Q=>ta σ H fun x H1=>r x H1 Q
def rI (C:Int->Int->Prop) (g:Int->Int->V):R2:=fun x y H Q=>∃ i j,x=.int i/\y=.int j/\C i j/\Q (g i j) H
def rI0 (g:Int->Int->V):R2:=fun x y H Q=>∃ i j,x=.int i/\y=.int j/\Q (g i j) H
def rU (g:Int->V):V->Hp->VK->Prop:=fun x H Q=>∃ i,x=.int i/\Q (g i) H
section
variable {X:Cx} {a b c:Expr} {ta tb tc:TE} {pos:Pos}
theorem D35 (ha:PE X a ta) (hb:PE X b tb) {pins:List (Addr × Obj)} {s:Shared} {σ:St} {H:Hp} {R:V->V->Hp->Prop} (I:B4 X pins σ H s)
  (h:ta σ H fun x H1=>tb σ H1 fun y H2=>R x y H2) {Q:Value->Shared->Prop} {f:Value->Value->Sem Value}
  (hf:∀ v u s2 x y H2,B4 X pins σ H2 s2->C8 x v->C8 y u->R x y H2->wpAny (model X.prog X.w) X.A (f v u) Q X.xe s2) :
  wpAny (model X.prog X.w) X.A (eval a X.env) (fun v s₁=>wpAny (model X.prog X.w) X.A (eval b X.env) (fun u s₂=>wpAny (model X.prog X.w) X.A (f v u) Q X.xe s₂) X.xe s₁) X.xe s:=by
 refine D6 (ha pins s σ H _ I h) fun v s1 ⟨x,H1,I1,r1,q1⟩=>?_;refine D6 (hb pins s1 σ H1 _ I1 q1) fun u s2 ⟨y,H2,I2,r2,q2⟩=>?_;exact hf v u s2 x y H2 I2 r1 r2 q2
theorem D4l {op:Operator} {r:R2} (ho:T5 X (binaryOp op) r) (ha:PE X a ta) (hb:PE X b tb):PE X (.BinOp a op b pos) (tOp r ta tb):=by
 intro pins s σ H Q I h;exact wpAny_BinOp (D35 ha hb I h fun v u s2 x y H2 I2 rx ry q=>ho pins s2 σ H2 x y v u Q I2 rx ry q)
theorem D67 {op:UnaryOp} {r:V->Hp->VK->Prop} (ho:UnR X (unaryOp op) r) (ha:PE X a ta):PE X (.UnaryOp op a pos) (tUn r ta):=by
 intro pins s σ H Q I h;exact UnaryOp_ (D6 (ha pins s σ H _ I h) fun v s1 ⟨x,H1,I1,r1,q1⟩=>ho pins s1 σ H1 x v Q I1 r1 q1)
theorem opI {f:Value->Value->Sem Value} {C:Int->Int->Prop} {g:Int->Int->Int}
  (rule:∀ (i j:Int) (t u:Tok) (s:Shared) (Q:Value->Shared->Prop) (E:Value->Shared->Prop),C i j->Q (.int (g i j) s.toks) { s with toks:=s.toks+1 }->wpAny (model X.prog X.w) X.A (f (.int i t) (.int j u)) Q E s) :
  T5 X f (rI C fun i j=>.int (g i j)):=by
 intro pins s σ H x y v u Q I rx ry h;obtain ⟨i,j,rfl,rfl,hc,q⟩:=h;obtain ⟨t,rfl⟩:=rx;obtain ⟨t',rfl⟩:=ry;exact rule i j t t' s _ _ hc ⟨.int (g i j),H,I.tok _,⟨_,rfl⟩,q⟩
theorem D7c {f:Value->Value->Sem Value} {g:Int->Int->Int}
  (rule:∀ (i j:Int) (t u:Tok) (s:Shared) (Q:Value->Shared->Prop) (E:Value->Shared->Prop),Q (.int (g i j) s.toks) { s with toks:=s.toks+1 }->wpAny (model X.prog X.w) X.A (f (.int i t) (.int j u)) Q E s) :
  T5 X f (rI0 fun i j=>.int (g i j)):=by
 intro pins s σ H x y v u Q I rx ry h;obtain ⟨i,j,rfl,rfl,q⟩:=h;obtain ⟨t,rfl⟩:=rx;obtain ⟨t',rfl⟩:=ry;exact rule i j t t' s _ _ ⟨.int (g i j),H,I.tok _,⟨_,rfl⟩,q⟩
theorem C4g {f:Value->Value->Sem Value} {g:Int->Int->Bool}
  (rule:∀ (i j:Int) (t u:Tok) (s:Shared) (Q:Value->Shared->Prop) (E:Value->Shared->Prop),Q (.bool (g i j)) s->wpAny (model X.prog X.w) X.A (f (.int i t) (.int j u)) Q E s) :
  T5 X f (rI0 fun i j=>.bl (g i j)):=by
 intro pins s σ H x y v u Q I rx ry h;obtain ⟨i,j,rfl,rfl,q⟩:=h;obtain ⟨t,rfl⟩:=rx;obtain ⟨t',rfl⟩:=ry;exact rule i j t t' s _ _ ⟨.bl (g i j),H,I,rfl,q⟩
def C9t (i j:Int):Prop:=0 < j/\j < 1073741824
def D06 (i j:Int):Prop:=0<=j/\j<=1000000/\i.natAbs < 2 ^ 64
def B0p (i j:Int):Prop:=(-(2 ^ 64) < i/\i < 2 ^ 64)\/(-(2 ^ 64) < j/\j < 2 ^ 64)
theorem B0p.ok {i j:Int} (h:B0p i j):IntMulOk i j:=by
 rcases h with ⟨h1,h2⟩|⟨h1,h2⟩
 ·exact .of_left (intBits_le_64 h1 h2)
 ·exact .of_right (intBits_le_64 h1 h2)
theorem D0j:T5 X (binaryOp .Add) (rI0 fun i j=>.int (i+j)):=D7c fun _ _ _ _ _ _ _ q=>add_int q
theorem D16:T5 X (binaryOp .Sub) (rI0 fun i j=>.int (i - j)):=D7c fun _ _ _ _ _ _ _ q=>sub_int q
theorem C4d:T5 X (binaryOp .FloorDiv) (rI C9t fun i j=>.int (i / j)):=opI fun i j _ _ _ _ _ hc q=>by
 have h1:(0:Int) < j:=hc.1;have h2:j < 1073741824:=hc.2;exact floordiv_int (by omega) (by rw [Int.fdiv_eq_ediv_of_nonneg i (by omega)];exact q) (.inl (PyProof.noPylong_small (by omega)))
theorem D2e:T5 X (binaryOp .Mod) (rI (fun _ j=>0 < j) fun i j=>.int (i % j)):=opI fun i j _ _ _ _ _ hc q=>by
 have h1:(0:Int) < j:=hc;exact mod_int' (by omega) (by rw [Int.fmod_eq_emod_of_nonneg i (by omega)];exact q)
theorem C9c:T5 X (binaryOp .Pow) (rI D06 fun i j=>.int (i ^ j.toNat)):=opI fun _ _ _ _ _ _ _ hc q=>pow_int_small hc.1 hc.2.1 hc.2.2 q
theorem unI {f:Value->Sem Value} {g:Int->Int}
  (rule:∀ (i:Int) (t:Tok) (s:Shared) (Q:Value->Shared->Prop) (E:Value->Shared->Prop),Q (.int (g i) s.toks) { s with toks:=s.toks+1 }->wpAny (model X.prog X.w) X.A (f (.int i t)) Q E s) :
  UnR X f (rU fun i=>.int (g i)):=by
 intro pins s σ H x v Q I rx h;obtain ⟨i,rfl,q⟩:=h;obtain ⟨t,rfl⟩:=rx;exact rule i t s _ _ ⟨.int (g i),H,I.tok _,⟨_,rfl⟩,q⟩
theorem D08:UnR X (unaryOp .USub) (rU fun i=>.int (-i)):=unI fun _ _ _ _ _ q=>neg_int q
theorem D02 {pins:List (Addr × Obj)} {σ:St} {H:Hp} {s:Shared} {Q:VK} {k k':Bool} (I:B4 X pins σ H s) (q:Q (.bl k) H) (e:k=k'):EP X pins σ Q (.bool k') s:=by
 subst e;exact ⟨.bl k,H,I,rfl,q⟩
theorem D7a:T5 X (compareOp .Lt) (rI0 fun i j=>.bl (decide (i < j))):=C4g fun _ _ _ _ _ _ _ q=>lt_int q
theorem B3n:T5 X (compareOp .LtE) (rI0 fun i j=>.bl (decide (i<=j))):=C4g fun _ _ _ _ _ _ _ q=>le_int q
theorem D5d:T5 X (compareOp .Gt) (rI0 fun i j=>.bl (decide (j < i))):=C4g fun _ _ _ _ _ _ _ q=>gt_int q
theorem D5s:T5 X (compareOp .GtE) (rI0 fun i j=>.bl (decide (j<=i))):=C4g fun _ _ _ _ _ _ _ q=>ge_int q
theorem B6h:T5 X (compareOp .In) (fun x y H Q=>∃ i j,x=.str i/\y=.str j/\Q (.bl (!(Builtin.Str.occurrences j i 0 j.length 1).isEmpty)) H):=by
 intro pins s σ H x y v u Q I rx ry h;obtain ⟨i,j,rfl,rfl,q⟩:=h;obtain ⟨t,rfl⟩:=rx;obtain ⟨t',rfl⟩:=ry;exact in_str (D02 I q rfl)
theorem T5.or {f:Value->Value->Sem Value} {r r':R2} (h:T5 X f r) (h':T5 X f r'):T5 X f (fun x y H Q=>r x y H Q\/r' x y H Q):=by
 intro pins s σ H x y v u Q I rx ry q;rcases q with q|q
 ·exact h pins s σ H x y v u Q I rx ry q
 ·exact h' pins s σ H x y v u Q I rx ry q
theorem J5 (b:Expr) {op:CmpOp} (h:op≠.In:=by decide) (h2:op≠.NotIn:=by decide):behindInMarks op b=false:=by
 have e1:(op==CmpOp.In)=false:=by cases op<;>first|rfl|exact absurd rfl h
 have e2:(op==CmpOp.NotIn)=false:=by cases op<;>first|rfl|exact absurd rfl h2
 cases b<;>simp [behindInMarks,e1,e2]
theorem C3k {op:CmpOp} {r:R2} (ho:T5 X (compareOp op) r) (ha:PE X a ta) (hb:PE X b tb) (hm:behindInMarks op b=false):PE X (.Compare a [op] [b] pos) (tOp r ta tb):=by
 intro pins s σ H Q I h;exact wpAny_Compare1 (D35 ha hb I h fun v u s2 x y H2 I2 rx ry q=>ho pins s2 σ H2 x y v u Q I2 rx ry q) hm
def B4r (t:TE):TT:=fun σ H Q=>t σ H fun x H'=>∃ k,x=.bl k/\Q k H'
theorem C6y {op:CmpOp} {r:R2} (ho:T5 X (compareOp op) r) (ha:PE X a ta) (hb:PE X b tb) (hm:behindInMarks op b=false):PT X (.Compare a [op] [b] pos) (B4r (tOp r ta tb)):=by
 intro pins s σ H Q I h;refine wpAny_isTrue_Compare1 (D6 (ha pins s σ H _ I h) fun v s1 ⟨x,H1,I1,r1,q1⟩=>D6 (hb pins s1 σ H1 _ I1 q1) fun u s2 ⟨y,H2,I2,r2,q2⟩ =>
  D6 (ho pins s2 σ H2 x y v u _ I2 r1 r2 q2) fun c s3 ⟨z,H3,I3,r3,k,e,q3⟩=>?_) hm
 subst e;cases r3;exact wpAny_truthy_bool ⟨H3,I3,q3⟩
def B3e (r r':R2) (ta tb tc:TE):TE:=fun σ H Q=>ta σ H fun x H1=>tb σ H1 fun y H2=>r x y H2 fun z H3=>∃ k,z=.bl k /\
 (if k=true then tc σ H3 fun w' H4=>r' y w' H4 Q else Q (.bl false) H3)
theorem B84 {op op':CmpOp} {r r':R2} (ho:T5 X (compareOp op) r) (ho':T5 X (compareOp op') r') (ha:PE X a ta) (hb:PE X b tb) (hc:PE X c tc)
  (hm:lastMarks [op,op'] [b,c]=false:=by with_unfolding_all rfl):PT X (.Compare a [op,op'] [b,c] pos) (B4r (B3e r r' ta tb tc)):=by
 intro pins s σ H Q I h;refine isTrue_chain (D6 (ha pins s σ H _ I h) fun v s1 ⟨x,H1,I1,r1,q1⟩=>test_link (D6 (hb pins s1 σ H1 _ I1 q1) fun u s2 ⟨y,H2,I2,r2,q2⟩ =>
  D6 (ho pins s2 σ H2 x y v u _ I2 r1 r2 q2) fun d s3 ⟨z,H3,I3,r3,k,e,q3⟩=>?_)) hm
 subst e;cases r3;refine wpAny_truthy_bool ?_;cases k with
 | false =>
  obtain ⟨k',e',q'⟩:=q3;cases e';exact ite_ff ⟨H3,I3,q'⟩
 | true =>
  refine ite_tt (test_last (D6 (hc pins s3 σ H3 _ I3 q3) fun w' s4 ⟨z',H4,I4,r4,q4⟩=>D6 (ho' pins s4 σ H4 y z' u w' _ I4 r2 r4 q4) fun d' s5 ⟨z2,H5,I5,r5,k2,e2,q5⟩=>?_));subst e2;cases r5;exact wpAny_truthy_bool ⟨H5,I5,q5⟩
def D50 (K:W.Frag) (x:V) (H:Hp) (k:Bool):Prop :=
 match x with
 | .non=>k=false
 | .bl b=>k=b
 | .int i=>k=(i != 0)
 | .str y=>y.length<=sizeLine/\k=((y.length:Int) != 0)
 | .byt y=>y.size<=sizeLine/\k=((y.size:Int) != 0)
 | .ref p=>(∃ xs,L4 K H p xs/\k=!xs.isEmpty)\/(∃ xs,R4 K H p xs/\k=!xs.isEmpty)\/∃ kvs,H p=some (.dK kvs)/\k=!kvs.isEmpty
 | _=>False
theorem B2r {κ:Type} {kvs:List (κ × V)} {vs:List (κ × Value)} (r:KV kvs vs):(!vs.isEmpty)=!kvs.isEmpty:=by
 cases r<;>rfl
theorem A4u {xs:List V} {its:List Value} (r:C4 xs its):(!its.toArray.isEmpty)=!xs.isEmpty:=by
 cases r<;>simp
theorem A2q:(sizeLine:Nat) < 2 ^ 63:=by rw [sizeLine_eq];decide
theorem D2z:D8y X (fun x H Q=>∃ k,D50 X.K x H k/\Q k H):=by
 intro pins s σ H x v Q I rx h;obtain ⟨k,e,q⟩:=h;have hl:=A2q;have hs:sizeLine=16777216:=sizeLine_eq;cases x with
 | non =>
  cases rx;have e':k=false:=e;subst e';exact truthy_none ⟨H,I,q⟩
 | bl b =>
  cases rx;have e':k=b:=e;subst e';exact wpAny_truthy_bool ⟨H,I,q⟩
 | int i =>
  obtain ⟨t,rfl⟩:=rx;have e':k=(i != 0):=e;subst e';exact PySem.P.truthy_int ⟨H,I,q⟩
 | str y =>
  obtain ⟨t,rfl⟩:=rx;obtain ⟨hy,e'⟩:y.length<=sizeLine/\k=((y.length:Int) != 0):=e;subst e';exact PySem.P.truthy_str (by omega) ⟨H,I.tok _,q⟩
 | byt y =>
  obtain ⟨t,rfl⟩:=rx;obtain ⟨hy,e'⟩:y.size<=sizeLine/\k=((y.size:Int) != 0):=e;subst e';exact PySem.W.truthy_bytes (by omega) ⟨H,I.tok _,q⟩
 | ref p =>
  cases rx;have e':(∃ xs,L4 X.K H p xs/\k=!xs.isEmpty)\/(∃ xs,R4 X.K H p xs/\k=!xs.isEmpty)\/∃ kvs,H p=some (.dK kvs)/\k=!kvs.isEmpty:=e;rcases e' with ⟨xs,hx,e'⟩|⟨xs,hx,e'⟩|⟨kvs,hx,e'⟩
  ·subst e';obtain ⟨its,r,pl,hz⟩:=I.list hx;have hlen:=r.length;exact wpAny_truthy_list pl.isList (by simp only [size_toArray];omega) ⟨H,I.tok _,by rw [A4u r];exact q⟩
  ·subst e';obtain ⟨its,r,pl,hz⟩:=I.tuple hx;have hlen:=r.length;exact truthy_tuple pl (by simp only [size_toArray];omega) ⟨H,I.tok _,by rw [A4u r];exact q⟩
  ·subst e';obtain ⟨hz,hS,vs,r,m⟩:kvs.length<=sizeLine/\(p==sysModules)=false/\∃ vs,KV kvs vs/\s.heap.DictOf (J1 X.prog X.w) p vs:=I.hok p _ hx;have hlen:kvs.length=vs.length:=Paired.length r;exact wpAny_truthy_dict hS m (by omega) ⟨H,I.tok _,by rw [B2r r];exact q⟩
 | _=>exact (show False from e).elim
theorem C2g (ha:PE X a ta) (he:∀ whole,isTrue a X.env whole=(do let v <- whole;standAt a.pos;holding [v] (truthy v))) :
  PT X a (fun σ H Q=>ta σ H fun x H'=>∃ k,D50 X.K x H' k/\Q k H'):=by
 intro pins s σ H Q I h;exact isTrue_plain (D6 (ha pins s σ H _ I h) fun v s1 ⟨x,H1,I1,r1,q1⟩=>D2z pins s1 σ H1 x v Q I1 r1 q1) (he _)
theorem B1s:T5 X (binaryOp .Add) (fun x y H Q=>∃ i j,x=.str i/\y=.str j/\i.length+j.length<=sizeLine/\Q (.str (i++j)) H):=by
 intro pins s σ H x y v u Q I rx ry h;obtain ⟨i,j,rfl,rfl,hz,q⟩:=h;obtain ⟨t,rfl⟩:=rx;obtain ⟨t',rfl⟩:=ry;exact add_str (fun t' tk=>⟨.str (i++j),H,I.tok _,⟨_,rfl⟩,q⟩) hz
theorem S8 {x:V} {us:List Value} (r:C4 [x] us):∃ u,us=[u]/\C8 x u:=by
 cases r with
 | cons r1 r2=>cases r2;exact ⟨_,rfl,r1⟩
theorem B9s {x y:V} {us:List Value} (r:C4 [x,y] us):∃ u w',us=[u,w']/\C8 x u/\C8 y w':=by
 cases r with
 | cons r1 r2 =>
  cases r2 with
  | cons r3 r4=>cases r4;exact ⟨_,_,rfl,r1,r3⟩
theorem B6s (hc:X.calm=true):K2 X (.builtin "max") (fun xs H Q=>∃ i j,xs=[.int i,.int j]/\Q (.int (if j > i then j else i)) H):=by
 intro pins s σ H xs us Q I r h;obtain ⟨i,j,rfl,q⟩:=h;obtain ⟨u,w',rfl,⟨t,rfl⟩,⟨t',rfl⟩⟩:=B9s r;refine max_two_ints (I.ok.hd hc) fun h' tk k=>⟨_,H,I.kept k,?_,q⟩;by_cases hj:j > i
 ·rw [if_pos hj,if_pos hj];exact ⟨_,rfl⟩
 ·rw [if_neg hj,if_neg hj];exact ⟨_,rfl⟩
end
structure C8q (h:Heap) (x dx C:Addr) (mA:Str->Option Value):Prop where
 obj:h.get? x=some (PySem.W.instObj C dx)
 ns:h.Ns1 dx mA
 ne:dx≠x
theorem B7d {h:Heap} {dx:Addr} {mA:Str->Option Value} (n:h.Ns1 dx mA):∃ od,h.get? dx=some od/\∀ name,PySem.W.lookIn name od=some (mA name):=by
 obtain ⟨o,es,ep,ho,hd,hk,_,hm⟩:=n;refine ⟨o,ho,fun name=>?_⟩;have e:=hm name;unfold nsFind findBy at e;rw [<-Array.find?_toList] at e;unfold PySem.W.lookIn;rw [hd];dsimp only;split
 ·rename_i y q;rw [q] at e;exact congrArg some e
 ·rename_i q;rw [q] at e;have a:es.toList.any (·.refKey)=false:=by
   rw [List.any_eq_false];intro y hy;obtain ⟨z,t,hkey⟩:=hk y (Array.mem_toList_iff.mp hy);simp [DictEntry.refKey,hkey]
  have a':¬ es.toList.any (·.refKey)=true:=by rw [a];exact Bool.false_ne_true
  rw [if_neg a'];exact congrArg some e
theorem C8q.look {h:Heap} {x dx C:Addr} {mA:Str->Option Value} (I:C8q h x dx C mA):∃ od,PySem.W.InstAt h x (PySem.W.instObj C dx) C (some od)/\∀ name,PySem.W.lookIn name od=some (mA name) :=
 let ⟨od,ho,hl⟩:=B7d I.ns
 ⟨od,⟨I.obj,rfl,rfl,ho⟩,hl⟩
theorem A4z.some_of {v:V} {o:Option Value} (r:A4z (some v) o):∃ u,o=some u/\C8 v u:=by
 cases o with
 | none=>exact (show False from r).elim
 | some u=>exact ⟨u,rfl,r⟩
section
variable {P:Program} {w:World} {H:Hp} {h:Heap} {a C dx:Addr} {fs:List (Str × V)}
theorem C48 (hok:HOk P w H h) (e:H a=some (.ins C dx fs)):∃ mA,C8q h a dx C mA/\(∀ f,A4z (fs.lookup f) (mA f))/\PySem.Within mA (fs.map (·.1))/\fs.length<=1000/\H dx=some (.own a):=by
 obtain ⟨d,z,ne,ob,mA,n,r,q⟩:=(show E1 P w H h a (.ins C dx fs) from hok a _ e);exact ⟨mA,⟨ob,n,ne⟩,r,q,z,d⟩
end
structure Cls (K:W.Frag) (C:Addr):Prop where
 pg:PySem.W.plainGet K C Str.empty=true
 hd:PySem.W.hasDictIn K C=true
 po:PySem.W.plainOver K C=true
 sa:PySem.W.findIn K (.ref C) "__setattr__"=some (some (.builtin "object.__setattr__"))
theorem Cls.get {K:W.Frag} {C:Addr} (c:Cls K C) (f:Str):PySem.W.plainGet K C f=true:=c.pg
section
variable {X:Cx} {pins:List (Addr × Obj)} {σ:St} {H:Hp} {s:Shared} {A:Around} {E:Value->Shared->Prop} {Q:Value->Shared->Prop} {c:Value} {b:Bool}
inductive A37 (K:W.Frag) (H:Hp):V->Value->Prop where
 | non:A37 K H .non (.type "NoneType")
 | bl (x:Bool):A37 K H (.bl x) (.type "bool")
 | int (i:Int):A37 K H (.int i) (.type "int")
 | str (x:Str):A37 K H (.str x) (.type "str")
 | flt (x:UInt64):A37 K H (.flt x) (.type "float")
 | lst {a:Addr} {xs:List V} (e:H a=some (.lst xs)):A37 K H (.ref a) (.type "list")
 | frz {a:Addr} {o:Obj} {xs:List V} (e:H a=some (.frz o (.lst xs))):A37 K H (.ref a) (.type "list")
 | tup {a:Addr} {xs:List V} (e:H a=some (.tup xs)):A37 K H (.ref a) (.type "tuple")
 | dK {a:Addr} {kvs:List (C2 × V)} (e:H a=some (.dK kvs)):A37 K H (.ref a) (.type "dict")
 | dT {a:Addr} {kvs:List (List C2 × V)} (e:H a=some (.dT kvs)):A37 K H (.ref a) (.type "dict")
 | ins {a C dx:Addr} {fs:List (Str × V)} (e:H a=some (.ins C dx fs)) (cl:Cls K C) (ha:PySem.W.findIn K (.ref C) "__class__"=some (some (.builtin "object.__class__")))
   (hn:PySem.W.specialIn K (.builtin "object.__class__") "__get__"=some (some (.builtin "getset_descriptor.__get__"))) (htk:PySem.W.takesIn K (.builtin "object.__class__")=some true)
   (hm:PySem.W.mroIn K C (.type "object")=some true):A37 K H (.ref a) (.ref C)
theorem U9 {x:V} {u t:Value} (I:B4 X pins σ H s) (rx:C8 x u) (ty:A37 X.K H x t) (e:PySem.W.kitOne X.K t c=some b) (h:∀ tk,Q (.bool b) { s with toks:=tk }) :
  wpAny (model X.prog X.w) A (call (.builtin "isinstance") [u,c]) Q E s:=by
 cases ty with
 | non=>cases (show u=Value.none from rx);exact PySem.W.kia_one PySem.W.kitx_none I.kIn True.intro e (fun z=>nomatch z) h
 | bl y=>cases (show u=Value.bool y from rx);exact PySem.W.kia_one PySem.W.kitx_bool I.kIn True.intro e (fun z=>nomatch z) h
 | int i=>obtain ⟨t,q⟩:=(show ∃ t,u=Value.int i t from rx);cases q;exact PySem.W.kia_one PySem.W.kitx_int I.kIn True.intro e (fun z=>nomatch z) h
 | str y=>obtain ⟨t,q⟩:=(show ∃ t,u=Value.str y t from rx);cases q;exact PySem.W.kia_one PySem.W.kitx_str I.kIn True.intro e (fun z=>nomatch z) h
 | flt y=>obtain ⟨t,q⟩:=(show ∃ t,u=Value.float y t from rx);cases q;exact PySem.W.kia_one PySem.W.kitx_float I.kIn True.intro e (fun z=>nomatch z) h
 | @lst a xs ea =>
  cases (show u=Value.ref a from rx);obtain ⟨_,_,n,_,h1⟩:=(show E1 X.prog X.w H s.heap a (.lst xs) from I.hok a _ ea);exact PySem.W.kia_one PySem.W.kitx_list I.kIn ⟨_,h1,rfl⟩ e (fun z=>nomatch z) h
 | @frz a ob xs ea =>
  cases (show u=Value.ref a from rx);obtain ⟨_,_,_,n,_,h1⟩:=(show E1 X.prog X.w H s.heap a (.frz ob (.lst xs)) from I.hok a _ ea);exact PySem.W.kia_one PySem.W.kitx_list I.kIn ⟨_,h1,rfl⟩ e (fun z=>nomatch z) h
 | @tup a xs ea =>
  cases (show u=Value.ref a from rx);obtain ⟨_,_,_,p⟩:=(show E1 X.prog X.w H s.heap a (.tup xs) from I.hok a _ ea);obtain ⟨o,h1,h2,_⟩:=p;exact PySem.W.kia_one PySem.W.kitx_tuple I.kIn ⟨o,h1,h2⟩ e (fun z=>nomatch z) h
 | @dK a kvs ea =>
  cases (show u=Value.ref a from rx);obtain ⟨_,_,vs,_,p⟩:=(show E1 X.prog X.w H s.heap a (.dK kvs) from I.hok a _ ea);obtain ⟨o,es,ep,h1,h2,_⟩:=p;exact PySem.W.kia_one PySem.W.kitx_dict I.kIn ⟨o,h1,h2.1⟩ e (fun z=>nomatch z) h
 | @dT a kvs ea =>
  cases (show u=Value.ref a from rx);obtain ⟨_,_,xs,_,o,es,ep,h1,h2,_⟩:=(show E1 X.prog X.w H s.heap a (.dT kvs) from I.hok a _ ea);exact PySem.W.kia_one PySem.W.kitx_dict I.kIn ⟨o,h1,h2.1⟩ e (fun z=>nomatch z) h
 | @ins a C dx fs ea cl ha hn htk hm =>
  cases (show u=Value.ref a from rx);obtain ⟨mA,O,_⟩:=C48 I.hok ea;obtain ⟨od,J,_⟩:=O.look;exact PySem.W.kia_one (PySem.W.kitx_own (cl.get _) cl.hd ha hn htk hm) I.kIn J e (fun z=>nomatch z) h
end
structure O0 (k:Nat) (A:Around):Prop where
 hd:A.handled=none
 dp:A.depth+3*k+5 < recursionLimit
 un:A.units+16*k+200 < cLine
 gd:A.guards=some []
theorem O0.mono {j k:Nat} {A:Around} (r:O0 k A) (h:j<=k):O0 j A:=⟨r.hd,by have:=r.dp;omega,by have:=r.un;omega,r.gd⟩
theorem O0.deeper {k:Nat} {A:Around} (r:O0 (k+1) A) (env:Env):O0 k (A.deeper env) :=
 ⟨r.hd,by have:=r.dp;show A.depth+1+3*k+5 < _;omega,by have:=r.un;show A.units+3+16*k+200 < _;omega,r.gd⟩
theorem O0.depth {k:Nat} {A:Around} (r:O0 k A):A.depth < recursionLimit:=by have:=r.dp;omega
theorem O0.units {k:Nat} {A:Around} (r:O0 k A):A.units+64 < cLine:=by have:=r.un;omega
def A7c:TA:=fun _ H Q=>Q [] H
def Y1 (ta:TE) (tr:TA):TA:=fun σ H Q=>ta σ H fun x H1=>tr σ H1 fun xs H2=>Q (x::xs) H2
section
variable {X:Cx} {e:Expr} {es:List Expr} {te:TE} {t:TA} {pos:Pos}
theorem B2h:PA X [] A7c:=fun _ _ _ _ H Q I h=>Calls.spliced_nil ⟨[],H,I,.nil,h⟩
theorem A6v (ha:PE X e te) (hr:PA X es t) (hs:starEach (e::es) X.env=(false,eval e X.env)::starEach es X.env:=by rfl):PA X (e::es) (Y1 te t):=by
 intro pos pins s σ H Q I h;rw [hs];show wpAny _ _ (spliced ((false,eval e X.env)::backTo pos (starEach es X.env))) _ _ s;refine Calls.spliced_cons (D6 (ha pins s σ H _ I h) fun u s1 ⟨x,H1,I1,r1,q1⟩=>?_);exact D6 (hr pos pins s1 σ H1 _ I1 q1) fun us s2 ⟨xs,H2,I2,r2,q2⟩=>⟨x::xs,H2,I2,.cons r1 r2,q2⟩
def D15 (t:TA):TE:=fun σ H Q=>t σ H fun xs H1=>xs.length<=sizeLine/\∀ p,H1 p=none->Q (.ref p) (upd H1 p (.tup xs))
def D4a (t:TA):TE:=fun σ H Q=>t σ H fun xs H1=>xs.length<=sizeLine/\∀ p,H1 p=none->Q (.ref p) (upd H1 p (.lst xs))
theorem D33 {x1} (h:PA X es t):PE X (.Tuple es x1 pos) (D15 t):=by
 intro pins s σ H Q I hq;refine wpAny_Tuple_spliced (D6 (h pos pins s σ H _ I hq) fun us s1 ⟨xs,H1,I1,r,z,q⟩=>⟨by rw [<-r.length];exact z,?_⟩);have hf:H1 s1.heap.objs.size=none:=I1.hok.fresh (Nat.le_refl _);refine ⟨.ref s1.heap.objs.size,upd H1 s1.heap.objs.size (.tup xs),I1.laid (t':=s1.toks) (fun b u e=>Heap.get?_push_of_some _ e) (Nat.le_refl _) ?_,rfl,q _ hf⟩;exact ⟨z,us,r,⟨_,Heap.get?_push_size _ rfl,rfl,_,rfl⟩⟩
theorem C9h (h:PA X es t):PE X (.List es pos) (D4a t):=by
 intro pins s σ H Q I hq;refine wpAny_List_spliced (D6 (h pos pins s σ H _ I hq) fun us s1 ⟨xs,H1,I1,r,z,q⟩=>⟨by rw [<-r.length];exact z,?_⟩);have hf:H1 s1.heap.objs.size=none:=I1.hok.fresh (Nat.le_refl _);refine ⟨.ref s1.heap.objs.size,upd H1 s1.heap.objs.size (.lst xs),I1.laid (t':=s1.toks) (fun b u e=>Heap.get?_push_of_some _ e) (Nat.le_refl _) ?_,rfl,q _ hf⟩;exact ⟨z,us,0,r,Heap.get?_push_size _ rfl⟩
end
abbrev Sp:=List V->Hp->VK->XK->Prop
abbrev CXT:=List Env->Hp->Shared->XK->Value->Shared->Prop
structure B0w (P:Program) (w:World) (K:W.Frag) (mg:Str->Option Value) (base:Heap) (A:Around) (outer:List Env) (s:Shared) (H:Hp):Prop where
 frames:A.frames=some outer
 mod:Mod K mg base
 bs:∀ b o,base.get? b=some o->s.heap.get? b=some o/\H b=none
 bsz:base.objs.size<=s.heap.objs.size
 funs:s.heap.FunFrames base outer
 frf:∀ b∈frs outer,H b=none
 hok:HOk P w H s.heap
 bare:AllBare s.gens
def CE (outer:List Env) (P:Program) (w:World) (H:Hp) (s:Shared) (Q:VK) (u:Value) (s':Shared):Prop :=
 ∃ v H',s'.os=s.os/\AllBare s'.gens/\Un (frs outer) [] H H' s.heap s'.heap/\HOk P w H' s'.heap/\C8 v u/\Q v H'
def CR (CX:CXT) (outer:List Env) (P:Program) (w:World) (H:Hp) (s:Shared) (Q:VK) (E:XK) (r:Result) (s':Shared):Prop :=
 match r with
 | .ok (.ret u)=>CE outer P w H s Q u s'
 | .ok _=>False
 | .error e=>CX outer H s E e s'
structure G6 (P:Program) (w:World) (K:W.Frag) (mg:Str->Option Value) (base:Heap) (CX:CXT) (k:Nat) (f:Addr) (fd:FuncData) (ps:List Str) (sp:Sp):Prop where
 len:∀ vs H Q E,sp vs H Q E->vs.length=ps.length
 run:∀ (A:Around) (outer:List Env) (s:Shared) (H:Hp) (args:Args) (us:List Value) (vs:List V) (Q:VK) (E:XK),O0 k A->B0w P w K mg base A outer s H->BindsTo s fd args (ps.zip us)->C4 vs us->sp vs H Q E ->
  codeAny (model P w) A (.call (.ref f) args) (CR CX outer P w H s Q E) s
theorem G6.imp {P:Program} {w:World} {K:W.Frag} {mg:Str->Option Value} {base:Heap} {CX:CXT} {k:Nat} {f:Addr} {fd:FuncData} {ps:List Str} {sp sp':Sp} (F:G6 P w K mg base CX k f fd ps sp)
  (h:∀ vs H Q E,sp' vs H Q E->sp vs H Q E):G6 P w K mg base CX k f fd ps sp' :=
 ⟨fun vs H Q E q=>F.len vs H Q E (h _ _ _ _ q),fun A outer s H args us vs Q E hr he hb hv hs=>F.run A outer s H args us vs Q E hr he hb hv (h _ _ _ _ hs)⟩
section
variable {X:Cx} {pins:List (Addr × Obj)} {σ:St} {H:Hp} {s s':Shared}
theorem B4.env0 (I:B4 X pins σ H s):B0w X.prog X.w X.K X.mg X.base X.A X.stack s H :=
 ⟨I.ok.frames,I.ok.mod,I.bs,Nat.le_trans I.ok.bsz I.sz,I.stack,I.stkFree,I.hok,I.bare⟩
theorem B4.after {Q:VK} {u:Value} (I:B4 X pins σ H s) (h:CE X.stack X.prog X.w H s Q u s'):EP X pins σ Q u s':=by
 obtain ⟨v,H',os,bare,un,hok,r,q⟩:=h;obtain ⟨hh,g,d,t,os'⟩:=s';obtain rfl:os'=s.os:=os;exact ⟨v,H',I.call (h':=hh) (g':=g) (d':=d) (t':=t) (ch:=[]) un hok bare (fun b z=>absurd z (by simp)),r,q⟩
end
def B02 (sp:Sp) (dvs:List V) (E:XK) (t:TA):TE:=fun σ H Q=>t σ H fun vs H1=>sp (vs++dvs) H1 Q E
def A2z (K:W.Frag) (fd:FuncData) (ps:List Str) (ds:List Value):Prop :=
 ∀ (s:Shared) (us:List Value),K.In s.heap->(us++ds).length=ps.length->BindsTo s fd ⟨us,[]⟩ (ps.zip (us++ds))
theorem A2z.all {K:W.Frag} {fd:FuncData} {ps:List Str} (h:∀ us:List Value,us.length=ps.length->bindArgs fd ⟨us,[]⟩=pure (ps.zip us)):A2z K fd ps []:=fun s us _ hl=>by
 rw [append_nil] at hl ⊢;exact .of_eq (h us hl)
def A0w (CX:CXT) (X:Cx) (E:XK):Prop:=∀ (pins:List (Addr × Obj)) (σ:St) (H:Hp) (s:Shared) (e:Value) (s':Shared),B4 X pins σ H s->CX X.stack H s E e s'->X.xe e s'
section
variable {X:Cx} {CX:CXT} {k:Nat} {f:Addr} {fd:FuncData} {ps:List Str} {sp:Sp} {dvs:List V} {ds:List Value} {E:XK} {x:Str} {p pos:Pos} {e:Expr} {es:List Expr} {t:TA}
theorem D0h {pins:List (Addr × Obj)} {σ:St} {H:Hp} {s:Shared} {Q:VK} {us:List Value} {vs:List V} (F:G6 X.prog X.w X.K X.mg X.base CX k f fd ps sp) (hr:O0 k X.A) (hb:A2z X.K fd ps ds) (hd:C4 dvs ds) (hx:A0w CX X E)
  (I:B4 X pins σ H s) (r:C4 vs us) (h:sp (vs++dvs) H Q E):wpAny (model X.prog X.w) X.A (call (.ref f) us) (EP X pins σ Q) X.xe s:=by
 have r2:C4 (vs++dvs) (us++ds):=r.append hd;have hl:(us++ds).length=ps.length:=by rw [<-r2.length];exact F.len _ _ _ _ h
 refine wpAny_call (codeAny_mono (F.run X.A X.stack s H ⟨us,[]⟩ (us++ds) (vs++dvs) Q E hr I.env0 (hb s us I.kIn hl) r2 h) fun r s' hq=>?_);cases r with
 | error e=>exact hx pins σ H s e s' I hq
 | ok fl =>
  cases fl with
  | ret u=>exact I.after hq
  | next=>exact False.elim hq
  | brk=>exact False.elim hq
  | cont=>exact False.elim hq
theorem B47 (F:G6 X.prog X.w X.K X.mg X.base CX k f fd ps sp) (hr:O0 k X.A) (hg:Gl X x) (hm:X.mg x=some (.ref f)) (hk:PySem.W.keepIn X.K (.ref f)=true) (hb:A2z X.K fd ps ds) (hd:C4 dvs ds) (hx:A0w CX X E)
  (ha:PA X (e::es) t) (hdb:(x==("__debug__":Str))=false:=by decide) (he:starEach (e::es) X.env=(false,eval e X.env)::starEach es X.env:=by rfl) (hpl:(backTo pos (starEach es X.env)).any (·.1)=false:=by rfl) :
  PE X (.Call (.Name x p) (e::es) [] pos) (B02 sp dvs E t):=by
 intro pins s σ H Q I h;refine wpAny_Call_Name_kw (A0d I hg hm ?_ hdb);refine PySem.W.callWith_K (h₀:=X.base) I.ok.mod.kin hk (D6 (ha pos pins s σ H _ I h) fun us s1 ⟨vs,H1,I1,r,q⟩=>⟨I1.kIn,?_⟩) he hpl;exact D0h F hr hb hd hx I1 r q
end
structure B8 (N P:List Str) (sc:Scope):Prop where
 kind:sc.kind=.function
 co:sc.isCoroutine=false
 gen:sc.isGenerator=false
 nd:N.Nodup
 pre:N.take P.length=P
 par:∀ x∈P,sc.names.lookup x=some .local\/sc.names.lookup x=some .cell
 nofree:∀ y∈sc.names,y.2≠.free
theorem A5o {kindOf:Str->Option NameKind} {x:Str}:∀ {binds:List (Str × Value)} {m:Str->Option Value},(∀ v,(x,v)∉binds)->bindL kindOf binds m x=m x
 | [],_,_=>rfl
 | (n,v)::r,m,h=>by
  unfold bindL;rw [A5o fun w hw=>h w (mem_cons_of_mem _ hw)];split
  ·have:x≠n:=by rintro rfl;exact h v mem_cons_self
   simp [this]
  ·rfl
theorem A5w {kindOf:Str->Option NameKind} {x:Str}:∀ {binds:List (Str × Value)} {m:Str->Option Value},(∀ v,(x,v)∉binds)->bindC kindOf binds m x=m x
 | [],_,_=>rfl
 | (n,v)::r,m,h=>by
  unfold bindC;rw [A5w fun w hw=>h w (mem_cons_of_mem _ hw)];split
  ·rfl
  ·have:x≠n:=by rintro rfl;exact h v mem_cons_self
   simp [this]
theorem A6j {kindOf:Str->Option NameKind} {x:Str} {v:Value}:∀ {P:List Str} {vs:List Value} {i:Nat} {m:Str->Option Value},P.Nodup->P[i]?=some x->vs[i]?=some v->kindOf x=some .local ->
  bindL kindOf (P.zip vs) m x=some v
 | [],_,_,_,_,h,_,_=>by simp at h
 | _::_,[],_,_,_,_,h,_=>by simp at h
 | p::P,w::vs,0,m,nd,h1,h2,hk=>by
  simp at h1 h2;subst h1;subst h2;show bindL kindOf ((p,w)::P.zip vs) m p=_;unfold bindL;rw [A5o fun v hv=>(nodup_cons.mp nd).1 (List.of_mem_zip hv).1,if_pos hk];simp
 | p::P,w::vs,i+1,m,nd,h1,h2,hk=>by
  show bindL kindOf ((p,w)::P.zip vs) m x=_;unfold bindL;exact A6j (i:=i) (nodup_cons.mp nd).2 (by simpa using h1) (by simpa using h2) hk
theorem A5q {kindOf:Str->Option NameKind} {x:Str} {v:Value}:∀ {P:List Str} {vs:List Value} {i:Nat} {m:Str->Option Value},P.Nodup->P[i]?=some x->vs[i]?=some v->kindOf x≠some .local ->
  bindC kindOf (P.zip vs) m x=some v
 | [],_,_,_,_,h,_,_=>by simp at h
 | _::_,[],_,_,_,_,h,_=>by simp at h
 | p::P,w::vs,0,m,nd,h1,h2,hk=>by
  simp at h1 h2;subst h1;subst h2;show bindC kindOf ((p,w)::P.zip vs) m p=_;unfold bindC;rw [A5w fun v hv=>(nodup_cons.mp nd).1 (List.of_mem_zip hv).1,if_neg hk];simp
 | p::P,w::vs,i+1,m,nd,h1,h2,hk=>by
  show bindC kindOf ((p,w)::P.zip vs) m x=_;unfold bindC;exact A5q (i:=i) (nodup_cons.mp nd).2 (by simpa using h1) (by simpa using h2) hk
def start (N:List Str) (vs:List V):St:=vs.map some++List.replicate (N.length - vs.length) none
def A02 (CX:CXT) (P:Program) (w:World) (K:W.Frag) (mg:Str->Option Value) (base:Heap) (N:List Str) (qual:Str) (scope:Scope) (f:Addr) (cd:Value) (A:Around) (outer:List Env) (s:Shared) (H:Hp) (E:XK):Cx where
 prog:=P
 w:=w
 K:=K
 mg:=mg
 base:=base
 A:=A.deeper (envOfC qual scope s.heap.objs.size f cd)
 N:=N
 s₀:=s
 H₀:=H
 env:=envOfC qual scope s.heap.objs.size f cd
 outer:=outer
 stack:=envOfC qual scope s.heap.objs.size f cd::outer
 ex:=[]
 calm:=true
 fn:=fun _=>true
 pn:=[]
 xe:=fun e s'=>wpAny (model P w) (A.deeper (envOfC qual scope s.heap.objs.size f cd)) (leaving (envOfC qual scope s.heap.objs.size f cd) e) (fun _ s''=>CX outer H s E e s'') (fun e' s''=>CX outer H s E e' s'') s'
theorem B0z {sc:Scope} {n:Nat} {x:Str} (h:sc.names.lookup x=some .cell):∃ c,(cellsFrom n sc.names []).lookup x=some c:=by
 have q:=PySem.W.cellsFrom_some sc.names n [] (.inl h);exact Option.isSome_iff_exists.mp q
theorem A5v {CX:CXT} {P:Program} {w:World} {K:W.Frag} {mg:Str->Option Value} {base:Heap} {N ps:List Str} {qual:Str} {scope:Scope} {f:Addr} {cd:Value} {A:Around} {outer:List Env} {s s1:Shared} {H:Hp} {E:XK} {us:List Value} {vs:List V}
  (S:B8 N ps scope) (hd:A.handled=none) (e0:B0w P w K mg base A outer s H) (hl:vs.length=ps.length) (r:C4 vs us)
  (x:InCallC s s.heap.objs.size (bindL (envOfC qual scope s.heap.objs.size f cd).kindOf (ps.zip us) fun _=>none) (cellsFrom (s.heap.objs.size+1) scope.names []) (bindC (envOfC qual scope s.heap.objs.size f cd).kindOf (ps.zip us) fun _=>none) s1) :
  B4 (A02 CX P w K mg base N qual scope f cd A outer s H E) [] (start N vs) H s1:=by
 have hpl:ps.length<=N.length:=by have:=congrArg List.length S.pre;rw [length_take] at this;omega
 obtain ⟨h1,tk,rfl,hk⟩:=x.done;have noA:∀ b:Addr,b∉(A02 CX P w K mg base N qual scope f cd A outer s H E).ex:=fun b z=>absurd (show b∈([]:List Addr) from z) (by simp);refine ⟨⟨e0.mod,S.kind,rfl,rfl,Nat.le_refl _,fun y z c h1 h2=>?_,fun y hy=>?_,fun y c _ h=>?_,fun _=>hd,Around.frames_deeper e0.frames,.inr ⟨rfl,rfl⟩,fun b z=>absurd z (noA b),e0.bs,e0.bsz,fun b _ _=>noA b,fun b z=>absurd z (noA b),e0.funs,e0.frf⟩,
  rfl,e0.bare,Un.kept hk,⟨_,x.toInCall.ns,fun i y v h1 h2 h3=>?_⟩,fun y c h=>⟨_,x.cell y c h⟩,e0.hok.fresh (Nat.le_refl _),fun y c h=>?_,fun p hp=>absurd (show p∈([]:List (Addr × Obj)) from hp) (by simp),e0.hok.kept hk,?_⟩
 ·exact name_of_addr x.apart (PySem.mem_of_lookup h1) (PySem.mem_of_lookup h2)
 ·have hy:scope.names.lookup y=some .cell\/scope.names.lookup y=some .free:=hy;rcases hy with hy|hy
  ·exact B0z hy
  ·exact absurd rfl (S.nofree _ (PySem.mem_of_lookup hy))
 ·exact Nat.le_of_lt (x.above y c (PySem.mem_of_lookup h))
 ·have hi:i < vs.length:=by
   unfold start at h2;by_cases hi:i < vs.length
   ·exact hi
   ·rw [List.getElem?_append_right (by simpa using hi)] at h2;rw [List.getElem?_replicate] at h2;split at h2<;>cases h2
  have ha:vs[i]?=some v:=by
   unfold start at h2;rw [List.getElem?_append_left (by simpa using hi),List.getElem?_map] at h2;cases e:vs[i]? with
   | none=>rw [e] at h2;cases h2
   | some a=>rw [e] at h2;cases h2;rfl
  obtain ⟨u,hu,rv⟩:=r.get ha;have hp:ps[i]?=some y:=by
   rw [<-S.pre,List.getElem?_take_of_lt (by omega)];exact h1
  have ndP:ps.Nodup:=by rw [<-S.pre];exact S.nd.sublist (List.take_sublist _ _)
  refine ⟨u,rv,?_⟩;rcases S.par y (mem_of_getElem? hp) with k|k
  ·exact .inl ⟨k,A6j ndP hp hu k⟩
  ·obtain ⟨c,e⟩:=B0z (n:=s.heap.objs.size+1) k;refine .inr ⟨.inl k,c,e,?_⟩;have q:=x.cell y c e;rw [A5q ndP hp hu (by show scope.names.lookup y≠_;rw [k];decide)] at q;exact q
 ·exact e0.hok.fresh (Nat.le_of_lt (x.above y c (PySem.mem_of_lookup h)))
 ·unfold start;show _=N.length;rw [length_append,length_map,List.length_replicate];omega
theorem C82 {CX:CXT} {P:Program} {w:World} {K:W.Frag} {mg:Str->Option Value} {base:Heap} {k:Nat} {f:Addr} {name qual:Str} {params:Arguments} {body:List Stmt} {scope:Scope} {dV kV doc pm cdv ct oc:Value} {an od:Option Addr}
  {osl:Array (Option Value)} {N ps:List Str} {sp:Sp} (lk:K.lookup f=some ⟨oc,od,.func (PySem.W.fnOf name qual params body scope dV kV doc pm an cdv ct),osl⟩) (hcd:PySem.W.codeIn K cdv qual=true) (S:B8 N ps scope)
  (len:∀ vs H Q E,sp vs H Q E->vs.length=ps.length)
  (hbody:∀ (A:Around) (outer:List Env) (s:Shared) (H:Hp) (vs:List V) (Q:VK) (E:XK),O0 k (A.deeper (envOfC qual scope s.heap.objs.size f cdv))->sp vs H Q E ->
   ∃ t,PSs (A02 CX P w K mg base N qual scope f cdv A outer s H E) body t/\t { nx:=fun _ H'=>Q .non H',rt:=Q } (start N vs) H) :
  G6 P w K mg base CX (k+1) f (PySem.W.fnOf name qual params body scope dV kV doc pm an cdv ct) ps sp:=by
 refine ⟨len,fun A outer s H args us vs Q E hr e0 hb r hsp=>?_⟩;have hl:=len _ _ _ _ hsp;have KX:K.In s.heap:=e0.mod.kin.keeps fun b o e=>(e0.bs b o e).1;have lim:s.heap.NoLimit:=e0.mod.nolimit.keeps fun b o e=>(e0.bs b o e).1;have hkind:∀ y∈ps.zip us,scope.names.lookup y.1=some .local\/(scope.names.lookup y.1=some .cell/\((cellsFrom (s.heap.objs.size+1) scope.names []).lookup y.1).isSome=true):=fun ⟨n,v⟩ hy=>by
  rcases S.par n (List.of_mem_zip hy).1 with q|q
  ·exact .inl q
  ·exact .inr ⟨q,PySem.W.cellsFrom_some _ _ _ (.inl q)⟩
 refine codeAny_call_function hr.depth (KX _ _ lk) rfl S.co S.gen rfl (PySem.W.codeRec_of KX hcd) (hb _ _ _ _ ?_);refine wpAny_newFunctionEnv_cells S.kind hkind fun env he s1 x=>?_;subst he;refine ⟨lim.keeps x.toInCall.keep,codeAny_func ?_⟩;obtain ⟨t,ht,hq⟩:=hbody A outer s H vs Q E (hr.deeper _) hsp;have I:B4 (A02 CX P w K mg base N qual scope f cdv A outer s H E) [] (start N vs) H s1:=A5v S hr.hd e0 hl r x;refine wpAny_mono (ht [] s1 (start N vs) H _ I hq) (fun fl s' hs=>?_) fun e s' hs=>hs;have fin:∀ {σ':St} {H':Hp} {v:V} {u:Value},B4 (A02 CX P w K mg base N qual scope f cdv A outer s H E) [] σ' H' s'->C8 v u->Q v H'->CE outer P w H s Q u s' :=
  fun {σ' H' v u} J rv q=>⟨v,H',J.os,J.bare,J.base,J.hok,rv,q⟩
 cases fl with
 | ret u =>
  obtain ⟨v,σ',H',J,rv,q⟩:=hs;exact fin J rv q
 | next =>
  obtain ⟨σ',H',J,q⟩:=hs;exact fin (v:=V.non) (u:=Value.none) J rfl q
 | brk =>
  obtain ⟨_,_,_,q⟩:=hs;exact False.elim q
 | cont =>
  obtain ⟨_,_,_,q⟩:=hs;exact False.elim q
section
variable {X:Cx} {x:Str} {p pos:Pos} {e:Expr} {es:List Expr} {t:TA} {id T:String} {r:List V->Hp->VK->Prop}
def tCB (r:List V->Hp->VK->Prop) (t:TA):TE:=fun σ H Q=>t σ H fun vs H1=>r vs H1 Q
theorem C2h (hc:K2 X (.builtin id) r) (hg:Gl X x) (hm:X.mg x=none) (hv:bootBuiltins x=some (.builtin id)) (ha:PA X (e::es) t) (hn:x≠"__name__":=by decide) (hdb:(x==("__debug__":Str))=false:=by decide)
  (he:starEach (e::es) X.env=(false,eval e X.env)::starEach es X.env:=by rfl) (hpl:(backTo pos (starEach es X.env)).any (·.1)=false:=by rfl):PE X (.Call (.Name x p) (e::es) [] pos) (tCB r t):=by
 intro pins s σ H Q I h;refine wpAny_Call_Name_kw (A2u I hg hm hv ?_ hn hdb);exact PyProof.Rows.callWith_builtin1 (D6 (ha pos pins s σ H _ I h) fun us s1 ⟨vs,H1,I1,r1,q1⟩=>hc pins s1 σ H1 vs us Q I1 r1 q1) he hpl
theorem B5q (hc:K2 X (.type T) r) (hg:Gl X x) (hm:X.mg x=none) (hv:bootBuiltins x=some (.type T)) (ha:PA X (e::es) t) (hn:x≠"__name__":=by decide) (hdb:(x==("__debug__":Str))=false:=by decide)
  (he:starEach (e::es) X.env=(false,eval e X.env)::starEach es X.env:=by rfl) (hpl:(backTo pos (starEach es X.env)).any (·.1)=false:=by rfl):PE X (.Call (.Name x p) (e::es) [] pos) (tCB r t):=by
 intro pins s σ H Q I h;refine wpAny_Call_Name_kw (A2u I hg hm hv ?_ hn hdb);exact PyProof.Rows.callWith_type1 (D6 (ha pos pins s σ H _ I h) fun us s1 ⟨vs,H1,I1,r1,q1⟩=>hc pins s1 σ H1 vs us Q I1 r1 q1) he hpl
end
end L2
namespace HT
open PySem PyProof.Rows
section
open PySem.SeqAt
open PySem.AutoSeq1 (wpAny_loadPart')
open PySem.MeetsSeq PySem.MeetsSeq2 PySem.MeetsSeq3
end
section
variable {prog:Program} {w:World} {A:Around} {E:Value->Shared->Prop} {s:Shared}
def sIx (n d:Nat):Option Int->Nat
 | none=>d
 | some v=>if v < 0 then (v+(n:Int)).toNat else min v.toNat n
theorem D1w (n d:Nat) (hd:d<=n) (o:Option Int):sIx n d o<=n:=by
 cases o with
 | none=>exact hd
 | some v =>
  show (if v < 0 then (v+(n:Int)).toNat else min v.toNat n)<=n;by_cases hv:v < 0
  ·rw [if_pos hv];omega
  ·rw [if_neg hv];exact Nat.min_le_right _ _
theorem B5a (v:Int) (n d:Nat):(if v < 0 then max (v+(n:Int)) 0 else min v (n:Int))=((sIx n d (some v):Nat):Int):=by
 show (if v < 0 then max (v+(n:Int)) 0 else min v (n:Int))=(((if v < 0 then (v+(n:Int)).toNat else min v.toNat n):Nat):Int);by_cases hv:v < 0
 ·simp only [if_pos hv];omega
 ·simp only [if_neg hv];omega
theorem B2u (lo hi:Option Int) (n:Nat):Builtin.Slice.sliceAdjust lo hi 1 (n:Int)=(((sIx n 0 lo:Nat):Int),((sIx n n hi:Nat):Int)):=by
 have h1:¬ ((1:Int) < 0):=by omega
 unfold Builtin.Slice.sliceAdjust;simp only [h1,if_false];refine Prod.ext ?_ ?_
 ·cases lo with
  | none=>rfl
  | some v=>exact B5a v n 0
 ·cases hi with
  | none=>rfl
  | some v=>exact B5a v n n
theorem B20 (i j:Nat):Builtin.Slice.slicePlaces (i:Int) (j:Int) 1=j - i:=by
 unfold Builtin.Slice.slicePlaces;have h1:(1:Int) > 0:=by omega
 simp only [h1,if_true,Int.ediv_one];split<;>omega
theorem A46 {v:Value} {o:Option Int} {Q:Option Int->Shared->Prop} (p:IsPart v o) (h:Q o s):wpAny (model prog w) A (Builtin.Slice.slicePartIndex v) Q E s:=by
 cases p with
 | none=>exact slicePart_none h
 | int i t=>exact slicePart_int h
theorem V3 {sl:Addr} {vl vu:Value} {lo hi:Option Int} {n:Nat} {Q:Int × Int × Nat->Shared->Prop} (hs:s.heap.IsSliceOf sl vl vu .none) (pl:IsPart vl lo) (pu:IsPart vu hi)
  (h:Q (((sIx n 0 lo:Nat):Int),1,sIx n n hi - sIx n 0 lo) s):wpAny (model prog w) A (Builtin.Slice.sliceApplied (.ref sl) (pure (n:Int))) Q E s:=by
 obtain ⟨os,hos,hcs,hds⟩:=id hs;unfold Builtin.Slice.sliceApplied Builtin.Slice.sliceFields;refine wpAny_bind (wpAny_bind (wpAny_field hos hds (x:=vl) rfl (wpAny_bind (wpAny_field hos hds (x:=vu) rfl (wpAny_bind (wpAny_field hos hds (x:=.none) rfl (wpAny_pure ?_)))))));refine wpAny_bind (slicePart_none ?_);show wpAny _ _ (if ((1:Int)==0)=true then _ else _) _ _ s;rw [if_neg (by decide)];refine wpAny_bind (A46 pl (wpAny_bind (A46 pu (wpAny_bind (wpAny_pure ?_)))));show wpAny _ _ (match Builtin.Slice.sliceAdjust lo hi 1 (n:Int) with|(lo,hi)=>pure (lo,(1:Int),Builtin.Slice.slicePlaces lo hi 1)) _ _ s;rw [B2u lo hi n];show wpAny _ _ (pure (((sIx n 0 lo:Nat):Int),(1:Int),Builtin.Slice.slicePlaces ((sIx n 0 lo:Nat):Int) ((sIx n n hi:Nat):Int) 1)) _ _ s;rw [B20];exact wpAny_pure h
theorem B93 (xs:Array Value) (i k:Nat):((List.range k).filterMap fun (m:Nat)=>xs[((i:Int)+(m:Int)*1).toNat]?).toArray=((xs.toList.drop i).take k).toArray:=by
 have e:(fun (m:Nat)=>xs[((i:Int)+(m:Int)*1).toNat]?)=fun m=>xs[i+m]?:=by
  funext m;have:((i:Int)+(m:Int)*1).toNat=i+m:=by omega
  rw [this]
 rw [e];have:=pick_run xs i k;rw [List.filterMap_map] at this;have e2:((fun x=>xs[x]?) ∘ fun x=>i+x)=fun m=>xs[i+m]?:=rfl;rw [e2] at this;rw [this]
theorem getItem_tuple_cut {t sl:Addr} {items:Array Value} {vl vu:Value} {lo hi:Option Int} {Q:Value->Shared->Prop} (ht:IsTup s.heap t items) (hs:s.heap.IsSliceOf sl vl vu .none) (pl:IsPart vl lo) (pu:IsPart vu hi)
  (hw:¬ (sIx items.size 0 lo=0/\sIx items.size items.size hi=items.size))
  (h:Q (.ref s.heap.objs.size) { s with heap:=s.heap.push { cls:=.type "tuple",data:=.seq ((items.toList.drop (sIx items.size 0 lo)).take (sIx items.size items.size hi - sIx items.size 0 lo)).toArray } })
  (hsz:items.size<=sizeLine):wpAny (model prog w) A (getItem (.ref t) (.ref sl)) Q E s:=by
 have htake:sizeOk (.seq ((items.toList.drop (sIx items.size 0 lo)).take (sIx items.size items.size hi - sIx items.size 0 lo)).toArray):=by
  show ((items.toList.drop (sIx items.size 0 lo)).take (sIx items.size items.size hi - sIx items.size 0 lo)).toArray.size<=sizeLine;rw [size_toArray,length_take,length_drop,Array.length_toList];omega
 have hj:sIx items.size items.size hi<=items.size:=D1w _ _ (Nat.le_refl _) hi;obtain ⟨os,hos,hcs,hds⟩:=id hs;have hTs:s.TypeIs (.ref sl) "slice":=⟨os,hos,hcs⟩;unfold getItem
 try with_reducible refine wpAny_holding ?_
 first|refine wpAny_bind (wpAny_pure ?_)|skip
 refine wpAny_bind (wpAny_sequenceKey ht.typeIs (by decide) ?_);refine wpAny_bind (wpAny_callSpecial?_slot (name:=Str.ofString "__getitem__") ht.typeIs PyProof.Rows.slot_tuple_getitem
  (wpAny_call_entry PyProof.Rows.slot_tuple_getitem ht.typeIs entry_tuple_getitem ?_ (args_tuple_getitem _ _)))
 show wpAny _ _ (Builtin.Tuple.tupleItemsOf (.ref t) >>= _) _ _ s;refine wpAny_bind (tupleItemsOf_ ht ?_);refine wpAny_bind (wpAny_typeOf hTs ?_);rw [if_pos (by decide)];refine wpAny_bind (V3 hs pl pu ?_);have hno:¬ ((((sIx items.size 0 lo:Nat):Int)==0&&(1:Int)==1&&(sIx items.size items.size hi - sIx items.size 0 lo)==items.size)=true):=by
  intro q;rw [Bool.and_eq_true,Bool.and_eq_true] at q;have q1:((sIx items.size 0 lo:Nat):Int)=0:=eq_of_beq q.1.1;have q2:sIx items.size items.size hi - sIx items.size 0 lo=items.size:=eq_of_beq q.2;exact hw ⟨by omega,by omega⟩
 show wpAny _ _ (if (((sIx items.size 0 lo:Nat):Int)==0&&(1:Int)==1&&(sIx items.size items.size hi - sIx items.size 0 lo)==items.size)=true then _ else _) _ _ s;rw [if_neg hno,B93]
 first
  | exact wpAny_bind (m:=Builtin.Tuple.tupleExact _) (wpAny_newObj_type (wpAny_pure ⟨_,rfl,wpAny_pure h⟩) htake)
  | exact wpAny_bind (m:=Builtin.Tuple.tupleExact _) (wpAny_newObj_type (wpAny_bind (wpAny_pure (wpAny_pure ⟨_,rfl,wpAny_pure h⟩))) htake)
  | exact wpAny_bind (wpAny_bind (m:=Builtin.Tuple.tupleExact _) (wpAny_newObj_type (wpAny_pure (wpAny_pure ⟨_,rfl,wpAny_pure h⟩)) htake))
  | exact wpAny_bind (wpAny_bind (m:=Builtin.Tuple.tupleExact _) (wpAny_newObj_type (wpAny_pure ⟨_,rfl,wpAny_pure h⟩) htake))
end
end HT
namespace L2
open PySem PySem.Spec PyProof.Rows
abbrev TO:=St->Hp->(Option Int->Hp->Prop)->Prop
def PO (X:Cx) (e:Option Expr) (t:TO):Prop :=
 ∀ (pins:List (Addr × Obj)) (s:Shared) (σ:St) (H:Hp) (Q:Option Int->Hp->Prop),B4 X pins σ H s->t σ H Q ->
  wpAny (model X.prog X.w) X.A (evalPart e X.env) (fun u s'=>∃ o H',B4 X pins σ H' s'/\IsPart u o/\Q o H') X.xe s
def B4f:TO:=fun _ H Q=>Q none H
def C7m (t:TE):TO:=fun σ H Q=>t σ H fun x H1=>∃ i,x=.int i/\Q (some i) H1
theorem A1b {ns:List Int}:∀ {us:List Value},C4 (ns.map V.int) us->IntsAre us ns:=by
 induction ns with
 | nil=>intro us r;rw [List.map_nil] at r;cases r;exact .nil
 | cons n ns ih =>
  intro us r;rw [map_cons] at r;cases r with
  | cons r1 r2 =>
   obtain ⟨t,e⟩:=r1;subst e;exact .cons n t (ih r2)
section
variable {X:Cx} {e:Expr} {te:TE} {lo hi:Option Expr} {tl th:TO} {pos p2:Pos}
theorem C3p:PO X none B4f:=by
 intro pins s σ H Q I h;rw [evalPart_none];exact wpAny_pure ⟨none,H,I,.none,h⟩
theorem C70 (h:PE X e te):PO X (some e) (C7m te):=by
 intro pins s σ H Q I hw;rw [evalPart_some];refine D6 (h pins s σ H _ I hw) fun u s1 ⟨x,H1,I1,r1,q1⟩=>?_;obtain ⟨i,rfl,q⟩:=q1;obtain ⟨t,rfl⟩:=r1;exact ⟨some i,H1,I1,.int i t,q⟩
def SlR (X:Cx) (r:V->Option Int->Option Int->Hp->VK->Prop):Prop :=
 ∀ (pins:List (Addr × Obj)) (s:Shared) (σ:St) (H:Hp) (x:V) (v vl vu:Value) (lo hi:Option Int) (sl:Addr) (Q:VK),B4 X pins σ H s->C8 x v->s.heap.IsSliceOf sl vl vu .none->IsPart vl lo->IsPart vu hi->r x lo hi H Q ->
  ∃ T id,typeLookup (.type T) "__getitem__"=pure (some (.builtin id))/\s.TypeIs v T/\wpAny (model X.prog X.w) X.A (getItem v (.ref sl)) (EP X pins σ Q) X.xe s
theorem SlR.or {r r':V->Option Int->Option Int->Hp->VK->Prop} (h:SlR X r) (h':SlR X r'):SlR X (fun x lo hi H Q=>r x lo hi H Q\/r' x lo hi H Q):=by
 intro pins s σ H x v vl vu lo hi sl Q I rx hs pl pu q;rcases q with q|q
 ·exact h pins s σ H x v vl vu lo hi sl Q I rx hs pl pu q
 ·exact h' pins s σ H x v vl vu lo hi sl Q I rx hs pl pu q
def tSl (r:V->Option Int->Option Int->Hp->VK->Prop) (te:TE) (tl th:TO):TE:=fun σ H Q=>te σ H fun x H1=>tl σ H1 fun l H2=>th σ H2 fun u H3=>r x l u H3 Q
theorem C0s {r:V->Option Int->Option Int->Hp->VK->Prop} (hr:SlR X r) (he:PE X e te) (hl:PO X lo tl) (hu:PO X hi th):PE X (.Subscript e (.Slice lo hi none p2) pos) (tSl r te tl th):=by
 intro pins s σ H Q I h;refine Subscript_ (D6 (he pins s σ H _ I h) fun v s1 ⟨x,H1,I1,r1,q1⟩=>?_);refine wpAny_Slice (D6 (hl pins s1 σ H1 _ I1 q1) fun vl s2 ⟨l,H2,I2,pl,q2⟩=>D6 (hu pins s2 σ H2 _ I2 q2) fun vu s3 ⟨u,H3,I3,pu,q3⟩=>?_);rw [evalPart_none];refine wpAny_pure ?_;have I4:B4 X pins σ H3 { s3 with heap:=s3.heap.push { cls:=.type "slice",data:=.fields #[vl,vu,.none] } }:=I3.kept (t':=s3.toks) fun b ob q=>Heap.get?_push_of_some _ q;obtain ⟨T,id,hT,ht,hg⟩:=hr pins { s3 with heap:=s3.heap.push { cls:=.type "slice",data:=.fields #[vl,vu,.none] } } σ H3 x v vl vu l u s3.heap.objs.size Q I4 r1 (Heap.IsSliceOf.new ..) pl pu q3;show wpAny (model X.prog X.w) X.A (subscriptTail e (.Slice lo hi none p2) v (.ref s3.heap.objs.size)) (EP X pins σ Q) X.xe { s3 with heap:=s3.heap.push { cls:=.type "slice",data:=.fields #[vl,vu,.none] } };exact tail_any (ops:=[.ref s3.heap.objs.size,v]) ht hT hg (by with_unfolding_all rfl)
def A7f (xs:List V) (lo hi:Option Int):List V:=(xs.drop (HT.sIx xs.length 0 lo)).take (HT.sIx xs.length xs.length hi - HT.sIx xs.length 0 lo)
theorem A2y (xs:List V) (lo hi:Option Int):(A7f xs lo hi).length<=xs.length:=by
 unfold A7f;rw [length_take,length_drop];omega
def D9p (K:W.Frag):V->Option Int->Option Int->Hp->VK->Prop:=fun x lo hi H Q=>∃ a xs,x=.ref a/\R4 K H a xs /\
 ¬ (HT.sIx xs.length 0 lo=0/\HT.sIx xs.length xs.length hi=xs.length)/\∀ p,H p=none->Q (.ref p) (upd H p (.tup (A7f xs lo hi)))
theorem C8k:SlR X (D9p X.K):=by
 intro pins s σ H x v vl vu lo hi sl Q I rx hs pl pu h;obtain ⟨a,xs,rfl,hx,hw,q⟩:=h;cases rx;obtain ⟨its,r,ht,hz⟩:=I.tuple hx;have hlen:its.toArray.size=xs.length:=by rw [size_toArray];exact r.length.symm
 refine ⟨"tuple",_,PyProof.Rows.slot_tuple_getitem.lookup,ht.typeIs,?_⟩;refine HT.getItem_tuple_cut ht hs pl pu (by rw [hlen];exact hw) ?_ (by rw [hlen];exact hz);rw [hlen];refine ⟨.ref s.heap.objs.size,_,I.laid (t':=s.toks) (o:=.tup (A7f xs lo hi)) (fun b ob q=>Heap.get?_push_of_some _ q) (Nat.le_refl _) ?_,rfl,q _ (I.hok.fresh (Nat.le_refl _))⟩;exact ⟨Nat.le_trans (A2y xs lo hi) hz,_,(r.drop (HT.sIx xs.length 0 lo)).take (HT.sIx xs.length xs.length hi - HT.sIx xs.length 0 lo),IsTup.new _ _⟩
end
def ixN (n:Nat) (i:Int):Option Nat:=if 0<=i then (if i < n then some i.toNat else none) else if -(n:Int)<=i then some (i+n).toNat else none
def atI {α:Type} (xs:List α) (i:Int):Option α:=(ixN xs.length i).bind fun j=>xs[j]?
theorem C53 {n:Nat} {i:Int} {j:Nat} (h:ixN n i=some j):seqIndex? i n=some j/\j < n/\-(n:Int)<=i/\i < n:=by
 unfold ixN at h;by_cases h0:0<=i
 ·rw [if_pos h0] at h;by_cases h1:i < n
  ·rw [if_pos h1] at h;have e:i.toNat=j:=Option.some.inj h;exact ⟨by rw [seqIndex_of h0 h1,e],by omega,by omega,h1⟩
  ·rw [if_neg h1] at h;cases h
 ·rw [if_neg h0] at h;by_cases h1:-(n:Int)<=i
  ·rw [if_pos h1] at h;have e:(i+n).toNat=j:=Option.some.inj h;exact ⟨by rw [seqIndex_neg (by omega) h1,e],by omega,h1,by omega⟩
  ·rw [if_neg h1] at h;cases h
theorem A81 {α:Type} {xs:List α} {i:Int} {v:α} (h:atI xs i=some v):∃ j,seqIndex? i xs.length=some j/\xs[j]?=some v/\j < xs.length/\-(xs.length:Int)<=i/\i < xs.length:=by
 unfold atI at h;cases e:ixN xs.length i with
 | none=>rw [e] at h;cases h
 | some j =>
  rw [e] at h;obtain ⟨h1,h2,h3,h4⟩:=C53 e;exact ⟨j,h1,h,h2,h3,h4⟩
theorem J8 {α:Type} {xs:List α} {j:Nat} {v:α} (h:xs[j]?=some v):atI xs (j:Int)=some v:=by
 have hj:j < xs.length:=(List.getElem?_eq_some_iff.mp h).1;have e:ixN xs.length (j:Int)=some j:=by
  unfold ixN;rw [if_pos (by omega),if_pos (by omega)];simp
 unfold atI;rw [e];exact h
def A8q (b:Expr):Prop:=∀ o i,subscripted b false o i=operate [o,i] (getItem o i)
def IxR (X:Cx) (r:R2):Prop :=
 ∀ (value slice:Expr) (pins:List (Addr × Obj)) (s:Shared) (σ:St) (H:Hp) (x y:V) (v u:Value) (Q:VK),B4 X pins σ H s->C8 x v->C8 y u->r x y H Q ->
  subscripted slice false v u=operate [v,u] (getItem v u)->wpAny (model X.prog X.w) X.A (subscriptTail value slice v u) (EP X pins σ Q) X.xe s
def MtR (X:Cx) (id:String) (r:V->List V->Hp->VK->Prop):Prop :=
 ∀ (pins:List (Addr × Obj)) (s:Shared) (σ:St) (H:Hp) (x:V) (xs:List V) (v:Value) (us:List Value) (Q:VK),B4 X pins σ H s->C8 x v->C4 xs us->r x xs H Q ->
  wpAny (model X.prog X.w) X.A (call (.builtin id) (v::us)) (EP X pins σ Q) X.xe s
section
variable {X:Cx} {a b:Expr} {ta tb:TE} {pos:Pos}
theorem IxR.or {r r':R2} (h:IxR X r) (h':IxR X r'):IxR X (fun x y H Q=>r x y H Q\/r' x y H Q):=by
 intro value slice pins s σ H x y v u Q I rx ry q hs;rcases q with q|q
 ·exact h value slice pins s σ H x y v u Q I rx ry q hs
 ·exact h' value slice pins s σ H x y v u Q I rx ry q hs
theorem D5i {r:R2} (hr:IxR X r) (ha:PE X a ta) (hb:PE X b tb) (hs:A8q b):PE X (.Subscript a b pos) (tOp r ta tb):=by
 intro pins s σ H Q I h;exact Subscript_ (D35 ha hb I h fun v u s2 x y H2 I2 rx ry q=>hr a b pins s2 σ H2 x y v u Q I2 rx ry q (hs _ _))
def D5j (K:W.Frag):R2:=fun x y H Q=>∃ p xs i v,x=.ref p/\y=.int i/\L4 K H p xs/\atI xs i=some v/\Q v H
def B2p (K:W.Frag):R2:=fun x y H Q=>∃ p xs i v,x=.ref p/\y=.int i/\R4 K H p xs/\atI xs i=some v/\Q v H
def D5h:R2:=fun x y H Q=>∃ z i c,x=.str z/\y=.int i/\z.length<=sizeLine/\atI z.cps.toList i=some c/\Q (.str ⟨#[c]⟩) H
theorem C6r:IxR X (D5j X.K):=by
 intro value slice pins s σ H x y v u Q I rx ry h hs;obtain ⟨p,xs,i,z,rfl,rfl,hq,he,q⟩:=h;cases rx;obtain ⟨t,rfl⟩:=ry;obtain ⟨its,r,pl,hz⟩:=I.list hq;obtain ⟨j,h1,h2,h3,h4,h5⟩:=A81 he;obtain ⟨w,ew,rw'⟩:=r.get h2;have hl:=r.length;have hn:=A2q;have fin:EP X pins σ Q w s:=⟨z,H,I,rw',q⟩;by_cases h0:0<=i
 ·have hj:i.toNat=j:=by
   rw [seqIndex_of h0 h5] at h1;exact Option.some.inj h1
  exact item_listR pl.isList h0 (by omega) (by rw [hj];simpa using ew) fin hs
 ·have hj:(i+(its.toArray.size:Int)).toNat=j:=by
   rw [seqIndex_neg (by omega) h4] at h1;rw [size_toArray,<-hl];exact Option.some.inj h1
  exact subscriptTail_builtinR (x:=w) pl.isList.typeIs slot_list_getitem.lookup
   (wpAny_getItem_list_neg (Q:=fun r s'=>r=w/\EP X pins σ Q r s') pl.isList (by omega) (by rw [size_toArray]<;>omega) (by omega) (by rw [hj];simpa using ew) ⟨rfl,fin⟩) hs
theorem C2p:IxR X (B2p X.K):=by
 intro value slice pins s σ H x y v u Q I rx ry h hs;obtain ⟨p,xs,i,z,rfl,rfl,hq,he,q⟩:=h;cases rx;obtain ⟨t,rfl⟩:=ry;obtain ⟨its,r,pl,hz⟩:=I.tuple hq;obtain ⟨j,h1,h2,h3,h4,h5⟩:=A81 he;obtain ⟨w,ew,rw'⟩:=r.get h2;have hl:=r.length;have hn:=A2q;have fin:EP X pins σ Q w s:=⟨z,H,I,rw',q⟩;exact subscriptTail_builtinR (x:=w) pl.typeIs slot_tuple_getitem.lookup
  (getItem_tuple (j:=j) (Q:=fun r s'=>r=w/\EP X pins σ Q r s') pl (by omega) (by omega) (by rw [size_toArray,<-hl];exact h1) (by simpa using ew) ⟨rfl,fin⟩) hs
theorem B9x:IxR X D5h:=by
 intro value slice pins s σ H x y v u Q I rx ry h hs;obtain ⟨z,i,c,rfl,rfl,hz,he,q⟩:=h;obtain ⟨t,rfl⟩:=rx;obtain ⟨t',rfl⟩:=ry;obtain ⟨j,h1,h2,h3,h4,h5⟩:=A81 he;have hl:z.cps.toList.length=z.length:=by simp [Str.length]
 rw [hl] at h1 h4 h5;have hn:=A2q;exact tail_any (typeIs_str s z t) slot_str_getitem.lookup (getItem_str (c:=c) (by
  have e1:decide (i < -(2 ^ 63:Int))=false:=decide_eq_false (by omega);have e2:decide (i ≥ 2 ^ 63)=false:=decide_eq_false (by omega);rw [e1,e2,Bool.or_false]) (by rw [h1];simpa using h2) ⟨.str ⟨#[c]⟩,H,I.tok _,⟨_,rfl⟩,q⟩) hs
def rIx (K:W.Frag):R2:=fun x y H Q=>D5j K x y H Q\/B2p K x y H Q\/D5h x y H Q
theorem D21:IxR X (rIx X.K):=C6r.or (C2p.or B9x)
theorem A8e (lo hi:Option Int) (n:Nat):(sliceBounds lo hi none n).1=((HT.sIx n 0 lo:Nat):Int)/\(sliceBounds lo hi none n).2.1=((HT.sIx n n hi:Nat):Int)/\(sliceBounds lo hi none n).2.2=1:=by
 refine ⟨?_,?_,rfl⟩
 ·cases lo with
  | none=>simp [sliceBounds,HT.sIx]
  | some i =>
   simp only [sliceBounds,HT.sIx,Option.getD_none,show (1:Int) > 0 by decide,if_true];by_cases h:i < 0
   ·simp only [h,if_true]<;>omega
   ·simp only [h,if_false]<;>omega
 ·cases hi with
  | none=>simp [sliceBounds,HT.sIx]
  | some i =>
   simp only [sliceBounds,HT.sIx,Option.getD_none,show (1:Int) > 0 by decide,if_true];by_cases h:i < 0
   ·simp only [h,if_true]<;>omega
   ·simp only [h,if_false]<;>omega
theorem A5h (its:List Value) (lo hi:Option Int):slicePick its.toArray lo hi none=((its.drop (HT.sIx its.length 0 lo)).take (HT.sIx its.length its.length hi - HT.sIx its.length 0 lo)).toArray:=by
 obtain ⟨h1,h2,h3⟩:=A8e lo hi its.toArray.size;unfold slicePick;rw [h1,h2,h3];simp only [sliceRange_one,pick_run,size_toArray]<;>rfl
def D8i (K:W.Frag):V->Option Int->Option Int->Hp->VK->Prop:=fun x lo hi H Q=>∃ a xs,x=.ref a/\L4 K H a xs/\∀ p,H p=none->Q (.ref p) (upd H p (.lst (A7f xs lo hi)))
theorem D7z:SlR X (D8i X.K):=by
 intro pins s σ H x v vl vu lo hi sl Q I rx hs pl pu h;obtain ⟨a,xs,rfl,hx,q⟩:=h;cases rx;obtain ⟨its,r,ht,hz⟩:=I.list hx;have hlen:=r.length;refine ⟨"list",_,slot_list_getitem.lookup,ht.isList.typeIs,?_⟩;refine wpAny_getItem_list_slice ht.isList hs pl pu .none (by simp) ?_ (by rw [size_toArray]<;>omega);rw [A5h,<-hlen];refine ⟨.ref s.heap.objs.size,_,I.laid (t':=s.toks) (o:=.lst (A7f xs lo hi)) (fun b ob q=>Heap.get?_push_of_some _ q) (Nat.le_refl _) ?_,rfl,q _ (I.hok.fresh (Nat.le_refl _))⟩;exact ⟨Nat.le_trans (A2y xs lo hi) hz,_,0,(r.drop (HT.sIx xs.length 0 lo)).take (HT.sIx xs.length xs.length hi - HT.sIx xs.length 0 lo),Heap.get?_push_size _ rfl⟩
def A0p:V->Bool
 | .non=>true
 | .bl _=>true
 | .int _=>true
 | .str _=>true
 | _=>false
def eqV:V->V->Bool
 | .non,.non=>true
 | .bl a,.bl b=>a==b
 | .bl a,.int b=>(if a then 1 else 0)==b
 | .int a,.bl b=>a==(if b then 1 else 0)
 | .int a,.int b=>a==b
 | .str a,.str b=>a==b
 | _,_=>false
theorem D0o {A:Around} {s:Shared} {y x:V} {u v:Value} (ry:C8 y u) (rx:C8 x v) (fy:A0p y=true) (fx:A0p x=true):SeqAt.EqAt A s u v (eqV y x):=by
 cases y with
 | non =>
  cases ry;cases x with
  | non=>cases rx;exact SeqAt.EqAt.same _
  | bl b=>cases rx;exact SeqAt.EqAt.none_bool b
  | int b=>obtain ⟨t,rfl⟩:=rx;exact SeqAt.EqAt.none_int b t
  | str b=>obtain ⟨t,rfl⟩:=rx;exact SeqAt.EqAt.none_str b t
  | _=>exact absurd (show false=true from fx) Bool.false_ne_true
 | bl a =>
  cases ry;cases x with
  | non=>cases rx;exact SeqAt.EqAt.bool_none a
  | bl b=>cases rx;exact SeqAt.EqAt.bool_bool a b
  | int b=>obtain ⟨t,rfl⟩:=rx;exact SeqAt.EqAt.bool_int a b t
  | str b=>obtain ⟨t,rfl⟩:=rx;exact SeqAt.EqAt.bool_str a b t
  | _=>exact absurd (show false=true from fx) Bool.false_ne_true
 | int a =>
  obtain ⟨t',rfl⟩:=ry;cases x with
  | non=>cases rx;exact SeqAt.EqAt.int_none a t'
  | bl b=>cases rx;exact SeqAt.EqAt.int_bool a t' b
  | int b=>obtain ⟨t,rfl⟩:=rx;exact SeqAt.EqAt.int_int a t' b t
  | str b=>obtain ⟨t,rfl⟩:=rx;exact SeqAt.EqAt.int_str a t' b t
  | _=>exact absurd (show false=true from fx) Bool.false_ne_true
 | str a =>
  obtain ⟨t',rfl⟩:=ry;cases x with
  | non=>cases rx;exact SeqAt.EqAt.str_none a t'
  | bl b=>cases rx;exact SeqAt.EqAt.str_bool a t' b
  | int b=>obtain ⟨t,rfl⟩:=rx;exact SeqAt.EqAt.str_int a t' b t
  | str b=>obtain ⟨t,rfl⟩:=rx;exact SeqAt.EqAt.str_str a t' b t
  | _=>exact absurd (show false=true from fx) Bool.false_ne_true
 | _=>exact absurd (show false=true from fy) Bool.false_ne_true
def eqU (x:V) (u:Value):Bool:=match u with
 | .none=>eqV .non x
 | .bool b=>eqV (.bl b) x
 | .int i _=>eqV (.int i) x
 | .str z _=>eqV (.str z) x
 | _=>false
theorem C2j {x y:V} {u:Value} (r:C8 y u) (f:A0p y=true):eqU x u=eqV y x:=by
 cases y with
 | non=>cases r;rfl
 | bl b=>cases r;rfl
 | int i=>obtain ⟨t,rfl⟩:=r;rfl
 | str z=>obtain ⟨t,rfl⟩:=r;rfl
 | _=>exact absurd (show false=true from f) Bool.false_ne_true
theorem A1n {x:V}:∀ {xs:List V} {us:List Value},C4 xs us->xs.all A0p=true->us.any (eqU x)=xs.any fun y=>eqV y x
 | _,_,.nil,_=>rfl
 | y::xs,u::us,.cons r t,f=>by
  rw [all_cons,Bool.and_eq_true] at f;rw [any_cons,any_cons,C2j r f.1,A1n t f.2]
theorem A00 {A:Around} {s:Shared} {x:V} {v:Value} (rx:C8 x v) (fx:A0p x=true):∀ {xs:List V} {us:List Value},C4 xs us->xs.all A0p=true->∀ u∈us,SeqAt.EqAt A s u v (eqU x u)
 | _,_,.nil,_=>fun u hu=>by cases hu
 | y::xs,u::us,.cons r t,f=>fun u' hu=>by
  rw [all_cons,Bool.and_eq_true] at f;rcases mem_cons.mp hu with rfl|hu
  ·rw [C2j r f.1];exact D0o r rx f.1 fx
  ·exact A00 rx fx t f.2 u' hu
def inV (x:V) (xs:List V):Bool:=xs.any fun y=>eqV y x
def rIn (K:W.Frag) (neg:Bool):R2:=fun x y H Q=>∃ p xs,y=.ref p/\(L4 K H p xs\/R4 K H p xs)/\A0p x=true/\xs.all A0p=true/\Q (.bl (if neg then !inV x xs else inV x xs)) H
theorem B6z:T5 X (compareOp .In) (rIn X.K false):=by
 intro pins s σ H x y v u Q I rx ry h;obtain ⟨p,xs,rfl,hq,fx,fs,q⟩:=h;cases ry;rcases hq with hq|hq
 ·obtain ⟨its,r,pl,hz⟩:=I.list hq;refine SeqAt.in_listAt (eqU x) pl.isList (fun w hw=>A00 rx fx r fs w (by simpa using hw)) ⟨.bl _,H,I,rfl,?_⟩;rw [show its.toArray.any (eqU x)=its.any (eqU x) by simp,A1n r fs];exact q
 ·obtain ⟨its,r,pl,hz⟩:=I.tuple hq;refine SeqAt.in_tupleAt (eqU x) pl (fun w hw=>A00 rx fx r fs w (by simpa using hw)) ⟨.bl _,H,I,rfl,?_⟩;rw [show its.toArray.any (eqU x)=its.any (eqU x) by simp,A1n r fs];exact q
theorem A8t:T5 X (compareOp .NotIn) (rIn X.K true):=by
 intro pins s σ H x y v u Q I rx ry h;obtain ⟨p,xs,rfl,hq,fx,fs,q⟩:=h;cases ry;rcases hq with hq|hq
 ·obtain ⟨its,r,pl,hz⟩:=I.list hq;refine SeqAt.notIn_listAt (eqU x) pl.isList (fun w hw=>A00 rx fx r fs w (by simpa using hw)) ⟨.bl _,H,I,rfl,?_⟩;rw [show its.toArray.any (eqU x)=its.any (eqU x) by simp,A1n r fs];exact q
 ·obtain ⟨its,r,pl,hz⟩:=I.tuple hq;refine SeqAt.notIn_tupleAt (eqU x) pl (fun w hw=>A00 rx fx r fs w (by simpa using hw)) ⟨.bl _,H,I,rfl,?_⟩;rw [show its.toArray.any (eqU x)=its.any (eqU x) by simp,A1n r fs];exact q
theorem A7i:K2 X (.builtin "len") (fun xs H Q=>∃ p ys,xs=[.ref p]/\(L4 X.K H p ys\/R4 X.K H p ys)/\Q (.int ys.length) H):=by
 intro pins s σ H xs us Q I r h;obtain ⟨p,ys,rfl,hq,q⟩:=h;obtain ⟨u,rfl,rx⟩:=S8 r;cases rx;have hn:=A2q;rcases hq with hq|hq
 ·obtain ⟨its,r',pl,hz⟩:=I.list hq;have hlen:=r'.length;exact Calls.call_len_list pl.isList (by simp only [size_toArray]<;>omega) ⟨.int ys.length,H,I.tok _,⟨s.toks+1,by rw [size_toArray,hlen]⟩,q⟩
 ·obtain ⟨its,r',pl,hz⟩:=I.tuple hq;have hlen:=r'.length;exact len_tuple pl (by simp only [size_toArray]<;>omega) ⟨.int ys.length,H,I.tok _,⟨s.toks+1,by rw [size_toArray,hlen]⟩,q⟩
theorem A76:K2 X (.builtin "len") (fun xs H Q=>∃ z,xs=[.str z]/\z.length<=sizeLine/\Q (.int z.length) H):=by
 intro pins s σ H xs us Q I r h;obtain ⟨z,rfl,hz,q⟩:=h;obtain ⟨u,rfl,t,rfl⟩:=S8 r;have hn:=A2q;exact len_str (by omega) ⟨.int z.length,H,I.tok _,⟨_,rfl⟩,q⟩
theorem A8d:K2 X (.type "list") (fun xs H Q=>∃ p ys,xs=[.ref p]/\(L4 X.K H p ys\/R4 X.K H p ys)/\∀ l,H l=none->Q (.ref l) (upd H l (.lst ys))):=by
 intro pins s σ H xs us Q I r h;obtain ⟨p,ys,rfl,hq,q⟩:=h;obtain ⟨u,rfl,rx⟩:=S8 r;cases rx;have fin:∀ (its:List Value),C4 ys its->ys.length<=sizeLine->∀ (h':Heap) (c':Nat),(∀ b o',s.heap.get? b=some o'->h'.get? b=some o') ->
   h'.get? s.heap.objs.size=some { cls:=.type "list",dict:=none,data:=.seq its.toArray c',slots:=#[] }->EP X pins σ Q (.ref s.heap.objs.size) { s with heap:=h' }:=fun its r' hz h' c' kp e =>
  ⟨.ref s.heap.objs.size,_,I.laid (t':=s.toks) kp (Nat.le_refl _) (show E1 X.prog X.w _ h' _ (.lst ys) from ⟨hz,its,c',r',e⟩),rfl,q _ (I.hok.fresh (Nat.le_refl _))⟩
 rcases hq with hq|hq
 ·obtain ⟨its,r',pl,hz⟩:=I.list hq;have hlen:=r'.length;obtain ⟨o,ho,hc,n,hd⟩:=pl.isList;exact call_list_seq p (.inl rfl) ho hc hd (fun h' c' kp e=>fin its r' hz h' c' kp e) (by simp only [size_toArray]<;>omega)
 ·obtain ⟨its,r',pl,hz⟩:=I.tuple hq;have hlen:=r'.length;obtain ⟨o,ho,hc,n,hd⟩:=pl;exact call_list_seq p (.inr rfl) ho hc hd (fun h' c' kp e=>fin its r' hz h' c' kp e) (by simp only [size_toArray]<;>omega)
def tyV (K:W.Frag) (T:String) (x:V) (H:Hp):Prop:=match x with
 | .str _=>T="str"
 | .int _=>T="int"
 | .ref p=>(T="list"/\∃ xs,L4 K H p xs)\/(T="tuple"/\∃ o,K.lookup p=some o/\o.cls=.type "tuple"/\o.dict=none) \/
   (T="dict"/\((∃ kvs,H p=some (.dK kvs))\/∃ kvs,H p=some (.dT kvs)))\/(T="set"/\∃ S n,H p=some (.set S n))
 | _=>False
theorem D1k {pins:List (Addr × Obj)} {σ:St} {H:Hp} {s:Shared} {T:String} {x:V} {v:Value} (I:B4 X pins σ H s) (r:C8 x v) (ty:tyV X.K T x H) :
  s.TypeIs v T/\∀ a,v=.ref a->∃ ob,s.heap.get? a=some ob/\ob.dict=none:=by
 cases x with
 | str z =>
  obtain ⟨t,rfl⟩:=r;cases (show T="str" from ty);exact ⟨typeIs_str s z t,fun _ e=>nomatch e⟩
 | int i =>
  obtain ⟨t,rfl⟩:=r;cases (show T="int" from ty);exact ⟨typeIs_int s i t,fun _ e=>nomatch e⟩
 | ref p =>
  cases r;rcases ty with ⟨rfl,xs,hq⟩|⟨rfl,o,hk,hc,hd⟩|⟨rfl,hk⟩|⟨rfl,S,n,hk⟩
  ·obtain ⟨its,_,pl,_⟩:=I.list hq;refine ⟨pl.isList.typeIs,fun a e=>?_⟩;cases e;obtain ⟨o,n,e,c,hd,_⟩:=pl;exact ⟨o,e,hd⟩
  ·refine ⟨⟨o,I.kIn p o hk,hc⟩,fun a e=>?_⟩;cases e;exact ⟨o,I.kIn _ o hk,hd⟩
  ·have z:∃ o,s.heap.get? p=some o/\o.ExactDict:=by
    rcases hk with ⟨kvs,hk⟩|⟨kvs,hk⟩
    ·obtain ⟨_,_,_,_,o,_,_,e,ex,_⟩:=I.hok p _ hk;exact ⟨o,e,ex⟩
    ·obtain ⟨_,_,_,_,o,_,_,e,ex,_⟩:=I.hok p _ hk;exact ⟨o,e,ex⟩
   obtain ⟨o,e,ex⟩:=z;refine ⟨⟨o,e,ex.1⟩,fun a e2=>?_⟩;cases e2;exact ⟨o,e,ex.2.1⟩
  ·obtain ⟨o,_,_,_,e,ex,_⟩:=I.hok p _ hk;refine ⟨⟨o,e,ex.1⟩,fun a e2=>?_⟩;cases e2;exact ⟨o,e,ex.2.1⟩
 | _=>exact False.elim ty
def tBM (K:W.Frag) (T:String) (r:V->List V->Hp->VK->Prop) (to:TE) (t:TA):TE:=fun σ H Q=>to σ H fun x H1=>tyV K T x H1/\t σ H1 fun xs H2=>r x xs H2 Q
variable {o e:Expr} {es:List Expr} {to:TE} {t:TA} {name:Str} {apos cpos:Pos} {T id:String} {r:V->List V->Hp->VK->Prop}
theorem C1j (pa:PlainAttrs T) (slot:Slot T name id) (hty:typeOf (.builtin id)=pure (.type "method_descriptor")) (hm:MtR X id r) (ho:PE X o to) (ha:PA X (e::es) t)
  (hbase:attributeBase o name X.env (eval o X.env)=eval o X.env:=by rfl)
  (hfew:((backTo cpos (starEach (e::es) X.env)).all (fun x=>!x.1)&&(backToKw cpos (keywordEach [] X.env)).all (fun x=>x.1.isSome)
   && decide ((e::es).length+([]:List Keyword).length+(if ([]:List Keyword).isEmpty then 0 else 1) < 30))=true:=by rfl)
  (hline:(apos.endLine==cpos.line)=true:=by rfl) (hs:starEach (e::es) X.env=(false,eval e X.env)::starEach es X.env:=by rfl) (hplain:(backTo cpos (starEach es X.env)).any (·.1)=false:=by rfl) :
  PE X (.Call (.Attribute o name apos) (e::es) [] cpos) (tBM X.K T r to t):=by
 intro pins s σ H Q I h;refine wpAny_Call_method_late hbase hfew hline rfl (D6 (ho pins s σ H _ I h) fun v s1 ⟨x,H1,I1,r1,ty,q1⟩=>?_);obtain ⟨h1,h2⟩:=D1k I1 r1 ty;refine ⟨T,id,pa,slot,hty,h1,h2,?_⟩;have hA:=ha cpos pins s1 σ H1 _ I1 q1;rw [hs] at hA ⊢;refine Calls.callWith_builtin (by show (false||(backTo cpos (starEach es X.env)).any (·.1))=false;rw [hplain]<;>rfl) (Calls.evalArgs_plain ?_);exact D6 hA fun us s2 ⟨vs,H2,I2,r2,q2⟩=>hm pins s2 σ H2 x vs v us Q I2 r1 r2 q2
/- xs.append(e),list.index on a module's tuple .. are MtR facts of 06m -/
end
def MtM (X:Cx) (id:String) (r:V->List V->Hp->VK->Prop):Prop :=
 ∀ (pins:List (Addr × Obj)) (s:Shared) (σ:St) (H:Hp) (x:V) (xs:List V) (v:Value) (us:List Value) (Q:VK),B4 X pins σ H s->C8 x v->C4 xs us->r x xs H Q ->
  wpAny (model X.prog X.w) X.A (call (.builtin id) (v::us)) (EP X pins σ Q) X.xe s
theorem C4.one {x:V} {us:List Value} (h:C4 [x] us):∃ u,us=[u]/\C8 x u:=by
 cases h with
 | cons r q=>cases q;exact ⟨_,rfl,r⟩
section
variable {X:Cx} {pins:List (Addr × Obj)} {σ:St} {H:Hp} {s:Shared} {l:Addr} {xs ys:List V}
theorem B4.lset {its its':List Value} {n:Nat} {f:Array Value->Array Value} {t':Nat} (I:B4 X pins σ H s) (hH:H l=some (.lst xs))
  (e:s.heap.get? l=some { cls:=.type "list",data:=.seq its.toArray n }) (hf:f its.toArray=its'.toArray) (hv:C4 ys its') (hz:ys.length<=sizeLine) :
  B4 X pins σ (upd H l (.lst ys)) { s with heap:=s.heap.update l (Obj.mapSeq f),toks:=t' }:=by
 have q:=PySem.IsL.update e f;rw [hf] at q;refine I.write (x:=l) (e:=l) (by rw [hH];exact trivial) (.inl rfl) (fun b' u hb hu=>(Heap.get?_update_other s.heap (Obj.mapSeq f) (Ne.symm hb)).trans hu) ⟨_,q⟩ ?_;exact ⟨hz,its',_,hv,q⟩
theorem B4.lnew {its:List Value} {t':Nat} (I:B4 X pins σ H s) (hv:C4 ys its) (hz:ys.length<=sizeLine) :
  B4 X pins σ (upd H s.heap.objs.size (.lst ys)) { s with heap:=s.heap.push { cls:=.type "list",data:=.seq its.toArray },toks:=t' } :=
 I.laid (fun _ _ q=>Heap.get?_push_of_some _ q) (Nat.le_refl _) ⟨hz,its,0,hv,Heap.get?_push_size _ rfl⟩
theorem B4.fresh (I:B4 X pins σ H s):H s.heap.objs.size=none:=I.hok.fresh (Nat.le_refl _)
theorem B4.lstM (I:B4 X pins σ H s) (hH:H l=some (.lst xs)):xs.length<=sizeLine/\∃ (its:List Value) (n:Nat),C4 xs its/\xs.length=its.length/\s.heap.get? l=some { cls:=.type "list",data:=.seq its.toArray n }:=by
 obtain ⟨z,its,n,r,e⟩:=I.hok l _ hH;exact ⟨z,its,n,r,r.length,e⟩
theorem B8i {n:Nat} (h:n<=sizeLine):Builtin.List.listTooLong n=false:=by
 unfold Builtin.List.listTooLong;exact decide_eq_false (by omega)
end
section
variable {X:Cx}
def W9:V->List V->Hp->VK->Prop:=fun x vs H Q=>∃ l xs y,x=.ref l/\vs=[y]/\H l=some (.lst xs)/\xs.length < sizeLine/\Q .non (upd H l (.lst (xs++[y])))
theorem A6l:MtM X "list.append" W9:=by
 intro pins s σ H x vs v us Q I rx rv h;obtain ⟨l,xs,y,rfl,rfl,hH,hz,q⟩:=h;cases rx;obtain ⟨u,rfl,ru⟩:=rv.one;obtain ⟨z,its,n,r,hl,e⟩:=I.lstM hH;refine call_meets F.slot_list_append ⟨_,e,rfl⟩ F.entry_list_append (F.args_list_append_2 _ _) (PySem.list_append l its.toArray n u (by rw [size_toArray];omega)) ⟨e,?_⟩;refine ⟨.non,_,I.lset (its':=its++[u]) hH e (by simp) (r.append (.cons ru .nil)) ?_,rfl,q⟩;rw [length_append,List.length_singleton];omega
def C6j:V->List V->Hp->VK->Prop:=fun x vs H Q=>∃ l b xs zs,x=.ref l/\vs=[.ref b]/\H l=some (.lst xs)/\H b=some (.lst zs)/\xs.length+zs.length<=sizeLine/\Q .non (upd H l (.lst (xs++zs)))
theorem D3q:MtM X "list.extend" C6j:=by
 intro pins s σ H x vs v us Q I rx rv h;obtain ⟨l,b,xs,zs,rfl,rfl,hH,hB,hz,q⟩:=h;cases rx;obtain ⟨u,rfl,ru⟩:=rv.one;cases ru;obtain ⟨z,its,n,r,hl,e⟩:=I.lstM hH;obtain ⟨z2,its2,n2,r2,hl2,e2⟩:=I.lstM hB;have hsz:its.toArray.size+its2.toArray.size<=sizeLine:=by rw [size_toArray,size_toArray];omega
 have hlong:¬ (!its.toArray.isEmpty&&Builtin.List.listTooLong (its.toArray.size+its2.toArray.size))=true:=by
  rw [B8i hsz,Bool.and_false];exact Bool.false_ne_true
 refine call_meets F.slot_list_extend ⟨_,e,rfl⟩ F.entry_list_extend (F.args_list_extend_2 _ _)
  (AutoSeq1.list_extend_list_list_0 l its.toArray n b its2.toArray n2 hlong (by rw [size_toArray];omega) (by omega)) ⟨e,e2,?_⟩
 refine ⟨.non,_,I.lset (its':=its++its2) hH e (by simp) (r.append r2) ?_,rfl,q⟩;rw [length_append];omega
def D6t:R2:=fun x y H Q=>∃ l b xs zs,x=.ref l/\y=.ref b/\H l=some (.lst xs)/\H b=some (.lst zs)/\xs.length+zs.length<=sizeLine/\∀ p,H p=none->Q (.ref p) (upd H p (.lst (xs++zs)))
theorem D2j:T5 X (binaryOp .Add) D6t:=by
 intro pins s σ H x y v u Q I rx ry h;obtain ⟨l,b,xs,zs,rfl,rfl,hH,hB,hz,q⟩:=h;cases rx;cases ry;obtain ⟨z,its,n,r,hl,e⟩:=I.lstM hH;obtain ⟨z2,its2,n2,r2,hl2,e2⟩:=I.lstM hB;refine PySem.P.add_list e e2 ?_ (by rw [size_toArray,size_toArray];omega);have ea:its.toArray++its2.toArray=(its++its2).toArray:=by simp
 rw [ea];exact ⟨.ref _,_,I.lnew (t':=s.toks) (r.append r2) (by rw [length_append];omega),rfl,q _ I.fresh⟩
end
end L2
namespace Att
open PySem PySem.W PySem.Calls PyProof.Rows
theorem A36 {P:Params} {h:Heap}:∀ (ns:List Int) (vs:List Value),WellAll P h vs (ns.map WData.int)->IntsAre vs ns:=by
 intro ns
 induction ns with
 | nil =>
  intro vs w;rw [List.map_nil] at w;cases w;exact .nil
 | cons n ns ih =>
  intro vs w;rw [map_cons] at w;cases w with
  | cons a b =>
   cases a;exact .cons _ _ (ih _ b)
theorem B5m {l:OpenLaw} {n:Nat} (hn:l.most=some n) {P:Params} {h:Heap} {args:List WData} {vals:List Value}
  (hpre:l.row.toRowW.claim.pre args=true) (hwl:WellAll P h vals args) :
  ∃ a vs ns,vals=[Value.ref a]/\args=[WData.list (ns.map WData.int)]/\h.get? a=some { cls:=.type "list",data:=.seq vs.toArray }/\IntsAre vs ns/\ns.length<=n:=by
 have hsh:WShape.hasAll [] args [.list .int]=true:=(pre_splitW hpre).1;have hc:l.pre.holds [] { args:=args }=true:=(pre_splitW hpre).2;obtain ⟨d,r,rfl,h1,h2⟩:=hasAllW_cons hsh;obtain rfl:=hasAllW_nil h2;obtain ⟨xs,rfl,h3⟩:=hasW_list h1;obtain ⟨ns,rfl⟩:=items_int h3;have hlen:ns.length<=n:=by
  unfold OpenLaw.pre at hc;have h4:(WTm.not (.lt (.lit (.int (n:Int))) (.len (.arg 0)))).holds [] { args:=[.list (ns.map .int)] }=true:=by
   have h4:=(holds_andW hc).1;rw [hn] at h4;exact h4
  have h5:=condW_of h4 (w_not (w_lt w_lit (w_len_list (w_arg rfl))));rw [length_map] at h5;refine Nat.le_of_not_lt fun q=>?_;have q':(n:Int) < ((ns.length:Nat):Int):=by omega
  first
   | (rw [decide_eq_true q'] at h5;exact absurd h5 (by decide))
   | (simp at h5;omega)
 cases hwl with
 | cons w1 w2 =>
  cases w2;cases w1 with
  | list ho hall=>exact ⟨_,_,ns,rfl,rfl,ho,A36 ns _ hall,hlen⟩
theorem B7k (l:OpenLaw) (args:List WData):l.row.toRowW.claim.post args (.bool true) args=true :=
 postW_of (r:=l.row.toRowW) (X:=(true==true))
  (show WShape.has [] (.bool true) .bool=true by first|rfl|decide|simp [WShape.has,WShape.arms,WShape.armsAll])
  (show (WTm.eq .res (.lit (.bool true))).value [] { args:=args,res:=some (.bool true),after:=args }=some (.bool (true==true)) from w_eq_bool (w_res rfl) w_lit) rfl
theorem attach_call {l:OpenLaw} {n:Nat} {q:Program} {loose:List Str} {XP:(Str->Option Value)->Heap->Prop} {YP:World->Heap->Prop} {d:DefRec}
  (hn:l.most=some n) (hdf:d.params.defaults=[])
  (call:∀ (w:World) (s₀ s₁:Shared) (mg mb:Str->Option Value) (fa:Addr) (o:Obj) (pm cd doc:Value) (a:Addr) (vs:List Value) (ns:List Int),
   Ground q loose [] XP w s₀ mg mb s₁.heap->YP w s₁.heap ->
   s₁.heap.get? fa=some o->o.data=.func (docDef d.name d.params d.body d.scope pm cd doc)->s₁.heap.CodeRec cd d.name->mg d.name=some (.ref fa) ->
   s₁.heap.get? a=some { cls:=.type "list",data:=.seq vs.toArray }->IntsAre vs ns->ns.length<=n->s₁.gens=#[] ->
   codeAny (model l.prog w) callerA (.call (.ref fa) ⟨[.ref a],[]⟩) (fun r s'=>r=.ok (.ret (.bool true))/\OldK s₁.heap s'.heap/\s'.os=s₁.os/\AllBare s'.gens) s₁) :
  WalkO q loose XP YP l.row.toRowW d [] (fun f vs=>PySem.call f vs):=by
 intro w s₀ s₁ mg mb G Y fa o pm cd doc dV kV ho hd hcd hD hmg hg args vals as hpre hlay hrd hwl hlo;obtain rfl:dV=.none:=Dflts.none hD hdf;obtain rfl:kV=.none:=Dflts.noKw hD;obtain ⟨a,vs,ns,rfl,rfl,hobj,hints,hlen⟩:=B5m hn hpre hwl;refine enter_call (codeAny_mono (call w s₀ s₁ mg mb fa o pm cd doc a vs ns G Y ho (fd_plain hd) hcd hmg hobj hints hlen hg) fun r s' hq=>?_);obtain ⟨rfl,h2,h3,h4⟩:=hq;exact ⟨.inl ⟨.bool true,.bool true,[],rfl,fun _=>rfl,.bool true,B7k l _,fun _=>⟨List.Pairwise.nil,fun _ hm=>(nomatch hm)⟩⟩,h2,h3,h4⟩
end Att
namespace L2
open PySem PySem.Spec PyProof.Rows
theorem A6q:∀ {vs:List Value} {ns:List Int},IntsAre vs ns->C4 (ns.map V.int) vs
 | _,_,.nil=>.nil
 | _,_,.cons n t h=>.cons ⟨t,rfl⟩ (A6q h)
def D10 (H:Hp):Prop:=∀ b,H b=none\/∃ o xs,H b=some (.frz o (.lst xs))
theorem B96 {P:Program} {w:World} {K:W.Frag} {mg mb:Str->Option Value} {CX:CXT} {k:Nat} {fa a:Addr} {fd:FuncData} {x:Str} {sp:Sp} {s₁:Shared} {vs:List Value} {ns:List Int}
  (KX:K.In s₁.heap) (hns:s₁.heap.Ns mainGlobals mg) (hb:s₁.heap.Ns builtinsNs mb) (hbb:∀ x:Str,x≠"__name__"->mb x=bootBuiltins x) (hlim:s₁.heap.NoLimit) (hse:s₁.heap.NoSeer) (hg:s₁.gens=#[])
  (ha:s₁.heap.get? a=some { cls:=.type "list",data:=.seq vs.toArray }) (hi:IntsAre vs ns) (hl:ns.length<=sizeLine) (hr:O0 k callerA)
  (F:∀ base:Heap,K.In base->base.Ns mainGlobals mg->G6 P w K mg base CX k fa fd [x] sp) (hbind:∀ (s:Shared) (u:Value),BindsTo s fd ⟨[u],[]⟩ [(x,u)])
  (hsp:∀ H:Hp,D10 H->L4 K H a (ns.map V.int)->sp [.ref a] H (fun v _=>v=.bl true) fun _ _ _=>False)
  (hCX:∀ H e s',CX [] H s₁ (fun _ _ _=>False) e s'->False) :
  codeAny (model P w) callerA (.call (.ref fa) ⟨[.ref a],[]⟩) (fun r s'=>r=.ok (.ret (.bool true))/\OldK s₁.heap s'.heap/\s'.os=s₁.os/\AllBare s'.gens) s₁:=by
 have rv:=A6q hi;have lenV:=hi.length;have core:∀ H:Hp,D10 H->L4 K H a (ns.map V.int)->HOk P w H s₁.heap->(∀ b,H b≠none->b=a)->(H a≠none->K.lookup a=none) ->
   codeAny (model P w) callerA (.call (.ref fa) ⟨[.ref a],[]⟩) (fun r s'=>r=.ok (.ret (.bool true))/\OldK s₁.heap s'.heap/\s'.os=s₁.os/\AllBare s'.gens) s₁:=by
  intro H hO hS hok hA hK;have base_of:∀ {b:Addr} {o:Obj},s₁.heap.get? b=some o->H b=none->(A5g s₁.heap H).get? b=some o:=fun e n=>C0h e n;have noA:∀ {b:Addr} {o:Obj} {es:Array DictEntry} {ep:Nat},s₁.heap.get? b=some o->o.data=.dict es ep->H b=none:=fun {b o es ep} e d=>by
   cases q:H b with
   | none=>rfl
   | some u =>
    have e':b=a:=hA b (by rw [q];simp);subst e';rw [ha] at e;cases e;have d':Data.seq vs.toArray _=Data.dict es ep:=d;cases d'
  have nsK:∀ {b:Addr} {m:Str->Option Value},s₁.heap.Ns b m->(A5g s₁.heap H).Ns b m:=fun {b m} ⟨o,es,ep,e,d,r⟩=>⟨o,es,ep,base_of e (noA e d),d,r⟩;have hKb:K.In (A5g s₁.heap H):=fun b o e=>base_of (KX b o e) (by
   cases q:H b with
   | none=>rfl
   | some u =>
    have e':b=a:=hA b (by rw [q];simp);subst e';rw [hK (by rw [q];simp)] at e;cases e)
  have seK:(A5g s₁.heap H).NoSeer:=⟨let ⟨mc,h1,h2⟩:=hse.statics;⟨mc,nsK h1,h2⟩,let ⟨mm,h1,h2⟩:=hse.mods;⟨mm,nsK h1,h2⟩,let ⟨mx,h1,h2⟩:=hse.imp;⟨mx,nsK h1,h2⟩,by
   obtain ⟨mx,bm,ob,h1,h2,h3,h4,h5⟩:=hse.main;refine ⟨mx,bm,ob,nsK h1,h2,base_of h3 ?_,h4,h5⟩;cases q:H bm with
   | none=>rfl
   | some u =>
    have e':bm=a:=hA bm (by rw [q];simp);subst e';rw [ha] at h3;cases h3;exact absurd (show (Value.type "list")=.type "module" from h4) (by decide)⟩
  have hM:Mod K mg (A5g s₁.heap H):=⟨hKb,nsK hns,⟨mb,nsK hb,hbb⟩,let ⟨mc,h1,h2⟩:=hlim;⟨mc,nsK h1,h2⟩,seK⟩;have e0:B0w P w K mg (A5g s₁.heap H) callerA [] s₁ H:=⟨rfl,hM,fun b o e=>C5f e,Nat.le_of_eq (B5e _ _),trivial,fun b hb=>absurd (show b∈([]:List Addr) from hb) (by simp),hok,.of_eq hg⟩;refine codeAny_mono ((F _ hKb (nsK hns)).run callerA [] s₁ H ⟨[.ref a],[]⟩ [.ref a] [.ref a] _ _ hr e0 (hbind s₁ (.ref a)) (.cons rfl .nil) (hsp H hO hS)) fun r s' h=>?_;cases r with
  | error e=>exact (hCX H e s' h).elim
  | ok fl =>
   cases fl with
   | next=>exact False.elim h
   | brk=>exact False.elim h
   | cont=>exact False.elim h
   | ret u =>
    obtain ⟨v,H',os,bare,un,hok',r',q⟩:=h;have q':v=.bl true:=q;subst q';obtain rfl:u=Value.bool true:=r';refine ⟨rfl,OldK.of_keep fun b o e=>?_,os,bare⟩;cases q:H b with
    | none=>exact un.keep b o e q (by intro z;exact absurd (show b∈([]:List Addr) from z) (by simp)) (by simp)
    | some u =>
     rcases hO b with z|⟨ob,xs,z⟩
     ·rw [q] at z;cases z
     ·have z2:=un.frzs b ob _ z;obtain ⟨e1,_⟩:=hok b _ z;obtain ⟨e2,_⟩:=hok' b _ z2;rw [e] at e1;cases e1;exact e2
 cases hk:K.lookup a with
 | some o =>
  have e:=KX a o hk;rw [ha] at e;cases e;refine core (fun _=>none) (fun _=>.inl rfl) (.inr ⟨_,vs.toArray,_,hk,rfl,rfl,rfl,by rw [size_toArray,lenV];exact hl,by simpa using rv⟩) (fun b u z=>by have z':(none:Option HO)=some u:=z;cases z') (fun b z=>absurd rfl z) fun z=>absurd rfl z
 | none =>
  refine core (fun b=>if b=a then some (.frz { cls:=.type "list",data:=.seq vs.toArray } (.lst (ns.map V.int))) else none) (fun b=>?_) (.inl (.inr ⟨{ cls:=.type "list",data:=.seq vs.toArray },if_pos rfl⟩)) (fun b u z=>?_) (fun b z=>?_) fun _=>hk
  ·by_cases hb:b=a
   ·exact .inr ⟨_,_,if_pos hb⟩
   ·exact .inl (if_neg hb)
  ·by_cases hb:b=a
   ·have z':=(if_pos hb).symm.trans z;cases z';subst hb;exact ⟨ha,by rw [length_map];exact hl,vs,_,rv,ha⟩
   ·have z':=(if_neg hb).symm.trans z;cases z'
  ·by_cases hb:b=a
   ·exact hb
   ·exact absurd (if_neg hb) z
theorem C4m {l:PySem.W.OpenLaw} {n k:Nat} {q:Program} {loose:List Str} {XP:(Str->Option Value)->Heap->Prop} {YP:World->Heap->Prop} {d:DefRec} {K:Params->W.Frag} {CX:World->CXT} {sp:World->Sp} {x:Str}
  (hn:l.most=some n) (hn2:n<=sizeLine) (hdf:d.params.defaults=[]) (hr:O0 k callerA) (hi:importsNone q=true)
  (hY:∀ (w:World) (h:Heap),YP w h->(K w.params).In h)
  (F:∀ (w:World) (mg:Str->Option Value) (fa:Addr) (h:Heap),(K w.params).In h->h.Ns mainGlobals mg->mg d.name=some (.ref fa) ->
   ∃ fd:FuncData,(∀ (s:Shared) (u:Value),BindsTo s fd ⟨[u],[]⟩ [(x,u)]) /\
    ∀ base:Heap,(K w.params).In base->base.Ns mainGlobals mg->G6 l.prog w (K w.params) mg base (CX w) k fa fd [x] (sp w))
  (hsp:∀ (w:World) (H:Hp) (a:Addr) (ns:List Int),ns.length<=n->D10 H->L4 (K w.params) H a (ns.map V.int)->sp w [.ref a] H (fun v _=>v=.bl true) fun _ _ _=>False)
  (hCX:∀ (w:World) (H:Hp) (s:Shared) (e:Value) (s':Shared),CX w [] H s (fun _ _ _=>False) e s'->False) :
  PySem.W.WalkO q loose XP YP l.row.toRowW d [] (fun f vs=>PySem.call f vs):=by
 refine Att.attach_call hn hdf fun w s₀ s₁ mg mb fa o pm cd doc a vs ns G Y ho hd hcd hmg hobj hints hlen hg=>?_;have KX:=hY w _ Y;obtain ⟨fd,hb,hF⟩:=F w mg fa _ KX G.T.g hmg;exact B96 KX G.T.g G.T.b G.T.builtins G.T.nolimit (G.T.seer hi) hg hobj hints (Nat.le_trans hlen hn2) hr hF hb (fun H hO hS=>hsp w H a ns hlen hO hS) fun H e s'=>hCX w H s₁ e s'
def X1 (s:Stmt):Arguments:=match s with
 | .FunctionDef _ a _ _ _ _ _ _ _ _=>a
 | _=>{ posonlyargs:=[],args:=[],vararg:=none,kwonlyargs:=[],kw_defaults:=[],kwarg:=none,defaults:=[] }
def M5 (s:Stmt):List Stmt:=match s with
 | .FunctionDef _ _ b _ _ _ _ _ _ _=>b
 | _=>[]
def A9 (s:Stmt):Scope:=match s with
 | .FunctionDef _ _ _ _ _ _ sc _ _ _=>sc
 | _=>{ kind:=.function,names:=[],isGenerator:=false,isCoroutine:=false }
abbrev X6:CXT:=fun _ _ _ _ _ _=>False
abbrev E0:XK:=fun _ _ _=>False
theorem D64 {X:Cx}:A0w X6 X E0:=fun _ _ _ _ _ _ _ h=>h.elim
structure U3 (K:W.Frag) (x qual:Str) (st:Stmt) (f:Addr) (fd:FuncData):Prop where
 ex:∃ (oc:Value) (od:Option Addr) (kV doc pm:Value) (an:Option Addr) (cdv ct:Value) (osl:Array (Option Value)),
  fd=PySem.W.fnOf x qual (X1 st) (M5 st) (A9 st) .none kV doc pm an cdv ct/\K.lookup f=some ⟨oc,od,.func fd,osl⟩/\PySem.W.codeIn K cdv qual=true
 kp:PySem.W.keepIn K (.ref f)=true
section
variable {P:Program} {w:World} {K:W.Frag} {mg:Str->Option Value} {base:Heap}
theorem U3.ok {x qual:Str} {st:Stmt} {f:Addr} {fd:FuncData} {N ps:List Str} {k:Nat} {sp:Sp} (F:U3 K x qual st f fd) (S:B8 N ps (A9 st)) (len:∀ vs H Q E,sp vs H Q E->vs.length=ps.length)
  (hbody:∀ (cdv:Value) (A:Around) (outer:List Env) (s:Shared) (H:Hp) (vs:List V) (Q:VK) (E:XK),O0 k (A.deeper (envOfC qual (A9 st) s.heap.objs.size f cdv))->sp vs H Q E ->
   ∃ t,PSs (A02 X6 P w K mg base N qual (A9 st) f cdv A outer s H E).nox (M5 st) t/\t { nx:=fun _ H'=>Q .non H',rt:=Q } (start N vs) H):G6 P w K mg base X6 (k+1) f fd ps sp:=by
 obtain ⟨oc,od,kV,doc,pm,an,cdv,ct,osl,rfl,lk,hcd⟩:=F.ex;refine C82 lk hcd S len fun A outer s H vs Q E hr hsp=>?_;obtain ⟨t,h,q⟩:=hbody cdv A outer s H vs Q E hr hsp;exact ⟨t,h.nox,q⟩
theorem U3.binds {x qual:Str} {st:Stmt} {f:Addr} {fd:FuncData} {ps:List Str} (F:U3 K x qual st f fd)
  (h:∀ (kV doc pm:Value) (an:Option Addr) (cdv ct:Value) (us:List Value),us.length=ps.length->bindArgs (PySem.W.fnOf x qual (X1 st) (M5 st) (A9 st) .none kV doc pm an cdv ct) ⟨us,[]⟩=pure (ps.zip us)):A2z K fd ps []:=by
 obtain ⟨oc,od,kV,doc,pm,an,cdv,ct,osl,rfl,lk,hcd⟩:=F.ex;exact .all (h kV doc pm an cdv ct)
theorem B83 {x qual:Str} {st:Stmt} {f:Addr} {oc:Value} {od an:Option Addr} {osl:Array (Option Value)} {kV doc pm cdv ct:Value} (l:K.lookup f=some ⟨oc,od,.func (PySem.W.fnOf x qual (X1 st) (M5 st) (A9 st) .none kV doc pm an cdv ct),osl⟩)
  (c:PySem.W.codeIn K cdv qual=true) (k:PySem.W.keepIn K (.ref f)=true):U3 K x qual st f (PySem.W.fnOf x qual (X1 st) (M5 st) (A9 st) .none kV doc pm an cdv ct):=⟨⟨oc,od,kV,doc,pm,an,cdv,ct,osl,rfl,l,c⟩,k⟩
end
section
variable {X:Cx}
theorem pv (i:Nat) {x:Str} {pos:Pos} (hN:X.N[i]?=some x:=by rfl) (hv:Vis X.env.scope x:=by first|exact Or.inl rfl|exact Or.inr (Or.inl rfl)|exact Or.inr (Or.inr rfl)) (hd:(x==("__debug__":Str))=false:=by decide)
  (hcd:(x==("__classdict__":Str))=false:=by decide):PE X (.Name x pos) (V4 i):=D00 hN hv hd hcd
end
theorem B7h {c A B:Prop} [Decidable c] (h1:c->A) (h2:¬ c->B):if c then A else B:=by
 by_cases h:c
 ·rw [if_pos h];exact h1 h
 ·rw [if_neg h];exact h2 h
def A7 (H H':Hp):Prop:=∀ b o,H b=some o->H' b=some o
theorem A7.refl (H:Hp):A7 H H:=fun _ _ h=>h
theorem A7.trans {H H1 H2:Hp} (a:A7 H H1) (b:A7 H1 H2):A7 H H2:=fun c o h=>b c o (a c o h)
theorem A7.free {H H':Hp} (e:A7 H H') {l:Addr} (h:H' l=Option.none):H l=Option.none:=by
 cases q:H l with
 | none=>rfl
 | some o =>
  rw [e l o q] at h;cases h
theorem A7.seq {K:W.Frag} {H H':Hp} {a:Addr} {xs:List V} (e:A7 H H') (h:L4 K H a xs):L4 K H' a xs:=by
 rcases h with (h|⟨o,h⟩)|h
 ·exact .inl (.inl (e _ _ h))
 ·exact .inl (.inr ⟨o,e _ _ h⟩)
 ·exact .inr h
section
variable {κ:Type} [DecidableEq κ]
def U6 (kvs:List (κ × V)) (k:κ):Option V:=(kvs.find? fun kv=>decide (kv.1=k)).map (·.2)
def A05 (kvs:List (κ × V)) (k:κ) (v:V):List (κ × V) :=
 if (kvs.any fun kv=>decide (kv.1=k))=true then kvs.map (fun kv=>if kv.1=k then (kv.1,v) else kv) else kvs++[(k,v)]
theorem A48 {p:κ × V} {r:List (κ × V)} {k:κ} (e:p.1=k):U6 (p::r) k=some p.2:=by simp [U6,List.find?_cons,e]
theorem A4h {p:κ × V} {r:List (κ × V)} {k:κ} (e:¬ p.1=k):U6 (p::r) k=U6 r k:=by simp [U6,List.find?_cons,e]
theorem B0a (k:κ):∀ kvs:List (κ × V),(kvs.any fun kv=>decide (kv.1=k))=(U6 kvs k).isSome
 | []=>rfl
 | p::r=>by
  rw [any_cons];by_cases e:p.1=k
  ·simp only [A48 e,decide_eq_true e,Bool.true_or,Option.isSome_some]
  ·rw [A4h e,decide_eq_false e,Bool.false_or];exact B0a k r
theorem Z3 (kvs:List (κ × V)) (k:κ) (v:V):(A05 kvs k v).length<=kvs.length+1:=by
 unfold A05;split
 ·rw [length_map];omega
 ·rw [length_append,length_cons,List.length_nil];omega
theorem A4z.isSome_eq {o:Option V} {u:Option Value} (r:A4z o u):o.isSome=u.isSome:=by
 cases o with
 | none=>cases u with
  | none=>rfl
  | some _=>exact (show False from r).elim
 | some _=>cases u with
  | none=>exact (show False from r).elim
  | some _=>rfl
theorem KV.val {kvs:List (κ × V)} {vs:List (κ × Value)} (r:KV kvs vs) (k:κ):A4z (U6 kvs k) (valueAt vs k):=by
 unfold KV at r
 induction r with
 | nil=>exact True.intro
 | @cons p q ps qs h t ih =>
  obtain ⟨h1,h2⟩:=h;by_cases e:p.1=k
  ·have e':q.1=k:=h1.symm.trans e;have b:valueAt (q::qs) k=some q.2:=by simp [valueAt,List.find?_cons,e']
   rw [A48 e,b];exact h2
  ·have e':¬ q.1=k:=fun z=>e (h1.trans z);have b:valueAt (q::qs) k=valueAt qs k:=by simp [valueAt,List.find?_cons,e']
   rw [A4h e,b];exact ih
theorem KV.any {kvs:List (κ × V)} {vs:List (κ × Value)} (r:KV kvs vs) (k:κ):(kvs.any fun kv=>decide (kv.1=k))=vs.any fun kv=>decide (kv.1=k):=by
 unfold KV at r
 induction r with
 | nil=>rfl
 | cons h t ih=>rw [any_cons,any_cons,ih,h.1]
theorem KV.repl {kvs:List (κ × V)} {vs:List (κ × Value)} (r:KV kvs vs) (k:κ) {y:V} {u:Value} (ry:C8 y u) :
  KV (kvs.map fun kv=>if kv.1=k then (kv.1,y) else kv) (vs.map fun kv=>if kv.1=k then (kv.1,u) else kv):=by
 unfold KV at r ⊢
 induction r with
 | nil=>exact .nil
 | @cons p q ps qs h t ih =>
  rw [map_cons,map_cons];refine .cons ?_ ih;obtain ⟨h1,h2⟩:=h;by_cases e:p.1=k
  ·rw [if_pos e,if_pos (h1.symm.trans e)];exact ⟨h1,ry⟩
  ·rw [if_neg e,if_neg (fun z=>e (h1.trans z))];exact ⟨h1,h2⟩
theorem KV.put {kvs:List (κ × V)} {vs:List (κ × Value)} (r:KV kvs vs) (k:κ) {y:V} {u:Value} (ry:C8 y u):KV (A05 kvs k y) (stored vs k u):=by
 unfold A05 stored;rw [r.any k];by_cases e:(vs.any fun kv=>decide (kv.1=k))=true
 ·rw [if_pos e,if_pos e];exact r.repl k ry
 ·rw [if_neg e,if_neg e];exact Paired.snoc r ⟨rfl,ry⟩
theorem KV.length {kvs:List (κ × V)} {vs:List (κ × Value)} (r:KV kvs vs):kvs.length=vs.length:=Paired.length r
end
theorem B06 {P:Program} {w:World} {k:C2} {u:Value} (r:C8 (kV k) u):(J1 P w).is k u=true:=by
 cases k with
 | inl i=>obtain ⟨t,e⟩:=(show ∃ t,u=Value.int i t from r);subst e;exact B0s P w i t
 | inr x=>obtain ⟨t,e⟩:=(show ∃ t,u=Value.str x t from r);subst e;exact A9m P w x t
theorem A6c {P:Program} {w:World}:∀ {ks:List C2} {us:List Value},C4 (ks.map kV) us->ItemsAre (J1 P w) ks us
 | [],_,r=>by rw [List.map_nil] at r;cases r;exact .nil
 | k::ks,_,r=>by
  rw [map_cons] at r;cases r with
  | cons h t=>exact .cons (B06 h) (A6c t)
abbrev KT (H:Hp):List (List C2 × V)->List (List C2 × Addr × Value)->Prop:=Paired fun p q=>p.1=q.1/\H q.2.1=some (.tup (p.1.map kV))/\C8 p.2 q.2.2
theorem KT.val {H:Hp} {kvs:List (List C2 × V)} {xs:List (List C2 × Addr × Value)} (r:KT H kvs xs) (k:List C2):A4z (U6 kvs k) ((atKey xs k).map (·.2)):=by
 induction r with
 | nil=>exact True.intro
 | @cons p q ps qs h t ih =>
  obtain ⟨h1,_,h2⟩:=h;by_cases e:p.1=k
  ·have e':q.1=k:=h1.symm.trans e;have b:atKey (q::qs) k=some q.2:=by simp [atKey,List.find?_cons,e']
   rw [A48 e,b];exact h2
  ·have e':¬ q.1=k:=fun z=>e (h1.trans z);have b:atKey (q::qs) k=atKey qs k:=by simp [atKey,List.find?_cons,e']
   rw [A4h e,b];exact ih
theorem KT.repl {H:Hp} {kvs:List (List C2 × V)} {xs:List (List C2 × Addr × Value)} (r:KT H kvs xs) (k:List C2) {y:V} {u:Value} (ry:C8 y u) :
  KT H (kvs.map fun kv=>if kv.1=k then (kv.1,y) else kv) (xs.map (putAt k u)):=by
 induction r with
 | nil=>exact .nil
 | @cons p q ps qs h t ih =>
  rw [map_cons,map_cons];refine .cons ?_ ih;obtain ⟨h1,h2,h3⟩:=h;unfold putAt;by_cases e:p.1=k
  ·rw [if_pos e,if_pos (h1.symm.trans e)];exact ⟨h1,h2,ry⟩
  ·rw [if_neg e,if_neg (fun z=>e (h1.trans z))];exact ⟨h1,h2,h3⟩
theorem KT.put {H:Hp} {kvs:List (List C2 × V)} {xs:List (List C2 × Addr × Value)} (r:KT H kvs xs) (k:List C2) {b:Addr} {y:V} {u:Value} (hb:H b=some (.tup (k.map kV))) (ry:C8 y u) :
  KT H (A05 kvs k y) (storedH xs k b u):=by
 have e:(kvs.any fun kv=>decide (kv.1=k))=(atKey xs k).isSome:=by
  rw [B0a,(r.val k).isSome_eq,Option.isSome_map]
 unfold A05 storedH;rw [e];by_cases q:(atKey xs k).isSome=true
 ·rw [if_pos q,if_pos q];exact r.repl k ry
 ·rw [if_neg q,if_neg q];exact Paired.snoc r ⟨rfl,hb,ry⟩
theorem KT.keeps {H H':Hp} {kvs:List (List C2 × V)} {xs:List (List C2 × Addr × Value)} (r:KT H kvs xs) (ht:∀ b ys,H b=some (.tup ys)->H' b=some (.tup ys)):KT H' kvs xs :=
 Paired.mapP r fun _ _ z=>⟨z.1,ht _ _ z.2.1,z.2.2⟩
section
variable {P:Program} {w:World} {H:Hp} {h:Heap} {a:Addr}
theorem C7q {u:HO} (ok:HOk P w H h) (e:Rd H a u):E1 P w H h a u:=e.ok ok
theorem B54 {kvs:List (C2 × V)} (ok:HOk P w H h) (e:Rd H a (.dK kvs)):kvs.length<=sizeLine/\(a==sysModules)=false/\∃ vs,KV kvs vs/\h.DictOf (J1 P w) a vs :=
 show E1 P w H h a (.dK kvs) from C7q ok e
theorem C1x {kvs:List (C2 × V)} (ok:HOk P w H h) (e:H a=some (.dK kvs)):kvs.length<=sizeLine/\(a==sysModules)=false/\∃ vs,KV kvs vs/\h.DictOf (J1 P w) a vs:=B54 ok (.inl e)
theorem A77 {ks:List C2} (ok:HOk P w H h) (e:H a=some (.tup (ks.map kV))):(tupleKind (J1 P w)).is h ks a:=by
 obtain ⟨_,its,r,o,h1,h2,n,h3⟩:=(show E1 P w H h a (.tup (ks.map kV)) from ok a _ e);exact ⟨o,its.toArray,n,h1,h2,h3,by simpa using A6c r⟩
theorem B3u {kvs:List (List C2 × V)} (ok:HOk P w H h) (e:Rd H a (.dT kvs)):kvs.length<=sizeLine/\(a==sysModules)=false /\
  ∃ xs,KT H kvs xs/\h.DictOfH (tupleKind (J1 P w)) a xs:=by
 obtain ⟨z,y,xs,r,o,es,ep,h1,h2,h3,h4,h5⟩:=(show E1 P w H h a (.dT kvs) from C7q ok e);refine ⟨z,y,xs,r,o,es,ep,h1,h2,h3,h4,fun x hx=>?_,h5⟩;have all:∀ {l:List (List C2 × V)} {m:List (List C2 × Addr × Value)},KT H l m->∀ x∈m,(tupleKind (J1 P w)).is h x.1 x.2.1:=by
  intro l m q
  induction q with
  | nil=>intro x hx;exact nomatch hx
  | @cons p q ps qs hq t ih =>
   intro x hx;rcases mem_cons.mp hx with e|hx
   ·subst e;exact A77 ok (by rw [<-hq.1];exact hq.2.1)
   ·exact ih x hx
 exact all r x hx
theorem C85 {kvs:List (List C2 × V)} (ok:HOk P w H h) (e:H a=some (.dT kvs)):kvs.length<=sizeLine/\(a==sysModules)=false /\
  ∃ xs,KT H kvs xs/\h.DictOfH (tupleKind (J1 P w)) a xs:=B3u ok (.inl e)
end
def A0k (H:Hp) (a:Addr) (y:V) (r:Option V):Prop :=
 (∃ kvs k,Rd H a (.dK kvs)/\y=kV k/\r=U6 kvs k)\/∃ kvs k b,Rd H a (.dT kvs)/\y=.ref b/\H b=some (.tup (k.map kV))/\r=U6 kvs k
def B0x (H:Hp) (a:Addr) (y v:V) (H':Hp):Prop :=
 (∃ kvs k,H a=some (.dK kvs)/\y=kV k/\kvs.length < sizeLine/\H'=upd H a (.dK (A05 kvs k v))) \/
 ∃ kvs k b,H a=some (.dT kvs)/\y=.ref b/\H b=some (.tup (k.map kV))/\kvs.length < sizeLine/\H'=upd H a (.dT (A05 kvs k v))
theorem A0k.k {H:Hp} {a:Addr} {kvs:List (C2 × V)} {k:C2} (e:H a=some (.dK kvs)):A0k H a (kV k) (U6 kvs k):=.inl ⟨kvs,k,.inl e,rfl,rfl⟩
theorem A0k.t {H:Hp} {a b:Addr} {kvs:List (List C2 × V)} {k:List C2} (e:H a=some (.dT kvs)) (eb:H b=some (.tup (k.map kV))):A0k H a (.ref b) (U6 kvs k):=.inr ⟨kvs,k,b,.inl e,rfl,eb,rfl⟩
theorem B0x.k {H:Hp} {a:Addr} {kvs:List (C2 × V)} {k:C2} {v:V} (e:H a=some (.dK kvs)) (hl:kvs.length < sizeLine):B0x H a (kV k) v (upd H a (.dK (A05 kvs k v))):=.inl ⟨kvs,k,e,rfl,hl,rfl⟩
theorem B0x.t {H:Hp} {a b:Addr} {kvs:List (List C2 × V)} {k:List C2} {v:V} (e:H a=some (.dT kvs)) (eb:H b=some (.tup (k.map kV))) (hl:kvs.length < sizeLine) :
  B0x H a (.ref b) v (upd H a (.dT (A05 kvs k v))):=.inr ⟨kvs,k,b,e,rfl,eb,hl,rfl⟩
section
variable {X:Cx} {pins:List (Addr × Obj)} {σ:St} {H:Hp} {s:Shared} {a:Addr} {y v:V} {u r:Value} {o:Option V} {A:Around} {E:Value->Shared->Prop}
theorem B4.big (I:B4 X pins σ H s):sysModules < s.heap.objs.size:=by
 have h:mainGlobals < s.heap.objs.size:=(I.mod.glob.keeps I.bk).lt;exact Nat.lt_trans (by decide) h
theorem B68 {Q:Value->Shared->Prop} (hu:A.units+1 < cLine) (I:B4 X pins σ H s) (g:A0k H a y (some v)) (ry:C8 y u) (h:∀ w' s',B4 X pins σ H s'->C8 v w'->Q w' s') :
  wpAny (model X.prog X.w) A (getItem (.ref a) u) Q E s:=by
 rcases g with ⟨kvs,k,e,ey,l⟩|⟨kvs,k,b,e,ey,eb,l⟩
 ·subst ey;obtain ⟨z,hd,vs,rel,dd⟩:=B54 I.hok e;obtain ⟨w',hw,rw'⟩:=A4z.some_of (v:=v) (o:=valueAt vs k) (by rw [l];exact rel.val k);exact wpAny_getItem_of (B06 ry) dd.mapOf hw (h w' _ (I.tok _) rw')
 ·subst ey;cases (show u=Value.ref b from ry);obtain ⟨z,hd,xs,rel,dd⟩:=B3u I.hok e;obtain ⟨w',hw,rw'⟩:=A4z.some_of (v:=v) (o:=(atKey xs k).map (·.2)) (by rw [l];exact rel.val k);obtain ⟨p,hp,hp2⟩:=Option.map_eq_some_iff.mp hw;refine wpAny_getItem_heap (tupleKind_room_in1 hu) (A77 I.hok eb) dd hp ?_;rw [hp2];exact h w' _ (I.tok _) rw'
theorem D98 {Q:Value->Shared->Prop} (hu:A.units+1 < cLine) (I:B4 X pins σ H s) (g:A0k H a y o) (ry:C8 y u) (h:∀ s',B4 X pins σ H s'->Q (.bool o.isSome) s') :
  wpAny (model X.prog X.w) A (compareOp .In u (.ref a)) Q E s:=by
 rcases g with ⟨kvs,k,e,ey,l⟩|⟨kvs,k,b,e,ey,eb,l⟩
 ·subst ey;obtain ⟨z,hd,vs,rel,dd⟩:=B54 I.hok e;refine wpAny_in_of (B06 ry) hd dd.mapOf ?_;rw [<-(rel.val k).isSome_eq,<-l];exact h _ (I.tok _)
 ·subst ey;cases (show u=Value.ref b from ry);obtain ⟨z,hd,xs,rel,dd⟩:=B3u I.hok e;refine wpAny_in_heap (tupleKind_room_in1 hu) (A77 I.hok eb) hd dd ?_;have q:=(rel.val k).isSome_eq;rw [Option.isSome_map] at q;rw [<-q,<-l];exact h _ (I.tok _)
theorem A7x {h':Heap} {t':Nat} {ob:HO} (I:B4 X pins σ H s) (mu:Mut (H a)) (hs:Heap.SameBut a s.heap h') (he:∃ q,h'.get? a=some q) (new:E1 X.prog X.w (upd H a ob) h' a ob) :
  B4 X pins σ (upd H a ob) { s with heap:=h',toks:=t' } :=
 I.write (x:=a) (e:=a) mu (.inl rfl) (fun b q hb z=>(hs.2 b hb).trans z) he new
theorem B99 {P:Program} {w:World} {H':Hp} {h':Heap} {kvs:List (C2 × V)} {vs:List (C2 × Value)} (z:kvs.length<=sizeLine) (hd:(a==sysModules)=false) (rel:KV kvs vs) (dd:h'.DictOf (J1 P w) a vs) :
  E1 P w H' h' a (.dK kvs):=⟨z,hd,vs,rel,dd⟩
theorem B6m {H':Hp} {Q:Unit->Shared->Prop} (hu:A.units+1 < cLine) (I:B4 X pins σ H s) (g:B0x H a y v H') (ry:C8 y u) (rv:C8 v r) (h:∀ s',B4 X pins σ H' s'->Q () s') :
  wpAny (model X.prog X.w) A (setItem (.ref a) u r) Q E s:=by
 rcases g with ⟨kvs,k,e,ey,l,eH⟩|⟨kvs,k,b,e,ey,eb,l,eH⟩
 ·subst ey eH;obtain ⟨z,hd,vs,rel,dd⟩:=C1x I.hok e;have hz:vs.length<=sizeLine:=by rw [<-rel.length];exact z
  have hl:(A05 kvs k v).length<=sizeLine:=by have:=Z3 kvs k v;omega
  refine wpAny_setItem_pairs (hsz:=hz) (B06 ry) dd fun h' dd' hs=>h _ ?_;have he:∃ q,h'.get? a=some q:=let ⟨q,_,_,hq,_⟩:=dd';⟨q,hq⟩
  exact A7x I (by rw [e];exact True.intro) hs he (B99 hl hd (rel.put k rv) dd')
 ·subst ey eH;cases (show u=Value.ref b from ry);obtain ⟨z,hd,xs,rel,dd⟩:=C85 I.hok e;have hz:xs.length<=sizeLine:=by rw [<-Paired.length rel];exact z
  have hl:(A05 kvs k v).length<=sizeLine:=by have:=Z3 kvs k v;omega
  refine wpAny_setItem_heap (hsz:=hz) (tupleKind_room_in1 hu) (A77 I.hok eb) dd fun h' dd' hs=>h _ ?_;obtain ⟨q,es,ep,hq,h2,h3,h4,_,h5⟩:=dd';refine A7x I (by rw [e];exact True.intro) hs ⟨q,hq⟩ ⟨hl,hd,_,(rel.put k eb rv).keeps fun c ys ec=>?_,q,es,ep,hq,h2,h3,h4,h5⟩;rw [B1 (B14 ec e (fun z=>nomatch z))];exact ec
end
def C40 (i:Expr):Prop:=∀ ov iv,subscripted i false ov iv=operate [ov,iv] (getItem ov iv)
theorem C74 {prog:Program} {w:World} {A:Around} {E:Value->Shared->Prop} {s:Shared} {env:Env} {value slice:Expr} {pos:Pos} {T id:String} {Q:Value->Shared->Prop}
  (hl:typeLookup (.type T) "__getitem__"=pure (some (.builtin id))) (hs:C40 slice)
  (h:wpAny (model prog w) A (eval value env) (fun o s₁=>wpAny (model prog w) A (eval slice env) (fun i s₂=>s₂.TypeIs o T/\wpAny (model prog w) A (getItem o i) Q E s₂) E s₁) E s) :
  wpAny (model prog w) A (eval (.Subscript value slice pos) env) Q E s:=by
 refine Subscript_ (wpAny_mono h (fun o s₁ h₁=>wpAny_mono h₁ (fun i s₂ h₂=>?_) fun _ _ x=>x) fun _ _ x=>x);obtain ⟨hT,h₂⟩:=h₂;unfold subscriptTail;refine wpAny_bind ?_;rw [getitemInPython_of_ne hT.not_modules];refine wpAny_bind (wpAny_specialOf hT hl ?_);have fin:wpAny (model prog w) A (subscripted slice false o i) (fun r s₃=>wpAny (model prog w) A (letTemporaryGo value o r >>= fun _=>pure r) Q E s₃) E s₂:=by
  rw [hs o i];exact wpAny_operating (wpAny_mono h₂ (fun r s₃ h₃=>wpAny_bind (wpAny_letTemporaryGo (wpAny_pure h₃))) fun _ _ x=>x)
 first
  | exact wpAny_pure (wpAny_bind fin)
  | exact wpAny_bind (wpAny_pure (wpAny_bind fin))
  | exact wpAny_bind fin
theorem B04 {X:Cx} {pins:List (Addr × Obj)} {σ:St} {H:Hp} {s:Shared} {a:Addr} {y:V} {o:Option V} (I:B4 X pins σ H s) (g:A0k H a y o):s.TypeIs (.ref a) "dict":=by
 rcases g with ⟨kvs,k,e,_,_⟩|⟨kvs,k,b,e,_,_,_⟩
 ·obtain ⟨_,_,vs,_,dd⟩:=B54 I.hok e;exact dd.typeIs
 ·obtain ⟨_,_,xs,_,dd⟩:=B3u I.hok e;exact dd.typeIs
def C81 (td ty:TE):TE:=fun σ H Q=>td σ H fun x H1=>ty σ H1 fun y H2=>∃ a v,x=.ref a/\A0k H2 a y (some v)/\Q v H2
def B7m (ty td:TE):TE:=fun σ H Q=>ty σ H fun y H1=>td σ H1 fun x H2=>∃ a o,x=.ref a/\A0k H2 a y o/\Q (.bl o.isSome) H2
def C7y (td ty tv:TE):TS:=fun D σ H=>tv σ H fun v H1=>td σ H1 fun x H2=>ty σ H2 fun y H3=>∃ a H4,x=.ref a/\B0x H3 a y v H4/\D.nx σ H4
section
variable {X:Cx} {o i value:Expr} {pos pos':Pos} {td ty tv:TE}
theorem C3b (hu:X.A.units+1 < cLine) (ho:PE X o td) (hi:PE X i ty) (hs:C40 i):PE X (.Subscript o i pos) (C81 td ty):=by
 intro pins s σ H Q I h;refine C74 PySem.F.slot_dict_getitem.lookup hs (D6 (ho pins s σ H _ I h) fun u s1 ⟨x,H1,I1,rx,q1⟩=>D6 (hi pins s1 σ H1 _ I1 q1) fun iv s2 ⟨y,H2,I2,ry,a,v,ex,g,q2⟩=>?_);subst ex;obtain rfl:u=Value.ref a:=rx;exact ⟨B04 I2 g,B68 hu I2 g ry fun w' s3 I3 rw'=>⟨v,H2,I3,rw',q2⟩⟩
theorem C25 (hu:X.A.units+1 < cLine) (hi:PE X i ty) (ho:PE X o td):PC X .In i o (B7m ty td):=by
 intro pins s σ H Q I h;refine D6 (hi pins s σ H _ I h) fun iv s1 ⟨y,H1,I1,ry,q1⟩=>D6 (ho pins s1 σ H1 _ I1 q1) fun u s2 ⟨x,H2,I2,rx,a,ov,ex,g,q2⟩=>?_;subst ex;obtain rfl:u=Value.ref a:=rx;exact D98 hu I2 g ry fun s3 I3=>⟨.bl ov.isSome,H2,I3,rfl,q2⟩
theorem C6l (hu:X.A.units+1 < cLine) (ho:PE X o td) (hi:PE X i ty) (hv:PE X value tv) (hs:swapsWith value (some (.Subscript o i pos')) pos.line X.env=pure false) :
  PS X (.Assign [.Subscript o i pos'] value pos) (C7y td ty tv):=by
 intro pins s σ H D I h;refine wpAny_Assign_Subscript (D6 (hv pins s σ H _ I h) fun r s1 ⟨v,H1,I1,rv,q1⟩=>D6 (ho pins s1 σ H1 _ I1 q1) fun u s2 ⟨x,H2,I2,rx,q2⟩=>D6 (hi pins s2 σ H2 _ I2 q2) fun iv s3 ⟨y,H3,I3,ry,a,H4,ex,g,q3⟩=>?_) hs;subst ex;obtain rfl:u=Value.ref a:=rx;exact B6m hu I3 g ry rv fun s4 I4=>⟨σ,H4,I4,q3⟩
end
theorem A50 {P:Program} {w:World} {H:Hp} (h:Heap) (hb:sysModules < h.objs.size):E1 P w H (h.push { cls:=.type "dict",data:=.dict #[] }) h.objs.size (.dK []) :=
 ⟨Nat.zero_le _,beq_eq_false_iff_ne.mpr (Ne.symm (Nat.ne_of_lt hb)),[],.nil,Heap.DictOf.new h⟩
def B8a:TE:=fun _ H Q=>∀ p,H p=none->Q (.ref p) (upd H p (.dK []))
section
variable {X:Cx} {pos:Pos}
theorem C0b:PE X (.Dict [] [] pos) B8a:=fun pins s σ H Q I h =>
 wpAny_Dict_empty ⟨.ref s.heap.objs.size,_,I.laid (a:=s.heap.objs.size) (o:=.dK []) (t':=s.toks) (fun _ _ q=>Heap.get?_push_of_some _ q) (Nat.le_refl _) (A50 s.heap I.big),rfl,h _ (I.hok.fresh (Nat.le_refl _))⟩
end
end L2
set_option maxHeartbeats 4000000
namespace L2
open PySem PySem.Spec PyProof.Rows
def PTs (Y:Cx) (ifs:List Expr) (t:TT):Prop :=
 ∀ (pins:List (Addr × Obj)) (s:Shared) (σ:St) (H:Hp) (Q:Bool->Hp->Prop),B4 Y pins σ H s->t σ H Q ->
  wpAny (model Y.prog Y.w) Y.A (forIn ifs true fun c r=>if r=true then do let ok <- isTrue c Y.env (eval c Y.env);pure (ForInStep.yield ok) else pure (ForInStep.yield r)) (TP Y pins σ Q) Y.xe s
theorem B41 {Y:Cx}:PTs Y [] (fun _ H Q=>Q true H):=by
 intro pins s σ H Q I h;rw [List.forIn_nil];exact wpAny_pure ⟨H,I,h⟩
theorem C3w {Y:Cx} {c:Expr} {t:TT} (hc:PT Y c t):PTs Y [c] t:=by
 intro pins s σ H Q I h;rw [List.forIn_cons];refine wpAny_bind ?_;rw [if_pos rfl];refine wpAny_bind (D6 (hc pins s σ H Q I h) fun b s1 q=>wpAny_pure ?_);show wpAny _ _ (forIn [] b _) _ _ _;rw [List.forIn_nil];exact wpAny_pure q
def LcW (prog:Program) (w:World) (A:Around) (elt:Expr) (gens:List Comprehension) (scope:Scope) (pos:Pos) (d:Nat) (acc:Value) (env:Env) (Q:Shared->Prop) (s:Shared):Prop :=
 match gens[d+1]? with
 | some g'=>(g'.is_async=0/\∀ x,foldedSetIterable g'.iter env x=pure x)/\wpAny (model prog w) A (eval g'.iter env) (fun x s4=>wpAny (model prog w) A (pyIter x) (fun itv s5 =>
   codeAny (model prog w) A (.compStart (.ListComp elt gens scope pos) (d+1) itv acc env) (fun r s6=>r=.ok .next/\Q s6) s5) (fun _ _=>False) s4) (fun _ _=>False) s
 | none=>wpAny (model prog w) A (eval elt env) (fun x s4=>wpAny (model prog w) A (call (.builtin "list.append") [acc,x]) (fun _ s5=>Q s5) (fun _ _=>False) s4) (fun _ _=>False) s
section
variable {prog:Program} {w:World} {A:Around} {R:Result->Shared->Prop} {s:Shared}
theorem A8b {elt target iter:Expr} {ifs:List Expr} {gens:List Comprehension} {scope:Scope} {pos:Pos} {d:Nat} {it acc:Value} {env:Env} (hg:gens[d]?=some ⟨target,iter,ifs,0⟩) (I:Nat->Shared->Prop)
  (turn:∀ n s,I n s->wpAny (model prog w) A (pyNext it) (fun r s₁=>match r with
   | none=>R (.ok .next) s₁
   | some v=>wpAny (model prog w) A (letOwnedTupleGo target it v) (fun _ s₁'=>wpAny (model prog w) A (assign target env v) (fun _ s₂ =>
     wpAny (model prog w) A (forIn ifs true fun c r=>if r=true then do let ok <- isTrue c env (eval c env);pure (ForInStep.yield ok) else pure (ForInStep.yield r)) (fun ok s₃ =>
      if ok=true then LcW prog w A elt gens scope pos d acc env (fun s₅=>∃ m,m < n/\I m s₅) s₃
      else ∃ m,m < n/\I m s₃) (fun _ _=>False) s₂) (fun _ _=>False) s₁') (fun _ _=>False) s₁) (fun _ _=>False) s)
  (n:Nat) (h:I n s) :
  codeAny (model prog w) A (.compLoop (.ListComp elt gens scope pos) d it acc env) R s:=by
 refine codeAny_loop rfl I (fun n s hI=>?_) n h;show wpAny _ A ((compTurn (.ListComp elt gens scope pos) d it acc env).onRaise (fun x=>do noteFrame x env;theTreesLotGoes x)) _ _ s;refine wpAny_noted (wpAny_noRaise ?_);unfold compTurn;dsimp only;rw [hg];dsimp only;refine wpAny_bind (wpAny_standAt (wpAny_bind (D6 (turn n s hI) (fun r s₁ h₁=>?_))));cases r with
 | none=>exact wpAny_pure h₁
 | some v =>
  refine wpAny_bind (D6 h₁ fun _ s₁' h₁=>wpAny_bind (D6 h₁ fun _ s₂ h₂=>wpAny_bind (D6 h₂ fun ok s₃ h₃=>?_)));cases ok with
  | false=>exact wpAny_pure ⟨rfl,h₃⟩
  | true =>
   rw [if_pos rfl] at h₃ ⊢;unfold LcW at h₃;cases e:gens[d+1]? with
   | none =>
    rw [e] at h₃;exact wpAny_bind (wpAny_bind (D6 h₃ fun x s₄ h₄=>wpAny_bind (D6 h₄ fun _ s₅ h₅=>wpAny_pure (wpAny_pure ⟨rfl,h₅⟩))))
   | some g' =>
    rw [e] at h₃;dsimp only at h₃ ⊢;obtain ⟨⟨ha,hf⟩,h₃⟩:=h₃;refine wpAny_bind (D6 h₃ fun x s₄ h₄=>wpAny_bind (wpAny_standAt ?_));rw [ha,if_neg (by decide)];refine wpAny_bind (wpAny_of_eq (hf x) (wpAny_bind (wpAny_holding ?_)));rw [if_neg (by decide)];refine D6 h₄ fun itv s₅ h₅=>wpAny_bind (wpAny_runOwn (codeAny_mono h₅ fun r s₆ ⟨hr,q⟩=>?_));subst hr;exact wpAny_pure ⟨rfl,q⟩
theorem T8 {elt target iter:Expr} {ifs:List Expr} {gens:List Comprehension} {scope:Scope} {pos:Pos} {d:Nat} {it acc:Value} {env:Env} (hg:gens[d]?=some ⟨target,iter,ifs,0⟩)
  (h0:codeAny (model prog w) A (.compLoop (.ListComp elt gens scope pos) d it acc env) R s)
  (h:wpAny (model prog w) A (pyIter it) (fun it' s'=>codeAny (model prog w) A (.compLoop (.ListComp elt gens scope pos) d it' acc env) R s') (fun _ _=>False) s) :
  codeAny (model prog w) A (.compStart (.ListComp elt gens scope pos) d it acc env) R s:=by
 refine codeAny_of_tree ?_;show wpAny _ _ ((compStart (.ListComp elt gens scope pos) d it acc env).onRaise (fun x=>do noteFrame x env;standAt theWindowsPlace)) _ _ s;refine wpAny_notedAt (wpAny_noRaise ?_);unfold compStart;have hc:clausesOf (.ListComp elt gens scope pos)=gens:=rfl;rw [hc,hg];show wpAny _ _ (ask >>= _) _ _ s;refine wpAny_bind (wpAny_askSetting (wpAny_ite ?_));split
 ·first
   | exact wpAny_bind (wpAny_pure (wpAny_pure (And.intro rfl h0)))
   | exact wpAny_pure (And.intro rfl h0)
 ·first
   | exact wpAny_bind (wpAny_rule (wpAny_bind (wpAny_standAt (wpAny_bind (wpAny_mono h (fun it' s' h'=>wpAny_pure (And.intro rfl h')) fun _ _ x=>x)))))
   | (refine wpAny_bind (wpAny_rule ?_);show wpAny _ _ (standAt iter.pos >>= _) _ _ s;exact wpAny_bind (wpAny_standAt (wpAny_bind (wpAny_mono h (fun it' s' h'=>wpAny_pure (And.intro rfl h')) fun _ _ x=>x))))
end
def A30 (J:It) (g:TG) (tb:TS):TS:=fun D σ H=>∃ W:Nat->Nat->St->Hp->Prop,(∃ m,W 0 m σ H)/\∀ i m σ H,W i m σ H ->
 (J.stop i H/\D.nx σ H)\/(J.go i H/\∃ N:St->Hp->Prop,(∀ σ' H',N σ' H'->∃ m',m' < m/\W (i+1) m' σ' H')/\∀ x H',J.yld i H x H'->g x σ H' fun σ2 H2=>tb { D with nx:=N,ct:=N,bk:=D.nx } σ2 H2)
def A57 (ti:TT) (tb:TS):TS:=fun D σ H=>ti σ H fun b H1=>if b=true then tb D σ H1 else D.nx σ H1
def PB (Y:Cx) (elt:Expr) (gens:List Comprehension) (scope:Scope) (pos:Pos) (d:Nat) (acc:Addr) (tb:TS):Prop :=
 ∀ (pins:List (Addr × Obj)) (s:Shared) (σ:St) (H:Hp) (D:T1),B4 Y pins σ H s->tb D σ H->LcW Y.prog Y.w Y.A elt gens scope pos d (.ref acc) Y.env (fun s'=>∃ σ' H',B4 Y pins σ' H' s'/\D.nx σ' H') s
section
variable {Y:Cx} {elt:Expr} {gens:List Comprehension} {scope:Scope} {pos:Pos} {d:Nat} {acc:Addr}
def B46 (acc:Addr) (te:TE):TS:=fun D σ H=>te σ H fun v H1=>∃ xs,H1 acc=some (.lst xs)/\xs.length < sizeLine/\D.nx σ (upd H1 acc (.lst (xs++[v])))
theorem C5j {te:TE} (hg:gens[d+1]?=none) (hx:Y.xe=fun _ _=>False) (he:PE Y elt te):PB Y elt gens scope pos d acc (B46 acc te):=by
 intro pins s σ H D I h;unfold LcW;rw [hg];dsimp only;have he':=he pins s σ H _ I h;rw [hx] at he';refine D6 he' fun u s1 ⟨v,H1,I1,r1,xs,e,hl,q⟩=>?_;have a2:=A6l pins s1 σ H1 (.ref acc) [v] (.ref acc) [u] (fun _ H2=>D.nx σ H2) I1 rfl (.cons r1 .nil) ⟨acc,xs,v,rfl,rfl,e,hl,q⟩;rw [hx] at a2;exact D6 a2 fun _ s2 ⟨_,H2,I2,_,q2⟩=>⟨σ,H2,I2,q2⟩
theorem A6z {tg iter:Expr} {ifs:List Expr} {g:TG} {ti:TT} {tb:TS} {pins:List (Addr × Obj)} {s:Shared} {σ:St} {H:Hp} {D:T1} {J:It} {fp:List Addr} {it:Addr} {tn:Nat->Heap->Prop}
  (hgd:gens[d]?=some ⟨tg,iter,ifs,0⟩) (hx:Y.xe=fun _ _=>False) (hc:Y.calm=true) (hg:PG Y tg g) (ht:PTs Y ifs ti) (hb:PB Y elt gens scope pos d acc tb)
  (I:B4 Y pins σ H s) (T:A7r Y.prog Y.w Y.K tg J fp it tn) (st:tn 0 s.heap) (f2:∀ b∈fp,U0 Y pins H b) (h:A30 J g (A57 ti tb) D σ H) :
  codeAny (model Y.prog Y.w) Y.A (.compLoop (.ListComp elt gens scope pos) d (.ref it) (.ref acc) Y.env) (fun r s'=>r=.ok .next/\∃ σ' H',B4 Y pins σ' H' s'/\D.nx σ' H') s:=by
 obtain ⟨W,⟨m0,w0⟩,turn⟩:=h;have stat:∀ {H':Hp},(∀ b∈fp,H' b=none)->∀ b∈fp,U0 Y pins H' b:=fun hn b hb=>⟨hn b hb,(f2 b hb).2⟩;refine A8b hgd (fun n s'=>∃ i σ' H',B4 Y pins σ' H' s'/\tn i s'.heap/\(∀ b∈fp,H' b=none)/\W i n σ' H') ?_ m0 ⟨0,σ,H,I,st,fun b hb=>(f2 b hb).1,w0⟩;rintro n s3 ⟨i,σ3,H3,I3,st3,fr3,w3⟩;rcases turn i n σ3 H3 w3 with ⟨stop,qn⟩|⟨go,N,hN,step⟩
 ·refine D6 (T.done Y rfl rfl rfl hc i pins s3 σ3 H3 _ I3 (stat fr3) st3 stop) fun r s4 ⟨hr,I4⟩=>?_;subst hr;exact ⟨rfl,σ3,H3,I4,qn⟩
 ·refine D6 (T.item Y rfl rfl rfl hc i pins s3 σ3 H3 _ I3 (stat fr3) st3 go) fun r s4 ⟨u,hr,h4⟩=>?_;subst hr;refine D6 h4 fun _ s5 ⟨x,H5,I5,r5,y5,st5,fr5⟩=>?_;have I5':=I5.pinned (stat fr5) (T.obj _ _ st5);have a1:=hg _ s5 σ3 H5 x u _ I5' r5 (step x H5 y5);rw [hx] at a1;refine D6 a1 fun _ s6 ⟨σ6,H6,I6,q6⟩=>?_;have a2:=ht _ s6 σ6 H6 _ I6 q6;rw [hx] at a2;refine D6 a2 fun ok s7 ⟨H7,I7,q7⟩=>?_;have again:∀ {s8:Shared} {σ7:St} {H7:Hp},B4 Y (pins++A3y fp s5.heap) σ7 H7 s8->N σ7 H7->∃ m,m < n/\∃ i σ' H',B4 Y pins σ' H' s8/\tn i s8.heap/\(∀ b∈fp,H' b=none)/\W i m σ' H':=fun {s8 σ7 H7} I7 n7=>by
   obtain ⟨m',hm,w7⟩:=hN σ7 H7 n7;refine ⟨m',hm,i+1,σ7,H7,I7.unpinned,T.keep _ _ _ st5 fun b hb o e=>(I7.pin (b,o) (mem_append_right _ (mem_append_right _ (L8 hb e)))).1,fun b hb=>?_,w7⟩;obtain ⟨o,e,d⟩:=T.obj _ _ st5 b hb;exact (I7.pin (b,o) (mem_append_right _ (mem_append_right _ (L8 hb e)))).2.1
  cases ok with
  | false =>
   rw [if_neg Bool.false_ne_true] at q7 ⊢;exact again I7 q7
  | true =>
   rw [if_pos rfl] at q7 ⊢;have a3:=hb _ s7 σ6 H7 _ I7 q7;unfold LcW at a3 ⊢;cases e:gens[d+1]? with
   | none =>
    rw [e] at a3;exact D6 a3 fun x s8 h8=>D6 h8 fun _ s9 ⟨σ9,H9,I9,n9⟩=>again I9 n9
   | some g' =>
    rw [e] at a3;exact ⟨a3.1,D6 a3.2 fun x s8 h8=>D6 h8 fun _ s9 h9=>codeAny_mono h9 fun r s10 ⟨hr,σ9,H9,I9,n9⟩=>⟨hr,again I9 n9⟩⟩
theorem D17 {tg iter:Expr} {ifs:List Expr} {wi:TI} {g:TG} {ti:TT} {tb:TS} (hgd:gens[d+1]?=some ⟨tg,iter,ifs,0⟩) (hx:Y.xe=fun _ _=>False) (hc:Y.calm=true) (hs:∀ x,foldedSetIterable iter Y.env x=pure x) (hi:PI Y tg iter wi) (hg:PG Y tg g) (ht:PTs Y ifs ti)
  (hb:PB Y elt gens scope pos (d+1) acc tb):PB Y elt gens scope pos d acc (B1a wi g (A57 ti tb)):=by
 intro pins s σ H D I h;unfold LcW;rw [hgd];dsimp only;refine ⟨⟨rfl,hs⟩,?_⟩;have a1:=hi pins s σ H _ I h;rw [hx] at a1;refine D6 a1 fun x s1 h1=>D6 h1 fun itv s2 ⟨it,fp,tn,J,H2,e,I2,T,st2,f2,q2⟩=>?_;subst e;have lp:=A6z (acc:=acc) hgd hx hc hg ht hb I2 T st2 f2 q2;exact T8 hgd lp (T.self _ _ _ _ _ st2 lp)
end
def K7 (env:Env):List (Str × NameKind)->List (Str × Addr)->List (Str × Addr)
 | [],acc=>acc
 | (n,k)::r,acc=>if k==.free then K7 env r ((n,(env.cells.lookup n).getD 0)::acc) else K7 env r acc
theorem A2v {env:Env} (f:Str × NameKind->List (Str × Addr)->Sem (ForInStep (List (Str × Addr))))
  (hf:∀ n k cs,f (n,k) cs=if k==.free then (do let c <- cellOf env n;pure (.yield ((n,c)::cs))) else pure (.yield cs)) :
  ∀ (names:List (Str × NameKind)) (acc:List (Str × Addr)),(∀ x∈names,x.2=.free->∃ c,env.cells.lookup x.1=some c)->forIn names acc f=pure (K7 env names acc)
 | [],acc,_=>by rw [List.forIn_nil];rfl
 | (n,k)::r,acc,h=>by
  rw [List.forIn_cons,hf];unfold K7;by_cases hk:(k==NameKind.free)=true
  ·rw [if_pos hk,if_pos hk];obtain ⟨c,hc⟩:=h (n,k) mem_cons_self (by simpa using hk);have hc':env.cells.lookup n=some c:=hc;have e:cellOf env n=pure c:=by unfold cellOf;rw [hc']
   rw [e,hc'];exact A2v f hf r _ fun x hx=>h x (mem_cons_of_mem _ hx)
  ·rw [if_neg hk,if_neg hk];exact A2v f hf r _ fun x hx=>h x (mem_cons_of_mem _ hx)
theorem O6 {scope:Scope} {env:Env} (h:∀ x∈scope.names,x.2=.free->∃ c,env.cells.lookup x.1=some c):closureFor scope env=pure (K7 env scope.names []):=by
 unfold closureFor;dsimp only;rw [A2v (env:=env) _ (fun n k cs=>by cases hk:k==NameKind.free<;>simp [hk]) scope.names [] h];rfl
theorem Z7 {env:Env} {x:Str} {c:Addr}:∀ (names:List (Str × NameKind)) (acc:List (Str × Addr)),(∀ y∈names,y.2=.free->∃ c,env.cells.lookup y.1=some c) ->
  (K7 env names acc).lookup x=some c->(((x,NameKind.free)∈names/\env.cells.lookup x=some c)\/acc.lookup x=some c)
 | [],acc,_,e=>.inr e
 | (n,k)::r,acc,h,e=>by
  unfold K7 at e;have hr:∀ y∈r,y.2=.free->∃ c,env.cells.lookup y.1=some c:=fun y hy=>h y (mem_cons_of_mem _ hy);by_cases hk:(k==NameKind.free)=true
  ·rw [if_pos hk] at e;have hk':k=.free:=by simpa using hk
   subst hk';rcases Z7 r _ hr e with ⟨h1,h2⟩|h1
   ·exact .inl ⟨mem_cons_of_mem _ h1,h2⟩
   ·rw [List.lookup_cons] at h1;cases q:x==n with
    | true =>
     rw [q] at h1;have:x=n:=by simpa using q
     subst this;obtain ⟨c',hc'⟩:=h (x,.free) mem_cons_self rfl;have hc'':env.cells.lookup x=some c':=hc';rw [hc''] at h1;exact .inl ⟨mem_cons_self,by rw [hc''];exact h1⟩
    | false =>
     rw [q] at h1;exact .inr h1
  ·rw [if_neg hk] at e;rcases Z7 r _ hr e with ⟨h1,h2⟩|h1
   ·exact .inl ⟨mem_cons_of_mem _ h1,h2⟩
   ·exact .inr h1
theorem R8 {env:Env} {x:Str}:∀ (names:List (Str × NameKind)) (acc:List (Str × Addr)),(x,NameKind.free)∈names\/(acc.lookup x).isSome=true->((K7 env names acc).lookup x).isSome=true
 | [],acc,h=>by rcases h with h|h;cases h;exact h
 | (n,k)::r,acc,h=>by
  unfold K7;by_cases hk:(k==NameKind.free)=true
  ·rw [if_pos hk];refine R8 r _ ?_;rw [List.lookup_cons];cases q:x==n with
   | true=>exact .inr rfl
   | false =>
    rcases h with h|h
    ·rcases mem_cons.mp h with e|e
     ·cases e;simp at q
     ·exact .inl e
    ·exact .inr h
  ·rw [if_neg hk];refine R8 r _ ?_;rcases h with h|h
   ·rcases mem_cons.mp h with e|e
    ·cases e;exact absurd rfl hk
    ·exact .inl e
   ·exact .inr h
theorem A1e {env:Env} {x:Str} {c:Addr}:∀ (names:List (Str × NameKind)) (acc:List (Str × Addr)),(∀ y∈names,y.2=.free->∃ c,env.cells.lookup y.1=some c)->(x,c)∈K7 env names acc->env.cells.lookup x=some c\/(x,c)∈acc
 | [],acc,_,e=>.inr e
 | (n,k)::r,acc,h,e=>by
  unfold K7 at e;have hr:∀ y∈r,y.2=.free->∃ c,env.cells.lookup y.1=some c:=fun y hy=>h y (mem_cons_of_mem _ hy);by_cases hk:(k==NameKind.free)=true
  ·rw [if_pos hk] at e;have hk':k=.free:=by simpa using hk
   subst hk';rcases A1e r _ hr e with h1|h1
   ·exact .inl h1
   ·rcases mem_cons.mp h1 with q|q
    ·obtain ⟨c',hc'⟩:=h (n,.free) mem_cons_self rfl;have hc'':env.cells.lookup n=some c':=hc';rw [hc''] at q;cases q;exact .inl hc''
    ·exact .inr q
  ·rw [if_neg hk] at e;exact A1e r _ hr e
theorem R0 {x:Str} {c:Addr}:∀ (names:List (Str × NameKind)) (n:Nat) (acc:List (Str × Addr)),(cellsFrom n names acc).lookup x=some c->((x,NameKind.cell)∈names/\n<=c)\/acc.lookup x=some c
 | [],n,acc,e=>.inr e
 | (y,k)::r,n,acc,e=>by
  unfold cellsFrom at e;by_cases hk:(k==NameKind.cell)=true
  ·rw [if_pos hk] at e;have hk':k=.cell:=by simpa using hk
   subst hk';rcases R0 r _ _ e with ⟨h1,h2⟩|h1
   ·exact .inl ⟨mem_cons_of_mem _ h1,by omega⟩
   ·rw [List.lookup_cons] at h1;cases q:x==y with
    | true =>
     rw [q] at h1;have:x=y:=by simpa using q
     subst this;cases h1;exact .inl ⟨mem_cons_self,Nat.le_refl _⟩
    | false=>rw [q] at h1;exact .inr h1
  ·rw [if_neg hk] at e;rcases R0 r _ _ e with ⟨h1,h2⟩|h1
   ·exact .inl ⟨mem_cons_of_mem _ h1,h2⟩
   ·exact .inr h1
theorem T3 {x:Str}:∀ (names:List (Str × NameKind)) (n:Nat) (acc:List (Str × Addr)),(x,NameKind.cell)∉names->(cellsFrom n names acc).lookup x=acc.lookup x
 | [],n,acc,_=>rfl
 | (y,k)::r,n,acc,h=>by
  unfold cellsFrom;have hr:(x,NameKind.cell)∉r:=fun z=>h (mem_cons_of_mem _ z);by_cases hk:(k==NameKind.cell)=true
  ·rw [if_pos hk,T3 r _ _ hr,List.lookup_cons];cases q:x==y with
   | true =>
    have:x=y:=by simpa using q
    subst this;have hk':k=.cell:=by simpa using hk
    subst hk';exact absurd mem_cons_self h
   | false=>rfl
  ·rw [if_neg hk];exact T3 r _ _ hr
theorem T0:∀ (names:List (Str × NameKind)) (h:Heap) (acc:List (Str × Addr)) (lo:Nat),lo<=h.objs.size->(∀ y c,(y,c)∈acc->lo<=c->h.IsCell c none)->(acc.Pairwise fun x y=>lo<=x.2->x.2≠y.2)->(∀ y c,(y,c)∈acc->c < h.objs.size) ->
  (∀ y c,(y,c)∈cellsFrom h.objs.size names acc->lo<=c->(pushCells h names).IsCell c none)/\((cellsFrom h.objs.size names acc).Pairwise fun x y=>lo<=x.2->x.2≠y.2)
 | [],h,acc,lo,_,h1,h2,_=>⟨h1,h2⟩
 | (n,k)::r,h,acc,lo,hlo,h1,h2,h3=>by
  unfold cellsFrom pushCells;by_cases hk:(k==NameKind.cell)=true
  ·rw [if_pos hk,if_pos hk];have:=T0 r (h.push { cls:=.type "cell",data:=.cell none }) ((n,h.objs.size)::acc) lo (by rw [Heap.size_push];omega) (fun y c hm hc=>by
    rcases mem_cons.mp hm with e|hm
    ·cases e;exact ⟨_,Heap.get?_push_size _ rfl,rfl⟩
    ·exact (h1 y c hm hc).keeps fun b o e=>Heap.get?_push_of_some _ e) (List.pairwise_cons.mpr ⟨fun y hy _ e=>by
     have:=h3 y.1 y.2 hy;have e':h.objs.size=y.2:=e;exact absurd (e' ▸ this) (Nat.lt_irrefl _),h2⟩) (fun y c hm=>by
    rw [Heap.size_push];rcases mem_cons.mp hm with e|hm
    ·cases e;exact Nat.lt_succ_self _
    ·exact Nat.lt_succ_of_lt (h3 y c hm))
   rw [Heap.size_push] at this;exact this
  ·rw [if_neg hk,if_neg hk];exact T0 r h acc lo hlo h1 h2 h3
def D40 (scope:Scope) (env:Env) (C:Addr):Env :=
 { scope:=relabel scope env,locals:=C,globals:=env.globals,cells:=cellsFrom (C+1) scope.names (K7 env scope.names []),qual:=env.qual,func:=none,code:=env.code,frame:=env.frame,builtins:=env.builtins }
theorem A0c {M:Model} {A:Around} {E:Value->Shared->Prop} {s:Shared} {scope:Scope} {env:Env} {Q:Env->Shared->Prop}
  (h:Q (newEnv scope s.heap.objs.size env.globals (cellsFrom (s.heap.objs.size+1) scope.names (K7 env scope.names [])) env.qual none .none (some env) builtinsNs)
   { s with heap:=pushCells (s.heap.push { cls:=.type "dict",data:=.dict #[] }) scope.names }) :
  wpAny M A (newFunctionEnv scope env.globals (K7 env scope.names []) [] env.qual none .none (some env)) Q E s:=by
 simp only [newFunctionEnv,Option.isSome_some,if_true];refine wpAny_bind (wpAny_alloc ?_);refine wpAny_bind (wpAny_layCells _ (fun name kind cells=>by cases hkc:kind==NameKind.cell<;>simp [hkc]) _ _ _ _ ?_);rw [show ({ s with heap:=s.heap.push { cls:=.type "dict",data:=.dict #[] } }:Shared).heap.objs.size=s.heap.objs.size+1 from Heap.size_push ..];rw [List.forIn_nil];exact wpAny_bind (wpAny_pure (wpAny_pure h))
def Cx.inn (X:Cx) (scope:Scope) (N:List Str) (s₃:Shared) (H₃:Hp) (fp:List Addr):Cx :=
 { X with N:=N,s₀:=s₃,H₀:=H₃,env:=D40 scope X.env s₃.heap.objs.size,outer:=X.stack,stack:=X.stack,ex:=fp,fn:=fun x=>scope.names.lookup x==some .cell,pn:=[],xe:=fun _ _=>False }
def D0 (own:List Str) (cap:List (Str × Nat)):List Str:=own++cap.map (·.1)
def A4b (own:List Str) (cap:List (Str × Nat)) (σ:St):St:=own.map (fun _=>none)++cap.map fun p=>(σ[p.2]?).join
structure B9 (X:Cx) (scope:Scope) (own:List Str) (cap:List (Str × Nat)):Prop where
 kind:scope.kind=.function
 nd:(scope.names.map (·.1)).Nodup
 loc:∀ x∈scope.names,x.2=.local->scope.names.lookup x.1=some .local
 fre:∀ x∈scope.names,x.2=.free->X.env.kindOf x.1=some .cell\/X.env.kindOf x.1=some .free
 cap:∀ p∈cap,X.N[p.2]?=some p.1/\(p.1,NameKind.free)∈scope.names
theorem A4t {names:List (Str × NameKind)} (nd:(names.map (·.1)).Nodup) {x:Str} {k k':NameKind} (h:(x,k)∈names) (h':(x,k')∈names):k=k':=by
 induction names with
 | nil=>cases h
 | cons p r ih =>
  rw [map_cons,nodup_cons] at nd;rcases mem_cons.mp h with e|h<;>rcases mem_cons.mp h' with e'|h'
  ·rw [<-e] at e';cases e';rfl
  ·exact absurd (mem_map.mpr ⟨_,h',by rw [<-e]⟩) nd.1
  ·exact absurd (mem_map.mpr ⟨_,h,by rw [<-e']⟩) nd.1
  ·exact ih nd.2 h h'
theorem B2f {names:List (Str × NameKind)} (nd:(names.map (·.1)).Nodup) {x:Str} {k:NameKind} (h:(x,k)∈names):names.lookup x=some k:=by
 cases e:names.lookup x with
 | some k'=>rw [A4t nd h (PySem.mem_of_lookup e)]
 | none =>
  have:∀ p∈names,(x==p.1)=false:=by
   have:=List.lookup_eq_none_iff.mp e;intro p hp;have:=this p hp;simpa using this
  have:=this _ h;simp at this
theorem A0q {lo:Nat}:∀ {cs:List (Str × Addr)},(cs.Pairwise fun x y=>lo<=x.2->x.2≠y.2)->∀ {n n':Str} {c:Addr},(n,c)∈cs->(n',c)∈cs->lo<=c->n=n'
 | x::r,hp,n,n',c,h,h',hc=>by
  obtain ⟨h1,h2⟩:=List.pairwise_cons.mp hp;rcases mem_cons.mp h with e|h<;>rcases mem_cons.mp h' with e'|h'
  ·rw [<-e'] at e;exact (Prod.mk.inj e).1
  ·exact absurd (by rw [<-e]) (h1 _ h' (by rw [<-e];exact hc))
  ·exact absurd (by rw [<-e']) (h1 _ h (by rw [<-e'];exact hc))
  ·exact A0q h2 h h' hc
theorem B12 {f:Str->NameKind->Bool} {x:Str}:∀ {names:List (Str × NameKind)},(names.map fun p=>if f p.1 p.2=true then (p.1,NameKind.cell) else p).lookup x=(names.lookup x).map fun k=>if f x k=true then NameKind.cell else k
 | []=>rfl
 | (n,k)::r=>by
  rw [map_cons];have ih:=@B12 f x r;cases hx:x==n with
  | true =>
   have:x=n:=by simpa using hx
   subst this;cases hc:f x k<;>simp [List.lookup_cons,hc]
  | false =>
   cases hc:f n k<;>simp only [List.lookup_cons,hx,hc,if_true,if_false,Bool.false_eq_true]<;>exact ih
theorem A7k {scope:Scope} {env:Env} {x:Str}:(relabel scope env).names.lookup x =
  (scope.names.lookup x).map fun k=>if (k==NameKind.free&&env.scope.kind==.function&&env.kindOf x==some .cell)=true then NameKind.cell else k:=by
 have e:(relabel scope env).names=scope.names.map fun p=>if (fun n k=>(k==NameKind.free&&env.scope.kind==.function&&env.kindOf n==some .cell)) p.1 p.2=true then (p.1,NameKind.cell) else p:=by
  unfold relabel;dsimp only
 rw [e];exact B12 (f:=fun n k=>(k==NameKind.free&&env.scope.kind==.function&&env.kindOf n==some .cell))
section
variable {X:Cx} {pins:List (Addr × Obj)} {σ:St} {H:Hp} {s:Shared} {scope:Scope} {own:List Str} {cap:List (Str × Nat)} {fp:List Addr}
theorem A7g (L:B9 X scope own cap) (I:B4 X pins σ H s) (hf:∀ b∈fp,U0 X pins H b) (ho:∀ b∈fp,∃ o,s.heap.get? b=some o) :
  B4 (X.inn scope (D0 own cap) s H fp) [] (A4b own cap σ) H { s with heap:=pushCells (s.heap.push { cls:=.type "dict",data:=.dict #[] }) scope.names }:=by
 have hcl:∀ x∈scope.names,x.2=.free->∃ c,X.env.cells.lookup x.1=some c:=fun x hx hk=>I.ok.has x.1 (L.fre x hx hk);have old:∀ x c,(K7 X.env scope.names []).lookup x=some c->(x,NameKind.free)∈scope.names/\X.env.cells.lookup x=some c:=fun x c e=>by
  rcases Z7 _ _ hcl e with h|h
  ·exact h
  ·cases h
 have keep:∀ b o,s.heap.get? b=some o->(pushCells (s.heap.push { cls:=.type "dict",data:=.dict #[] }) scope.names).get? b=some o:=fun b o e=>pushCells_keeps _ _ b o (Heap.get?_push_of_some _ e);have look:∀ x c,(X.inn scope (D0 own cap) s H fp).env.cells.lookup x=some c->((x,NameKind.cell)∈scope.names/\s.heap.objs.size+1<=c)\/((x,NameKind.free)∈scope.names/\X.env.cells.lookup x=some c):=fun x c e=>by
  rcases R0 _ _ _ e with h|h
  ·exact .inl h
  ·exact .inr (old x c h)
 have oldlt:∀ x c,X.env.cells.lookup x=some c->c < s.heap.objs.size:=fun x c e=>by
  obtain ⟨v,hv⟩:=I.cell x c e;exact hv.lt
 have nf:∀ x,(x,NameKind.free)∈scope.names->(x,NameKind.cell)∉scope.names:=fun x h h'=>by cases A4t L.nd h h'
 have ml:∀ y c,(y,c)∈K7 X.env scope.names []->c < s.heap.objs.size:=fun y c hm=>by
  rcases A1e _ _ hcl hm with h|h
  ·exact oldlt y c h
  ·cases h
 have clnd:(K7 X.env scope.names []).Pairwise fun x y=>s.heap.objs.size+1<=x.2->x.2≠y.2:=List.pairwise_iff_forall_sublist.mpr fun {a b} hs hle=>by
  have:a∈K7 X.env scope.names []:=hs.subset mem_cons_self;have:=ml a.1 a.2 this;exact absurd (Nat.lt_of_le_of_lt hle this) (Nat.not_lt.mpr (Nat.le_succ _))
 have nst:=T0 scope.names (s.heap.push { cls:=.type "dict",data:=.dict #[] }) (K7 X.env scope.names []) (s.heap.objs.size+1) (by rw [Heap.size_push];exact Nat.le_refl _)
  (fun y c hm hc=>absurd (Nat.lt_of_le_of_lt hc (ml y c hm)) (Nat.not_lt.mpr (Nat.le_succ _))) clnd (fun y c hm=>by rw [Heap.size_push];exact Nat.lt_succ_of_lt (ml y c hm))
 rw [Heap.size_push] at nst;have newcell:∀ x c,(X.inn scope (D0 own cap) s H fp).env.cells.lookup x=some c->s.heap.objs.size+1<=c->(pushCells (s.heap.push { cls:=.type "dict",data:=.dict #[] }) scope.names).IsCell c none:=fun x c e hc=>nst.1 x c (PySem.mem_of_lookup e) hc;have kindY:∀ x,(X.inn scope (D0 own cap) s H fp).env.kindOf x=(scope.names.lookup x).map fun k=>if (k==NameKind.free&&X.env.scope.kind==.function&&X.env.kindOf x==some .cell)=true then NameKind.cell else k:=fun x=>A7k
 refine ⟨⟨I.ok.mod,L.kind,I.ok.glob,I.ok.blt,Nat.le_refl _,fun x y c h1 h2=>?inj,fun x hx=>?has,fun x c hx h=>?cab,I.ok.hd,I.ok.frames,.inl rfl,fun b hb=>⟨?ex1,fun x c h=>?ex2⟩,fun b o e=>I.bs b o e,Nat.le_trans I.ok.bsz I.sz,fun b o e hb=>?noex,fun b hb hb'=>?exfs,I.stack,I.stkFree⟩,
  rfl,I.bare,Un.kept keep,⟨fun _=>none,?ns,fun i x v h1 h2 h3=>?look⟩,fun x c h=>?cell,I.fresh,fun x c h=>?freeC,fun p hp=>absurd (show p∈([]:List (Addr × Obj)) from hp) (by simp),I.hok.kept keep,?len⟩
 case inj =>
  rcases look x c h1 with ⟨_,g1⟩|⟨_,g1⟩<;>rcases look y c h2 with ⟨_,g2⟩|⟨_,g2⟩
  ·exact A0q nst.2 (PySem.mem_of_lookup h1) (PySem.mem_of_lookup h2) g1
  ·exact absurd (Nat.lt_of_le_of_lt g1 (oldlt y c g2)) (Nat.not_lt.mpr (Nat.le_succ _))
  ·exact absurd (Nat.lt_of_le_of_lt g2 (oldlt x c g1)) (Nat.not_lt.mpr (Nat.le_succ _))
  ·exact I.ok.inj x y c g1 g2
 case has =>
  rw [kindY] at hx;cases e:scope.names.lookup x with
  | none=>rw [e] at hx;rcases hx with h|h<;>cases h
  | some k =>
   rw [e] at hx;have hm:=PySem.mem_of_lookup e;have hk:k=.cell\/k=.free:=by
    by_cases hc:(k==NameKind.free&&X.env.scope.kind==.function&&X.env.kindOf x==some .cell)=true
    ·simp only [Bool.and_eq_true,beq_iff_eq] at hc;exact .inr hc.1.1
    ·rw [Option.map_some,if_neg hc] at hx;rcases hx with h|h
     ·exact .inl (Option.some.inj h)
     ·exact .inr (Option.some.inj h)
   rcases hk with rfl|rfl
   ·exact Option.isSome_iff_exists.mp (PySem.W.cellsFrom_some scope.names _ _ (.inl e))
   ·exact Option.isSome_iff_exists.mp (PySem.W.cellsFrom_some scope.names _ _ (.inr (R8 _ _ (.inl hm))))
 case cab =>
  have hx':scope.names.lookup x=some .cell:=by simpa [Cx.inn] using hx
  rcases look x c h with ⟨_,g⟩|⟨g,_⟩
  ·exact Nat.le_of_succ_le g
  ·exact absurd (PySem.mem_of_lookup hx') (nf x g)
 case ex1 =>
  obtain ⟨o,e⟩:=ho b hb;exact Nat.ne_of_lt (Heap.lt_size e)
 case ex2 =>
  obtain ⟨o,e⟩:=ho b hb;rcases look x c h with ⟨_,g⟩|⟨_,g⟩
  ·rintro rfl;exact absurd (Nat.lt_of_le_of_lt g (Heap.lt_size e)) (Nat.not_lt.mpr (Nat.le_succ _))
  ·exact (hf b hb).2.2.2.2.1 x c g
 case noex =>
  rcases (hf b hb).2.2.2.1 with g|g
  ·exact I.ok.noex b o e g
  ·exact absurd (Nat.lt_of_lt_of_le (Heap.lt_size e) I.ok.bsz) (Nat.not_lt.mpr g)
 case exfs =>
  rcases mem_cons.mp (I.stkSub b hb') with g|g
  ·exact (hf b hb).2.1 g
  ·exact (hf b hb).2.2.1 g
 case ns=>exact (Heap.Ns.new s.heap (.type "dict")).keeps (pushCells_keeps _ _)
 case look =>
  obtain ⟨j,p,hp,rfl,hv⟩:∃ (j:Nat) (p:Str × Nat),cap[j]?=some p/\p.1=x/\σ[p.2]?=some (some v):=by
   have h1:(own++cap.map (·.1))[i]?=some x:=h1;unfold A4b at h2;by_cases hi:i < own.length
   ·rw [List.getElem?_append_left (by simpa using hi),List.getElem?_map] at h2;cases e:own[i]? with
    | none=>rw [e] at h2;cases h2
    | some y=>rw [e] at h2;cases h2
   ·rw [List.getElem?_append_right (by omega)] at h1;rw [List.getElem?_append_right (by simpa using hi)] at h2;rw [length_map] at h2;rw [List.getElem?_map] at h1 h2;cases e:cap[i - own.length]? with
    | none=>rw [e] at h1;cases h1
    | some p =>
     rw [e] at h1 h2;refine ⟨_,p,e,Option.some.inj h1,?_⟩;have h2:(σ[p.2]?).join=some v:=Option.some.inj h2;cases q:σ[p.2]? with
     | none=>rw [q] at h2;cases h2
     | some z=>rw [q] at h2;exact congrArg some h2
  obtain ⟨c1,c2⟩:=L.cap p (mem_of_getElem? hp);have hk:=L.fre _ c2 rfl;obtain ⟨m,hn,hl⟩:=I.loc;obtain ⟨u,ru,lk⟩:=hl p.2 p.1 v c1 hv (.inr hk);refine ⟨u,ru,.inr ?_⟩;rcases lk with ⟨lk,_⟩|⟨_,c,e,hc⟩
  ·rcases hk with hk|hk
   ·have:X.env.kindOf p.1=some .cell:=hk;rw [lk] at this;cases this
   ·have:X.env.kindOf p.1=some .free:=hk;rw [lk] at this;cases this
  ·have hlk:=B2f L.nd c2;refine ⟨?_,c,?_,hc.keeps keep⟩
   ·rw [kindY,hlk,Option.map_some];split
    ·exact .inl rfl
    ·exact .inr rfl
   ·show (cellsFrom _ scope.names _).lookup p.1=some c;rw [T3 _ _ _ (nf _ c2)];obtain ⟨c',e'⟩:=Option.isSome_iff_exists.mp (R8 (env:=X.env) scope.names [] (.inl c2));rw [e',<-e];exact (old _ _ e').2.symm
 case cell =>
  rcases look x c h with ⟨_,g⟩|⟨_,g⟩
  ·exact ⟨_,newcell x c h g⟩
  ·obtain ⟨v,hv⟩:=I.cell x c g;exact ⟨v,hv.keeps keep⟩
 case freeC =>
  rcases look x c h with ⟨_,g⟩|⟨_,g⟩
  ·exact I.hok.fresh (Nat.le_of_succ_le g)
  ·exact I.freeC x c g
 case len =>
  show (A4b own cap σ).length=(D0 own cap).length;unfold A4b D0;simp
end
def tLC (wi:TI) (g:TG) (ti:TT) (tb:Addr->TS) (own:List Str) (cap:List (Str × Nat)):TE:=fun σ H Q=>wi σ H fun J H1=>∀ acc,H1 acc=none ->
 A30 J g (A57 ti (tb acc)) { nx:=fun _ H'=>Q (.ref acc) H',rt:=fun _ _=>False } (A4b own cap σ) (upd H1 acc (.lst []))
theorem D5k {X:Cx} {elt tg iter:Expr} {ifs:List Expr} {E7:List Comprehension} {scope:Scope} {pos:Pos} {wi:TI} {g:TG} {ti:TT} {tb:Addr->TS} (own:List Str) (cap:List (Str × Nat)) (hc:X.calm=true) (L:B9 X scope own cap) (hi:PI X tg iter wi)
  (hin:∀ (s₃:Shared) (H₃:Hp) (fp:List Addr) (acc:Addr),PG (X.inn scope (D0 own cap) s₃ H₃ fp) tg g/\PTs (X.inn scope (D0 own cap) s₃ H₃ fp) ifs ti/\PB (X.inn scope (D0 own cap) s₃ H₃ fp) elt (⟨tg,iter,ifs,0⟩::E7) scope pos 0 acc (tb acc))
  (hs:∀ x,foldedSetIterable iter X.env x=pure x:=by intro _;rfl):PE X (.ListComp elt (⟨tg,iter,ifs,0⟩::E7) scope pos) (tLC wi g ti tb own cap):=by
 intro pins s σ H Q I h;rw [eval_ListComp];have hcl:∀ x∈scope.names,x.2=.free->∃ c,X.env.cells.lookup x.1=some c:=fun x hx hk=>I.ok.has x.1 (L.fre x hx hk);refine wpAny_comprehension_free (use:=none) rfl hs (O6 hcl) L.kind L.loc (D6 (hi pins s σ H _ I h) fun x s1 h1=>D6 h1 fun itv s2 ⟨it,fp,tn,J,H2,e,I2,T,st2,f2,q2⟩=>?_);subst e;refine wpAny_newObj_type ?_;have I3:=I2.lnew (t':=s2.toks) (ys:=[]) (its:=[]) .nil (Nat.zero_le _);have fr2:H2 s2.heap.objs.size=none:=I2.fresh;have f3:∀ b∈fp,U0 X pins (upd H2 s2.heap.objs.size (.lst [])) b:=fun b hb=>by
  obtain ⟨o,eo,_⟩:=T.obj 0 _ st2 b hb;obtain ⟨g1,g2⟩:=f2 b hb;exact ⟨by rw [B1 (Nat.ne_of_lt (Heap.lt_size eo))];exact g1,g2⟩
 have k3:∀ b o,s2.heap.get? b=some o->(s2.heap.push { cls:=.type "list",data:=.seq ([]:List Value).toArray }).get? b=some o:=fun b o e=>Heap.get?_push_of_some _ e;have st3:tn 0 (s2.heap.push { cls:=.type "list",data:=.seq ([]:List Value).toArray }):=T.keep 0 _ _ st2 fun b _ o e=>k3 b o e;refine A0c ?_;have I4:=A7g L I3 f3 fun b hb=>by obtain ⟨o,eo,_⟩:=T.obj 0 _ st3 b hb;exact ⟨o,eo⟩
 obtain ⟨hg,ht,hb⟩:=hin { s2 with heap:=s2.heap.push { cls:=.type "list",data:=.seq ([]:List Value).toArray },toks:=s2.toks } (upd H2 s2.heap.objs.size (.lst [])) fp s2.heap.objs.size;have st4:=T.keep 0 _ (pushCells ((s2.heap.push { cls:=.type "list",data:=.seq ([]:List Value).toArray }).push { cls:=.type "dict",data:=.dict #[] }) scope.names) st3 fun b _ o e=>pushCells_keeps _ _ b o (Heap.get?_push_of_some _ e);have f4:∀ b∈fp,U0 (X.inn scope (D0 own cap) { s2 with heap:=s2.heap.push { cls:=.type "list",data:=.seq ([]:List Value).toArray },toks:=s2.toks } (upd H2 s2.heap.objs.size (.lst [])) fp) [] (upd H2 s2.heap.objs.size (.lst [])) b:=fun b hb =>
  ⟨(f3 b hb).1,(I4.ok.exf b hb).1,I4.ok.exfs b hb,.inl hb,(I4.ok.exf b hb).2,fun p hp=>absurd (show p∈([]:List (Addr × Obj)) from hp) (by simp)⟩
 have lp:=A6z (Y:=X.inn scope (D0 own cap) { s2 with heap:=s2.heap.push { cls:=.type "list",data:=.seq ([]:List Value).toArray },toks:=s2.toks } (upd H2 s2.heap.objs.size (.lst [])) fp) (acc:=s2.heap.objs.size) (gens:=⟨tg,iter,ifs,0⟩::E7) (d:=0) rfl rfl hc hg ht hb I4 T st4 f4 (q2 _ fr2);have lp':=codeAny_mono lp (R':=compPost (model X.prog X.w) X.A X.xe none (EP X pins σ Q) (.ref s2.heap.objs.size) (s2.heap.push { cls:=.type "list",data:=.seq ([]:List Value).toArray }).objs.size) fun r s' ⟨hr,σ',H',I',q'⟩=>by
  subst hr;obtain ⟨m',hn',_⟩:=id I'.loc;refine ⟨m',hn',fun h' hsb=>?_⟩;refine ⟨.ref s2.heap.objs.size,H',?_,rfl,q'⟩;have neC:∀ b o,(s2.heap.push { cls:=.type "list",data:=.seq ([]:List Value).toArray }).get? b=some o->b≠(s2.heap.push { cls:=.type "list",data:=.seq ([]:List Value).toArray }).objs.size:=fun b o e=>Nat.ne_of_lt (Heap.lt_size e);have B:=I'.base;refine I3.call' (ch:=fp) I'.os ⟨fun b o e n hb hx=>(hsb.2 b (neC b o e)).trans (B.keep b o e n hb hx),fun b o e n hb hx=>?_,B.free,fun b o e hx=>?_,B.tups,B.frzs,B.tbls⟩ (fun b u e=>?_) I'.bare fun b hb=>⟨(f3 b hb).2.2.2.1,(f3 b hb).2.1,(f3 b hb).2.2.2.2.1,(f3 b hb).2.2.2.2.2⟩
  ·obtain ⟨sl,e1⟩:=B.slot b o e n hb hx;exact ⟨sl,(hsb.2 b (neC b o e)).trans e1⟩
  ·obtain ⟨o',e1⟩:=B.there b o e hx;exact ⟨o',(hsb.2 b (neC b o e)).trans e1⟩
  ·have hC:H' (s2.heap.push { cls:=.type "list",data:=.seq ([]:List Value).toArray }).objs.size=none:=I'.free;refine (I'.hok b u e).stay (fun c v hc' q=>(hsb.2 c ?_).trans q) (fun _ q=>q) fun _ _ q=>q;rintro rfl;rcases hc' with hc'|hc'
   ·rw [<-hc',hC] at e;cases e
   ·rw [hC] at hc';cases hc'
 exact T8 rfl lp' (T.self _ _ _ _ _ st4 lp')
theorem B88 {X:Cx} {i:Nat} {y:Str} {py spos:Pos} {elt tg iter:Expr} {ifs:List Expr} {E7:List Comprehension} {scope:Scope} {pos:Pos} {wi:TI} {g:TG} {ti:TT} {tb:Addr->TS} (own:List Str) (cap:List (Str × Nat)) (hN:X.N.Nodup) (hyi:X.N[i]?=some y) (hy:X.env.scope.names.lookup y=some .local) (hc:X.calm=true) (L:B9 X scope own cap) (hi:PI X tg iter wi)
  (hin:∀ (s₃:Shared) (H₃:Hp) (fp:List Addr) (acc:Addr),PG (X.inn scope (D0 own cap) s₃ H₃ fp) tg g/\PTs (X.inn scope (D0 own cap) s₃ H₃ fp) ifs ti/\PB (X.inn scope (D0 own cap) s₃ H₃ fp) elt (⟨tg,iter,ifs,0⟩::E7) scope pos 0 acc (tb acc))
  (hsw:swapsWith (.ListComp elt (⟨tg,iter,ifs,0⟩::E7) scope pos) (some (.Name y py)) spos.line X.env=pure true:=by rfl) (hs:∀ x,foldedSetIterable iter X.env x=pure x:=by intro _;rfl) :
  PS X (.Assign [.Name y py] (.ListComp elt (⟨tg,iter,ifs,0⟩::E7) scope pos) spos) (A9h (tLC wi g ti tb own cap) (K9 i)):=by
 intro pins s σ H D I h;rw [exec_Assign_Name_used _ _ _ _ hsw];refine wpAny_bind (wpAny_standAt (wpAny_bind ?_));show wpAny _ X.A (do let _ <- comprehension (.ListComp elt (⟨tg,iter,ifs,0⟩::E7) scope pos) scope X.env _ (newList []) false (eval iter X.env) (some (assign (.Name y py) X.env))) _ _ s;have hcl:∀ x∈scope.names,x.2=.free->∃ c,X.env.cells.lookup x.1=some c:=fun x hx hk=>I.ok.has x.1 (L.fre x hx hk);refine wpAny_bind (wpAny_mono (wpAny_comprehension_free (use:=some (assign (.Name y py) X.env)) (Q:=fun _ s'=>SP X pins D .next s') rfl hs (O6 hcl) L.kind L.loc (D6 (hi pins s σ H _ I h) fun x s1 h1=>D6 h1 fun itv s2 ⟨it,fp,tn,J,H2,e,I2,T,st2,f2,q2⟩=>?_)) (fun _ s' hq=>wpAny_pure (wpAny_pure hq)) fun _ _ e=>e);subst e;refine wpAny_newObj_type ?_;have I3:=I2.lnew (t':=s2.toks) (ys:=[]) (its:=[]) .nil (Nat.zero_le _);have fr2:H2 s2.heap.objs.size=none:=I2.fresh;have f3:∀ b∈fp,U0 X pins (upd H2 s2.heap.objs.size (.lst [])) b:=fun b hb=>by
  obtain ⟨o,eo,_⟩:=T.obj 0 _ st2 b hb;obtain ⟨g1,g2⟩:=f2 b hb;exact ⟨by rw [B1 (Nat.ne_of_lt (Heap.lt_size eo))];exact g1,g2⟩
 have k3:∀ b o,s2.heap.get? b=some o->(s2.heap.push { cls:=.type "list",data:=.seq ([]:List Value).toArray }).get? b=some o:=fun b o e=>Heap.get?_push_of_some _ e;have st3:tn 0 (s2.heap.push { cls:=.type "list",data:=.seq ([]:List Value).toArray }):=T.keep 0 _ _ st2 fun b _ o e=>k3 b o e;refine A0c ?_;have I4:=A7g L I3 f3 fun b hb=>by obtain ⟨o,eo,_⟩:=T.obj 0 _ st3 b hb;exact ⟨o,eo⟩
 obtain ⟨hg,ht,hb⟩:=hin { s2 with heap:=s2.heap.push { cls:=.type "list",data:=.seq ([]:List Value).toArray },toks:=s2.toks } (upd H2 s2.heap.objs.size (.lst [])) fp s2.heap.objs.size;have st4:=T.keep 0 _ (pushCells ((s2.heap.push { cls:=.type "list",data:=.seq ([]:List Value).toArray }).push { cls:=.type "dict",data:=.dict #[] }) scope.names) st3 fun b _ o e=>pushCells_keeps _ _ b o (Heap.get?_push_of_some _ e);have f4:∀ b∈fp,U0 (X.inn scope (D0 own cap) { s2 with heap:=s2.heap.push { cls:=.type "list",data:=.seq ([]:List Value).toArray },toks:=s2.toks } (upd H2 s2.heap.objs.size (.lst [])) fp) [] (upd H2 s2.heap.objs.size (.lst [])) b:=fun b hb =>
  ⟨(f3 b hb).1,(I4.ok.exf b hb).1,I4.ok.exfs b hb,.inl hb,(I4.ok.exf b hb).2,fun p hp=>absurd (show p∈([]:List (Addr × Obj)) from hp) (by simp)⟩
 have lp:=A6z (Y:=X.inn scope (D0 own cap) { s2 with heap:=s2.heap.push { cls:=.type "list",data:=.seq ([]:List Value).toArray },toks:=s2.toks } (upd H2 s2.heap.objs.size (.lst [])) fp) (acc:=s2.heap.objs.size) (gens:=⟨tg,iter,ifs,0⟩::E7) (d:=0) rfl rfl hc hg ht hb I4 T st4 f4 (q2 _ fr2);have lp':=codeAny_mono lp (R':=compPost (model X.prog X.w) X.A X.xe (some (assign (.Name y py) X.env)) (fun _ s'=>SP X pins D .next s') (.ref s2.heap.objs.size) (s2.heap.push { cls:=.type "list",data:=.seq ([]:List Value).toArray }).objs.size) fun r s' ⟨hr,σ',H',I',q'⟩=>by
  subst hr;obtain ⟨m',hn',_⟩:=id I'.loc;have B:=I'.base;have I5:B4 X pins σ H' s':=I3.call' (ch:=fp) I'.os B I'.hok I'.bare fun b hb=>⟨(f3 b hb).2.2.2.1,(f3 b hb).2.1,(f3 b hb).2.2.2.2.1,(f3 b hb).2.2.2.2.2⟩;have hC:H' (s2.heap.push { cls:=.type "list",data:=.seq ([]:List Value).toArray }).objs.size=none:=I'.free;show wpAny _ X.A (assign (.Name y py) X.env (.ref s2.heap.objs.size)) _ _ _;refine wpAny_assign_Name (A2i I5 hN hyi (.inl hy) (v:=.ref s2.heap.objs.size) rfl (fun s6 I6 ⟨a6,sb6,ha6⟩=>?_) (.inr hy));have neL:X.env.locals≠(s2.heap.push { cls:=.type "list",data:=.seq ([]:List Value).toArray }).objs.size:=Nat.ne_of_lt I3.lt;have ha:a6≠(s2.heap.push { cls:=.type "list",data:=.seq ([]:List Value).toArray }).objs.size:=by
   rcases ha6 with rfl|ha6
   ·exact neL
   ·obtain ⟨v,hv⟩:=I3.cell y a6 ha6;exact Nat.ne_of_lt hv.lt
  refine ⟨m',hn'.sameBut sb6 ha.symm,fun h' hsb=>?_⟩;refine ⟨_,H',?_,q'⟩;have kb:∀ b o,b≠(s2.heap.push { cls:=.type "list",data:=.seq ([]:List Value).toArray }).objs.size->s6.heap.get? b=some o->h'.get? b=some o:=fun b o hb e=>(hsb.2 b hb).trans e;refine I6.turned (t':=s6.toks) (it:=(s2.heap.push { cls:=.type "list",data:=.seq ([]:List Value).toArray }).objs.size) kb hC neL.symm (.inr I3.sz) (fun x c e z=>?_) (fun p hp z=>?_)
  ·obtain ⟨v,hv⟩:=I3.cell x c e;exact absurd z (Nat.ne_of_lt hv.lt)
  ·have:=(I3.pin p hp).1;exact absurd z (Nat.ne_of_lt (Heap.lt_size this))
 exact T8 rfl lp' (T.self _ _ _ _ _ st4 lp')
mutual
inductive Den (K:W.Frag) (H:Hp):V->PyData->Prop
 | non:Den K H .non .none
 | bl (b):Den K H (.bl b) (.bool b)
 | int (i):Den K H (.int i) (.int i)
 | str (x):Den K H (.str x) (.str x)
 | lst {a us ds}:L4 K H a us->Dens K H us ds->Den K H (.ref a) (.list ds)
 | tup {a us ds}:R4 K H a us->Dens K H us ds->Den K H (.ref a) (.tuple ds)
inductive Dens (K:W.Frag) (H:Hp):List V->List PyData->Prop
 | nil:Dens K H [] []
 | cons {v vs d ds}:Den K H v d->Dens K H vs ds->Dens K H (v::vs) (d::ds)
end
theorem A7.tup {K:W.Frag} {H H':Hp} {a:Addr} {xs:List V} (e:A7 H H') (h:R4 K H a xs):R4 K H' a xs:=by
 rcases h with (h|⟨o,h⟩)|h
 ·exact .inl (.inl (e _ _ h))
 ·exact .inl (.inr ⟨o,e _ _ h⟩)
 ·exact .inr h
section
variable {X:Cx} {pins:List (Addr × Obj)} {σ:St} {H:Hp} {s:Shared}
mutual
theorem Den.reads (I:B4 X pins σ H s):∀ {v d} {u:Value},Den X.K H v d->C8 v u->∃ as,Reads s.heap u d as
 | _,_,_,.non,r=>by cases r;exact ⟨_,.none⟩
 | _,_,_,.bl b,r=>by cases r;exact ⟨_,.bool b⟩
 | _,_,_,.int i,r=>by obtain ⟨t,rfl⟩:=r;exact ⟨_,.int i t⟩
 | _,_,_,.str i,r=>by obtain ⟨t,rfl⟩:=r;exact ⟨_,.str i t⟩
 | _,_,_,.lst h hr,r=>by
  cases r;obtain ⟨its,rv,⟨o,n,e,c,_,d⟩,_⟩:=I.list h;obtain ⟨as,q⟩:=Dens.reads I hr rv;exact ⟨_,.list e c d (by simpa using q)⟩
 | _,_,_,.tup h hr,r=>by
  cases r;obtain ⟨its,rv,⟨o,e,c,n,d⟩,_⟩:=I.tuple h;obtain ⟨as,q⟩:=Dens.reads I hr rv;exact ⟨_,.tuple e c d (by simpa using q)⟩
theorem Dens.reads (I:B4 X pins σ H s):∀ {vs ds} {us:List Value},Dens X.K H vs ds->C4 vs us->∃ as,ReadsAll s.heap us ds as
 | _,_,_,.nil,r=>by cases r;exact ⟨_,.nil⟩
 | _,_,_,.cons h hr,r=>by
  cases r with
  | cons r1 r2 =>
   obtain ⟨as,q⟩:=Den.reads I h r1;obtain ⟨bs,q2⟩:=Dens.reads I hr r2;exact ⟨_,.cons q q2⟩
end
end
def C05 (K:W.Frag) (f:Bool->Bool):R2:=fun x y H Q=>∃ dx dy,Den K H x dx/\Den K H y dy/\dx.canLay0=true/\dy.canLay0=true/\dx.depth<=32/\Q (.bl (f (PyData.eqv dx dy))) H
section
variable {X:Cx}
theorem C96 (hu:X.A.units+64 < cLine):T5 X (compareOp .Eq) (C05 X.K id):=by
 intro pins s σ H x y v u Q I rx ry h;obtain ⟨dx,dy,h1,h2,h3,h4,h5,q⟩:=h;obtain ⟨as,r1⟩:=h1.reads I rx;obtain ⟨bs,r2⟩:=h2.reads I ry;exact SeqAt.compareEq_reads r1 r2 h3 h4 (by omega) ⟨.bl _,H,I,rfl,q⟩
theorem C92 (hu:X.A.units+64 < cLine):T5 X (compareOp .NotEq) (C05 X.K not):=by
 intro pins s σ H x y v u Q I rx ry h;obtain ⟨dx,dy,h1,h2,h3,h4,h5,q⟩:=h;obtain ⟨as,r1⟩:=h1.reads I rx;obtain ⟨bs,r2⟩:=h2.reads I ry;exact SeqAt.compareNe_reads r1 r2 h3 h4 (by omega) ⟨.bl _,H,I,rfl,q⟩
theorem A18 {bs:List Bool}:∀ {us:List Value},C4 (bs.map V.bl) us->us=bs.map Value.bool:=by
 induction bs with
 | nil=>intro us h;cases h;rfl
 | cons b r ih =>
  intro us h;cases h with
  | cons h1 h2=>cases h1;rw [ih h2];rfl
theorem B6r {bs:List Bool}:(List.range bs.length).all (fun i=>bs.getD i false)=bs.all id:=by
 rw [Bool.eq_iff_iff,all_eq_true,all_eq_true];constructor
 ·intro h b hb;obtain ⟨i,hi,rfl⟩:=List.mem_iff_getElem.mp hb;have:=h i (mem_range.mpr hi);simpa [hi] using this
 ·intro h i hi;have hi:=mem_range.mp hi;have:=h _ (List.getElem_mem hi);simpa [hi] using this
theorem A69 {bs:List Bool}:(List.range bs.length).any (fun i=>bs.getD i false)=bs.any id:=by
 rw [Bool.eq_iff_iff,any_eq_true,any_eq_true];constructor
 ·rintro ⟨i,hi,h⟩;have hi:=mem_range.mp hi;exact ⟨_,List.getElem_mem hi,by simpa [hi] using h⟩
 ·rintro ⟨b,hb,h⟩;obtain ⟨i,hi,rfl⟩:=List.mem_iff_getElem.mp hb;exact ⟨i,mem_range.mpr hi,by simpa [hi] using h⟩
theorem Y4 {prog:Program} {w:World} {A:Around} {bs:List Bool}:TruthOf prog w A (fun i v=>(bs.map Value.bool).toArray[i]?=some v) (fun i=>bs.getD i false):=by
 intro i v s Q E hv hq;simp only [List.getElem?_toArray,List.getElem?_map] at hv;cases e:bs[i]? with
 | none=>rw [e] at hv;cases hv
 | some b =>
  rw [e] at hv;cases hv;have hq:Q (bs.getD i false) s:=hq;rw [List.getD_eq_getElem?_getD,e] at hq;exact wpAny_truthy_bool hq
theorem A4c (hc:X.calm=true):K2 X (.builtin "all") (fun xs H Q=>∃ (a:Addr) (bs:List Bool),xs=[.ref a]/\L4 X.K H a (bs.map V.bl)/\Q (.bl (bs.all id)) H):=by
 intro pins s σ H xs us Q I r h;obtain ⟨a,bs,rfl,hq,q⟩:=h;obtain ⟨u,rfl,r1⟩:=S8 r;cases r1;obtain ⟨its,rv,p,hz⟩:=I.list hq;cases A18 rv;refine call_all_walk (wpAny_pyIter_list p.isList ?_);have hne:a≠s.heap.objs.size:=by obtain ⟨o,n,e,_⟩:=p;exact Nat.ne_of_lt (Heap.lt_size e)
 refine ⟨_,_,_,_,_,_,_,rfl,Walks.list (A:=X.A.in1) (I.ok.hd hc) s.heap.objs.size a hne _,⟨⟨_,Heap.get?_push_size _ rfl,rfl,rfl⟩,(p.keeps fun b o e=>Heap.get?_push_of_some _ e).isList⟩,Y4,fun h' tk k=>?_⟩;have e1:((bs.map Value.bool).toArray.size)=bs.length:=by simp
 rw [e1,B6r];refine ⟨.bl _,H,I.kept fun b o e=>k b o ?_ (Heap.get?_push_of_some _ e),rfl,q⟩;simp only [mem_singleton];exact Nat.ne_of_lt (Heap.lt_size e)
theorem A4o (hc:X.calm=true):K2 X (.builtin "any") (fun xs H Q=>∃ (a:Addr) (bs:List Bool),xs=[.ref a]/\L4 X.K H a (bs.map V.bl)/\Q (.bl (bs.any id)) H):=by
 intro pins s σ H xs us Q I r h;obtain ⟨a,bs,rfl,hq,q⟩:=h;obtain ⟨u,rfl,r1⟩:=S8 r;cases r1;obtain ⟨its,rv,p,hz⟩:=I.list hq;cases A18 rv;refine call_any_walk (wpAny_pyIter_list p.isList ?_);have hne:a≠s.heap.objs.size:=by obtain ⟨o,n,e,_⟩:=p;exact Nat.ne_of_lt (Heap.lt_size e)
 refine ⟨_,_,_,_,_,_,_,rfl,Walks.list (A:=X.A.in1) (I.ok.hd hc) s.heap.objs.size a hne _,⟨⟨_,Heap.get?_push_size _ rfl,rfl,rfl⟩,(p.keeps fun b o e=>Heap.get?_push_of_some _ e).isList⟩,Y4,fun h' tk k=>?_⟩;have e1:((bs.map Value.bool).toArray.size)=bs.length:=by simp
 rw [e1,A69];refine ⟨.bl _,H,I.kept fun b o e=>k b o ?_ (Heap.get?_push_of_some _ e),rfl,q⟩;simp only [mem_singleton];exact Nat.ne_of_lt (Heap.lt_size e)
end
section
variable {X:Cx} {pins:List (Addr × Obj)} {σ:St} {H:Hp} {s:Shared} {h':Heap} {t':Nat}
theorem B4.turnLay {a:Addr} {o:HO} {ch:List Addr} (I:B4 X pins σ H s) (k:∀ b u,b∉ch->s.heap.get? b=some u->h'.get? b=some u) (hp:s.heap.objs.size<=a) (new:E1 X.prog X.w (upd H a o) h' a o) (hch:∀ b∈ch,U0 X pins H b) :
  B4 X pins σ (upd H a o) { s with heap:=h',toks:=t' }:=by
 have hn:H a=none:=I.hok.fresh hp;have nch:∀ b u,H b=some u->b∉ch:=fun b u e z=>by rw [(hch b z).1] at e;cases e
 refine I.call (g':=s.gens) (d':=s.drawn) (ch:=ch) ⟨fun b u q _ _ hx=>k b u hx q,fun b u q _ _ hx=>⟨u.slots,k b u hx q⟩,fun b u q n _=>?_,fun b u q hx=>⟨u,k b u hx q⟩,fun b xs q=>?_,fun b u xs q=>?_,fun b ps q=>⟨#[],?_⟩⟩ (fun b u e=>?_) I.bare
  fun b hb=>⟨(hch b hb).2.2.2.1,(hch b hb).2.1,(hch b hb).2.2.2.2.1,(hch b hb).2.2.2.2.2⟩
 ·rw [B1 (Nat.ne_of_lt (Nat.lt_of_lt_of_le (Heap.lt_size q) hp))];exact n
 ·rw [B1 (G4 q hn)];exact q
 ·rw [B1 (G4 q hn)];exact q
 ·rw [B1 (G4 q hn),q];simp
 ·by_cases hb:b=a
  ·subst hb;rw [B3] at e;cases e;exact new
  ·rw [B1 hb] at e;refine (I.hok b u e).stay (fun c v hc q=>k c v ?_ q) (fun c q=>by rw [B1 (G4 q hn)];exact q) fun c xs q=>by rw [B1 (G4 q hn)];exact q
   rcases hc with z|z
   ·rw [z];exact nch b u e
   ·exact nch c _ z
end
def Ite (K:W.Frag) (a:Addr):It :=
 ⟨fun i H=>∃ xs x,L4 K H a xs/\xs[i]?=some x,fun i H x H'=>∃ p y,H p=none/\(∀ xs,L4 K H a xs->xs[i]?=some y)/\x=.ref p/\H'=upd H p (.tup [.int i,y]),fun i H=>∃ xs,L4 K H a xs/\xs.length<=i⟩
theorem B6n {P:Program} {w:World} {K:W.Frag} {elts:List Expr} {x1} {tp:Pos} (a e it:Addr) (hei:e≠it):A7r P w K (.Tuple elts x1 tp) (Ite K a) [e,it] e (fun i h=>(∃ old,IsEnum h e it i old)/\h.IsListIter it a i) where
 mem:=by simp
 obj:=fun i h st b hb=>by
  obtain ⟨⟨old,h1⟩,⟨o,e2,c2,d2⟩⟩:=st;rcases mem_cons.mp hb with rfl|hb
  ·exact ⟨_,h1,fun v z=>by
    have z':Data.fields _=Data.cell v:=z;cases z'⟩
  ·have e':b=it:=by simpa using hb
   subst e';exact ⟨o,e2,fun v z=>by rw [d2] at z;cases z⟩
 keep:=fun i h h' st k=>by
  obtain ⟨⟨old,h1⟩,h2⟩:=st;exact ⟨⟨old,k e (by simp) _ h1⟩,h2.at fun o e=>k it (by simp) o e⟩
 item:=by
  intro X hP hw hK hc i pins s σ H E I hf st hg;subst hP hw hK;obtain ⟨⟨old,h1⟩,h2⟩:=st;obtain ⟨xs,x,hq,hx⟩:=hg;obtain ⟨its,rv,p,hz⟩:=I.list hq;obtain ⟨u,hu,ru⟩:=rv.get hx;have helt:e < s.heap.objs.size:=Heap.lt_size h1;have hilt:it < s.heap.objs.size:=by obtain ⟨_,y,_⟩:=h2;exact Heap.lt_size y
  refine wpAny_pyNext_enum_item h1 h2 p.isList (x:=u) (by simpa using hu) hei fun h' ho hit' hT hsz hk=>?_;refine ⟨_,rfl,wpAny_letOwnedTupleGo_enum (s:={ s with heap:=h',toks:=s.toks+1 }) ho fun h2 he2 hs2=>?_⟩;have neT:s.heap.objs.size≠e:=Nat.ne_of_gt helt;have neI:s.heap.objs.size≠it:=Nat.ne_of_gt hilt;refine ⟨.ref s.heap.objs.size,upd H s.heap.objs.size (.tup [.int i,x]),?_,rfl,⟨_,x,I.fresh,fun ys hy=>by rw [I.list_inj hy hq];exact hx,rfl,rfl⟩,⟨⟨u,by simpa using he2⟩,hit'.at fun o y=>(hs2.2 it hei.symm).trans y⟩,fun b hb=>?_⟩
  ·have I1:=I.turnLay (h':=h2) (t':=s.toks+1) (a:=s.heap.objs.size) (o:=.tup [.int i,x]) (ch:=[e,it]) (fun b o hb q=>(hs2.2 b fun z=>hb (by simp [z])).trans (hk b o (fun z=>hb (by simp [z])) (fun z=>hb (by simp [z])) q)) (Nat.le_refl _) ?_ hf
   ·exact I1
   exact ⟨by show 2<=sizeLine;decide,[.int i s.toks,u],.cons ⟨_,rfl⟩ (.cons ru .nil),⟨_,(hs2.2 _ neT).trans hT,rfl,0,rfl⟩⟩
  ·rcases mem_cons.mp hb with rfl|hb
   ·rw [B1 neT.symm];exact (hf b (by simp)).1
   ·have e':b=it:=by simpa using hb
    subst e';rw [B1 neI.symm];exact (hf b (by simp)).1
 done:=by
  intro X hP hw hK hc i pins s σ H E I hf st hg;subst hP hw hK;obtain ⟨⟨old,h1⟩,h2⟩:=st;obtain ⟨xs,hq,hx⟩:=hg;obtain ⟨its,rv,p,hz⟩:=I.list hq;have hl:=rv.length;obtain ⟨f0,f1,f2,f3,f4,f5⟩:=hf it (by simp);exact wpAny_pyNext_enum_end (I.ok.hd hc) h1 h2 p.isList (by simp;omega) fun h' eb=>⟨rfl,I.turned (t':=s.toks) (fun b o hb q=>eb b o hb q) f0 f1 f3 f4 f5⟩
 self:=fun _ _ _ _ _ st h=>by obtain ⟨⟨old,h1⟩,_⟩:=st;exact wpAny_pyIter_enum h1 h
section
variable {X:Cx}
def B9c (K:W.Frag) (ta:TA):TI:=fun σ H R=>ta σ H fun vs H1=>∃ a,vs=[.ref a]/\(∃ xs,L4 K H1 a xs)/\R (Ite K a) H1
theorem C69 {a:Expr} {ta:TA} {p pos:Pos} {elts:List Expr} {x1} {tp:Pos} (hg:Gl X "enumerate") (hm:X.mg "enumerate"=none) (ha:PA X [a] ta) (hs:starEach [a] X.env=[(false,eval a X.env)]:=by rfl) :
  PI X (.Tuple elts x1 tp) (.Call (.Name "enumerate" p) [a] [] pos) (B9c X.K ta):=by
 intro pins s σ H R I h;refine Call_ (A2u I hg hm boot_enumerate (PyProof.Rows.callWith_type1 (D6 (ha pos pins s σ H _ I h) fun us s1 ⟨vs,H1,I1,r1,q1⟩=>?_) hs rfl));obtain ⟨a,e,⟨xs,hq⟩,q⟩:=q1;subst e;obtain ⟨u,rfl,ru⟩:=S8 r1;cases ru;obtain ⟨its,rv,p,hz⟩:=I1.list hq;refine call_enumerate_list p.isList fun h' he hit hsz hk=>?_;refine wpAny_pyIter_enum he ?_;have I2:B4 X pins σ H1 { s1 with heap:=h' }:=I1.kept (t':=s1.toks) hk;refine ⟨s1.heap.objs.size+1,[s1.heap.objs.size+1,s1.heap.objs.size],_,_,H1,rfl,I2,B6n a _ _ (Nat.succ_ne_self _),⟨⟨.none,he⟩,hit⟩,fun b hb=>?_,q⟩;rcases mem_cons.mp hb with rfl|hb
 ·exact I1.fpOk (Nat.le_succ _) (I1.hok.fresh (Nat.le_succ _))
 ·have e':b=s1.heap.objs.size:=by simpa using hb
  subst e';exact I1.fpOk (Nat.le_refl _) (I1.hok.fresh (Nat.le_refl _))
end
def B5b (osc:Scope) (oN:List Str) (scope:Scope) (own:List Str) (cap:List (Str × Nat)):Bool :=
 scope.kind==.function&&decide ((scope.names.map (·.1)).Nodup)&&(scope.names.all fun x=>x.2 != .local||scope.names.lookup x.1==some .local)
  && (scope.names.all fun x=>x.2 != .free||(osc.names.lookup x.1==some .cell||osc.names.lookup x.1==some .free))
  && (cap.all fun p=>oN[p.2]?==some p.1&&scope.names.contains (p.1,NameKind.free))
theorem B9.of {X:Cx} {scope:Scope} {own:List Str} {cap:List (Str × Nat)} (h:B5b X.env.scope X.N scope own cap=true):B9 X scope own cap:=by
 unfold B5b at h;simp only [Bool.and_eq_true,all_eq_true,beq_iff_eq,decide_eq_true_eq,Bool.or_eq_true,bne_iff_ne,ne_eq] at h;obtain ⟨⟨⟨⟨h1,h2⟩,h3⟩,h4⟩,h5⟩:=h;refine ⟨h1,h2,fun x hx hk=>?_,fun x hx hk=>?_,fun p hp=>?_⟩
 ·rcases h3 x hx with z|z
  ·exact absurd hk z
  ·exact z
 ·rcases h4 x hx with z|z
  ·exact absurd hk z
  ·exact z
 ·obtain ⟨a,b⟩:=h5 p hp;exact ⟨a,by simpa using b⟩
section
variable {X:Cx} {e:Expr} {te:TE} {pos:Pos}
theorem E03 (i:Nat) {x:Str} {pos':Pos} (hN:X.N.Nodup) (he:PE X e te) (hi:X.N[i]?=some x:=by rfl) (hx:Loc X.env.scope x:=by first|exact Or.inl rfl|exact Or.inr rfl) (hs:swapsWith e (some (.Name x pos')) pos.line X.env=pure false:=by rfl)
  (hf:X.fn x=true\/X.env.scope.names.lookup x=some .local:=by first|exact .inl rfl|exact .inr rfl|assumption):PS X (.Assign [.Name x pos'] e pos) (A9h te (K9 i)):=D1y hN hi hx he hs hf
theorem pgn (i:Nat) {x:Str} (hN:X.N.Nodup) (hi:X.N[i]?=some x:=by rfl) (hx:Loc X.env.scope x:=by first|exact Or.inl rfl|exact Or.inr rfl) (hf:X.fn x=true\/X.env.scope.names.lookup x=some .local:=by first|exact .inl rfl|exact .inr rfl|assumption):PG X (.Name x pos) (K9 i):=C4p hN hi hx hf
end
structure Df (P:Program) (w:World) (K:W.Frag) (mg:Str->Option Value) (base:Heap) (x:Str) (ps:List Str) (k:Nat) (sp:Sp):Prop where
 ex:∃ f fd,G6 P w K mg base X6 k f fd ps sp/\mg x=some (.ref f)/\PySem.W.keepIn K (.ref f)=true/\A2z K fd ps []
theorem D48 {X:Cx} {x:Str} {ps:List Str} {k:Nat} {sp:Sp} {p pos:Pos} {e:Expr} {es:List Expr} {t:TA} (D:Df X.prog X.w X.K X.mg X.base x ps k sp) (hr:O0 k X.A) (ha:PA X (e::es) t) (hg:Gl X x:=by rfl) (hdb:(x==("__debug__":Str))=false:=by decide)
  (he:starEach (e::es) X.env=(false,eval e X.env)::starEach es X.env:=by rfl) (hpl:(backTo pos (starEach es X.env)).any (·.1)=false:=by rfl):PE X (.Call (.Name x p) (e::es) [] pos) (B02 sp [] E0 t):=by
 obtain ⟨f,fd,F,hm,hk,hb⟩:=D.ex;exact B47 F hr hg hm hk hb .nil D64 ha hdb he hpl
section
variable {X:Cx} {o e:Expr} {to:TE} {te:TE} {apos cpos:Pos}
theorem B7o (ho:PE X o to) (he:PE X e te) (hs:starEach [e] X.env=[(false,eval e X.env)]) (hbase:attributeBase o "append" X.env (eval o X.env)=eval o X.env:=by rfl)
  (hline:(apos.endLine==cpos.line)=true:=by rfl):PE X (.Call (.Attribute o "append" apos) [e] [] cpos) (tBM X.K "list" W9 to (Y1 te A7c)) :=
 C1j PySem.F.plainAttrs_list PySem.F.slot_list_append PySem.F.type_list_append A6l ho (A6v he B2h hs) hbase (by rw [hs];rfl) hline hs rfl
end
theorem N3 {N:List Str} (h:decide N.Nodup=true):N.Nodup:=of_decide_eq_true h
section
variable {X:Cx} {K:W.Frag}
theorem C4o (K:W.Frag) (n:Nat) (hK:X.K=K) {es:List Expr} {k:Nat} {t:TGs} {pos:Pos} (hc:X.calm=true) (h:PGs X es t) (hn:(assignEach es X.env).length=n) (hst:(assignEach es X.env).findIdx? (·.1)=none):PG X (.Tuple es k pos) (B8x K n t):=by
 subst hK;exact D04 hc h hn hst
theorem B9k (K:W.Frag) (hK:X.K=K) {tg l:Expr} {tl:TE} (hl:PE X l tl):PI X tg l (B4v K tl):=by subst hK;exact C50 hl
theorem C62 (K:W.Frag) (hK:X.K=K) {tg l:Expr} {tl:TE} (hl:PE X l tl):PI X tg l (D3e K tl):=by subst hK;exact C9j hl
theorem B9p (K:W.Frag) (hK:X.K=K) {a:Expr} {ta:TA} {p pos:Pos} {elts:List Expr} {x1} {tp:Pos} (hg:Gl X "enumerate") (hm:X.mg "enumerate"=none) (ha:PA X [a] ta) (hs:starEach [a] X.env=[(false,eval a X.env)]) :
  PI X (.Tuple elts x1 tp) (.Call (.Name "enumerate" p) [a] [] pos) (B9c K ta):=by subst hK;exact C69 hg hm ha hs
theorem A21 (K:W.Frag) (hK:X.K=K):IxR X (B2p K):=by subst hK;exact C2p
def D91 (K:W.Frag):List V->Hp->VK->Prop:=fun xs H Q=>∃ p ys,xs=[.ref p]/\(L4 K H p ys\/R4 K H p ys)/\Q (.int ys.length) H
theorem B7b (K:W.Frag) (hK:X.K=K):K2 X (.builtin "len") (D91 K):=by subst hK;exact A7i
def D8j (K:W.Frag):List V->Hp->VK->Prop:=fun xs H Q=>∃ (a:Addr) (bs:List Bool),xs=[.ref a]/\L4 K H a (bs.map V.bl)/\Q (.bl (bs.all id)) H
def D4e (K:W.Frag):List V->Hp->VK->Prop:=fun xs H Q=>∃ (a:Addr) (bs:List Bool),xs=[.ref a]/\L4 K H a (bs.map V.bl)/\Q (.bl (bs.any id)) H
def C3q (K:W.Frag):List V->Hp->VK->Prop:=fun xs H Q=>∃ p ys,xs=[.ref p]/\(L4 K H p ys\/R4 K H p ys)/\∀ l,H l=none->Q (.ref l) (upd H l (.lst ys))
theorem B6e (K:W.Frag) (hK:X.K=K) (hc:X.calm=true):K2 X (.builtin "all") (D8j K):=by subst hK;exact A4c hc
theorem B7p (K:W.Frag) (hK:X.K=K) (hc:X.calm=true):K2 X (.builtin "any") (D4e K):=by subst hK;exact A4o hc
theorem B2z (K:W.Frag) (hK:X.K=K):K2 X (.type "list") (C3q K):=by subst hK;exact A8d
theorem D1o (K:W.Frag) (hK:X.K=K) (hu:X.A.units+64 < cLine):T5 X (compareOp .Eq) (C05 K id):=by subst hK;exact C96 hu
theorem C9n (K:W.Frag) (hK:X.K=K) (hu:X.A.units+64 < cLine):T5 X (compareOp .NotEq) (C05 K not):=by subst hK;exact C92 hu
theorem D37 (K:W.Frag) (hK:X.K=K):T5 X (compareOp .In) (rIn K false):=by subst hK;exact B6z
theorem B7u (K:W.Frag) (hK:X.K=K):T5 X (compareOp .NotIn) (rIn K true):=by subst hK;exact A8t
theorem B22 (K:W.Frag) (hK:X.K=K) {o e:Expr} {to te:TE} {apos cpos:Pos} (ho:PE X o to) (he:PE X e te) (hs:starEach [e] X.env=[(false,eval e X.env)]) (hbase:attributeBase o "append" X.env (eval o X.env)=eval o X.env)
  (hline:(apos.endLine==cpos.line)=true):PE X (.Call (.Attribute o "append" apos) [e] [] cpos) (tBM K "list" W9 to (Y1 te A7c)):=by subst hK;exact B7o ho he hs hbase hline
end
def D28 (e:Expr):Option Int:=match e with
 | .Constant (.int i) _ _=>some i
 | _=>none
theorem C3u {e:Expr} {i:Int} (h:D28 e=some i):∃ k p,e=.Constant (.int i) k p:=by
 unfold D28 at h;split at h
 ·cases h;exact ⟨_,_,rfl⟩
 ·cases h
def A3s:List Expr->Option (List Int)
 | []=>some []
 | e::r=>match D28 e,A3s r with
  | some i,some l=>some (i::l)
  | _,_=>none
theorem B49 {X:Cx}:∀ {es:List Expr} {ns:List Int},A3s es=some ns->PA X es (fun _ H Q=>Q (ns.map V.int) H)
 | [],ns,h=>by
  cases h;exact B2h
 | e::r,ns,h=>by
  unfold A3s at h;split at h
  ·rename_i i ms e1 e2;cases h;obtain ⟨k,p,rfl⟩:=C3u e1;exact A6v C26 (B49 e2) rfl
  ·cases h
theorem B69 {K:W.Frag} {a:Addr} (xs:List V) {g:TG} {tb:TS} {D:T1} {σ:St} {H:Hp} (Pv:Nat->St->Hp->Prop) (h0:Pv 0 σ H) (hl:∀ i σ H,i<=xs.length->Pv i σ H->L4 K H a xs)
  (hs:∀ i x σ H,xs[i]?=some x->Pv i σ H->g x σ H fun σ2 H2=>tb { D with nx:=Pv (i+1),ct:=Pv (i+1),bk:=D.nx } σ2 H2) (hd:∀ σ H,Pv xs.length σ H->D.nx σ H):A30 (Itl K a) g tb D σ H:=C10 Pv h0 hl hs hd
theorem O9 {b:Bool} {A B:Prop} (h1:b=true->A) (h2:b=false->B):if b=true then A else B:=by
 cases b
 ·rw [if_neg Bool.false_ne_true];exact h2 rfl
 ·rw [if_pos rfl];exact h1 rfl
theorem A7.put {H H':Hp} {p:Addr} {o:HO} (e:A7 H H') (h:H p=none):A7 H (upd H' p o):=fun b o' hb=>by rw [B1 (G4 hb h)];exact e b o' hb
theorem A7.new {H:Hp} {p:Addr} {o:HO} (h:H p=none):A7 H (upd H p o):=(A7.refl H).put h
theorem A7.gone {H H':Hp} {p:Addr} (e:A7 H H') (h:H' p=none):H p=none:=e.free h
theorem tyl {K:W.Frag} {H:Hp} {p:Addr} {xs:List V} (h:L4 K H p xs):tyV K "list" (.ref p) H:=.inl ⟨rfl,_,h⟩
structure QE (X:Cx) (e:Expr) (t:TE):Prop where
 h:PE X e t
structure QT (X:Cx) (e:Expr) (t:TT):Prop where
 h:PT X e t
structure QW (X:Cx) (e:Expr) (t:TT):Prop where
 h:PW X e t
structure QA (X:Cx) (e:List Expr) (t:TA):Prop where
 h:PA X e t
structure QS (X:Cx) (e:Stmt) (t:TS):Prop where
 h:PS X e t
structure QSs (X:Cx) (e:List Stmt) (t:TS):Prop where
 h:PSs X e t
structure QG (X:Cx) (e:Expr) (t:TG):Prop where
 h:PG X e t
structure QGs (X:Cx) (e:List Expr) (t:TGs):Prop where
 h:PGs X e t
structure QTs (X:Cx) (e:List Expr) (t:TT):Prop where
 h:PTs X e t
structure QO (X:Cx) (e:Option Expr) (t:TO):Prop where
 h:PO X e t
structure QI (X:Cx) (tg e:Expr) (t:TI):Prop where
 h:PI X tg e t
structure QB (Y:Cx) (elt:Expr) (gens:List Comprehension) (scope:Scope) (pos:Pos) (d:Nat) (acc:Addr) (tb:TS):Prop where
 h:PB Y elt gens scope pos d acc tb
theorem qpv (i:Nat) {x:Str} {pos:Pos} (hN:X.N[i]?=some x:=by rfl) (hv:Vis X.env.scope x:=by first|exact Or.inl rfl|exact Or.inr (Or.inl rfl)|exact Or.inr (Or.inr rfl)) (hd:(x==("__debug__":Str))=false:=by decide) (hcd:(x==("__classdict__":Str))=false:=by decide):QE X (.Name x pos) (V4 i):=⟨pv i hN hv hd hcd⟩
theorem A9i {x:Str} {v:V} {u:Value} {pos:Pos} (hg:Gl X x) (hm:X.mg x=none) (hv:bootBuiltins x=some u) (r:C8 v u) (hn:x≠"__name__":=by decide) (hd:(x==("__debug__":Str))=false:=by decide):QE X (.Name x pos) (tC v):=⟨C3t hg hm hv r hn hd⟩
theorem D2o {b j pos}:QE X (.Constant (.bool b) j pos) (tC (.bl b)):=⟨B9l ⟩
theorem C6n {j pos}:QE X (.Constant .none j pos) (tC .non):=⟨D2n ⟩
theorem S7 {i j pos}:QE X (.Constant (.int i) j pos) (tC (.int i)):=⟨C26 ⟩
theorem A8f {x j pos}:QE X (.Constant (.str x) j pos) (tC (.str x)):=⟨C8l ⟩
theorem D0b {op:UnaryOp} {r:V->Hp->VK->Prop} (ho:UnR X (unaryOp op) r) (ha:QE X a ta):QE X (.UnaryOp op a pos) (tUn r ta):=⟨D67 ho ha.h⟩
theorem C55 (ha:QE X a ta):QE X (.UnaryOp .Not a pos) (C7x ta):=⟨C8t ha.h⟩
theorem D1g {op:Operator} {r:R2} (ho:T5 X (binaryOp op) r) (ha:QE X a ta) (hb:QE X b tb):QE X (.BinOp a op b pos) (tOp r ta tb):=⟨D4l ho ha.h hb.h⟩
theorem C52 {E7:List Expr} (ha:QE X a ta) (hb:QE X (.BoolOp .And (b::E7) pos) tb):QE X (.BoolOp .And (a::b::E7) pos) (C7v ta tb):=⟨D0x ha.h hb.h⟩
theorem C6b {op} {t:TE} (h:QE X a t):QE X (.BoolOp op [a] pos) t:=⟨D0m h.h⟩
theorem C29 {op:CmpOp} {r:R2} (ho:T5 X (compareOp op) r) (ha:QE X a ta) (hb:QE X b tb) (hm:behindInMarks op b=false):QE X (.Compare a [op] [b] pos) (tOp r ta tb):=⟨C3k ho ha.h hb.h hm⟩
theorem B45 {x1} (h:QA X es t):QE X (.Tuple es x1 pos) (D15 t):=⟨D33 h.h⟩
theorem C6a (h:QA X es t):QE X (.List es pos) (D4a t):=⟨C9h h.h⟩
theorem A6i {lo hi:Option Expr} {r:V->Option Int->Option Int->Hp->VK->Prop} (hr:SlR X r) (he:QE X e te) (hl:QO X lo tl) (hu:QO X hi th):QE X (.Subscript e (.Slice lo hi none p2) pos) (tSl r te tl th):=⟨C0s hr he.h hl.h hu.h⟩
theorem A2f {r:R2} (hr:IxR X r) (ha:QE X a ta) (hb:QE X b tb) (hs:A8q b):QE X (.Subscript a b pos) (tOp r ta tb):=⟨D5i hr ha.h hb.h hs⟩
theorem D23 {X:Cx} {x:Str} {ps:List Str} {k:Nat} {sp:Sp} {p pos:Pos} {e:Expr} {es:List Expr} {t:TA} (D:Df X.prog X.w X.K X.mg X.base x ps k sp) (hr:O0 k X.A) (ha:QA X (e::es) t) (hg:Gl X x:=by rfl) (hdb:(x==("__debug__":Str))=false:=by decide) (he:starEach (e::es) X.env=(false,eval e X.env)::starEach es X.env:=by rfl) (hpl:(backTo pos (starEach es X.env)).any (·.1)=false:=by rfl):QE X (.Call (.Name x p) (e::es) [] pos) (B02 sp [] E0 t):=⟨D48 D hr ha.h hg hdb he hpl⟩
theorem A0e {id:String} (hc:K2 X (.builtin id) r) (hg:Gl X x) (hm:X.mg x=none) (hv:bootBuiltins x=some (.builtin id)) (ha:QA X (e::es) t) (hn:x≠"__name__":=by decide) (hdb:(x==("__debug__":Str))=false:=by decide) (he:starEach (e::es) X.env=(false,eval e X.env)::starEach es X.env:=by rfl) (hpl:(backTo pos (starEach es X.env)).any (·.1)=false:=by rfl):QE X (.Call (.Name x p) (e::es) [] pos) (tCB r t):=⟨C2h hc hg hm hv ha.h hn hdb he hpl⟩
theorem B2q (hc:K2 X (.type T) r) (hg:Gl X x) (hm:X.mg x=none) (hv:bootBuiltins x=some (.type T)) (ha:QA X (e::es) t) (hn:x≠"__name__":=by decide) (hdb:(x==("__debug__":Str))=false:=by decide) (he:starEach (e::es) X.env=(false,eval e X.env)::starEach es X.env:=by rfl) (hpl:(backTo pos (starEach es X.env)).any (·.1)=false:=by rfl):QE X (.Call (.Name x p) (e::es) [] pos) (tCB r t):=⟨B5q hc hg hm hv ha.h hn hdb he hpl⟩
theorem S6 (K:W.Frag) (hK:X.K=K) {o e:Expr} {to te:TE} {apos cpos:Pos} (ho:QE X o to) (he:QE X e te) (hs:starEach [e] X.env=[(false,eval e X.env)]) (hbase:attributeBase o "append" X.env (eval o X.env)=eval o X.env) (hline:(apos.endLine==cpos.line)=true):QE X (.Call (.Attribute o "append" apos) [e] [] cpos) (tBM K "list" W9 to (Y1 te A7c)):=⟨B22 K hK ho.h he.h hs hbase hline⟩
theorem A67 (K:W.Frag) (hK:X.K=K) {tg l:Expr} {tl:TE} (hl:QE X l tl):QI X tg l (B4v K tl):=⟨B9k K hK hl.h⟩
theorem B85 (K:W.Frag) (hK:X.K=K) {tg l:Expr} {tl:TE} (hl:QE X l tl):QI X tg l (D3e K tl):=⟨C62 K hK hl.h⟩
theorem B6o (K:W.Frag) (hK:X.K=K) {a:Expr} {ta:TA} {p pos:Pos} {elts:List Expr} {x1} {tp:Pos} (hg:Gl X "enumerate") (hm:X.mg "enumerate"=none) (ha:QA X [a] ta) (hs:starEach [a] X.env=[(false,eval a X.env)]):QI X (.Tuple elts x1 tp) (.Call (.Name "enumerate" p) [a] [] pos) (B9c K ta):=⟨B9p K hK hg hm ha.h hs⟩
theorem B38 {a:Expr} {ta:TA} {p pos:Pos} (hg:Gl X "range") (hm:X.mg "range"=none) (ha:QA X [a] ta) (hs:starEach [a] X.env=[(false,eval a X.env)]:=by rfl):QI X tg (.Call (.Name "range" p) [a] [] pos) (C87 ta):=⟨B6i hg hm ha.h hs⟩
theorem V7 (i:Nat) {x:Str} (hN:X.N.Nodup) (hi:X.N[i]?=some x:=by rfl) (hx:Loc X.env.scope x:=by first|exact Or.inl rfl|exact Or.inr rfl) (hf:X.fn x=true\/X.env.scope.names.lookup x=some .local:=by first|exact .inl rfl|exact .inr rfl|assumption):QG X (.Name x pos) (K9 i):=⟨pgn i hN hi hx hf⟩
theorem A43 (K:W.Frag) (n:Nat) (hK:X.K=K) {es:List Expr} {k:Nat} {t:TGs} {pos:Pos} (hc:X.calm=true) (h:QGs X es t) (hn:(assignEach es X.env).length=n) (hst:(assignEach es X.env).findIdx? (·.1)=none):QG X (.Tuple es k pos) (B8x K n t):=⟨C4o K n hK hc h.h hn hst⟩
theorem E2 {e:Expr} {es:List Expr} {t:TG} {u:TGs} (h1:QG X e t) (h2:QGs X es u) (hs:(assignEach (e::es) X.env).map (·.2)=assign e X.env::(assignEach es X.env).map (·.2):=by rfl):QGs X (e::es) (A4w t u):=⟨B8k h1.h h2.h hs⟩
theorem Q3 :QGs X [] C1n:=⟨C4s ⟩
theorem C0n {op:CmpOp} {r:R2} (ho:T5 X (compareOp op) r) (ha:QE X a ta) (hb:QE X b tb) (hm:behindInMarks op b=false):QT X (.Compare a [op] [b] pos) (B4r (tOp r ta tb)):=⟨C6y ho ha.h hb.h hm⟩
theorem B71 {op op':CmpOp} {r r':R2} (ho:T5 X (compareOp op) r) (ho':T5 X (compareOp op') r') (ha:QE X a ta) (hb:QE X b tb) (hc:QE X c tc) (hm:lastMarks [op,op'] [b,c]=false:=by with_unfolding_all rfl):QT X (.Compare a [op,op'] [b,c] pos) (B4r (B3e r r' ta tb tc)):=⟨B84 ho ho' ha.h hb.h hc.h hm⟩
theorem D5q {X:Cx} {e:Expr} {t:TT} (h:QW X e t):QT X e t:=⟨PW.pt h.h⟩
theorem D2l {E7:List Expr} (ha:QT X a tA) (hb:QW X (.BoolOp .Or (b::E7) pos) tB'):QW X (.BoolOp .Or (a::b::E7) pos) (tOr tA tB'):=⟨D4m ha.h hb.h⟩
theorem C60 (ha:QT X a tA):QW X (.BoolOp .Or [a] pos) tA:=⟨C9l ha.h⟩
theorem C3z (ha:QT X a tA):QT X (.UnaryOp .Not a pos) (D52 tA):=⟨C9y ha.h⟩
theorem C3v {e:Expr} {t:TE} (h:QE X e t) (he:∀ whole,isTrue e X.env whole=(do let v <- whole;standAt e.pos;holding [v] (truthy v)):=by intro _;rfl):QT X e (tB t):=⟨D1n h.h he⟩
theorem A2r {st:Stmt} {E7:List Stmt} (h1:QS X st t) (h2:QSs X E7 u):QSs X (st::E7) (D5x t u):=⟨B9d h1.h h2.h⟩
theorem A26 {st:Stmt} (h1:QS X st t):QSs X [st] t:=⟨C51 h1.h⟩
theorem A91 :QSs X [] B4s:=⟨C38 ⟩
theorem C72 (he:QE X e te):QS X (.Return (some e) pos) (D5l te):=⟨C8y he.h⟩
theorem Y2 (he:QE X e te) (hs:swapsWith e none pos.line X.env=pure false:=by rfl):QS X (.Expr e pos) (B0y te):=⟨C56 he.h hs⟩
theorem D5t (i:Nat) {x:Str} {pos':Pos} (hN:X.N.Nodup) (he:QE X e te) (hi:X.N[i]?=some x:=by rfl) (hx:Loc X.env.scope x:=by first|exact Or.inl rfl|exact Or.inr rfl) (hs:swapsWith e (some (.Name x pos')) pos.line X.env=pure false:=by rfl) (hf:X.fn x=true\/X.env.scope.names.lookup x=some .local:=by first|exact .inl rfl|exact .inr rfl|assumption):QS X (.Assign [.Name x pos'] e pos) (A9h te (K9 i)):=⟨E03 i hN he.h hi hx hs hf⟩
theorem C5r {tg e:Expr} {te:TE} {g:TG} (he:QE X e te) (hg:QG X tg g) (hs:swapsWithSole [tg] e pos.line X.env=pure false:=by rfl) (hw:swappedStores [tg] e X.env=pure none:=by rfl) (h1:(assignEach [tg] X.env).map (·.2)=[assign tg X.env]:=by rfl):QS X (.Assign [tg] e pos) (A9h te g):=⟨C9q he.h hg.h hs hw h1⟩
theorem B8p {c:Expr} {a b:List Stmt} {tc:TT} (hc:QT X c tc) (ha:QSs X a t) (hb:QSs X b u):QS X (.If c a b pos) (C5y tc t u):=⟨D4p hc.h ha.h hb.h⟩
theorem A72 {iter:Expr} {body:List Stmt} {wi:TI} {g:TG} {tb:TS} {pos:Pos} (hp:PassesOwn (model X.prog X.w) X.A X.env X.xe) (hc:X.calm=true) (hi:QI X tg iter wi) (hg:QG X tg g) (hb:QSs X body tb) (hs:∀ x,foldedSetIterable iter X.env x=pure x:=by intro _;rfl):QS X (.For tg iter body [] pos) (B1a wi g tb):=⟨D25 hp hc hi.h hg.h hb.h hs⟩
theorem B5y {c:Expr} {body:List Stmt} {tc:TT} {tb:TS} (hp:PassesOwn (model X.prog X.w) X.A X.env X.xe) (hc:QT X c tc) (hb:QSs X body tb):QS X (.While c body [] pos) (B98 tc tb):=⟨B8m hp hc.h hb.h⟩
theorem B87 {Y:Cx}:QTs Y [] (fun _ H Q=>Q true H):=⟨B41 ⟩
theorem B8v {Y:Cx} {c:Expr} {t:TT} (hc:QT Y c t):QTs Y [c] t:=⟨C3w hc.h⟩
theorem A9b {te:TE} (hg:gens[d+1]?=none) (hx:Y.xe=fun _ _=>False) (he:QE Y elt te):QB Y elt gens scope pos d acc (B46 acc te):=⟨C5j hg hx he.h⟩
theorem C6m {tg iter:Expr} {ifs:List Expr} {wi:TI} {g:TG} {ti:TT} {tb:TS} (hgd:gens[d+1]?=some ⟨tg,iter,ifs,0⟩) (hx:Y.xe=fun _ _=>False) (hc:Y.calm=true) (hs:∀ x,foldedSetIterable iter Y.env x=pure x) (hi:QI Y tg iter wi) (hg:QG Y tg g) (ht:QTs Y ifs ti) (hb:QB Y elt gens scope pos (d+1) acc tb):QB Y elt gens scope pos d acc (B1a wi g (A57 ti tb)):=⟨D17 hgd hx hc hs hi.h hg.h ht.h hb.h⟩
theorem J9 (ha:QE X e te) (hr:QA X es t) (hs:starEach (e::es) X.env=(false,eval e X.env)::starEach es X.env:=by rfl):QA X (e::es) (Y1 te t):=⟨A6v ha.h hr.h hs⟩
theorem R7 :QA X [] A7c:=⟨B2h ⟩
theorem C0t :QO X none B4f:=⟨C3p ⟩
theorem C1k (h:QE X e te):QO X (some e) (C7m te):=⟨C70 h.h⟩
theorem C1t {X:Cx} {es:List Expr} {ns:List Int} (h:A3s es=some ns):QA X es (fun _ H Q=>Q (ns.map V.int) H):=⟨B49 h⟩
theorem B8h {X:Cx} {elt tg iter:Expr} {ifs:List Expr} {E7:List Comprehension} {scope:Scope} {pos:Pos} {wi:TI} {g:TG} {ti:TT} {tb:Addr->TS} (own:List Str) (cap:List (Str × Nat)) (hc:X.calm=true) (L:B9 X scope own cap) (hi:QI X tg iter wi)
  (hin:∀ (s₃:Shared) (H₃:Hp) (fp:List Addr) (acc:Addr),QG (X.inn scope (D0 own cap) s₃ H₃ fp) tg g/\QTs (X.inn scope (D0 own cap) s₃ H₃ fp) ifs ti/\QB (X.inn scope (D0 own cap) s₃ H₃ fp) elt (⟨tg,iter,ifs,0⟩::E7) scope pos 0 acc (tb acc))
  (hs:∀ x,foldedSetIterable iter X.env x=pure x:=by intro _;rfl):QE X (.ListComp elt (⟨tg,iter,ifs,0⟩::E7) scope pos) (tLC wi g ti tb own cap):=⟨D5k own cap hc L hi.h (fun a b c d=>⟨(hin a b c d).1.h,(hin a b c d).2.1.h,(hin a b c d).2.2.h⟩) hs⟩
theorem B6l {X:Cx} {i:Nat} {y:Str} {py spos:Pos} {elt tg iter:Expr} {ifs:List Expr} {E7:List Comprehension} {scope:Scope} {pos:Pos} {wi:TI} {g:TG} {ti:TT} {tb:Addr->TS} (own:List Str) (cap:List (Str × Nat)) (hN:X.N.Nodup) (hyi:X.N[i]?=some y) (hy:X.env.scope.names.lookup y=some .local) (hc:X.calm=true) (L:B9 X scope own cap) (hi:QI X tg iter wi)
  (hin:∀ (s₃:Shared) (H₃:Hp) (fp:List Addr) (acc:Addr),QG (X.inn scope (D0 own cap) s₃ H₃ fp) tg g/\QTs (X.inn scope (D0 own cap) s₃ H₃ fp) ifs ti/\QB (X.inn scope (D0 own cap) s₃ H₃ fp) elt (⟨tg,iter,ifs,0⟩::E7) scope pos 0 acc (tb acc))
  (hsw:swapsWith (.ListComp elt (⟨tg,iter,ifs,0⟩::E7) scope pos) (some (.Name y py)) spos.line X.env=pure true:=by rfl) (hs:∀ x,foldedSetIterable iter X.env x=pure x:=by intro _;rfl) :
  QS X (.Assign [.Name y py] (.ListComp elt (⟨tg,iter,ifs,0⟩::E7) scope pos) spos) (A9h (tLC wi g ti tb own cap) (K9 i)):=⟨B88 own cap hN hyi hy hc L hi.h (fun a b c d=>⟨(hin a b c d).1.h,(hin a b c d).2.1.h,(hin a b c d).2.2.h⟩) hsw hs⟩
section
variable {X:Cx} {i o value:Expr} {ty td tv:TE} {pos pos':Pos}
theorem B7g:QE X (.Dict [] [] pos) B8a:=⟨C0b⟩
theorem B4h (hu:X.A.units+1 < cLine) (hi:QE X i ty) (ho:QE X o td) (hm:behindInMarks .In o=false):QT X (.Compare i [.In] [o] pos) (tB (B7m ty td)):=⟨D2x (C25 hu hi.h ho.h) hm⟩
theorem B4e (hu:X.A.units+1 < cLine) (hi:QE X i ty) (ho:QE X o td) (hm:behindInMarks .In o=false):QE X (.Compare i [.In] [o] pos) (B7m ty td):=⟨C8w (C25 hu hi.h ho.h) hm⟩
theorem C17 (hu:X.A.units+1 < cLine) (ho:QE X o td) (hi:QE X i ty) (hv:QE X value tv) (hs:swapsWith value (some (.Subscript o i pos')) pos.line X.env=pure false):QS X (.Assign [.Subscript o i pos'] value pos) (C7y td ty tv):=⟨C6l hu ho.h hi.h hv.h hs⟩
theorem B9u (hu:X.A.units+1 < cLine) (ho:QE X o td) (hi:QE X i ty) (hs:C40 i):QE X (.Subscript o i pos) (C81 td ty):=⟨C3b hu ho.h hi.h hs⟩
end
section
variable {X:Cx}
theorem C46:T5 X (binaryOp .Mult) (rI IntMulOk fun i j=>.int (i*j)):=opI fun _ _ _ _ _ _ _ hc q=>mul_int q hc
end
def TrX (h base:Heap) (e:Addr) (cls a0 fl:Value):Prop :=
 ∃ oe vs T oT ts,h.get? e=some oe/\(oe.cls=cls/\vs[0]?=some a0/\vs[2]?=some .none)/\oe.data=.fields vs/\vs[1]?=some (.ref T)/\base.get? T=none/\T≠e/\h.get? T=some oT/\oT.data=.fields ts/\ts[3]?=some fl
def A0m (base:Heap) (l:List Env) (e:Addr) (cls a0:Value) (h:Heap):Prop:=base.StaysIn h/\base.get? e=none/\h.FunFrames base l/\TrX h base e cls a0 .none
def C8j (base:Heap) (l:List Env) (e:Addr) (cls a0:Value) (L:Addr) (h:Heap):Prop:=base.StaysIn h/\base.get? e=none/\h.FunFrames base l/\TrX h base e cls a0 (rawInt L)
theorem A0m.own {base h:Heap} {l:List Env} {e:Addr} {cls a0:Value} (x:A0m base l e cls a0 h):∃ oe vs,h.get? e=some oe/\oe.cls=cls/\oe.data=.fields vs/\vs[2]?=some .none :=
 let ⟨_,_,_,oe,vs,_,_,_,he,hc,hd,_⟩:=x;⟨oe,vs,he,hc.1,hd,hc.2.2⟩
section
variable {M:Model} {A:Around} {E:Value->Shared->Prop} {s:Shared} {base:Heap} {env:Env} {outer l:List Env} {L e:Addr} {oe:Obj} {vs:Array Value} {cls a0:Value} {Q:Unit->Shared->Prop}
theorem B9o {head:Value} {nx:Bool} (hfr:A.frames=some (env::outer)) (hl:s.heap.FunFrames base (env::outer)) (hf:env.frame=some L)
  (he:s.heap.get? e=some oe) (hkb:base.StaysIn s.heap) (hen:base.get? e=none) (hd:oe.data=.fields vs) (hsz:1 < vs.size) (h0:vs[0]?=some a0) (h2:vs[2]?=some .none)
  (h:∀ h',base.StaysIn h'->h'.FunFrames base (env::outer)->TrX h' base e oe.cls a0 (rawInt L)->s.heap.UpToSlots h'->Q () { s with heap:=h' }) :
  wpAny M A (do setField (.ref e) 1 (<- EntryCells.newEntry head (<- frameOf env) .none (rawInt L) .none (<- entryPlaceOf L nx))) Q E s:=by
 have nf:e∉(env::outer).filterMap (·.frame):=fun z=>by
  obtain ⟨_,o,q,n⟩:=hl.mem z;rw [he] at q;cases q;exact n vs hd
 refine wpAny_bind (wpAny_frameOf_fun hfr hl hf fun h1 k1=>?_);refine wpAny_bind (wpAny_entryPlaceOf fun pl hp=>?_);unfold EntryCells.newEntry newFields;refine wpAny_bind (wpAny_newObj_type ?_ (hp.sizeOk5 _ _ _ _ _));generalize ho:({ cls:=.type "traceback",dict:=none,data:=.fields ([head,.ref L,.none,rawInt L,.none]++(if pl.isEmpty then List.replicate 6 Value.none else pl)).toArray }:Obj)=oT;have e1:h1.get? e=some oe:=(k1.2.1 e nf).trans he;have b1:base.StaysIn h1:=fun b o q=>(k1.2.1 b fun z=>by rw [(hl.mem z).1] at q;cases q).trans (hkb b o q);have ne:h1.objs.size≠e:=Nat.ne_of_gt (Heap.lt_size e1);have e2:(h1.push oT).get? e=some oe:=Heap.get?_push_of_some oT e1;have d3:=Obj.data_mapFields hd (·.setIfInBounds 1 (Value.ref h1.objs.size));refine wpAny_setField e2 hd hsz ?_;have t2:(h1.push oT).get? h1.objs.size=some oT:=by rw [<-ho];exact Heap.get?_push_size _ rfl
 have keep:∀ b o,b≠e->h1.get? b=some o->((h1.push oT).update e (Obj.mapFields (·.setIfInBounds 1 (Value.ref h1.objs.size)))).get? b=some o:=fun b o hb q=>by
  rw [Heap.get?_update_other _ _ (Ne.symm hb)];exact Heap.get?_push_of_some _ q
 have noe:∀ b o,s.heap.get? b=some o->(∀ ws,o.data≠.fields ws)->b≠e:=fun b o q n z=>by
  rw [z,he] at q;cases q;exact n vs hd
 have up:∀ b o,s.heap.get? b=some o->(∀ ws,o.data≠.fields ws)->∃ sl,((h1.push oT).update e (Obj.mapFields (·.setIfInBounds 1 (Value.ref h1.objs.size)))).get? b=some { o with slots:=sl }:=fun b o q n=>by
  obtain ⟨sl,z⟩:=k1.2.2 b o q;exact ⟨sl,keep b _ (noe b o q n) z⟩
 refine h _ (fun b o q=>keep b o (fun z=>by rw [z,hen] at q;cases q) (b1 b o q)) (hl.of_keeps fun b o q n=>?_) ?_ up
 ·obtain ⟨sl,z⟩:=up b o q n;exact ⟨_,z,rfl⟩
 ·refine ⟨_,_,h1.objs.size,oT,_,Heap.get?_update_self _ e2 (Obj.isFreed_of_fields d3),⟨Obj.cls_mapFields _ _,?_,?_⟩,d3,by simp [hsz],b1.fresh,ne,?_,by rw [<-ho],?_⟩
  ·rw [Array.getElem?_setIfInBounds_ne (by decide)];exact h0
  ·rw [Array.getElem?_setIfInBounds_ne (by decide)];exact h2
  ·rw [Heap.get?_update_other _ _ (Ne.symm ne)];exact t2
  ·first|(simp;done)|(rcases hp with rfl|⟨_,_,_,_,_,_,_,rfl⟩<;>simp)
theorem C2w (hfr:A.frames=some (env::outer)) (hl:s.heap.FunFrames base (env::outer)) (hf:env.frame=some L)
  (he:s.heap.get? e=some oe) (hkb:base.StaysIn s.heap) (hen:base.get? e=none) (hd:oe.data=.fields vs) (h0:vs[0]?=some a0) (h2:vs[2]?=some .none)
  (h1:vs[1]?=some .none\/∃ T oT ts,vs[1]?=some (.ref T)/\base.get? T=none/\T≠e/\s.heap.get? T=some oT/\oT.data=.fields ts/\ts[3]?=some .none)
  (h:∀ h',base.StaysIn h'->h'.FunFrames base (env::outer)->TrX h' base e oe.cls a0 (rawInt L)->s.heap.UpToSlots h'->Q () { s with heap:=h' }):wpAny M A (noteFrame (.ref e) env) Q E s:=by
 unfold noteFrame;simp only [hf];rcases h1 with h1|⟨T,oT,ts,h1,bT,nT,hT,dT,t3⟩
 ·refine wpAny_bind (wpAny_field he hd h1 ?_);rw [if_neg (by decide)];exact B9o hfr hl hf he hkb hen hd (Array.getElem?_eq_some_iff.mp h1).1 h0 h2 h
 ·refine wpAny_bind (wpAny_field he hd h1 ?_);rw [if_pos (show (Value.ref T != Value.none)=true from by simp)];refine wpAny_bind (wpAny_field hT dT t3 ?_);rw [if_neg (show ¬ ((Value.none==rawInt L)=true) from by simp [rawInt])];refine wpAny_bind (wpAny_setField hT dT (Array.getElem?_eq_some_iff.mp t3).1 ?_);have oth:∀ b,b≠T->(s.heap.update T (Obj.mapFields (·.setIfInBounds 3 Value.none))).get? b=s.heap.get? b:=fun b hb=>Heap.get?_update_other _ _ (Ne.symm hb);have noT:∀ b o,s.heap.get? b=some o->(∀ ws,o.data≠.fields ws)->b≠T:=fun b o q n z=>by
   rw [z,hT] at q;cases q;exact n ts dT
  refine B9o hfr (hl.of_keeps fun b o q n=>⟨o,(oth b (noT b o q n)).trans q,rfl⟩) hf ((oth e (Ne.symm nT)).trans he) (fun b o q=>(oth b fun z=>by rw [z,bT] at q;cases q).trans (hkb b o q)) hen hd (Array.getElem?_eq_some_iff.mp h1).1 h0 h2 fun h' x1 x2 x3 x4=>?_;exact h h' x1 x2 x3 fun b o q n=>x4 b o ((oth b (noT b o q n)).trans q) n
theorem A3e {fl:Value} (hkb:base.StaysIn s.heap) (hl:s.heap.FunFrames base l) (ht:TrX s.heap base e cls a0 fl)
  (h:∀ h',base.StaysIn h'->h'.FunFrames base l->TrX h' base e cls a0 .none->s.heap.UpToSlots h'->Q () { s with heap:=h' }):wpAny M A (setFlight (.ref e) none) Q E s:=by
 obtain ⟨oe,vs,T,oT,ts,he,hc,hd,h1,bT,nT,hT,dT,t3⟩:=ht;have oth:∀ b,b≠T->(s.heap.update T (Obj.mapFields (·.setIfInBounds 3 ((none:Option Addr).elim Value.none fun f=>rawInt f)))).get? b=s.heap.get? b:=fun b hb=>Heap.get?_update_other _ _ (Ne.symm hb);have noT:∀ b o,s.heap.get? b=some o->(∀ ws,o.data≠.fields ws)->b≠T:=fun b o q n z=>by
  rw [z,hT] at q;cases q;exact n ts dT
 have z3:3 < ts.size:=(Array.getElem?_eq_some_iff.mp t3).1;unfold setFlight;refine wpAny_bind (wpAny_field he hd h1 ?_);rw [if_pos (show (Value.ref T != Value.none)=true from by simp)];refine wpAny_setField hT dT z3 (h _ (fun b o q=>(oth b fun z=>by rw [z,bT] at q;cases q).trans (hkb b o q)) (hl.of_keeps fun b o q n=>⟨o,(oth b (noT b o q n)).trans q,rfl⟩) ?_ fun b o q n=>⟨o.slots,(oth b (noT b o q n)).trans q⟩);exact ⟨oe,vs,T,_,_,(oth e (Ne.symm nT)).trans he,hc,hd,h1,bT,nT,Heap.get?_update_self _ hT (Obj.isFreed_of_fields (Obj.data_mapFields dT _)),Obj.data_mapFields dT _,by simp [z3]⟩
theorem B1m (hfr:A.frames=some (env::outer)) (hf:env.frame=some L) (fl:A0m base (env::outer) e cls a0 s.heap)
  (hQ:∀ h',A0m base outer e cls a0 h'->s.heap.UpToSlots h'->Q () { s with heap:=h' }):wpAny M A (leaving env (.ref e)) Q E s:=by
 obtain ⟨f1,f2,f3,oe,vs,T,oT,ts,he,⟨rfl,h0,h2⟩,hd,h1,r⟩:=fl;unfold leaving;refine wpAny_bind (C2w hfr f3 hf he f1 f2 hd h0 h2 (.inr ⟨T,oT,ts,h1,r⟩) fun h' x1 x2 x3 x4=>?_);refine A3e (s:={ s with heap:=h' }) x1 x2 x3 fun h'' y1 y2 y3 y4=>?_;obtain ⟨_,_,y2⟩:=y2;exact hQ h'' ⟨y1,f2,y2,y3⟩ (x4.trans y4)
theorem A8h {h:Heap} {args:List Value} (hfr:A.frames=some (env::outer)) (hf:env.frame=some L) (hkb:base.StaysIn h) (hl:h.FunFrames base (env::outer)) (hx:Heap.MadeExcOf h s.heap e cls args)
  (hQ:∀ h' t,A0m base outer e cls (.ref t) h'->h'.TupAt t args->base.get? t=none->s.heap.UpToSlots h'->Q () { s with heap:=h' }):wpAny M A (leaving env (.ref e)) Q E s:=by
 obtain ⟨t,he,htn,ht⟩:=hx.there;have fresh:∀ b,h.get? b=none->base.get? b=none:=fun b hb=>by
  cases q:base.get? b with
  | none=>rfl
  | some o=>have:=hkb b o q;rw [hb] at this;cases this
 unfold leaving;refine wpAny_bind (C2w (a0:=.ref t) hfr (hl.of_keeps fun b o q _=>⟨o,hx.keeps b o q,rfl⟩) hf he (fun b o q=>hx.keeps b o (hkb b o q)) (fresh e hx.new) rfl rfl rfl (.inl rfl) fun h' x1 x2 x3 x4=>?_);refine A3e (s:={ s with heap:=h' }) x1 x2 x3 fun h'' y1 y2 y3 y4=>?_;obtain ⟨_,_,y2⟩:=y2;exact hQ h'' t ⟨y1,fresh e hx.new,y2,y3⟩ (Heap.TupAt.of_slots ⟨_,_,ht,rfl,rfl⟩ (x4.trans y4)) (fresh t htn) (x4.trans y4)
theorem B63 (hfr:A.frames=some (env::outer)) (hf:env.frame=some L) (fl:A0m base (env::outer) e cls a0 s.heap)
  (hQ:∀ h',C8j base (env::outer) e cls a0 L h'->s.heap.UpToSlots h'->Q () { s with heap:=h' }):wpAny M A (noteFrame (.ref e) env) Q E s:=by
 obtain ⟨f1,f2,f3,oe,vs,T,oT,ts,he,⟨rfl,h0,h2⟩,hd,h1,r⟩:=fl;exact C2w hfr f3 hf he f1 f2 hd h0 h2 (.inr ⟨T,oT,ts,h1,r⟩) fun h' x1 x2 x3 x4=>hQ h' ⟨x1,f2,x2,x3⟩ x4
theorem D2m (hh:C8j base l e cls a0 L s.heap) (hQ:∀ h',A0m base l e cls a0 h'->s.heap.UpToSlots h'->Q () { s with heap:=h' }):wpAny M A (setFlight (.ref e) none) Q E s :=
 A3e hh.1 hh.2.2.1 hh.2.2.2 fun h' x1 x2 x3 x4=>hQ h' ⟨x1,hh.2.1,x2,x3⟩ x4
theorem A7q (hh:A0m base l e cls a0 s.heap) (hQ:∀ h',A0m base l e cls a0 h'->s.heap.UpToSlots h'->Q () { s with heap:=h' }):wpAny M A (setFlight (.ref e) none) Q E s :=
 A3e hh.1 hh.2.2.1 hh.2.2.2 fun h' x1 x2 x3 x4=>hQ h' ⟨x1,hh.2.1,x2,x3⟩ x4
end
open PySem.Calls
def A6f (oe:Obj):Prop:=∃ ws,oe.data=.fields ws/\ws[2]?=some .none
def XOf (oe:Obj) (C:Addr):Prop:=oe.cls=.ref C/\A6f oe
theorem A5c:entryFor table "proto.unchain"=some Builtin.«proto.unchain»:=entryFor_of_fast (by kernel_rfl)
section
variable {prog:Program} {w:World} {A:Around} {E:Value->Shared->Prop} {s:Shared} {ea it l:Addr} {oe:Obj}
theorem B1k {α:Type} {a:Addr} {ox:Obj} {vs:Array Value} {Q:α->Shared->Prop} (hh:A.handled=some (.ref ea)) (he:s.heap.get? ea=some oe) (hn:A6f oe) (hne:a≠ea) (ha:s.heap.get? a=some ox) (hd:ox.data=.fields vs) (hz:2 < vs.size)
  (h:E (.ref a) { s with heap:=s.heap.update a (Obj.mapFields (·.setIfInBounds 2 (.ref ea))) }):wpAny (model prog w) A (raiseNew (α:=α) (.ref a)) Q E s:=by
 obtain ⟨ws,w1,w2⟩:=hn;unfold raiseNew;refine wpAny_bind (wpAny_handled ?_);rw [hh];dsimp only;rw [if_pos (show (Value.ref ea != Value.ref a)=true by simp;exact fun z=>hne z.symm)];refine wpAny_bind (wpAny_holding (wpAny_runValue (codeAny_builtin A5c ?_)));unfold Builtin.«proto.unchain»;show wpAny _ _ (field (.ref ea) 2 >>= _) _ _ s;refine wpAny_bind (wpAny_field he w1 w2 ?_);rw [if_pos (by rfl)];refine wpAny_pure ?_;show wpAny (model prog w) A (updateField a 2 (.ref ea) >>= fun _=>throw (.ref a)) Q E s;unfold updateField;refine wpAny_bind (wpAny_bind (wpAny_load ha ?_));rw [hd];dsimp only;rw [if_pos hz];exact wpAny_update ha (wpAny_throw h)
theorem B67 {i:Nat} {items:Array Value} {Q:Option Value->Shared->Prop} (hh:A.handled=some (.ref ea)) (he:s.heap.get? ea=some oe) (hn:A6f oe) (hne:ea≠it)
  (hit:s.heap.IsListIter it l i) (hl:s.heap.IsList l items) (hx:items[i]?=none)
  (hQ:∀ h',Heap.ExtBut it s.heap h'->Q none { s with heap:=h' }):wpAny (model prog w) A (pyNext (.ref it)) Q E s:=by
 obtain ⟨o,ho,hc,hd⟩:=id hit;obtain ⟨ol,hol,_,nl,hdl⟩:=hl;unfold pyNext;refine wpAny_bind (wpAny_attempt (wpAny_callSpecial?_slot (name:=Str.ofString "__next__") hit.typeIs slot_listiter_next
  (wpAny_call_entry slot_listiter_next hit.typeIs entry_listiter_next ?_ (args_listiter_next _))))
 show wpAny _ _ (field (.ref it) 0 >>= _) _ _ s;refine wpAny_bind (wpAny_field ho hd (x:=.ref l) rfl ?_);show wpAny _ _ (if (Value.ref l==Value.none)=true then _ else _) _ _ s;rw [if_neg (show ¬ ((Value.ref l==Value.none)=true) from Bool.false_ne_true)];show wpAny _ _ (field (.ref it) 1 >>= _) _ _ s;refine wpAny_bind (wpAny_field ho hd (x:=.int i 0) rfl ?_);show wpAny _ _ (seqItems? (.ref l) >>= _) _ _ s;refine wpAny_bind (wpAny_seqItems hol hdl ?_);simp only [Int.toNat_natCast,hx];refine wpAny_bind (wpAny_rule (wpAny_bind (wpAny_setField ho hd (by simp) ?_)));show wpAny _ _ (newExc (.type "StopIteration") [] >>= _) _ _ _;refine wpAny_bind ?_;simp only [newExc,newTuple];refine wpAny_bind (wpAny_newObj_type ?_ (by size_fits));refine wpAny_bind (m:=firstArgMember _ _) (wpAny_of_eq (a:=Value.none) (by first|rfl|(simp only [firstArgMember];rfl)) ?_);refine wpAny_newObj_type ?_ (by size_fits);have k0:=(Heap.SameBut.update s.heap it (Obj.mapFields (·.setIfInBounds 0 Value.none))).extBut;generalize s.heap.update it (Obj.mapFields (·.setIfInBounds 0 Value.none))=h1 at k0 ⊢;have k2:=(k0.push { cls:=.type "tuple",dict:=none,data:=.seq [].toArray }) ;refine B1k (A:=A.in1) hh (Heap.get?_push_of_some _ (k2 ea oe hne he)) hn (fun z=>?_) (Heap.get?_push_size _ rfl) rfl (by simp;omega) ?_
 ·exact Nat.ne_of_lt (Heap.lt_size (k2 ea oe hne he)) z.symm
 ·refine wpAny_bind (wpAny_isInstance (T:="StopIteration") (b:=true) ⟨_,Heap.get?_update_self _ (Heap.get?_push_size _ rfl) rfl,rfl⟩ isSubtype_stop ?_);refine wpAny_pure (hQ _ fun b o hb q=>?_);have q2:=k2 b o hb q;rw [Heap.get?_update_ne _ _ _ _ (Nat.ne_of_lt (Heap.lt_size q2))];exact Heap.get?_push_of_some _ q2
theorem A8z (hh:A.handled=some (.ref ea)) (hn:A6f oe) (I:Addr) (hne:l≠I) (hne2:ea≠I) (items:Array Value) :
  Walks prog w A I [I,l,ea] [I] items.size (fun i v=>items[i]?=some v) (fun i h=>h.IsListIter I l i/\h.IsList l items/\h.get? ea=some oe) where
 sub:=fun b hb=>by simp at hb;simp [hb]
 frame:=fun _ _ _ st hk=>⟨st.1.at fun o e=>hk I (by simp) o e,st.2.1.at fun o e=>hk l (by simp) o e,hk ea (by simp) _ st.2.2⟩
 item:=fun i s Q E hi st hQ=>by
  refine wpAny_pyNext_list_item st.1 st.2.1 (x:=items[i]) (by simp [hi]) fun h' hit' hs'=>?_;exact hQ _ h' s.toks (by simp [hi]) ⟨hit',st.2.1.extBut hs'.extBut hne,hs'.extBut ea _ hne2 st.2.2⟩ fun b o hb e=>hs'.extBut b o (fun h=>hb (by simp [h])) e
 done:=fun s Q E st hQ=>B67 hh st.2.2 hn hne2 st.1 st.2.1 (by simp) fun h' he'=>hQ h' s.toks fun b o hb e=>he' b o (fun h=>hb (by simp [h])) e
 self:=fun _ _ _ _ st hQ=>wpAny_pyIter_listiter st.1 hQ
end
section
variable {X:Cx}
theorem B6v {ea:Addr} {oe:Obj} (K:W.Frag) (hK:X.K=K) (hp:(ea,oe)∈X.pn) (hn:A6f oe) (hh:X.A.handled=some (.ref ea)):K2 X (.builtin "any") (D4e K):=by
 subst hK;intro pins s σ H xs us Q I r h;obtain ⟨a,bs,rfl,hq,q⟩:=h;obtain ⟨u,rfl,r1⟩:=S8 r;cases r1;obtain ⟨its,rv,p,hz⟩:=I.list hq;cases A18 rv;obtain ⟨p1,_⟩:=I.pin (ea,oe) (mem_append_left _ hp);refine call_any_walk (wpAny_pyIter_list p.isList ?_);have hne:a≠s.heap.objs.size:=by obtain ⟨o,n,e,_⟩:=p;exact Nat.ne_of_lt (Heap.lt_size e)
 have hne2:ea≠s.heap.objs.size:=Nat.ne_of_lt (Heap.lt_size p1);refine ⟨_,_,_,_,_,_,_,rfl,A8z (A:=X.A.in1) hh hn s.heap.objs.size hne hne2 _,⟨⟨_,Heap.get?_push_size _ rfl,rfl,rfl⟩,(p.keeps fun b o e=>Heap.get?_push_of_some _ e).isList,Heap.get?_push_of_some _ p1⟩,Y4,fun h' tk k=>?_⟩;have e1:((bs.map Value.bool).toArray.size)=bs.length:=by simp
 rw [e1,A69];refine ⟨.bl _,H,I.kept fun b o e=>k b o ?_ (Heap.get?_push_of_some _ e),rfl,q⟩;simp only [mem_singleton];exact Nat.ne_of_lt (Heap.lt_size e)
end
theorem E1.there {P:Program} {w:World} {H:Hp} {h:Heap} {a:Addr} {o:HO} (x:E1 P w H h a o):∃ ob,h.get? a=some ob:=by
 cases o with
 | lst xs=>obtain ⟨_,_,_,_,e⟩:=x;exact ⟨_,e⟩
 | tup xs=>obtain ⟨_,_,_,o,e,_⟩:=x;exact ⟨_,e⟩
 | dK kvs=>obtain ⟨_,_,_,_,o,_,_,e,_⟩:=x;exact ⟨_,e⟩
 | dT kvs=>obtain ⟨_,_,_,_,o,_,_,e,_⟩:=x;exact ⟨_,e⟩
 | set S n=>obtain ⟨o,_,_,_,e,_⟩:=x;exact ⟨_,e⟩
 | ins C dx fs=>obtain ⟨_,_,_,e,_⟩:=x;exact ⟨_,e⟩
 | own y=>obtain ⟨_,e⟩:=x;exact ⟨_,e⟩
 | xd fs=>obtain ⟨_,⟨_,_,_,e,_⟩,_⟩:=x;exact ⟨_,e⟩
 | rng lo hi=>obtain ⟨_,_,_,e⟩:=x;exact ⟨_,e⟩
 | frz ob u=>obtain ⟨e,_⟩:=x;exact ⟨_,e⟩
 | tbl ps=>exact ⟨_,(show h.get? a=some _ from x)⟩
 | met f y=>exact ⟨_,(show h.get? a=some _ from x)⟩
 | ext φ=>obtain ⟨_,⟨_,e⟩,_⟩:=x;exact ⟨_,e⟩
def Fly (base:Heap) (l:List Env) (ea:Addr) (cls:Value) (H:Hp) (h0 h:Heap):Prop :=
 ∃ (B:Heap) (a0:Value),base.StaysIn B/\A0m B l ea cls a0 h/\∀ b,B.get? b=none->b∉frs l->(∃ o,h.get? b=some o)->h0.get? b=none/\H b=none
def CXE (P:Program) (w:World) (base:Heap):CXT:=fun outer H s E e s' =>
 ∃ (ea:Addr) (cls:Value) (H':Hp),e=.ref ea/\s'.os=s.os/\AllBare s'.gens/\Un (frs outer) [] H H' s.heap s'.heap/\HOk P w H' s'.heap/\Fly base outer ea cls H' s.heap s'.heap/\E cls none H'
section
variable {X:Cx} {pins:List (Addr × Obj)} {σ:St} {H:Hp} {s:Shared}
theorem B4.in0 (I:B4 X pins σ H s) (hex:X.ex=[]) {b:Addr} (h:s.heap.get? b=none):X.s₀.heap.get? b=none:=by
 cases q:X.s₀.heap.get? b with
 | none=>rfl
 | some o =>
  obtain ⟨o',e⟩:=I.base.there b o q (by rw [hex];simp);rw [h] at e;cases e
theorem A17 {B:Heap} {ea:Addr} {cls a0:Value} {h':Heap} {E:XK} (I:B4 X pins σ H s) (hex:X.ex=[]) (hst:X.stack=X.env::X.outer) (hf:X.env.frame=some X.env.locals)
  (hb:X.base.StaysIn B) (hB:B.StaysIn s.heap) (fl:A0m B X.outer ea cls a0 h') (up:s.heap.UpToSlots h')
  (pr:∀ b,B.get? b=none->b∉frs X.stack->(∃ o,s.heap.get? b=some o)->X.s₀.heap.get? b=none/\H b=none) (hE:E cls none H) :
  CXE X.prog X.w X.base X.outer X.H₀ X.s₀ E (.ref ea) { s with heap:=h' }:=by
 have hB':B.StaysIn h':=fl.1;have inB:∀ b o,s.heap.get? b=some o->b∉frs X.stack->(X.s₀.heap.get? b≠none\/H b≠none)->B.get? b=some o:=by
  intro b o e hb hp;cases q:B.get? b with
  | some o'=>have:=hB b o' q;rw [e] at this;rw [this]
  | none =>
   obtain ⟨h1,h2⟩:=pr b q hb ⟨o,e⟩;rcases hp with z|z
   ·exact absurd h1 z
   ·exact absurd h2 z
 have L0:∀ b o,X.s₀.heap.get? b=some o->b≠X.env.locals:=fun b o e=>Nat.ne_of_lt (Nat.lt_of_lt_of_le (Heap.lt_size e) I.ok.above);have fsS:frs X.stack=X.env.locals::X.fs:=by rw [hst];unfold frs;rw [List.filterMap_cons,hf];rfl
 have nS:∀ b o,X.s₀.heap.get? b=some o->b∉X.fs->b∉frs X.stack:=fun b o e hb z=>by
  rw [fsS] at z;rcases mem_cons.mp z with z|z
  ·exact L0 b o e z
  ·exact hb z
 have hx0:∀ b:Addr,b∉X.ex:=fun b=>by rw [hex];simp
 refine ⟨ea,cls,H,rfl,I.os,I.bare,⟨fun b o e n hbf _=>?_,fun b o e n hbf _=>?_,fun b o e n _=>I.base.free b o e n (hx0 b),fun b o e _=>?_,I.base.tups,I.base.frzs,I.base.tbls⟩,fun b u e=>?_,⟨B,a0,hb,fl,fun b hbn hbf he=>?_⟩,hE⟩
 ·exact hB' b o (inB b o (I.base.keep b o e n hbf (hx0 b)) (nS b o e hbf) (.inl (by rw [e];simp)))
 ·obtain ⟨sl,q⟩:=I.base.slot b o e n hbf (hx0 b);obtain ⟨_,o',q',nf⟩:=I.funs.mem hbf;rw [q] at q';cases q';obtain ⟨sl',q''⟩:=up b _ q nf;exact ⟨sl',q''⟩
 ·obtain ⟨o',q⟩:=I.base.there b o e (hx0 b);by_cases hbf:b∈X.fs
  ·obtain ⟨_,o'',q',nf⟩:=I.funs.mem hbf;rw [q] at q';cases q';obtain ⟨sl',q''⟩:=up b _ q nf;exact ⟨_,q''⟩
  ·exact ⟨o',hB' b o' (inB b o' q (nS b o e hbf) (.inl (by rw [e];simp)))⟩
 ·refine (I.hok b u e).stay (fun c v hc q=>?_) (fun _ q=>q) (fun _ _ q=>q);have hcn:H c≠none:=by
   rcases hc with z|z
   ·rw [z,e];simp
   ·rw [z];simp
  exact hB' c v (inB c v q (fun z=>hcn (I.stkFree c z)) (.inr hcn))
 ·obtain ⟨o,e⟩:=he;cases q:s.heap.get? b with
  | some ob =>
   by_cases hL:b=X.env.locals
   ·rw [hL];exact ⟨Heap.get?_none_of_le I.ok.above,I.free⟩
   ·refine pr b hbn (fun z=>?_) ⟨ob,q⟩;rw [fsS] at z;rcases mem_cons.mp z with z|z
    ·exact hL z
    ·exact hbf z
  | none =>
   refine ⟨I.in0 hex q,?_⟩;cases z:H b with
   | none=>rfl
   | some u =>
    obtain ⟨ob,q'⟩:=E1.there (I.hok b u z);rw [q] at q';cases q'
end
def A3i (X:Cx) (E:XK):Prop:=∀ (pins:List (Addr × Obj)) (σ:St) (H:Hp) (s:Shared) (ea:Addr) (cls:Value) (vs:List Value) (h':Heap),B4 X pins σ H s->Heap.MadeExcOf s.heap h' ea cls vs->E cls none H->X.xe (.ref ea) { s with heap:=h' }
section
variable {P:Program} {w:World} {K:W.Frag} {mg:Str->Option Value} {base:Heap} {N:List Str} {qual:Str} {scope:Scope} {f:Addr} {cd:Value} {A:Around} {outer:List Env} {s0:Shared} {H0:Hp} {E:XK}
theorem Q9:A3i (A02 (CXE P w base) P w K mg base N qual scope f cd A outer s0 H0 E) E:=by
 intro pins σ H s ea cls vs h' I hx hE;have hin:∀ env∈(A02 (CXE P w base) P w K mg base N qual scope f cd A outer s0 H0 E).stack,∀ b,env.frame=some b->b∈frs (A02 (CXE P w base) P w K mg base N qual scope f cd A outer s0 H0 E).stack:=fun env he b hb=>List.mem_filterMap.mpr ⟨env,he,hb⟩;show wpAny _ _ (leaving _ _) _ _ _;refine A8h (base:=PySem.W.hideAll s.heap (frs (A02 (CXE P w base) P w K mg base N qual scope f cd A outer s0 H0 E).stack)) (h:=s.heap) I.ok.frames rfl (fun b o q=>PySem.W.of_hideAll _ q) (PySem.W.funFrames_hide I.stack hin) hx fun h'' t fl tup bt up=>?_;refine A17 I rfl rfl rfl (fun b o e=>PySem.W.hideAll_get _ (I.bk b o e) fun hm=>?_) (fun b o q=>PySem.W.of_hideAll _ q) fl ((Heap.UpToSlots.of_keeps hx.keeps).trans up) (fun b hbn hbf he=>?_) hE
 ·have:=(I.stack.mem hm).1;rw [show (A02 (CXE P w base) P w K mg base N qual scope f cd A outer s0 H0 E).base.get? b=some o from e] at this;cases this
 ·obtain ⟨o,e⟩:=he;rw [PySem.W.hideAll_get _ e hbf] at hbn;cases hbn
theorem B4u:A0w (CXE P w base) (A02 (CXE P w base) P w K mg base N qual scope f cd A outer s0 H0 E) E:=by
 rintro pins σ H s e s' I ⟨ea,cls,H',rfl,os,bare,un,hok,⟨B,a0,hb,fl,pr⟩,hE⟩;have I':=I.call' (ch:=[]) os un hok bare (fun _ z=>nomatch z);show wpAny _ _ (leaving _ _) _ _ _;refine B1m I.ok.frames rfl fl fun h' fl' up=>?_;refine A17 I' rfl rfl rfl hb fl.1 fl' up (fun b h1 h2 h3=>?_) hE;obtain ⟨q1,q2⟩:=pr b h1 h2 h3;exact ⟨I.in0 rfl q1,q2⟩
end
abbrev bmV:List Value:=[.type "ValueError",.type "Exception",.type "BaseException",.type "object"]
structure W3 (K:W.Frag) (mg:Str->Option Value) (x:Str) (C:Addr):Prop where
 mgx:mg x=some (.ref C)
 exc:PySem.W.excIn K C bmV "ValueError.__new__"=true
theorem W3.own {K:W.Frag} {mg:Str->Option Value} {x:Str} {C:Addr} {h:Heap} (c:W3 K mg x C) (X:K.In h):OwnCls x C bmV "ValueError.__new__" mg h:=by
 obtain ⟨hm,hq⟩:=c;refine ⟨hm,?_⟩;unfold PySem.W.excIn at hq;split at hq
 case h_2=>cases hq
 case h_1 dk cdk slk hok =>
  split at hq
  case h_2=>cases hq
  case h_1 Ck bk a0 a1 a2 a3 nk a5 hmro hsl =>
   rw [Bool.and_eq_true,Bool.and_eq_true,Bool.and_eq_true,Bool.and_eq_true,Bool.and_eq_true,beq_iff_eq,beq_iff_eq,beq_iff_eq] at hq;obtain ⟨⟨⟨⟨⟨e1,e2⟩,e3⟩,e4⟩,e5⟩,e6⟩:=hq;have e3:cdk.hasDel=false:=by simpa using e3
   have hok':=X _ _ hok;cases e1;cases e2;cases cdk with
   | mk x1 x2 x3 x4 x5 x6 x7 x8 x9 x10 x11 =>
    cases slk with
    | mk lk =>
     cases hmro;cases e3;cases hsl;exact ⟨_,_,_,_,_,_,_,_,_,_,_,_,_,_,_,_,_,hok',Heap.Ns.of_isNs (PySem.W.isNs_of_in X e5),PySem.W.nsMap_none_of_in X e5 e6,PySem.W.tail_of_in X e4⟩
section
variable {X:Cx} {pos np cpos:Pos} {x:Str} {C:Addr} {E:XK} {e0:Expr} {es:List Expr} {ta:TA}
def C1o (C:Addr) (E:XK) (ta:TA):TS:=fun _ σ H=>ta σ H fun vs H1=>vs.length<=sizeLine/\E (.ref C) none H1
theorem B91 (hx:A3i X E) (hc:X.calm=true) (c:W3 X.K X.mg x C) (hg:Gl X x) (ha:PA X (e0::es) ta) (hdb:(x==("__debug__":Str))=false:=by decide)
  (he:starEach (e0::es) X.env=(false,eval e0 X.env)::starEach es X.env:=by rfl) (hpl:(backTo cpos (starEach es X.env)).any (·.1)=false:=by rfl) :
  PS X (.Raise (some (.Call (.Name x np) (e0::es) [] cpos)) none pos) (C1o C E ta):=by
 intro pins s σ H D I h;obtain ⟨tl,N,nm,q,bs,hdct,sn,sub,ab,col,dd,k0,k1,k2,k3,k5,mN,hC,hN,hni,T⟩:=(c.own I.mod.kin).obj;refine wpAny_Raise_call_subU (C:=C) (nm:=nm) (q:=q) (N:=N) (bs:=bs) (bm:=tl) (hdct:=hdct) (sn:=sn) (sub:=sub) (ab:=ab) (col:=col) (dd:=dd) (k0:=k0) (k1:=k1) (k2:=k2) (k3:=k3) (k5:=k5) PySem.F.excBase_ValueError (by decide +kernel) PySem.F.excBase_ValueError (mN:=mN) (T.hasType (by decide +kernel)) (I.ok.hd hc) ?_ hni (A0d I hg c.mgx ⟨rfl,?_⟩ hdb)
 ·rw [he];show (false||(backTo cpos (starEach es X.env)).any (·.1))=false;rw [hpl];rfl
 have ha':=ha cpos pins s σ H _ I h;rw [he] at ha' ⊢;refine Calls.evalArgs_plain (D6 ha' fun us s1 ⟨vs,H1,I1,r1,hl,q1⟩=>?_);exact ⟨rfl,by rw [<-r1.length];exact hl,I1.bk _ _ hC,hN.keeps I1.bk,T.keeps I1.bk,fun h' e hm=>hx pins σ H1 s1 e (.ref C) us h' I1 hm q1⟩
end
structure DfE (P:Program) (w:World) (K:W.Frag) (mg:Str->Option Value) (base:Heap) (x:Str) (ps:List Str) (k:Nat) (sp:Sp):Prop where
 ex:∃ f fd,G6 P w K mg base (CXE P w base) k f fd ps sp/\mg x=some (.ref f)/\PySem.W.keepIn K (.ref f)=true/\A2z K fd ps []
theorem D3g {X:Cx} {x:Str} {ps:List Str} {k:Nat} {sp:Sp} {p pos:Pos} {e:Expr} {es:List Expr} {t:TA} {E:XK} (D:DfE X.prog X.w X.K X.mg X.base x ps k sp) (hx:A0w (CXE X.prog X.w X.base) X E) (hr:O0 k X.A) (ha:PA X (e::es) t) (hg:Gl X x:=by rfl) (hdb:(x==("__debug__":Str))=false:=by decide)
  (he:starEach (e::es) X.env=(false,eval e X.env)::starEach es X.env:=by rfl) (hpl:(backTo pos (starEach es X.env)).any (·.1)=false:=by rfl):PE X (.Call (.Name x p) (e::es) [] pos) (B02 sp [] E t):=by
 obtain ⟨f,fd,F,hm,hk,hb⟩:=D.ex;exact B47 F hr hg hm hk hb .nil hx ha hdb he hpl
theorem PS.nox {X:Cx} {st:Stmt} {t:TS} (h:PS X.nox st t):PS X st t:=fun pins s σ H D I hw =>
 wpAny_mono (h pins s σ H D (I.wish _) hw) (fun _ _ q=>q.unwish) fun _ _ z=>False.elim z
theorem U3.okE {P:Program} {w:World} {K:W.Frag} {mg:Str->Option Value} {base:Heap} {x qual:Str} {st:Stmt} {f:Addr} {fd:FuncData} {N ps:List Str} {k:Nat} {sp:Sp} (F:U3 K x qual st f fd) (S:B8 N ps (A9 st)) (len:∀ vs H Q E,sp vs H Q E->vs.length=ps.length)
  (hbody:∀ (cdv:Value) (A:Around) (outer:List Env) (s:Shared) (H:Hp) (vs:List V) (Q:VK) (E:XK),O0 k (A.deeper (envOfC qual (A9 st) s.heap.objs.size f cdv))->sp vs H Q E ->
   ∃ t,PSs (A02 (CXE P w base) P w K mg base N qual (A9 st) f cdv A outer s H E) (M5 st) t/\t { nx:=fun _ H'=>Q .non H',rt:=Q } (start N vs) H):G6 P w K mg base (CXE P w base) (k+1) f fd ps sp:=by
 obtain ⟨oc,od,kV,doc,pm,an,cdv,ct,osl,rfl,lk,hcd⟩:=F.ex;exact C82 lk hcd S len fun A outer s H vs Q E hr hsp=>hbody cdv A outer s H vs Q E hr hsp
section
variable {X:Cx}
theorem qnT {e:Expr} {t:TT} (h:QT X.nox e t):QT X e t:=⟨h.h.nox⟩
theorem qnS {e:Stmt} {t:TS} (h:QS X.nox e t):QS X e t:=⟨h.h.nox⟩
theorem B6a {x:Str} {C:Addr} {E:XK} {e0:Expr} {es:List Expr} {ta:TA} {pos np cpos:Pos} (hx:A3i X E) (hc:X.calm=true) (c:W3 X.K X.mg x C) (hg:Gl X x) (ha:QA X (e0::es) ta) (hdb:(x==("__debug__":Str))=false:=by decide)
  (he:starEach (e0::es) X.env=(false,eval e0 X.env)::starEach es X.env:=by rfl) (hpl:(backTo cpos (starEach es X.env)).any (·.1)=false:=by rfl) :
  QS X (.Raise (some (.Call (.Name x np) (e0::es) [] cpos)) none pos) (C1o C E ta):=⟨B91 hx hc c hg ha.h hdb he hpl⟩
theorem C4h {x:Str} {ps:List Str} {k:Nat} {sp:Sp} {p pos:Pos} {e:Expr} {es:List Expr} {t:TA} {E:XK} (D:DfE X.prog X.w X.K X.mg X.base x ps k sp) (hx:A0w (CXE X.prog X.w X.base) X E) (hr:O0 k X.A) (ha:QA X (e::es) t) (hg:Gl X x:=by rfl) (hdb:(x==("__debug__":Str))=false:=by decide)
  (he:starEach (e::es) X.env=(false,eval e X.env)::starEach es X.env:=by rfl) (hpl:(backTo pos (starEach es X.env)).any (·.1)=false:=by rfl):QE X (.Call (.Name x p) (e::es) [] pos) (B02 sp [] E t):=⟨D3g D hx hr ha.h hg hdb he hpl⟩
end
structure A4g (K:W.Frag) (C R:Addr):Prop where
 sub:PySem.W.kitCls K (.ref C) (.ref R)=some true
 exc:PySem.W.subIn K (.ref R) (.type "BaseException")=some true
theorem A9s {K:W.Frag} {M:Model} {A:Around} {E:Value->Shared->Prop} {h:Heap} {g:Array GenState} {d:Drawn} {tk:Nat} {os:OsState} {e C R:Addr} {oe:Obj} {Q:Bool->Shared->Prop} (X:K.In h) (he:h.get? e=some oe) (hcls:oe.cls=.ref C)
  (k:A4g K C R) (hq:Q true ⟨h,g,d,tk,os⟩):wpAny M A (excMatches (.ref e) (.ref R)) Q E ⟨h,g,d,tk,os⟩:=by
 obtain ⟨l1,l2,l3⟩:=PySem.W.kit_cls (M:=M) X k.sub;have l4:=PySem.W.looks_subIn (M:=M) X k.exc;have f:=tc_notTuple;unfold excMatches isInstance isExcClass
 repeat (first|with_reducible refine PySem.W.Looks.at l1 ?_|with_reducible refine PySem.W.Looks.at l2 ?_|with_reducible refine PySem.W.Looks.at l3 ?_|with_reducible refine PySem.W.Looks.at l4 ?_|(with_reducible refine wpAny_loadPart_at he ?_;rw [hcls])|wp_step)
 exact hq
abbrev Cx.within (X:Cx) (ea:Addr) (oe:Obj):Cx:={ X with A:=X.A.mark (some (.ref ea)),calm:=false,pn:=X.pn++[(ea,oe)],xe:=fun _ _=>False }
theorem Cx.Ok.within {X:Cx} (ok:X.Ok) (ea:Addr) (oe:Obj):(X.within ea oe).Ok :=
 ⟨ok.mod,ok.kind,ok.glob,ok.blt,ok.above,ok.inj,ok.has,ok.cab,(fun z=>nomatch z),ok.frames,ok.stk,ok.exf,ok.bs,ok.bsz,ok.noex,ok.exfs,ok.funs,ok.frf⟩
def A3x (X:Cx) (pins:List (Addr × Obj)) (B:Heap) (H:Hp) (h:Heap):Prop :=
 ∀ b,B.get? b=none->b∉frs X.stack->(∃ o,h.get? b=some o)->X.s₀.heap.get? b=none/\H b=none/\∀ p∈X.pn++pins,p.1≠b
structure A4m (X:Cx):Prop where
 ex:X.ex=[]
 st:X.stack=X.env::X.outer
 fr:X.env.frame=some X.env.locals
section
variable {X:Cx} {pins:List (Addr × Obj)} {σ:St} {H:Hp} {s:Shared}
theorem B4.within {ea:Addr} {oe:Obj} {ws:Array Value} (I:B4 X pins σ H s) (he:s.heap.get? ea=some oe) (hd:oe.data=.fields ws) (hH:H ea=none) (hL:ea≠X.env.locals) (hF:ea∉X.fs):B4 (X.within ea oe) pins σ H s :=
 ⟨I.ok.within ea oe,I.os,I.bare,I.base,I.loc,I.cell,I.free,I.freeC,fun p hp=>by
  rcases mem_append.mp hp with hp|hp
  ·rcases mem_append.mp hp with hp|hp
   ·exact I.pin p (mem_append_left _ hp)
   ·obtain rfl:p=(ea,oe):=by simpa using hp
    exact ⟨he,hH,hL,hF,fun v z=>by rw [hd] at z;cases z⟩
  ·exact I.pin p (mem_append_right _ hp),I.hok,I.len⟩
theorem B4.without {ea:Addr} {oe:Obj} (ok:X.Ok) (I:B4 (X.within ea oe) pins σ H s):B4 X pins σ H s :=
 ⟨ok,I.os,I.bare,I.base,I.loc,I.cell,I.free,I.freeC,fun p hp=>I.pin p (by
  rcases mem_append.mp hp with hp|hp
  ·exact mem_append_left _ (mem_append_left _ hp)
  ·exact mem_append_right _ hp),I.hok,I.len⟩
theorem A4m.fs (F:A4m X):frs X.stack=X.env.locals::X.fs:=by rw [F.st];unfold frs;rw [List.filterMap_cons,F.fr];rfl
theorem B4.fly {B:Heap} {ea:Addr} {cls a0:Value} {h':Heap} (I:B4 X pins σ H s) (F:A4m X) (hb:X.base.StaysIn B) (hB:B.StaysIn s.heap) (fl:A0m B X.stack ea cls a0 h') (up:s.heap.UpToSlots h') (pr:A3x X pins B H s.heap) :
  B4 X pins σ H { s with heap:=h' }:=by
 have fl':A0m B X.outer ea cls a0 h':=by
  obtain ⟨k1,k2,k3,k4⟩:=fl;rw [F.st] at k3;obtain ⟨_,_,k3⟩:=k3;exact ⟨k1,k2,k3,k4⟩
 obtain ⟨_,_,H',_,_,_,un,hok,_,eH⟩:=A17 (E:=fun _ _ H'=>H'=H) I F.ex F.st F.fr hb hB fl' up (fun b h1 h2 h3=>let ⟨q1,q2,_⟩:=pr b h1 h2 h3;⟨q1,q2⟩) rfl;subst eH;have cellK:∀ c v,s.heap.IsCell c v->h'.IsCell c v:=fun c v ⟨o,ho,hd⟩=>by
  obtain ⟨sl,e⟩:=up c o ho (fun vs z=>by rw [hd] at z;cases z);exact ⟨_,e,hd⟩
 refine ⟨I.ok,I.os,I.bare,by rw [F.ex];exact un,?_,fun x c e=>?_,I.free,I.freeC,fun p hp=>?_,hok,I.len⟩
 ·obtain ⟨m,hn,hl⟩:=I.loc;refine ⟨m,up.ns hn,fun i x v e1 e2 e3=>?_⟩;obtain ⟨u,r,q⟩:=hl i x v e1 e2 e3;refine ⟨u,r,?_⟩;rcases q with q|⟨k,c,e,z⟩
  ·exact .inl q
  ·exact .inr ⟨k,c,e,cellK c _ z⟩
 ·obtain ⟨v,z⟩:=I.cell x c e;exact ⟨v,cellK c v z⟩
 ·obtain ⟨e,n,ne,nf,d⟩:=I.pin p hp;refine ⟨?_,n,ne,nf,d⟩;cases q:B.get? p.1 with
  | some o' =>
   have:=hB _ _ q;rw [e] at this;cases this;exact fl.1 _ _ q
  | none =>
   have:=(pr p.1 q (fun z=>by rw [F.fs] at z;rcases mem_cons.mp z with z|z;exact ne z;exact nf z) ⟨_,e⟩).2.2 p hp;exact absurd rfl this
theorem A3x.fly {B h':Heap} (I:B4 X pins σ H s) (F:A4m X) (pr:A3x X pins B H s.heap):A3x X pins B H h':=fun b h1 h2 _=>by
 cases q:s.heap.get? b with
 | some o=>exact pr b h1 h2 ⟨o,q⟩
 | none =>
  refine ⟨I.in0 F.ex q,?_,fun p hp z=>?_⟩
  ·cases z:H b with
   | none=>rfl
   | some u=>obtain ⟨ob,q'⟩:=E1.there (I.hok b u z);rw [q] at q';cases q'
  ·have:=(I.pin p hp).1;rw [z,q] at this;cases this
theorem B4d {B h:Heap} {ea:Addr} {cls a0:Value} (F:A4m X) (fl:A0m B X.stack ea cls a0 h) (pr:A3x X pins B H h):∃ oe ws,h.get? ea=some oe/\oe.cls=cls/\oe.data=.fields ws/\H ea=none/\ea≠X.env.locals/\ea∉X.fs/\A6f oe:=by
 obtain ⟨oe,ws,e,c,d,d2⟩:=fl.own;have nf:ea∉frs X.stack:=fun z=>by
  obtain ⟨_,o,q,n⟩:=fl.2.2.1.mem z;rw [e] at q;cases q;exact n ws d
 refine ⟨oe,ws,e,c,d,(pr ea fl.2.1 nf ⟨oe,e⟩).2.1,fun z=>nf (by rw [F.fs,z];exact mem_cons_self),fun z=>nf (by rw [F.fs];exact mem_cons_of_mem _ z),ws,d,d2⟩
end
def XPr (X:Cx) (pins:List (Addr × Obj)) (σ:St) (E:XK) (e:Value) (s':Shared):Prop :=
 ∃ (ea:Addr) (cls:Value) (H':Hp) (B:Heap) (a0:Value),e=.ref ea/\B4 X pins σ H' s'/\X.base.StaysIn B/\A0m B X.stack ea cls a0 s'.heap/\A3x X pins B H' s'.heap/\E cls none H'
abbrev TEX:=St->Hp->VK->XK->Prop
abbrev TSX:=T1->(St->XK)->St->Hp->Prop
structure PEX (X:Cx) (e:Expr) (t:TEX):Prop where
 h:∀ (pins:List (Addr × Obj)) (s:Shared) (σ:St) (H:Hp) (Q:VK) (E:XK),B4 X pins σ H s->t σ H Q E->wpAny (model X.prog X.w) X.A (eval e X.env) (EP X pins σ Q) (XPr X pins σ E) s
structure PSX (X:Cx) (st:Stmt) (t:TSX):Prop where
 h:∀ (pins:List (Addr × Obj)) (s:Shared) (σ:St) (H:Hp) (D:T1) (E:St->XK),B4 X pins σ H s->t D E σ H->wpAny (model X.prog X.w) X.A (exec st X.env) (SP X pins D) (fun e s'=>∃ σ',XPr X pins σ' (E σ') e s') s
structure C5i (X:Cx) (st:List Stmt) (t:TSX):Prop where
 h:∀ (pins:List (Addr × Obj)) (s:Shared) (σ:St) (H:Hp) (D:T1) (E:St->XK),B4 X pins σ H s->t D E σ H->wpAny (model X.prog X.w) X.A (execs st X.env) (SP X pins D) (fun e s'=>∃ σ',XPr X pins σ' (E σ') e s') s
section
variable {X:Cx}
def D71 (sp:Sp) (t:TA):TEX:=fun σ H Q E=>t σ H fun vs H1=>sp vs H1 Q E
def D6b (ta:TE) (tb:TEX):TEX:=fun σ H Q E=>ta σ H fun x H1=>tb σ H1 (fun y H2=>∀ p,H2 p=none->Q (.ref p) (upd H2 p (.tup [x,y]))) E
def D9q (te:TEX):TSX:=fun D E σ H=>te σ H D.rt (E σ)
def xIf (tc:TT) (a b:TSX):TSX:=fun D E σ H=>tc σ H fun d H1=>if d=true then a D E σ H1 else b D E σ H1
theorem B8c {x:Str} {ps:List Str} {k:Nat} {sp:Sp} {p pos:Pos} {e:Expr} {es:List Expr} {t:TA} (D:DfE X.prog X.w X.K X.mg X.base x ps k sp) (F:A4m X) (hr:O0 k X.A) (ha:QA X.nox (e::es) t) (hg:Gl X x:=by rfl) (hdb:(x==("__debug__":Str))=false:=by decide)
  (he:starEach (e::es) X.env=(false,eval e X.env)::starEach es X.env:=by rfl) (hpl:(backTo pos (starEach es X.env)).any (·.1)=false:=by rfl):PEX X (.Call (.Name x p) (e::es) [] pos) (D71 sp t):=⟨by
 intro pins s σ H Q E I h;obtain ⟨f,fd,G,hm,hk,hb⟩:=D.ex;refine wpAny_Call_Name_kw (A0d I hg hm ?_ hdb);refine PySem.W.callWith_K (h₀:=X.base) I.ok.mod.kin hk (wpAny_mono (ha.h pos pins s σ H _ (I.wish _) h) (fun us s1 q=>?_) fun _ _ z=>False.elim z) he hpl;obtain ⟨vs,H1,I1,r,q⟩:=q;have I1:=I1.unwish;refine ⟨I1.kIn,?_⟩;have hl:us.length=ps.length:=by rw [<-r.length];exact G.len _ _ _ _ q
 have hbs:=hb s1 us I1.kIn (by rw [append_nil];exact hl);rw [append_nil] at hbs;refine wpAny_call (codeAny_mono (G.run X.A X.stack s1 H1 ⟨us,[]⟩ us vs Q E hr I1.env0 hbs r q) fun r s' hq=>?_);cases r with
 | ok fl =>
  cases fl with
  | ret u=>exact I1.after hq
  | next=>exact False.elim hq
  | brk=>exact False.elim hq
  | cont=>exact False.elim hq
 | error e =>
  obtain ⟨ea,cls,H',rfl,os,bare,un,hok,⟨B,a0,hb,fl,pr⟩,hE⟩:=hq;have I':=I1.call' (ch:=[]) os un hok bare (fun _ z=>nomatch z);refine ⟨ea,cls,H',B,a0,rfl,I',hb,fl,fun b h1 h2 h3=>?_,hE⟩;obtain ⟨q1,q2⟩:=pr b h1 h2 h3;refine ⟨I1.in0 F.ex q1,q2,fun p hp z=>?_⟩;have:=(I1.pin p hp).1;rw [z,q1] at this;cases this⟩
theorem B9q {a b:Expr} {ta:TE} {tb:TEX} {x1} {pos:Pos} (ha:QE X.nox a ta) (hb:PEX X b tb) (hs:starEach [a,b] X.env=[(false,eval a X.env),(false,eval b X.env)]:=by rfl):PEX X (.Tuple [a,b] x1 pos) (D6b ta tb):=⟨by
 intro pins s σ H Q E I h;refine wpAny_Tuple_spliced ?_;rw [hs];show wpAny _ _ (spliced ((false,eval a X.env)::backTo pos [(false,eval b X.env)])) _ _ s;refine Calls.spliced_cons (wpAny_mono (ha.h pins s σ H _ (I.wish _) h) (fun u s1 q=>?_) fun _ _ z=>False.elim z);obtain ⟨x,H1,I1,r1,q1⟩:=q;show wpAny _ _ (spliced ((false,eval b X.env)::backTo pos [])) _ _ s1;refine Calls.spliced_cons (wpAny_mono (hb.h pins s1 σ H1 _ E I1.unwish q1) (fun v s2 q=>?_) fun _ _ z=>z);obtain ⟨y,H2,I2,r2,q2⟩:=q;refine Calls.spliced_nil ⟨by show 2<=sizeLine;decide,?_⟩;have hf:H2 s2.heap.objs.size=none:=I2.hok.fresh (Nat.le_refl _);refine ⟨.ref s2.heap.objs.size,upd H2 s2.heap.objs.size (.tup [x,y]),I2.laid (t':=s2.toks) (fun b u e=>Heap.get?_push_of_some _ e) (Nat.le_refl _) ?_,rfl,q2 _ hf⟩;exact ⟨by show 2<=sizeLine;decide,[u,v],.cons r1 (.cons r2 .nil),⟨_,Heap.get?_push_size _ rfl,rfl,_,rfl⟩⟩⟩
theorem C54 {e:Expr} {te:TEX} {pos:Pos} (h:PEX X e te):PSX X (.Return (some e) pos) (D9q te):=⟨fun pins s σ H D E I hw =>
 wpAny_Return_some (wpAny_mono (h.h pins s σ H _ _ I hw) (fun v s1 ⟨x,H1,I1,r1,q1⟩=>⟨x,σ,H1,I1,r1,q1⟩) fun _ _ z=>⟨σ,z⟩)⟩
theorem C2t {st:Stmt} {t:TSX} (h1:PSX X st t):C5i X [st] t:=⟨fun pins s σ H D E I h=>by
 refine wpAny_execs_cons (D6 (h1.h pins s σ H D E I h) fun f s1 q=>?_);cases f with
 | next =>
  obtain ⟨σ',H',I',q⟩:=q;exact wpAny_execs_nil ⟨σ',H',I',q⟩
 | ret v=>exact q
 | brk=>exact q
 | cont=>exact q⟩
end
structure ExK (K:W.Frag) (C:Addr):Prop where
 ga:PySem.W.findIn K (.ref C) "__getattribute__"=some (some (.builtin "BaseException.__getattribute__"))
 cl:PySem.W.findIn K (.ref C) "__class__"=some (some (.builtin "object.__class__"))
 gg:PySem.W.findIn K (.ref C) "__getattr__"=some none
 ob:PySem.W.subIn K (.ref C) (.type "object")=some true
 be:PySem.W.subIn K (.ref C) (.type "BaseException")=some true
 se:PySem.W.kitCls K (.ref C) (.ref C)=some true
section
variable {K:W.Frag} {prog:Program} {w:World} {A:Around} {E:Value->Shared->Prop} {h:Heap} {g:Array GenState} {d:Drawn} {t:Nat} {os:OsState} {a C:Addr} {o:Obj}
theorem C9i {R:Result->Shared->Prop} (X:K.In h) (k:ExK K C) (hx:h.get? a=some o) (hc:o.cls=.ref C) (hq:R (.ok (.ret (.ref C))) ⟨h,g,d,t,os⟩) :
  codeAny (model prog w) A (.call (.builtin "getset_descriptor.__get__") ⟨[.builtin "object.__class__",.ref a,.ref C],[]⟩) R ⟨h,g,d,t,os⟩:=by
 have l1:=PySem.W.looks_subIn (M:=model prog w) X k.ob;have e1:=F.owner_object_class;have hT5:(⟨h,g,d,t,os⟩:Shared).TypeIs (.builtin "object.__class__") "getset_descriptor":=F.typeOf_object_class;refine codeAny_call_builtin F.slot_gs_get.plain F.entry_gs_get (F.slot_gs_get.check _ _ _ _ _ _ _ _ hT5 (F.args_gs_get _ _ _) ?_)
 repeat (any_goals (first|assumption|(with_reducible refine wpAny_loadPart_at hx ?_;rw [hc])|with_reducible refine PySem.W.Looks.at l1 ?_|rw [e1]|wp_step))
 refine ⟨Code.quiet_builtin _ (by decide +kernel),codeAny_builtin F.entry_object_class ?_⟩
 repeat (any_goals (first|assumption|(with_reducible refine wpAny_loadPart_at hx ?_;rw [hc])|wp_step))
theorem C1z {tk:Tok} {Q:Fin->Shared->Prop} (X:K.In h) (k:ExK K C) (hx:h.get? a=some o) (hc:o.cls=.ref C) (hq:Q (.done (.ret (.ref C))) ⟨h,g,d,t,os⟩) :
  wpAny (model prog w) A (Builtin.«object.__getattribute__» ⟨[.ref a,.str "__class__" tk],[]⟩) Q E ⟨h,g,d,t,os⟩:=by
 have l1:=PySem.W.looks_findIn (M:=model prog w) X k.cl;have hT5:(⟨h,g,d,t,os⟩:Shared).TypeIs (.builtin "object.__class__") "getset_descriptor":=F.typeOf_object_class;have f5:=F.typeOf_object_class;have f6:=F.slot_gs_get.lookup;have f7:=F.slot_gs_set.lookup
 repeat (any_goals (first|assumption|(with_reducible refine wpAny_loadPart_at hx ?_;rw [hc])|with_reducible refine PySem.W.Looks.at l1 ?_|wp_step))
 refine C9i X k hx hc ?_
 repeat (any_goals (first|assumption|wp_step))
theorem C09 {nameV:Value} {Q:Unit->Shared->Prop} (X:K.In h) (k:ExK K C) (hx:h.get? a=some o) (hc:o.cls=.ref C) (hq:Q () ⟨h,g,d,t,os⟩) :
  wpAny (model prog w) A (checkBuiltinCall "BaseException.__getattribute__" ⟨[.ref a,nameV],[]⟩) Q E ⟨h,g,d,t,os⟩:=by
 have l1:=PySem.W.looks_subIn (M:=model prog w) X k.be;have kd:builtinKind "BaseException.__getattribute__"=some .slot:=by decide +kernel
 have sp:splitId "BaseException.__getattribute__"=some ("BaseException","__getattribute__"):=by decide +kernel
 have ar:=F.args_bexc_ga (.ref a) nameV;simp only [checkBuiltinCall,kd,sp];refine wpAny_bind ?_;unfold isInstance
 repeat (first|(with_reducible refine wpAny_loadPart_at hx ?_;rw [hc])|with_reducible refine PySem.W.Looks.at l1 ?_|wp_step)
 exact hq
theorem C4f {tk:Tok} {R:Result->Shared->Prop} (X:K.In h) (k:ExK K C) (hx:h.get? a=some o) (hc:o.cls=.ref C) (hq:R (.ok (.ret (.ref C))) ⟨h,g,d,t,os⟩) :
  codeAny (model prog w) A (.call (.builtin "BaseException.__getattribute__") ⟨[.ref a,.str "__class__" tk],[]⟩) R ⟨h,g,d,t,os⟩ :=
 codeAny_call_builtin PySem.F.attr_ValueError.ga.plain F.entry_bexc_ga (C09 X k hx hc (C1z X k hx hc hq))
theorem D4x {tk:Tok} {Q:Value->Shared->Prop} (X:K.In h) (k:ExK K C) (hx:h.get? a=some o) (hc:o.cls=.ref C) (hq:Q (.ref C) ⟨h,g,d,t,os⟩) :
  wpAny (model prog w) A (getAttrBy (.ref a) (.str "__class__" tk) false) Q E ⟨h,g,d,t,os⟩:=by
 have l1:=PySem.W.looks_findIn (M:=model prog w) X k.ga;have l2:=PySem.W.looks_findIn (M:=model prog w) X k.gg;have f3:=PySem.F.attr_ValueError.ga.bind (.ref a);have hx2:(Value.builtin "BaseException.__getattribute__"==Value.builtin "object.__getattribute__")=false:=by decide +kernel
 have hx1:(onTheHeap (Value.ref C)&&Value.builtin "BaseException.__getattribute__"==Value.builtin "object.__getattribute__")=false:=by rw [hx2];rfl
 repeat (any_goals (first|assumption|(with_reducible refine wpAny_loadPart_at hx ?_;rw [hc])|with_reducible refine PySem.W.Looks.at l1 ?_|with_reducible refine PySem.W.Looks.at l2 ?_|wp_step))
 refine C4f X k hx hc ?_
 repeat (any_goals (first|assumption|wp_step))
theorem C57 {Q:Option Value->Shared->Prop} (X:K.In h) (k:ExK K C) (hx:h.get? a=some o) (hc:o.cls=.ref C) (hq:Q (some (.ref C)) ⟨h,g,d,t+1,os⟩) :
  wpAny (model prog w) A (getAttr? (.ref a) "__class__") Q E ⟨h,g,d,t,os⟩:=by
 unfold getAttr? getAttrBy?
 repeat (any_goals (first|assumption|with_reducible apply D4x X k hx hc|wp_step))
theorem B0q {mg:Str->Option Value} {x:Str} (c:W3 K mg x C) (k:ExK K C):PySem.W.KitX K (.ref a) (.ref C) (fun h=>∃ o,h.get? a=some o/\o.cls=.ref C) where
 ty:=fun M h _ p=>by
  obtain ⟨o,h1,h2⟩:=p;exact h2 ▸ (PySem.W.Looks.ld h1).andThen .now
 it:=fun M h X _=>(PySem.W.kit_cls X k.se).2.1
 ne:=fun h tp dd its n sl X htp=>Bool.eq_false_iff.mpr fun q=>by
  have e:C=tp:=Value.ref.inj (beq_iff_eq.mp q);subst e;obtain ⟨_,_,_,_,_,_,_,_,_,_,_,_,_,_,_,_,_,hC,_⟩:=(c.own X).obj;rw [htp] at hC;injection hC with z
  injection z with z1
  exact absurd z1 (by decide)
 ca:=fun {_ _ _ _ _ s} X p q=>by
  obtain ⟨o,h1,h2⟩:=p;obtain ⟨hh,gg,dd,tt,oo⟩:=s;exact C57 X k h1 h2 q
end
section
variable {X:Cx} {K:W.Frag}
def E00 (K:W.Frag) (ea C:Addr):List V->Hp->VK->Prop:=fun xs H Q=>∃ T b,xs=[.ref ea,T]/\((∃ D,T=.ref D/\PySem.W.kitOne K (.ref C) (.ref D)=some b)\/(∃ n,T=.ty n/\PySem.W.kitOne K (.ref C) (.type n)=some b))/\Q (.bl b) H
theorem B17 {ea C:Addr} {oe:Obj} {x:Str} (hK:X.K=K) (hp:(ea,oe)∈X.pn) (hc:oe.cls=.ref C) (c:W3 K X.mg x C) (k:ExK K C):K2 X (.builtin "isinstance") (E00 K ea C):=by
 subst hK;intro pins s σ H xs us Q I r h;obtain ⟨T,b,rfl,hT,q⟩:=h;obtain ⟨u,v,rfl,r1,r2⟩:=B9s r;cases r1;have he:=(I.pin (ea,oe) (mem_append_left _ hp)).1;rcases hT with ⟨D,rfl,e⟩|⟨n,rfl,e⟩
 ·cases r2;exact PySem.W.kia_one (B0q c k) I.kIn ⟨oe,he,hc⟩ e (fun z=>nomatch z) fun tk=>⟨.bl b,H,I.tok _,rfl,q⟩
 ·cases r2;exact PySem.W.kia_one (B0q c k) I.kIn ⟨oe,he,hc⟩ e (fun z=>nomatch z) fun tk=>⟨.bl b,H,I.tok _,rfl,q⟩
end
section
variable {X:Cx} {pins:List (Addr × Obj)} {σ:St} {H:Hp} {s:Shared}
theorem B4.lost {h':Heap} {m':Str->Option Value} {t':Nat} (I:B4 X pins σ H s) (hn:h'.Ns X.env.locals m') (sb:Heap.SameBut X.env.locals s.heap h'):B4 X pins (List.replicate X.N.length none) H { s with heap:=h',toks:=t' }:=by
 have neL:∀ b o,X.s₀.heap.get? b=some o->b≠X.env.locals:=fun b o e=>Nat.ne_of_lt (Nat.lt_of_lt_of_le (Heap.lt_size e) I.ok.above);refine ⟨I.ok,I.os,I.bare,⟨fun b o e n hb hx=>(sb.2 b (neL b o e)).trans (I.base.keep b o e n hb hx),fun b o e n hb hx=>?_,I.base.free,fun b o e hx=>?_,I.base.tups,I.base.frzs,I.base.tbls⟩,⟨m',hn,fun j y v e1 e2 e3=>?_⟩,fun y c e=>?_,I.free,I.freeC,fun p hp=>?_,fun b u e=>?_,List.length_replicate⟩
 ·obtain ⟨sl,e1⟩:=I.base.slot b o e n hb hx;exact ⟨sl,(sb.2 b (neL b o e)).trans e1⟩
 ·obtain ⟨o',e1⟩:=I.base.there b o e hx;exact ⟨o',(sb.2 b (neL b o e)).trans e1⟩
 ·rw [List.getElem?_replicate] at e2;split at e2<;>cases e2
 ·obtain ⟨w',z⟩:=I.cell y c e;exact ⟨w',z.sameBut sb (I.cne y c e)⟩
 ·obtain ⟨e,n,ne,nf,d⟩:=I.pin p hp;exact ⟨(sb.2 p.1 ne).trans e,n,ne,nf,d⟩
 ·refine (I.hok b u e).stay (fun c v hc q=>(sb.2 c ?_).trans q) (fun _ q=>q) fun _ _ q=>q;intro z;rcases hc with hc|hc
  ·rw [<-hc,z,I.free] at e;cases e
  ·rw [z,I.free] at hc;cases hc
end
abbrev A8i (D:T1):T1:={ nx:=fun _ _=>False,rt:=D.rt,bk:=fun _ _=>False,ct:=fun _ _=>False }
section
variable {X:Cx} {pins:List (Addr × Obj)} {σ:St} {H:Hp} {s:Shared} {ea C R:Addr} {B:Heap} {a0:Value} {x n:Str} {i:Nat} {np pos:Pos} {b0:Stmt} {suite:List Stmt} {E7:List ExceptHandler} {ts:TS} {D:T1}
theorem C5t (I:B4 X pins σ H s) (F:A4m X) (hN:X.N.Nodup) (hi:X.N[i]?=some n) (hln:X.env.kindOf n=some .local) (hln2:X.env.scope.names.lookup n=some .local) (hb:X.base.StaysIn B) (fl:A0m B X.stack ea (.ref C) a0 s.heap) (pr:A3x X pins B H s.heap) (hg:Gl X x) (hm:X.mg x=some (.ref R)) (k:A4g X.K C R)
  (hs:∀ oe,XOf oe C->PSs (X.within ea oe) (b0::suite) ts) (h:H ea=none->ts (A8i D) (σ.set i (some (.ref ea))) H) (hdb:(x==("__debug__":Str))=false) :
  wpAny (model X.prog X.w) X.A (noteFrame (.ref ea) X.env) (fun _ s2=>wpAny (model X.prog X.w) X.A (setFlight (.ref ea) none) (fun _ s3=>wpAny (model X.prog X.w) X.A (handleBy (.ref ea) X.env (.ExceptHandler (some (.Name x np)) (some n) (b0::suite) pos::E7)) (SP X pins D) X.xe s3) X.xe s2) X.xe s:=by
 have hfr:X.A.frames=some (X.env::X.outer):=by rw [I.ok.frames,F.st]
 have fl0:=fl;rw [F.st] at fl;refine B63 hfr F.fr fl fun h4 held up4=>D2m held fun h5 fl5 up5=>?_;rw [<-F.st] at fl5;have I5:=I.fly F hb fl0.1 fl5 (up4.trans up5) pr;have pr5:A3x X pins B H h5:=A3x.fly I F pr;obtain ⟨oe,ws,e1,e2,e3,e4,e5,e6,_⟩:=B4d F fl5 pr5;have IY:=I5.within e1 e3 e4 e5 e6;refine wpAny_handleBy_cons (codeAny_handlers_test ?_) (by intro q;cases q);refine A0d (X:=X.within ea oe) IY hg hm (A9s (K:=X.K) IY.kIn e1 e2 k ?_) hdb;refine codeAny_handlers_suite_as (A7q fl5 fun h6 fl6 up6=>?_);have I6:=I5.fly F hb fl5.1 fl6 up6 pr5;have pr6:A3x X pins B H h6:=A3x.fly I5 F pr5;obtain ⟨of,wf,f1,f2,f3,f4,f5,f6,f7⟩:=B4d F fl6 pr6;have IZ:=I6.within f1 f3 f4 f5 f6;refine A53 (X:=X.within ea of) (v:=.ref ea) IZ hN hi (.inl hln2) rfl (fun s2 I2=>?_) (.inr hln2);refine wpAny_mono (hs of ⟨f2,f7⟩ pins s2 _ H (A8i D) I2 (h f4)) (fun f s' q=>?_) (fun _ _ z=>z.elim);cases f with
 | next=>obtain ⟨_,_,_,z⟩:=q;exact z.elim
 | brk=>obtain ⟨_,_,_,z⟩:=q;exact z.elim
 | cont=>obtain ⟨_,_,_,z⟩:=q;exact z.elim
 | ret u =>
  obtain ⟨v,σ',H',I',r,q⟩:=q;have I'':=I'.without I.ok;obtain ⟨m,hn,_⟩:=I''.loc;have hcls:(X.env.scope.kind==.class||(X.env.scope.kind==.module&&X.env.locals != X.env.globals))=false:=by rw [I.ok.kind];rfl
  exact wpAny_nameGoes hln hn hcls fun h' m' hn' sb=>⟨v,_,H',I''.lost hn' sb,r,q⟩
end
section
variable {X:Cx}
def C79 (R:Addr) (i:Nat) (tb:TSX) (ts:Addr->Addr->TS) (K:W.Frag) (mg:Str->Option Value):TS:=fun D σ H =>
 tb D (fun σ' cls _ H'=>∃ C x,cls=.ref C/\A4g K C R/\W3 K mg x C/\ExK K C/\∀ ea,H' ea=none->ts ea C (A8i D) (σ'.set i (some (.ref ea))) H') σ H
theorem C4v {x n:Str} {R:Addr} {i:Nat} {b0:Stmt} {body suite:List Stmt} {tb:TSX} {ts:Addr->Addr->TS} {np hpos pos:Pos} (F:A4m X) (hN:X.N.Nodup) (hg:Gl X x) (hm:X.mg x=some (.ref R)) (hb:C5i X body tb)
  (hs:∀ ea oe C y,XOf oe C->W3 X.K X.mg y C->ExK X.K C->PSs (X.within ea oe) (b0::suite) (ts ea C)) (hi:X.N[i]?=some n) (hln:X.env.kindOf n=some .local) (hln2:X.env.scope.names.lookup n=some .local) (hdb:(x==("__debug__":Str))=false) :
  PS X (.Try body [.ExceptHandler (some (.Name x np)) (some n) (b0::suite) hpos] [] [] pos) (C79 R i tb ts X.K X.mg):=by
 intro pins s σ H D I h;refine wpAny_Try_except (wpAny_mono (hb.h pins s σ H D _ I h) (fun f s1 q=>?_) (fun e s1 q=>?_))
 ·cases f with
  | next =>
   obtain ⟨σ',H',I',q⟩:=q;exact wpAny_execs_nil ⟨σ',H',I',q⟩
  | ret v=>exact q
  | brk=>exact q
  | cont=>exact q
 ·obtain ⟨σ',ea,cls,H',B,a0,rfl,I',hb',fl,pr,C,y,rfl,k,c,kk,q⟩:=q;exact C5t I' F hN hi hln hln2 hb' fl pr hg hm k (fun oe ho=>hs ea oe C y ho c kk) (q ea) hdb
theorem C1h (i:Nat) {x n:Str} {R:Addr} {b0:Stmt} {body suite:List Stmt} {tb:TSX} {ts:Addr->Addr->TS} {np hpos pos:Pos} (K:W.Frag) (hK:X.K=K) (mg:Str->Option Value) (hmg:X.mg=mg) (F:A4m X) (hN:X.N.Nodup) (hg:Gl X x) (hm:mg x=some (.ref R)) (hb:C5i X body tb)
  (hs:∀ ea oe C y,XOf oe C->W3 K mg y C->ExK K C->QSs (X.within ea oe) (b0::suite) (ts ea C)) (hi:X.N[i]?=some n:=by rfl) (hln:X.env.kindOf n=some .local:=by rfl) (hln2:X.env.scope.names.lookup n=some .local:=by rfl) (hdb:(x==("__debug__":Str))=false:=by decide) :
  QS X (.Try body [.ExceptHandler (some (.Name x np)) (some n) (b0::suite) hpos] [] [] pos) (C79 R i tb ts K mg):=⟨by
 subst hK hmg;exact C4v F hN hg hm hb (fun ea oe C y h1 h2 h3=>(hs ea oe C y h1 h2 h3).h) hi hln hln2 hdb⟩
theorem C5b {x:Str} {C:Addr} {pos:Pos} (hg:Gl X x) (hm:X.mg x=some (.ref C)) (hd:(x==("__debug__":Str))=false:=by decide):QE X (.Name x pos) (tC (.ref C)):=⟨A6u hg hm rfl hd⟩
end
def C7h (i j:Int):Prop:=0 < j/\∃ m:Nat,m < 9000/\j < 2 ^ m
theorem C0a {X:Cx}:T5 X (binaryOp .FloorDiv) (rI C7h fun i j=>.int (i / j)):=opI fun i j _ _ _ _ _ hc q=>by
 obtain ⟨h1,m,hm,h2⟩:=hc;have e:((2 ^ m:Nat):Int)=2 ^ m:=by simp
 refine floordiv_int (by omega) (by rw [Int.fdiv_eq_ediv_of_nonneg i (by omega)];exact q) (.inl (PyProof.noPylong_of_log2 ?_));have:j.natAbs.log2 < m:=(Nat.log2_lt (by omega)).mpr (by omega);omega
section
variable {X:Cx} {pins:List (Addr × Obj)} {σ:St} {H:Hp} {s:Shared} {d:Addr} {kvs:List (C2 × V)}
theorem B4.freeze (I:B4 X pins σ H s) (hd:H d=some (.dK kvs)):∃ o,s.heap.get? d=some o/\B4 X pins σ (upd H d (.frz o (.dK kvs))) s:=by
 have ok:=I.hok d _ hd;obtain ⟨o,ho⟩:∃ o,s.heap.get? d=some o:=by
  obtain ⟨_,_,vs,_,o,_,_,e,_⟩:=ok;exact ⟨o,e⟩
 refine ⟨o,ho,?_⟩;have:=I.write (x:=d) (e:=d) (h':=s.heap) (t':=s.toks) (o:=.frz o (.dK kvs)) (by rw [hd];trivial) (.inl rfl) (fun _ _ _ q=>q) ⟨o,ho⟩ ⟨ho,ok⟩;exact this
end
def Itk (d:Addr) (o:Obj) (kvs:List (C2 × V)):It :=
 ⟨fun i H=>H d=some (.frz o (.dK kvs))/\i < kvs.length,fun i H x H'=>(∃ k v,kvs[i]?=some (k,v)/\x=kV k)/\H'=H,fun i H=>H d=some (.frz o (.dK kvs))/\kvs.length<=i⟩
theorem B4n {P:Program} {w:World} {H:Hp} {h:Heap} {d:Addr} {o:Obj} {kvs:List (C2 × V)} {es:Array DictEntry} {ep:Nat} (hod:o.data=.dict es ep) (ok:E1 P w H h d (.frz o (.dK kvs))) :
  (d==sysModules)=false/\∃ vs,KV kvs vs/\h.DictAt (J1 P w) d vs ep:=by
 obtain ⟨ho,_,hs,vs,kv,o2,es2,ep2,e1,e2,e3,r⟩:=ok;rw [ho] at e1;cases e1;rw [hod] at e3;cases e3;exact ⟨hs,vs,kv,o,es,ho,e2,hod,r⟩
theorem C91 {kvs:List (C2 × V)} {vs:List (C2 × Value)} (r:KV kvs vs):∀ {i:Nat} {p:C2 × V},kvs[i]?=some p->∃ q,vs[i]?=some q/\p.1=q.1:=by
 unfold KV at r
 induction r with
 | nil=>intro i p e;simp at e
 | cons h t ih =>
  intro i p e;cases i with
  | zero=>simp at e;subst e;exact ⟨_,rfl,h.1⟩
  | succ i=>exact ih (by simpa using e)
theorem B5k {P:Program} {w:World} {K:W.Frag} {tg:Expr} (d it:Addr) (o:Obj) (kvs:List (C2 × V)) {es:Array DictEntry} {ep:Nat} (hod:o.data=.dict es ep):A7r P w K tg (Itk d o kvs) [it] it (fun i h=>h.IsKeyIter it d i kvs.length ep) where
 mem:=by simp
 obj:=fun i h st b hb=>by
  have e:b=it:=by simpa using hb
  subst e;obtain ⟨o,e,c,dd⟩:=st;exact ⟨o,e,fun v z=>by rw [dd] at z;cases z⟩
 keep:=fun i h h' st k=>st.at fun o e=>k it (by simp) o e
 item:=by
  intro X hP hw hK hc i pins s σ H E I hf st hg;subst hP hw hK;obtain ⟨hd,hi⟩:=hg;obtain ⟨_,vs,kv,da⟩:=B4n hod (I.hok d _ hd);have hlen:kvs.length=vs.length:=Paired.length kv;rw [hlen] at st;obtain ⟨f0,f1,f2,f3,f4,f5⟩:=hf it (by simp);have hvi:vs[i]?=some (vs[i]'(by omega)):=List.getElem?_eq_getElem _;have hki:kvs[i]?=some kvs[i]:=List.getElem?_eq_getElem _;have hkk:kvs[i].1=(vs[i]'(by omega)).1:=by
   obtain ⟨q,e1,e2⟩:=C91 kv hki;rw [hvi] at e1;cases e1;exact e2
  refine wpAny_pyNext_dict_item st da (k:=(vs[i]'(by omega)).1) (v:=(vs[i]'(by omega)).2) hvi fun key h' hkey st' sb=>?_;have I1:B4 X pins σ H { s with heap:=h' }:=I.turned (t':=s.toks) (fun b o hb e=>(sb.2 b hb).trans e) f0 f1 f3 f4 f5;obtain ⟨oi,e,c,dd⟩:=id st';refine ⟨key,rfl,A9j (s:={ s with heap:=h' }) e c dd (by decide) ⟨kV kvs[i].1,H,I1,?_,⟨⟨_,_,hki,rfl⟩,rfl⟩,by rw [hlen];exact st',fun b hb=>(hf b hb).1⟩⟩;rw [hkk];rcases E8 hkey with ⟨j,t,ek,ev⟩|⟨y,t,ek,ev⟩
  ·rw [ek,ev];exact ⟨t,rfl⟩
  ·rw [ek,ev];exact ⟨t,rfl⟩
 done:=by
  intro X hP hw hK hc i pins s σ H E I hf st hg;subst hP hw hK;obtain ⟨hd,hi⟩:=hg;obtain ⟨_,vs,kv,da⟩:=B4n hod (I.hok d _ hd);have hlen:kvs.length=vs.length:=Paired.length kv;rw [hlen] at st;obtain ⟨f0,f1,f2,f3,f4,f5⟩:=hf it (by simp);exact wpAny_pyNext_dict_end (I.ok.hd hc) st da (List.getElem?_eq_none (by omega)) fun h' eb=>⟨rfl,I.turned (t':=s.toks) (fun b o hb e=>eb b o hb e) f0 f1 f3 f4 f5⟩
 self:=fun _ _ _ _ _ st h=>wpAny_pyIter_keyiter st h
def up (p i:Nat):Nat:=if i < p then i else i+1
def dn (p i:Nat):Nat:=if i < p then i else i - 1
def D5m (K:W.Frag):List V->Hp->VK->Prop:=fun xs H Q=>∃ (a:Addr) (ns:List Int),xs=[.ref a]/\L4 K H a (ns.map V.int)/\ns≠[]/\∀ M,M∈ns->(∀ x∈ns,M<=x)->Q (.int M) H
def D7q (K:W.Frag):List V->Hp->VK->Prop:=fun xs H Q=>∃ (a:Addr) (ns:List Int),xs=[.ref a]/\L4 K H a (ns.map V.int)/\ns≠[]/\∀ M,M∈ns->(∀ x∈ns,x<=M)->Q (.int M) H
section
variable {X:Cx}
theorem D2t (K:W.Frag) (hK:X.K=K) (hc:X.calm=true):K2 X (.builtin "min") (D5m K):=by
 subst hK;intro pins s σ H xs us Q I r h;obtain ⟨a,ns,rfl,hq,hne,q⟩:=h;obtain ⟨u,rfl,r1⟩:=S8 r;cases r1;obtain ⟨its,rv,p,hz⟩:=I.list hq;have hi:=A1b rv;obtain ⟨zs,ez⟩:=hi.allInts.items;have hl:=p.isList;rw [ez] at hl;have e3:ns=zs.toList.map (fun x=>x.1):=by
  have e2:=hi.numsOf;have e3:=nums_intItems (xs:=zs);rw [<-ez] at e3;exact e2.symm.trans e3
 have hsz:0 < zs.size:=by
  have:0 < ns.length:=List.length_pos_iff.mpr hne;rw [e3,length_map,Array.length_toList] at this;exact this
 refine min_intList (I.ok.hd hc) hl hsz fun v h' tk hv hk=>?_;obtain ⟨t,rfl⟩:=intItems_at hv;obtain ⟨h1,h2⟩:=argBest_lt (numAt zs) (zs.size - 1);refine ⟨.int _,H,I.kept hk,⟨_,rfl⟩,q _ ?_ fun x hx=>?_⟩
 ·rw [e3,numAt_eq];exact getD_mem (by rw [length_map,Array.length_toList];omega)
 ·rw [e3] at hx;obtain ⟨j,hj,rfl⟩:=mem_getD hx;rw [length_map,Array.length_toList] at hj;rw [<-numAt_eq];exact h2 j (by omega)
theorem B31 (K:W.Frag) (hK:X.K=K) (hc:X.calm=true):K2 X (.builtin "max") (D7q K):=by
 subst hK;intro pins s σ H xs us Q I r h;obtain ⟨a,ns,rfl,hq,hne,q⟩:=h;obtain ⟨u,rfl,r1⟩:=S8 r;cases r1;obtain ⟨its,rv,p,hz⟩:=I.list hq;have hi:=A1b rv;obtain ⟨zs,ez⟩:=hi.allInts.items;have hl:=p.isList;rw [ez] at hl;have e3:ns=zs.toList.map (fun x=>x.1):=by
  have e2:=hi.numsOf;have e3:=nums_intItems (xs:=zs);rw [<-ez] at e3;exact e2.symm.trans e3
 have hsz:0 < zs.size:=by
  have:0 < ns.length:=List.length_pos_iff.mpr hne;rw [e3,length_map,Array.length_toList] at this;exact this
 refine max_intList (I.ok.hd hc) hl hsz fun v h' tk hv hk=>?_;obtain ⟨t,rfl⟩:=intItems_at hv;obtain ⟨h1,h2⟩:=argBest_gt (numAt zs) (zs.size - 1);refine ⟨.int _,H,I.kept hk,⟨_,rfl⟩,q _ ?_ fun x hx=>?_⟩
 ·rw [e3,numAt_eq];exact getD_mem (by rw [length_map,Array.length_toList];omega)
 ·rw [e3] at hx;obtain ⟨j,hj,rfl⟩:=mem_getD hx;rw [length_map,Array.length_toList] at hj;rw [<-numAt_eq];exact h2 j (by omega)
end
end L2
namespace DL
open PySem PySem.Spec PyProof.Rows L2
abbrev D:=PyData
def muO:HO->Bool
 | .lst _=>true
 | .dK _=>true
 | .dT _=>true
 | _=>false
abbrev MuS:={o:HO // muO o=true}
def Mu (H:Hp) (a:Addr):Prop:=∃ o:MuS,H a=some o.1
theorem Mu.lst {H:Hp} {a:Addr} {us:List V} (h:H a=some (.lst us)):Mu H a:=⟨⟨.lst us,rfl⟩,h⟩
theorem Mu.of {H:Hp} {a:Addr} {o:HO} (h:H a=some o) (m:muO o=true):Mu H a:=⟨⟨o,m⟩,h⟩
theorem Mu.no {H:Hp} {a:Addr} {o:HO} (h:Mu H a) (e:H a=some o) (n:muO o=false):False:=by
 obtain ⟨u,q⟩:=h;rw [e] at q;have q:=Option.some.inj q;have m:=u.2;rw [<-q,n] at m;cases m
def L1:C2->D
 | .inl i=>.int i
 | .inr x=>.str x
def X8:D->Option V
 | .none=>some .non
 | .bool b=>some (.bl b)
 | .int i=>some (.int i)
 | .str x=>some (.str x)
 | _=>Option.none
def B13:List (C2 × V)->List (D × D)->Prop
 | [],[]=>True
 | (k,v)::r,(d,e)::t=>d=L1 k/\X8 e=some v/\B13 r t
 | _,_=>False
def C0j:List (List C2 × V)->List (D × D)->Prop
 | [],[]=>True
 | (k,v)::r,(d,e)::t=>d=.tuple (k.map L1)/\X8 e=some v/\C0j r t
 | _,_=>False
def B6y:HO->Bool->List (D × D)->Prop
 | .dK kvs,false,kds=>B13 kvs kds
 | .dT kvs,true,kds=>C0j kvs kds
 | _,_,_=>False
def A4r (b:Bool) (kds:List (D × D)):D:=.dict ((.bool false,.bool b)::kds)
theorem B6y.mu {o:HO} {b:Bool} {kds:List (D × D)} (h:B6y o b kds):muO o=true:=by cases o<;>first|rfl|(cases b<;>exact h.elim)
mutual
inductive Dn (K:W.Frag) (H:Hp):V->D->Prop
 | non:Dn K H .non .none
 | bl (b):Dn K H (.bl b) (.bool b)
 | int (i):Dn K H (.int i) (.int i)
 | str (x):Dn K H (.str x) (.str x)
 | lst {a us ds}:H a=some (.lst us)->Dns K H us ds->Dn K H (.ref a) (.list ds)
 | tup {a us ds}:R4 K H a us->Dns K H us ds->Dn K H (.ref a) (.tuple ds)
 | scr {a} (ns:List Int):L4 K H a (ns.map V.int)->Dn K H (.ref a) (.dict [(.none,.list (ns.map .int))])
 | opq (a:Addr):Dn K H (.ref a) (.dict [(.bool true,.int (a:Nat))])
 | dct {a o b kds}:H a=some o->B6y o b kds->Dn K H (.ref a) (.dict ((.bool false,.bool b)::kds))
 | dcf {a kvs kds}:Rd H a (.dK kvs)->B13 kvs kds->Dn K H (.ref a) (.dict ((.int 0,.none)::kds))
inductive Dns (K:W.Frag) (H:Hp):List V->List D->Prop
 | nil:Dns K H [] []
 | cons {v vs d ds}:Dn K H v d->Dns K H vs ds->Dns K H (v::vs) (d::ds)
end
theorem Dn.both {K:W.Frag} {H:Hp} {P:V->D->Prop} {Q:List V->List D->Prop} (c1:P .non .none) (c2:∀ b,P (.bl b) (.bool b)) (c3:∀ i,P (.int i) (.int i)) (c4:∀ x,P (.str x) (.str x))
  (c5:∀ {a us ds},H a=some (.lst us)->Q us ds->P (.ref a) (.list ds)) (c6:∀ {a us ds},R4 K H a us->Q us ds->P (.ref a) (.tuple ds)) (c7:∀ {a} (ns:List Int),L4 K H a (ns.map V.int)->P (.ref a) (.dict [(.none,.list (ns.map .int))]))
  (c8:∀ a:Addr,P (.ref a) (.dict [(.bool true,.int (a:Nat))])) (c9:∀ {a o b kds},H a=some o->B6y o b kds->P (.ref a) (.dict ((.bool false,.bool b)::kds))) (c10:∀ {a kvs kds},Rd H a (.dK kvs)->B13 kvs kds->P (.ref a) (.dict ((.int 0,.none)::kds))) (n0:Q [] []) (n1:∀ {v vs d ds},P v d->Q vs ds->Q (v::vs) (d::ds)) :
  (∀ {v d},Dn K H v d->P v d)/\∀ {vs ds},Dns K H vs ds->Q vs ds :=
 ⟨fun h=>Dn.rec (motive_1:=fun v d _=>P v d) (motive_2:=fun vs ds _=>Q vs ds) c1 c2 c3 c4 (fun h _ r=>c5 h r) (fun h _ r=>c6 h r) (fun ns h=>c7 ns h) c8 (fun h r=>c9 h r) (fun h r=>c10 h r) n0 (fun _ _ p q=>n1 p q) h,
  fun h=>Dns.rec (motive_1:=fun v d _=>P v d) (motive_2:=fun vs ds _=>Q vs ds) c1 c2 c3 c4 (fun h _ r=>c5 h r) (fun h _ r=>c6 h r) (fun ns h=>c7 ns h) c8 (fun h r=>c9 h r) (fun h r=>c10 h r) n0 (fun _ _ p q=>n1 p q) h⟩
theorem Dn.same2 {K:W.Frag} {H H':Hp} (e:A7 H H'):(∀ {v d},Dn K H v d->Dn K H' v d)/\∀ {vs ds},Dns K H vs ds->Dns K H' vs ds :=
 Dn.both .non .bl .int .str (fun h r=>.lst (e _ _ h) r) (fun h r=>.tup (e.tup h) r) (fun ns h=>.scr ns (e.seq h)) .opq (fun h r=>.dct (e _ _ h) r) (fun h r=>.dcf (h.elim (fun h=>.inl (e _ _ h)) fun ⟨o,h⟩=>.inr ⟨o,e _ _ h⟩) r) .nil fun p q=>.cons p q
theorem Dn.same {K:W.Frag} {H H':Hp} (e:A7 H H') {v:V} {d:D} (h:Dn K H v d):Dn K H' v d:=(Dn.same2 e).1 h
theorem Dns.same {K:W.Frag} {H H':Hp} (e:A7 H H') {vs:List V} {ds:List D} (h:Dns K H vs ds):Dns K H' vs ds:=(Dn.same2 e).2 h
theorem Dn.deep2 {K:W.Frag} {H:Hp}:(∀ {v d},Dn K H v d->d.canLay0=true->Den K H v d)/\∀ {vs ds},Dns K H vs ds->PyData.canLayAll0 ds=true->Dens K H vs ds :=
 Dn.both (fun _=>.non) (fun b _=>.bl b) (fun b _=>.int b) (fun b _=>.str b) (fun h r q=>.lst (L4.of h) (r (by simpa [PyData.canLay0] using q))) (fun h r q=>.tup h (r (by simpa [PyData.canLay0] using q)))
  (fun ns h q=>by simp [PyData.canLay0] at q) (fun a q=>by simp [PyData.canLay0] at q) (fun h r q=>by simp [PyData.canLay0] at q) (fun h r q=>by simp [PyData.canLay0] at q) (fun _=>.nil) fun p r q=>by
  simp only [PyData.canLayAll0,Bool.and_eq_true] at q;exact .cons (p q.1) (r q.2)
theorem Dn.deep {K:W.Frag} {H:Hp} {v:V} {d:D} (h:Dn K H v d) (q:d.canLay0=true):Den K H v d:=Dn.deep2.1 h q
theorem Dns.deep {K:W.Frag} {H:Hp} {vs:List V} {ds:List D} (h:Dns K H vs ds) (q:PyData.canLayAll0 ds=true):Dens K H vs ds:=Dn.deep2.2 h q
theorem Dns.length {K:W.Frag} {H:Hp}:∀ {vs ds},Dns K H vs ds->vs.length=ds.length
 | _,_,.nil=>rfl
 | _,_,.cons _ r=>by rw [length_cons,length_cons,Dns.length r]
theorem Dns.get {K:W.Frag} {H:Hp}:∀ {vs ds} {i:Nat} {d:D},Dns K H vs ds->ds[i]?=some d->∃ v,vs[i]?=some v/\Dn K H v d
 | _,_,0,_,.cons h r,e=>by simp at e;subst e;exact ⟨_,rfl,h⟩
 | _,_,i+1,d,.cons h r,e=>by simp at e ⊢;exact Dns.get r e
theorem Dns.append {K:W.Frag} {H:Hp}:∀ {vs ds us es},Dns K H vs ds->Dns K H us es->Dns K H (vs++us) (ds++es)
 | _,_,_,_,.nil,q=>q
 | _,_,_,_,.cons h r,q=>.cons h (Dns.append r q)
mutual
inductive Ow (K:W.Frag) (H:Hp):V->D->List Addr->Prop
 | non:Ow K H .non .none []
 | bl (b):Ow K H (.bl b) (.bool b) []
 | int (i):Ow K H (.int i) (.int i) []
 | str (x):Ow K H (.str x) (.str x) []
 | lst {a us ds ns}:H a=some (.lst us)->Ows K H us ds ns->Ow K H (.ref a) (.list ds) (a::ns)
 | tup {a us ds ns}:R4 K H a us->Ows K H us ds ns->Ow K H (.ref a) (.tuple ds) ns
 | dct {a o b kds}:H a=some o->B6y o b kds->Ow K H (.ref a) (.dict ((.bool false,.bool b)::kds)) [a]
inductive Ows (K:W.Frag) (H:Hp):List V->List D->List Addr->Prop
 | nil:Ows K H [] [] []
 | cons {v vs d ds ns ms}:Ow K H v d ns->Ows K H vs ds ms->Ows K H (v::vs) (d::ds) (ns++ms)
end
theorem Ow.both {K:W.Frag} {H:Hp} {P:V->D->List Addr->Prop} {Q:List V->List D->List Addr->Prop} (c1:P .non .none []) (c2:∀ b,P (.bl b) (.bool b) []) (c3:∀ i,P (.int i) (.int i) []) (c4:∀ x,P (.str x) (.str x) [])
  (c5:∀ {a us ds ns},H a=some (.lst us)->Q us ds ns->P (.ref a) (.list ds) (a::ns)) (c6:∀ {a us ds ns},R4 K H a us->Q us ds ns->P (.ref a) (.tuple ds) ns)
  (c9:∀ {a o b kds},H a=some o->B6y o b kds->P (.ref a) (.dict ((.bool false,.bool b)::kds)) [a]) (n0:Q [] [] []) (n1:∀ {v vs d ds ns ms},P v d ns->Q vs ds ms->Q (v::vs) (d::ds) (ns++ms)) :
  (∀ {v d ns},Ow K H v d ns->P v d ns)/\∀ {vs ds ns},Ows K H vs ds ns->Q vs ds ns :=
 ⟨fun h=>Ow.rec (motive_1:=fun v d ns _=>P v d ns) (motive_2:=fun vs ds ns _=>Q vs ds ns) c1 c2 c3 c4 (fun h _ r=>c5 h r) (fun h _ r=>c6 h r) (fun h r=>c9 h r) n0 (fun _ _ p q=>n1 p q) h,
  fun h=>Ows.rec (motive_1:=fun v d ns _=>P v d ns) (motive_2:=fun vs ds ns _=>Q vs ds ns) c1 c2 c3 c4 (fun h _ r=>c5 h r) (fun h _ r=>c6 h r) (fun h r=>c9 h r) n0 (fun _ _ p q=>n1 p q) h⟩
theorem Ow.den2 {K:W.Frag} {H:Hp}:(∀ {v d ns},Ow K H v d ns->Dn K H v d)/\∀ {v d ns},Ows K H v d ns->Dns K H v d :=
 Ow.both .non .bl .int .str (fun h r=>.lst h r) (fun h r=>.tup h r) (fun h r=>.dct h r) .nil fun p q=>.cons p q
theorem Ow.den {K:W.Frag} {H:Hp} {v:V} {d:D} {ns:List Addr} (h:Ow K H v d ns):Dn K H v d:=Ow.den2.1 h
theorem Ows.den {K:W.Frag} {H:Hp} {v:List V} {d:List D} {ns:List Addr} (h:Ows K H v d ns):Dns K H v d:=Ow.den2.2 h
theorem Ow.there2 {K:W.Frag} {H:Hp}:(∀ {v d ns},Ow K H v d ns->∀ a∈ns,Mu H a)/\∀ {v d ns},Ows K H v d ns->∀ a∈ns,Mu H a :=
 Ow.both (P:=fun _ _ ns=>∀ a∈ns,Mu H a) (Q:=fun _ _ ns=>∀ a∈ns,Mu H a) (fun _ z=>nomatch z) (fun _ _ z=>nomatch z) (fun _ _ z=>nomatch z) (fun _ _ z=>nomatch z) (fun h r a ha=>(mem_cons.mp ha).elim (fun e=>e ▸ .lst h) (r a)) (fun _ r=>r)
  (fun h r a ha=>mem_singleton.mp ha ▸ .of h r.mu) (fun _ z=>nomatch z) fun p q a ha=>(mem_append.mp ha).elim (p a) (q a)
theorem Ow.there {K:W.Frag} {H:Hp} {v:V} {d:D} {ns:List Addr} (h:Ow K H v d ns):∀ a∈ns,Mu H a:=Ow.there2.1 h
theorem Ows.there {K:W.Frag} {H:Hp} {v:List V} {d:List D} {ns:List Addr} (h:Ows K H v d ns):∀ a∈ns,Mu H a:=Ow.there2.2 h
def A1y (ns:List Addr) (H H':Hp):Prop:=(∀ a∈ns,H' a=H a)/\∀ a o,H a=some o->muO o=false->H' a=some o
theorem A1y.sqt {K:W.Frag} {ns:List Addr} {H H':Hp} (k:A1y ns H H') {a:Addr} {us:List V} (h:R4 K H a us):R4 K H' a us:=by
 rcases h with (h|⟨o,h⟩)|h
 ·exact .inl (.inl (k.2 _ _ h rfl))
 ·exact .inl (.inr ⟨o,k.2 _ _ h rfl⟩)
 ·exact .inr h
theorem Ow.kept2 {K:W.Frag} {H H':Hp}:(∀ {v d ns},Ow K H v d ns->A1y ns H H'->Ow K H' v d ns)/\∀ {v d ns},Ows K H v d ns->A1y ns H H'->Ows K H' v d ns :=
 Ow.both (P:=fun v d ns=>A1y ns H H'->Ow K H' v d ns) (Q:=fun v d ns=>A1y ns H H'->Ows K H' v d ns) (fun _=>.non) (fun b _=>.bl b) (fun b _=>.int b) (fun b _=>.str b) (fun h r k=>.lst ((k.1 _ mem_cons_self).trans h) (r ⟨fun a ha=>k.1 a (mem_cons_of_mem _ ha),k.2⟩))
  (fun h r k=>.tup (k.sqt h) (r k)) (fun h r k=>.dct ((k.1 _ mem_cons_self).trans h) r) (fun _=>.nil) fun p q k=>.cons (p ⟨fun a ha=>k.1 a (mem_append_left _ ha),k.2⟩) (q ⟨fun a ha=>k.1 a (mem_append_right _ ha),k.2⟩)
theorem Ow.kept {K:W.Frag} {H H':Hp} {v:V} {d:D} {ns:List Addr} (h:Ow K H v d ns) (k:A1y ns H H'):Ow K H' v d ns:=Ow.kept2.1 h k
theorem Ows.kept {K:W.Frag} {H H':Hp} {v:List V} {d:List D} {ns:List Addr} (h:Ows K H v d ns) (k:A1y ns H H'):Ows K H' v d ns:=Ow.kept2.2 h k
theorem Ow.same2 {K:W.Frag} {H H':Hp} (e:A7 H H'):(∀ {v d ns},Ow K H v d ns->Ow K H' v d ns)/\∀ {v d ns},Ows K H v d ns->Ows K H' v d ns :=
 Ow.both .non .bl .int .str (fun h r=>.lst (e _ _ h) r) (fun h r=>.tup (e.tup h) r) (fun h r=>.dct (e _ _ h) r) .nil fun p q=>.cons p q
theorem Ow.same {K:W.Frag} {H H':Hp} (e:A7 H H') {v:V} {d:D} {ns:List Addr} (h:Ow K H v d ns):Ow K H' v d ns:=(Ow.same2 e).1 h
theorem Ows.same {K:W.Frag} {H H':Hp} (e:A7 H H') {v:List V} {d:List D} {ns:List Addr} (h:Ows K H v d ns):Ows K H' v d ns:=(Ow.same2 e).2 h
mutual
def flat:D->Bool
 | .none=>true
 | .bool _=>true
 | .int _=>true
 | .str _=>true
 | .list _=>false
 | .tuple ds=>flats ds
 | .dict _=>false
def flats:List D->Bool
 | []=>true
 | d::ds=>flat d&&flats ds
end
theorem B0g {K:W.Frag} {H:Hp}:(∀ {v d},Dn K H v d->flat d=true->Ow K H v d [])/\∀ {v d},Dns K H v d->flats d=true->Ows K H v d [] :=
 Dn.both (fun _=>.non) (fun b _=>.bl b) (fun b _=>.int b) (fun b _=>.str b) (fun _ _ h=>nomatch h) (fun h r q=>.tup h (r q)) (fun _ _ h=>nomatch h) (fun _ h=>nomatch h) (fun _ _ h=>nomatch h) (fun _ _ h=>nomatch h) (fun _=>.nil) fun p r q=>by
  rw [flats,Bool.and_eq_true] at q;exact .cons (ns:=[]) (ms:=[]) (p q.1) (r q.2)
theorem A8j {K:W.Frag} {H:Hp} {v:V} {d:D} (h:Dn K H v d) (q:flat d=true):Ow K H v d []:=B0g.1 h q
theorem A03 {K:W.Frag} {H:Hp} {v:List V} {d:List D} (h:Dns K H v d) (q:flats d=true):Ows K H v d []:=B0g.2 h q
theorem A5x {K:W.Frag} {H H':Hp} (k:∀ a o,H a=some o->muO o=false->H' a=some o):(∀ {v d},Dn K H v d->flat d=true->Dn K H' v d)/\∀ {v d},Dns K H v d->flats d=true->Dns K H' v d :=
 Dn.both (fun _=>.non) (fun b _=>.bl b) (fun b _=>.int b) (fun b _=>.str b) (fun _ _ h=>nomatch h) (fun h r q=>.tup (A1y.sqt (ns:=[]) ⟨fun _ z=>(by cases z),k⟩ h) (r q)) (fun _ _ h=>nomatch h) (fun _ h=>nomatch h) (fun _ _ h=>nomatch h) (fun _ _ h=>nomatch h) (fun _=>.nil) fun p r q=>by
  rw [flats,Bool.and_eq_true] at q;exact .cons (p q.1) (r q.2)
theorem A28 {K:W.Frag} {H H':Hp} (k:∀ a o,H a=some o->muO o=false->H' a=some o) {v:V} {d:D} (h:Dn K H v d) (q:flat d=true):Dn K H' v d:=(A5x k).1 h q
theorem B7f {K:W.Frag} {H H':Hp} (k:∀ a o,H a=some o->muO o=false->H' a=some o) {v:List V} {d:List D} (h:Dns K H v d) (q:flats d=true):Dns K H' v d:=(A5x k).2 h q
open Classical in
noncomputable def N4 (Z:Addr->Prop) (H:Hp):Hp:=fun a=>if Z a then none else H a
theorem D5 {Z:Addr->Prop} {H:Hp} {a:Addr} {o:HO} (h:H a=some o) (z:¬ Z a):N4 Z H a=some o:=by unfold N4;rw [if_neg z];exact h
theorem G5 {Z:Addr->Prop} {H:Hp} {a:Addr} {o:HO} (h:N4 Z H a=some o):H a=some o/\¬ Z a:=by
 unfold N4 at h;split at h
 ·cases h
 ·exact ⟨h,‹_›⟩
theorem D4 {Z:Addr->Prop} {H:Hp}:A7 (N4 Z H) H:=fun _ _ h=>(G5 h).1
theorem U4 {Z:Addr->Prop} {H H':Hp} (e:A7 H H'):A7 (N4 Z H) (N4 Z H'):=fun b o h=>D5 (e b o (G5 h).1) (G5 h).2
theorem A04 {Z Z':Addr->Prop} {H:Hp} (h:∀ a,Z' a->Z a):A7 (N4 Z H) (N4 Z' H):=fun b o e=>D5 (G5 e).1 fun z=>(G5 e).2 (h b z)
theorem R6 {K:W.Frag} {Z:Addr->Prop} {H:Hp} {v:V} {d:D} (hl:∀ a,Z a->Mu H a) (h:Dn K H v d) (hf:flat d=true):Dn K (N4 Z H) v d :=
 A28 (fun a o e n=>D5 e fun z=>(hl a z).no e n) h hf
theorem B57 {K:W.Frag} {Z:Addr->Prop} {H:Hp} (hl:∀ a,Z a->Mu H a):(∀ {v d ns},Ow K H v d ns->(∀ a∈ns,¬ Z a)->Dn K (N4 Z H) v d)/\∀ {v d ns},Ows K H v d ns->(∀ a∈ns,¬ Z a)->Dns K (N4 Z H) v d :=
 Ow.both (P:=fun v d ns=>(∀ a∈ns,¬ Z a)->Dn K (N4 Z H) v d) (Q:=fun v d ns=>(∀ a∈ns,¬ Z a)->Dns K (N4 Z H) v d) (fun _=>.non) (fun b _=>.bl b) (fun b _=>.int b) (fun b _=>.str b) (fun h r k=>.lst (D5 h (k _ mem_cons_self)) (r fun a ha=>k a (mem_cons_of_mem _ ha)))
  (fun h r k=>.tup (A1y.sqt (ns:=[]) ⟨fun _ z=>(by cases z),fun a o e n=>D5 e fun z=>(hl a z).no e n⟩ h) (r k)) (fun h r k=>.dct (D5 h (k _ mem_cons_self)) r) (fun _=>.nil) fun p q k=>.cons (p fun a ha=>k a (mem_append_left _ ha)) (q fun a ha=>k a (mem_append_right _ ha))
theorem A7e {K:W.Frag} {Z:Addr->Prop} {H:Hp} (hl:∀ a,Z a->Mu H a) {v:V} {d:D} {ns:List Addr} (h:Ow K H v d ns) (k:∀ a∈ns,¬ Z a):Dn K (N4 Z H) v d:=(B57 hl).1 h k
theorem C3e {K:W.Frag} {Z:Addr->Prop} {H:Hp} (hl:∀ a,Z a->Mu H a) {v:List V} {d:List D} {ns:List Addr} (h:Ows K H v d ns) (k:∀ a∈ns,¬ Z a):Dns K (N4 Z H) v d:=(B57 hl).2 h k
abbrev C5:=List (Option (Bool × D))
def Z0:Addr->Prop:=fun _=>False
def Hd (Z:Addr->Prop) (ν:Nat->List Addr):Addr->Prop:=fun a=>Z a\/∃ i,a∈ν i
structure B7 (K:W.Frag) (Z:Addr->Prop) (H0:Hp) (ν:Nat->List Addr) (ρ:C5) (σ:L2.St) (H:Hp):Prop where
 sm:A7 H0 H
 len:σ.length=ρ.length
 sl:∀ i b d,ρ[i]?=some (some (b,d))->∃ v,σ[i]?=some (some v)/\if b=true then Ow K H v d (ν i) else Dn K (N4 (Hd Z ν) H) v d
 nd:∀ i,(ν i).Nodup
 dj:∀ i j a,a∈ν i->a∈ν j->i=j
 fr:∀ i a,a∈ν i->H0 a=none/\¬ Z a/\Mu H a
 zf:∀ a,Z a->H0 a=none/\Mu H a
section
variable {K:W.Frag} {Z:Addr->Prop} {H0 H H':Hp} {ν:Nat->List Addr} {ρ:C5} {σ:L2.St} {v:V} {d:D}
theorem B7.hl (S:B7 K Z H0 ν ρ σ H):∀ a,Hd Z ν a->Mu H a:=fun a h=>by
 rcases h with h|⟨i,h⟩
 ·exact (S.zf a h).2
 ·exact (S.fr i a h).2.2
theorem B7.same (S:B7 K Z H0 ν ρ σ H) (e:A7 H H'):B7 K Z H0 ν ρ σ H' where
 sm:=S.sm.trans e
 len:=S.len
 sl:=fun i b d h=>by
  obtain ⟨v,h1,h2⟩:=S.sl i b d h;refine ⟨v,h1,?_⟩;cases b with
  | true=>exact Ow.same e h2
  | false=>exact Dn.same (U4 e) h2
 nd:=S.nd
 dj:=S.dj
 fr:=fun i a h=>by obtain ⟨h1,h2,us,h3⟩:=S.fr i a h;exact ⟨h1,h2,us,e _ _ h3⟩
 zf:=fun a h=>by obtain ⟨h1,us,h3⟩:=S.zf a h;exact ⟨h1,us,e _ _ h3⟩
theorem B7.get (S:B7 K Z H0 ν ρ σ H) {i:Nat} {b:Bool} (h:ρ[i]?=some (some (b,d))):∃ v,σ[i]?=some (some v)/\Dn K H v d:=by
 obtain ⟨v,h1,h2⟩:=S.sl i b d h;refine ⟨v,h1,?_⟩;cases b with
 | true=>exact h2.den
 | false=>exact Dn.same D4 h2
theorem O8 {α:Type} {l:List α} {i j:Nat} {x y:α} (h:(l.set i x)[j]?=some y):(j=i/\y=x/\i < l.length)\/(j≠i/\l[j]?=some y):=by
 rw [List.getElem?_set] at h;split at h
 ·split at h
  ·cases h;exact .inl ⟨by omega,rfl,by omega⟩
  ·cases h
 ·exact .inr ⟨by omega,h⟩
theorem B7.setOld (S:B7 K Z H0 ν ρ σ H) (i:Nat) (h:Dn K (N4 (Hd Z ν) H) v d):B7 K Z H0 ν (ρ.set i (some (false,d))) (σ.set i (some v)) H where
 sm:=S.sm
 len:=by rw [length_set,length_set];exact S.len
 sl:=fun j b e hj=>by
  rcases O8 hj with ⟨rfl,h1,h2⟩|⟨h1,h2⟩
  ·cases h1;exact ⟨v,by rw [List.getElem?_set_self (by rw [S.len];exact h2)],h⟩
  ·obtain ⟨u,q1,q2⟩:=S.sl j b e h2;exact ⟨u,by rw [List.getElem?_set_ne (Ne.symm h1)];exact q1,q2⟩
 nd:=S.nd
 dj:=S.dj
 fr:=S.fr
 zf:=S.zf
theorem B7.drop (S:B7 K Z H0 ν ρ σ H) (i:Nat):B7 K Z H0 ν (ρ.set i none) σ H where
 sm:=S.sm
 len:=by rw [length_set];exact S.len
 sl:=fun j b e hj=>by
  rcases O8 hj with ⟨rfl,h1,h2⟩|⟨h1,h2⟩
  ·cases h1
  ·exact S.sl j b e h2
 nd:=S.nd
 dj:=S.dj
 fr:=S.fr
 zf:=S.zf
def D9 (ρ:C5):List Nat->C5
 | []=>ρ
 | i::r=>D9 (ρ.set i none) r
theorem P6:∀ (s:List Nat) (ρ:C5),(D9 ρ s).length=ρ.length
 | [],_=>rfl
 | i::r,ρ=>by unfold D9;rw [P6 r,length_set]
theorem V6:∀ (s:List Nat) {ρ:C5} {i:Nat} {x:Bool × D},(D9 ρ s)[i]?=some (some x)->i∉s/\ρ[i]?=some (some x)
 | [],_,_,_,h=>⟨by simp,h⟩
 | j::r,ρ,i,x,h=>by
  obtain ⟨h1,h2⟩:=V6 r h;rcases O8 h2 with ⟨rfl,q,_⟩|⟨q1,q2⟩
  ·cases q
  ·exact ⟨by simp [h1,q1],q2⟩
theorem B7.setOwn (S:B7 K Z H0 ν ρ σ H) (s:List Nat) (i:Nat) {ms:List Addr} (e:A7 H H') (h:Ow K H' v d ms) (nd:ms.Nodup) (fr:∀ a∈ms,H a=none\/∃ j∈s,a∈ν j) :
  B7 K Z H0 (fun j=>if j=i then ms else if j∈s then [] else ν j) ((D9 ρ s).set i (some (true,d))) (σ.set i (some v)) H' where
 sm:=S.sm.trans e
 len:=by rw [length_set,length_set,P6];exact S.len
 sl:=fun j b c hj=>by
  rcases O8 hj with ⟨rfl,h1,h2⟩|⟨h1,h2⟩
  ·cases h1;exact ⟨v,by rw [List.getElem?_set_self (by rw [S.len];rw [P6] at h2;exact h2)],by rw [if_pos rfl];rw [if_pos rfl];exact h⟩
  ·obtain ⟨h3,h4⟩:=V6 s h2;obtain ⟨u,q1,q2⟩:=S.sl j b c h4;refine ⟨u,by rw [List.getElem?_set_ne (Ne.symm h1)];exact q1,?_⟩;cases b with
   | true =>
    rw [if_pos rfl,if_neg h1,if_neg h3];exact Ow.same e q2
   | false =>
    refine Dn.same (fun a o ha=>?_) q2;obtain ⟨g1,g2⟩:=G5 ha;refine D5 (e _ _ g1) fun z=>?_;rcases z with z|⟨k,z⟩
    ·exact g2 (.inl z)
    ·dsimp only at z;split at z
     ·rcases fr a z with z|⟨l,_,z⟩
      ·rw [g1] at z;cases z
      ·exact g2 (.inr ⟨l,z⟩)
     ·split at z
      ·cases z
      ·exact g2 (.inr ⟨k,z⟩)
 nd:=fun j=>by
  split
  ·exact nd
  ·split
   ·exact nodup_nil
   ·exact S.nd j
 dj:=fun j k a hj hk=>by
  have key:∀ l,l∉s->a∈ν l->a∉ms:=fun l hl ha hm=>by
   rcases fr a hm with z|⟨m,hm,z⟩
   ·obtain ⟨_,_,us,q⟩:=S.fr l a ha;rw [z] at q;cases q
   ·rw [S.dj l m a ha z] at hl;exact hl hm
  split at hj
  ·split at hk
   ·omega
   ·split at hk
    ·cases hk
    ·exact absurd hj (key k ‹_› hk)
  ·split at hj
   ·cases hj
   ·split at hk
    ·exact absurd hk (key j ‹_› hj)
    ·split at hk
     ·cases hk
     ·exact S.dj j k a hj hk
 fr:=fun j a ha=>by
  split at ha
  ·have ht:=h.there a ha;rcases fr a ha with z|⟨m,_,z⟩
   ·exact ⟨S.sm.gone z,(fun q=>by obtain ⟨_,us,q⟩:=S.zf a q;rw [z] at q;cases q),ht⟩
   ·obtain ⟨q1,q2,us,q3⟩:=S.fr m a z;exact ⟨q1,q2,us,e _ _ q3⟩
  ·split at ha
   ·cases ha
   ·obtain ⟨q1,q2,us,q3⟩:=S.fr j a ha;exact ⟨q1,q2,us,e _ _ q3⟩
 zf:=fun a h=>by obtain ⟨h1,us,h3⟩:=S.zf a h;exact ⟨h1,us,e _ _ h3⟩
def frz (ρ:C5):C5:=ρ.map fun x=>x.map fun y=>(false,y.2)
theorem B59 {ρ:C5} {i:Nat} {b:Bool} {d:D} (h:(frz ρ)[i]?=some (some (b,d))):b=false/\∃ c,ρ[i]?=some (some (c,d)):=by
 unfold frz at h;rw [List.getElem?_map] at h;cases q:ρ[i]? with
 | none=>rw [q] at h;cases h
 | some x =>
  rw [q] at h;cases x with
  | none=>cases h
  | some y=>cases h;exact ⟨rfl,y.1,rfl⟩
theorem B7.frz (S:B7 K Z H0 ν ρ σ H):B7 K Z H0 (fun _=>[]) (frz ρ) σ H where
 sm:=S.sm
 len:=by unfold DL.frz;rw [length_map];exact S.len
 sl:=fun i b d h=>by
  obtain ⟨rfl,c,h⟩:=B59 h;obtain ⟨v,h1,h2⟩:=S.sl i c d h;refine ⟨v,h1,?_⟩;have hl:∀ a,Hd Z (fun _=>[]) a->Mu H a:=fun a z=>by
   rcases z with z|⟨_,z⟩
   ·exact (S.zf a z).2
   ·cases z
  cases c with
  | true =>
   refine A7e hl h2 fun a ha z=>?_;rcases z with z|⟨_,z⟩
   ·exact (S.fr i a ha).2.1 z
   ·cases z
  | false=>exact Dn.same (A04 fun a z=>by rcases z with z|⟨_,z⟩;exact .inl z;cases z) h2
 nd:=fun _=>nodup_nil
 dj:=fun _ _ _ z=>by cases z
 fr:=fun _ _ z=>by cases z
 zf:=S.zf
def frz1 (i:Nat) (ρ:C5):C5:=match ρ[i]? with
 | some (some (_,d))=>ρ.set i (some (false,d))
 | _=>ρ
theorem B7.frz1 (S:B7 K Z H0 ν ρ σ H) (i:Nat):B7 K Z H0 (fun j=>if j=i then [] else ν j) (frz1 i ρ) σ H:=by
 have hl:∀ a,Hd Z (fun j=>if j=i then [] else ν j) a->Hd Z ν a:=fun a z=>by
  rcases z with z|⟨j,z⟩
  ·exact .inl z
  ·dsimp only at z;split at z
   ·cases z
   ·exact .inr ⟨j,z⟩
 have sl:∀ j b d,ρ[j]?=some (some (b,d))->j≠i->∃ v,σ[j]?=some (some v)/\if b=true then Ow K H v d (if j=i then [] else ν j) else Dn K (N4 (Hd Z fun j=>if j=i then [] else ν j) H) v d:=fun j b d h hj=>by
  obtain ⟨v,h1,h2⟩:=S.sl j b d h;refine ⟨v,h1,?_⟩;rw [if_neg hj];cases b with
  | true=>exact h2
  | false=>exact Dn.same (A04 hl) h2
 refine ⟨S.sm,?_,?_,fun j=>?_,fun j k a hj hk=>?_,fun j a ha=>?_,S.zf⟩
 ·unfold DL.frz1;split
  ·rw [length_set];exact S.len
  ·exact S.len
 ·intro j b d h;unfold DL.frz1 at h;split at h
  case h_1 x b' d' e =>
   rcases O8 h with ⟨rfl,h1,h2⟩|⟨h1,h2⟩
   ·cases h1;obtain ⟨v,h1,h2⟩:=S.sl j b' d e;refine ⟨v,h1,?_⟩;cases b' with
    | true =>
     refine A7e (fun a z=>S.hl a (hl a z)) h2 fun a ha z=>?_;rcases z with z|⟨k,z⟩
     ·exact (S.fr j a ha).2.1 z
     ·dsimp only at z;split at z
      ·cases z
      ·exact absurd (S.dj _ _ _ z ha) ‹_›
    | false=>exact Dn.same (A04 hl) h2
   ·exact sl j b d h2 h1
  case h_2 e =>
   by_cases hj:j=i
   ·subst hj;exact absurd h (fun q=>e _ _ q)
   ·exact sl j b d h hj
 ·skip
  split
  ·exact nodup_nil
  ·exact S.nd j
 ·skip
  split at hj
  ·cases hj
  ·split at hk
   ·cases hk
   ·exact S.dj _ _ _ hj hk
 ·skip
  split at ha
  ·cases ha
  ·exact S.fr _ _ ha
end
inductive Kd where
 | own (s:List Nat)
 | old
 | mix
def R3 (K:W.Frag) (Z:Addr->Prop) (ν:Nat->List Addr) (H H':Hp):Kd->V->D->Prop
 | .own s,v,d=>∃ ms,Ow K H' v d ms/\ms.Nodup/\∀ a∈ms,H a=none\/∃ j∈s,a∈ν j
 | .old,v,d=>Dn K (N4 (Hd Z ν) H') v d
 | .mix,v,d=>Dn K H' v d
section
variable {K:W.Frag} {Z:Addr->Prop} {H H1 H':Hp} {ν:Nat->List Addr} {v:V} {d:D} {k:Kd}
theorem R3.den (h:R3 K Z ν H H' k v d):Dn K H' v d:=by
 cases k with
 | own s=>obtain ⟨ms,h,_⟩:=h;exact h.den
 | old=>exact Dn.same D4 h
 | mix=>exact h
theorem R3.same (h:R3 K Z ν H H1 k v d) (e:A7 H1 H'):R3 K Z ν H H' k v d:=by
 cases k with
 | own s=>obtain ⟨ms,h,r⟩:=h;exact ⟨ms,h.same e,r⟩
 | old=>exact Dn.same (U4 e) h
 | mix=>exact Dn.same e h
theorem R3.later (h:R3 K Z ν H1 H' k v d) (e:A7 H H1):R3 K Z ν H H' k v d:=by
 cases k with
 | own s =>
  obtain ⟨ms,h,r,f⟩:=h;exact ⟨ms,h,r,fun a ha=>by rcases f a ha with z|z;exact .inl (e.gone z);exact .inr z⟩
 | old=>exact h
 | mix=>exact h
theorem R3.flat (h:Dn K H' v d) (hf:DL.flat d=true) (hl:∀ a,Hd Z ν a->Mu H' a) (k:Kd):R3 K Z ν H H' k v d:=by
 cases k with
 | own s=>exact ⟨[],A8j h hf,nodup_nil,fun _ z=>by cases z⟩
 | old=>exact R6 hl h hf
 | mix=>exact h
end
abbrev QD:=D->Kd->Prop
abbrev XD:=Addr->Prop
abbrev TD:=C5->QD->XD->Prop
abbrev Y3:=C5->(Bool->Prop)->XD->Prop
abbrev TDA:=C5->(List D->Kd->Prop)->XD->Prop
def RsL (K:W.Frag) (Z:Addr->Prop) (ν:Nat->List Addr) (H H':Hp):Kd->List V->List D->Prop
 | .own s,v,d=>∃ ms,Ows K H' v d ms/\ms.Nodup/\∀ a∈ms,H a=none\/∃ j∈s,a∈ν j
 | .old,v,d=>Dns K (N4 (Hd Z ν) H') v d
 | .mix,v,d=>Dns K H' v d
def LE (K:W.Frag) (E:XK) (t:TD):TE:=fun σ H Q=>∃ H0 ν ρ Qd Xd,B7 K Z0 H0 ν ρ σ H/\t ρ Qd Xd/\(∀ d k v H',Qd d k->A7 H H'->R3 K Z0 ν H H' k v d->Q v H')/\∀ C H',Xd C->A7 H0 H'->E (.ref C) none H'
def LT (K:W.Frag) (E:XK) (t:Y3):TT:=fun σ H Q=>∃ H0 ν ρ Qd Xd,B7 K Z0 H0 ν ρ σ H/\t ρ Qd Xd/\(∀ b H',Qd b->A7 H H'->Q b H')/\∀ C H',Xd C->A7 H0 H'->E (.ref C) none H'
def LA (K:W.Frag) (E:XK) (t:TDA):TA:=fun σ H Q=>∃ H0 ν ρ Qd Xd,B7 K Z0 H0 ν ρ σ H/\t ρ Qd Xd/\(∀ ds k vs H',Qd ds k->A7 H H'->RsL K Z0 ν H H' k vs ds->Q vs H')/\∀ C H',Xd C->A7 H0 H'->E (.ref C) none H'
structure DE (X:Cx) (K:W.Frag) (E:XK) (e:Expr) (t:TD):Prop where
 q:QE X e (LE K E t)
structure DT (X:Cx) (K:W.Frag) (E:XK) (e:Expr) (t:Y3):Prop where
 q:QT X e (LT K E t)
structure DW (X:Cx) (K:W.Frag) (E:XK) (e:Expr) (t:Y3):Prop where
 q:QW X e (LT K E t)
structure DA (X:Cx) (K:W.Frag) (E:XK) (e:List Expr) (t:TDA):Prop where
 q:QA X e (LA K E t)
theorem D2 {X:Cx} {e:Expr} {t t':TE} (h:QE X e t) (i:∀ σ H Q,t' σ H Q->t σ H Q):QE X e t':=⟨fun pins s σ H Q I w=>h.h pins s σ H Q I (i σ H Q w)⟩
theorem A1d {X:Cx} {e:Expr} {t t':TT} (h:QT X e t) (i:∀ σ H Q,t' σ H Q->t σ H Q):QT X e t':=⟨fun pins s σ H Q I w=>h.h pins s σ H Q I (i σ H Q w)⟩
theorem D2a {X:Cx} {e:Expr} {t t':TT} (h:QW X e t) (i:∀ σ H Q,t' σ H Q->t σ H Q):QW X e t':=⟨fun wh pins s σ H Q I w=>h.h wh pins s σ H Q I (i σ H Q w)⟩
theorem B1y {X:Cx} {e:List Expr} {t t':TA} (h:QA X e t) (i:∀ σ H Q,t' σ H Q->t σ H Q):QA X e t':=⟨fun pos pins s σ H Q I w=>h.h pos pins s σ H Q I (i σ H Q w)⟩
theorem M8 {X:Cx} {e:Stmt} {t t':TS} (h:QS X e t) (i:∀ D σ H,t' D σ H->t D σ H):QS X e t':=⟨fun pins s σ H D I w=>h.h pins s σ H D I (i D σ H w)⟩
theorem A86 {X:Cx} {e:List Stmt} {t t':TS} (h:QSs X e t) (i:∀ D σ H,t' D σ H->t D σ H):QSs X e t':=⟨fun pins s σ H D I w=>h.h pins s σ H D I (i D σ H w)⟩
section
variable {X:Cx} {K:W.Frag} {E:XK} {pos:Pos}
def X7 (i:Nat):TD:=fun ρ Q _=>∃ b d,ρ[i]?=some (some (b,d))/\Q d (if b=true then .own [i] else .old)
theorem B0 (i:Nat) {x:Str} (hN:X.N[i]?=some x:=by rfl) (hv:Vis X.env.scope x:=by first|exact Or.inl rfl|exact Or.inr (Or.inl rfl)|exact Or.inr (Or.inr rfl)) (hd:(x==("__debug__":Str))=false:=by decide)
  (hcd:(x==("__classdict__":Str))=false:=by decide):DE X K E (.Name x pos) (X7 i):=⟨D2 (qpv i hN hv hd hcd) fun σ H Q h=>by
 obtain ⟨H0,ν,ρ,Qd,Xd,S,⟨b,d,h1,h2⟩,q,_⟩:=h;obtain ⟨v,g1,g2⟩:=S.sl i b d h1;refine ⟨v,g1,q d _ v H h2 (A7.refl H) ?_⟩;cases b with
 | true=>exact ⟨ν i,g2,S.nd i,fun a ha=>.inr ⟨i,by simp,ha⟩⟩
 | false=>exact g2⟩
def dC (d:D):TD:=fun _ Q _=>Q d .old
theorem B0f {e:Expr} {v:V} {d:D} (h:QE X e (tC v)) (hd:∀ H,Dn K H v d):DE X K E e (dC d):=⟨D2 h fun σ H Q h=>by
 obtain ⟨H0,ν,ρ,Qd,Xd,S,h1,q,_⟩:=h;exact q d _ v H h1 (A7.refl H) (hd _)⟩
theorem A4 {i:Int} {j}:DE X K E (.Constant (.int i) j pos) (dC (.int i)):=B0f S7 fun _=>.int _
theorem K0 {i:Bool} {j}:DE X K E (.Constant (.bool i) j pos) (dC (.bool i)):=B0f D2o fun _=>.bl _
theorem C3m {j}:DE X K E (.Constant .none j pos) (dC .none):=B0f C6n fun _=>.non
theorem E3 {x:Str} {j}:DE X K E (.Constant (.str x) j pos) (dC (.str x)):=B0f A8f fun _=>.str _
abbrev F2:=D->Kd->D->Kd->QD->Prop
def A1x (K:W.Frag) (r:R2) (f:F2):Prop:=∀ (Z:Addr->Prop) (ν:Nat->List Addr) (Hs H:Hp) (x y:V) (d:D) (k:Kd) (e:D) (l:Kd) (Qf:QD) (Q:VK),(∀ a,Hd Z ν a->Mu H a)->(∀ a,Hd Z ν a->Mu Hs a)->A7 Hs H->R3 K Z ν Hs H k x d->R3 K Z ν Hs H l y e ->
 f d k e l Qf->(∀ d k v H',Qf d k->A7 H H'->R3 K Z ν Hs H' k v d->Q v H')->r x y H Q
structure DOp (X:Cx) (K:W.Frag) (f:Value->Value->Sem Value) (g:F2):Prop where
 ex:∃ r,T5 X f r/\A1x K r g
structure DIx (X:Cx) (K:W.Frag) (g:F2):Prop where
 ex:∃ r,IxR X r/\A1x K r g
def dOp (f:F2) (ta tb:TD):TD:=fun ρ Q Xd=>ta ρ (fun d k=>tb ρ (fun e l=>f d k e l Q) Xd) Xd
theorem A8v {r:R2} {f:F2} {ta tb:TD} (p:A1x K r f):∀ σ H Q,LE K E (dOp f ta tb) σ H Q->tOp r (LE K E ta) (LE K E tb) σ H Q:=fun σ H Q h=>by
 obtain ⟨H0,ν,ρ,Qd,Xd,S,h1,q,x⟩:=h;refine ⟨H0,ν,ρ,_,Xd,S,h1,fun d k v H1 hd e1 r1=>?_,x⟩;refine ⟨H0,ν,ρ,_,Xd,S.same e1,hd,fun d2 k2 v2 H2 hd2 e2 r2=>?_,x⟩;refine p Z0 ν H H2 v v2 d k d2 k2 Qd Q (S.same (e1.trans e2)).hl S.hl (e1.trans e2) (r1.same e2) (r2.later e1) hd2 fun d3 k3 v3 H3 g1 g2 g3=>q d3 k3 v3 H3 g1 ((e1.trans e2).trans g2) g3
theorem A8 {op:Operator} {f:F2} {a b:Expr} {ta tb:TD} (ho:DOp X K (binaryOp op) f) (ha:DE X K E a ta) (hb:DE X K E b tb):DE X K E (.BinOp a op b pos) (dOp f ta tb):=by
 obtain ⟨r,o,p⟩:=ho.ex;exact ⟨D2 (D1g o ha.q hb.q) (A8v p)⟩
theorem A1s {op:CmpOp} {f:F2} {a b:Expr} {ta tb:TD} (ho:DOp X K (compareOp op) f) (ha:DE X K E a ta) (hb:DE X K E b tb) (hm:behindInMarks op b=false):DE X K E (.Compare a [op] [b] pos) (dOp f ta tb):=by
 obtain ⟨r,o,p⟩:=ho.ex;exact ⟨D2 (C29 o ha.q hb.q hm) (A8v p)⟩
theorem K1 {f:F2} {a b:Expr} {ta tb:TD} (ho:DIx X K f) (ha:DE X K E a ta) (hb:DE X K E b tb) (hs:A8q b):DE X K E (.Subscript a b pos) (dOp f ta tb):=by
 obtain ⟨r,o,p⟩:=ho.ex;exact ⟨D2 (A2f o ha.q hb.q hs) (A8v p)⟩
theorem DOp.or {h:Value->Value->Sem Value} {f g:F2} (a:DOp X K h f) (b:DOp X K h g):DOp X K h (fun d k e l Q=>f d k e l Q\/g d k e l Q):=by
 obtain ⟨r,o,p⟩:=a.ex;obtain ⟨r',o',p'⟩:=b.ex;refine ⟨_,o.or o',fun Z ν Hs H x y d k e l Qf Q h1 h0 h2 h3 h4 h5 h6=>?_⟩;rcases h5 with h5|h5
 ·exact .inl (p Z ν Hs H x y d k e l Qf Q h1 h0 h2 h3 h4 h5 h6)
 ·exact .inr (p' Z ν Hs H x y d k e l Qf Q h1 h0 h2 h3 h4 h5 h6)
theorem DOp.mono {h:Value->Value->Sem Value} {f g:F2} (a:DOp X K h f) (i:∀ d k e l Q,g d k e l Q->f d k e l Q):DOp X K h g:=by
 obtain ⟨r,o,p⟩:=a.ex;exact ⟨r,o,fun Z ν Hs H x y d k e l Qf Q h1 h0 h2 h3 h4 h5 h6=>p Z ν Hs H x y d k e l Qf Q h1 h0 h2 h3 h4 (i _ _ _ _ _ h5) h6⟩
def fI (C:Int->Int->Prop) (g:Int->Int->D):F2:=fun d _ e _ Q=>match d,e with
 | .int i,.int j=>C i j/\Q (g i j) .old
 | _,_=>False
theorem A06 {C:Int->Int->Prop} {g:Int->Int->Int}:A1x K (rI C fun i j=>.int (g i j)) (fI C fun i j=>.int (g i j)):=fun Z ν Hs H x y d k e l Qf Q _ _ _ h3 h4 h5 h6=>by
 unfold fI at h5;split at h5
 ·have a:=h3.den;have b:=h4.den;cases a;cases b;exact ⟨_,_,rfl,rfl,h5.1,h6 _ _ _ _ h5.2 (A7.refl H) (.int _)⟩
 ·exact h5.elim
def T2 (_ _:Int):Prop:=True
theorem A6d {g:Int->Int->Int}:A1x K (rI0 fun i j=>.int (g i j)) (fI T2 fun i j=>.int (g i j)):=fun Z ν Hs H x y d k e l Qf Q _ _ _ h3 h4 h5 h6=>by
 unfold fI at h5;split at h5
 ·have a:=h3.den;have b:=h4.den;cases a;cases b;exact ⟨_,_,rfl,rfl,h6 _ _ _ _ h5.2 (A7.refl H) (.int _)⟩
 ·exact h5.elim
theorem A13 {g:Int->Int->Bool}:A1x K (rI0 fun i j=>.bl (g i j)) (fI T2 fun i j=>.bool (g i j)):=fun Z ν Hs H x y d k e l Qf Q _ _ _ h3 h4 h5 h6=>by
 unfold fI at h5;split at h5
 ·have a:=h3.den;have b:=h4.den;cases a;cases b;exact ⟨_,_,rfl,rfl,h6 _ _ _ _ h5.2 (A7.refl H) (.bl _)⟩
 ·exact h5.elim
theorem N0:DOp X K (binaryOp .Sub) (fI T2 fun i j=>.int (i - j)):=⟨_,D16,A6d⟩
theorem S5:DOp X K (binaryOp .Mult) (fI IntMulOk fun i j=>.int (i*j)):=⟨_,C46,A06⟩
theorem K8:DOp X K (binaryOp .FloorDiv) (fI C9t fun i j=>.int (i / j)):=⟨_,C4d,A06⟩
theorem D8:DOp X K (binaryOp .Mod) (fI (fun _ j=>0 < j) fun i j=>.int (i % j)):=⟨_,D2e,A06⟩
theorem B3l:DOp X K (binaryOp .Pow) (fI D06 fun i j=>.int (i ^ j.toNat)):=⟨_,C9c,A06⟩
theorem A8u:DOp X K (compareOp .Lt) (fI T2 fun i j=>.bool (decide (i < j))):=⟨_,D7a,A13⟩
theorem B1l:DOp X K (compareOp .Gt) (fI T2 fun i j=>.bool (decide (j < i))):=⟨_,D5d,A13⟩
theorem D19:DOp X K (compareOp .GtE) (fI T2 fun i j=>.bool (decide (j<=i))):=⟨_,D5s,A13⟩
def fEq (f:Bool->Bool):F2:=fun d _ e _ Q=>d.canLay0=true/\e.canLay0=true/\d.depth<=32/\Q (.bool (f (PyData.eqv d e))) .old
theorem B3s {f:Bool->Bool}:A1x K (C05 K f) (fEq f):=fun Z ν Hs H x y d k e l Qf Q _ _ _ h3 h4 h5 h6 =>
 ⟨d,e,h3.den.deep h5.1,h4.den.deep h5.2.1,h5.1,h5.2.1,h5.2.2.1,h6 _ _ _ _ h5.2.2.2 (A7.refl H) (.bl _)⟩
theorem W2 (hK:X.K=K) (hu:X.A.units+64 < cLine):DOp X K (compareOp .Eq) (fEq id):=⟨_,D1o K hK hu,B3s⟩
theorem A7m (hK:X.K=K) (hu:X.A.units+64 < cLine):DOp X K (compareOp .NotEq) (fEq not):=⟨_,C9n K hK hu,B3s⟩
end
def Kd.isOld:Kd->Bool
 | .old=>true
 | .own []=>true
 | _=>false
def A5j (ds:List D) (k:Kd):Kd:=if flats ds=true then .own [] else if k.isOld=true then .old else .mix
def A25 (ds:List D) (k:Kd) (es:List D) (l:Kd):Kd:=if (flats ds&&flats es)=true then .own [] else if (k.isOld&&l.isOld)=true then .old else .mix
def Kd.sub:Kd->Kd
 | .own []=>.own []
 | .old=>.old
 | _=>.mix
section
variable {K:W.Frag} {Z:Addr->Prop} {Hs H:Hp} {ν:Nat->List Addr} {v:V} {d:D} {k l:Kd} {us vs:List V} {ds es:List D} {a p:Addr}
theorem R3.old (hl:∀ a,Hd Z ν a->Mu H a) (hn:∀ a,Hd Z ν a->Mu Hs a) (h:R3 K Z ν Hs H k v d) (hk:k.isOld=true):Dn K (N4 (Hd Z ν) H) v d:=by
 cases k with
 | own s =>
  cases s with
  | nil =>
   obtain ⟨ms,h1,_,h3⟩:=h;refine A7e hl h1 fun a ha z=>?_;rcases h3 a ha with q|⟨j,q,_⟩
   ·obtain ⟨us,z⟩:=hn a z;rw [q] at z;cases z
   ·cases q
  | cons=>cases hk
 | old=>exact h
 | mix=>cases hk
theorem RsL.dens (h:RsL K Z ν Hs H k vs ds):Dns K H vs ds:=by
 cases k with
 | own s=>obtain ⟨ms,h,_⟩:=h;exact h.den
 | old=>exact Dns.same D4 h
 | mix=>exact h
theorem Y8 (hl:∀ a,Hd Z ν a->Mu H a) (hs:A7 Hs H) (hp:H p=none) (h:RsL K Z ν Hs H k vs ds):R3 K Z ν Hs (upd H p (.lst vs)) k (.ref p) (.list ds):=by
 have sm:A7 H (upd H p (.lst vs)):=A7.new hp;cases k with
 | own s =>
  obtain ⟨ms,h1,h2,h3⟩:=h;refine ⟨p::ms,.lst B3 (h1.same sm),nodup_cons.mpr ⟨fun hm=>?_,h2⟩,fun a ha=>?_⟩
  ·obtain ⟨us,q⟩:=h1.there p hm;rw [hp] at q;cases q
  ·rcases mem_cons.mp ha with rfl|ha
   ·exact .inl (hs.gone hp)
   ·exact h3 a ha
 | old =>
  have hz:¬ Hd Z ν p:=fun z=>by obtain ⟨us,q⟩:=hl p z;rw [hp] at q;cases q
  exact .lst (D5 B3 hz) (Dns.same (U4 sm) h)
 | mix=>exact .lst B3 (Dns.same sm h)
theorem A95 (hl:∀ a,Hd Z ν a->Mu H a) (hs:A7 Hs H) (hp:H p=none) (h:RsL K Z ν Hs H k vs ds):R3 K Z ν Hs (upd H p (.tup vs)) k (.ref p) (.tuple ds):=by
 have sm:A7 H (upd H p (.tup vs)):=A7.new hp;cases k with
 | own s =>
  obtain ⟨ms,h1,h2,h3⟩:=h;exact ⟨ms,.tup (R4.of B3) (h1.same sm),h2,h3⟩
 | old =>
  have hz:¬ Hd Z ν p:=fun z=>by obtain ⟨us,q⟩:=hl p z;rw [hp] at q;cases q
  exact .tup (R4.of (D5 B3 hz)) (Dns.same (U4 sm) h)
 | mix=>exact .tup (R4.of B3) (Dns.same sm h)
theorem D3 {v:V} (h:Dn K H v (.list ds)):∃ a us,v=.ref a/\H a=some (.lst us)/\Dns K H us ds:=by
 cases h with
 | lst h r=>exact ⟨_,_,rfl,h,r⟩
theorem J4 {v:V} (h:Dn K H v (.tuple ds)):∃ a us,v=.ref a/\R4 K H a us/\Dns K H us ds:=by
 cases h with
 | tup h r=>exact ⟨_,_,rfl,h,r⟩
theorem A4k (hl:∀ a,Hd Z ν a->Mu H a) (hn:∀ a,Hd Z ν a->Mu Hs a) (h:R3 K Z ν Hs H k v (.list ds)):∃ a us,v=.ref a/\H a=some (.lst us)/\Dns K H us ds/\RsL K Z ν Hs H (A5j ds k) us ds:=by
 obtain ⟨a,us,rfl,h1,h2⟩:=D3 h.den;refine ⟨a,us,rfl,h1,h2,?_⟩;unfold A5j;split
 ·exact ⟨[],A03 h2 ‹_›,nodup_nil,fun _ z=>by cases z⟩
 ·split
  ·have q:=h.old hl hn ‹_›;obtain ⟨a',us',e,q1,q2⟩:=D3 q;cases e;have:=(G5 q1).1;rw [h1] at this;cases this;exact q2
  ·exact h2
theorem C3i {Z:Addr->Prop} (hl:∀ a,Z a->Mu H a) (h:Dns K H us ds) (hf:flats ds=true):Dns K (N4 Z H) us ds :=
 B7f (fun a o e n=>D5 e fun z=>(hl a z).no e n) h hf
theorem B6k:flats ds=true->flats es=true->flats (ds++es)=true:=by
 intro h1 h2
 induction ds with
 | nil=>exact h2
 | cons x r ih =>
  simp only [flats,Bool.and_eq_true] at h1;show (flat x&&flats (r++es))=true;rw [h1.1,ih h1.2];rfl
theorem B44 (hl:∀ a,Hd Z ν a->Mu H a) (hk:k.isOld=true) (h:RsL K Z ν Hs H (A5j ds k) us ds):Dns K (N4 (Hd Z ν) H) us ds:=by
 have A:=h.dens;unfold A5j at h;split at h
 ·exact C3i hl A ‹_›
 ·exact h
theorem C5k (hl:∀ a,Hd Z ν a->Mu H a) (h:RsL K Z ν Hs H (A5j ds k) us ds) (g:RsL K Z ν Hs H (A5j es l) vs es):RsL K Z ν Hs H (A25 ds k es l) (us++vs) (ds++es):=by
 have A:=h.dens;have B:=g.dens;unfold A25;split
 case isTrue e =>
  rw [Bool.and_eq_true] at e;exact ⟨[],A03 (A.append B) (B6k e.1 e.2),nodup_nil,fun _ z=>by cases z⟩
 case isFalse e =>
  split
  case isFalse=>exact A.append B
  case isTrue q =>
   rw [Bool.and_eq_true] at q;exact (B44 hl q.1 h).append (B44 hl q.2 g)
end
section
variable {X:Cx} {K:W.Frag} {E:XK} {pos:Pos}
def D5z:F2:=fun d k e l Q=>match d,e with
 | .list ds,.list es=>ds.length+es.length<=1000000/\Q (.list (ds++es)) (A25 ds k es l)
 | _,_=>False
theorem K5:(1000000:Nat)<=sizeLine:=by decide
theorem C2z:A1x K D6t D5z:=fun Z ν Hs H x y d k e l Qf Q hl hn hs h3 h4 h5 h6=>by
 unfold D5z at h5;split at h5
 ·obtain ⟨a,us,rfl,a1,a2,a3⟩:=A4k hl hn h3;obtain ⟨b,vs,rfl,b1,b2,b3⟩:=A4k hl hn h4;refine ⟨a,b,us,vs,rfl,rfl,a1,b1,?_,fun p hp=>?_⟩
  ·rw [a2.length,b2.length];exact Nat.le_trans h5.1 K5
  ·exact h6 _ _ _ _ h5.2 (A7.new hp) (Y8 hl hs hp (C5k hl a3 b3))
 ·exact h5.elim
def D4b:F2:=fun d _ e _ Q=>match d,e with
 | .str x,.str y=>x.length+y.length<=1000000/\Q (.str (x++y)) .old
 | _,_=>False
theorem C14:DOp X K (binaryOp .Add) D4b:=⟨_,B1s,fun Z ν Hs H x y d k e l Qf Q _ _ _ h3 h4 h5 h6=>by
 unfold D4b at h5;split at h5
 ·have a:=h3.den;have b:=h4.den;cases a;cases b;exact ⟨_,_,rfl,rfl,Nat.le_trans h5.1 K5,h6 _ _ _ _ h5.2 (A7.refl H) (.str _)⟩
 ·exact h5.elim⟩
def C2o:F2:=fun d k e l Q=>match d,e with
 | .int i,.int j=>Q (.int (i+j)) .old
 | .list ds,.list es=>ds.length+es.length<=1000000/\Q (.list (ds++es)) (A25 ds k es l)
 | .str x,.str y=>x.length+y.length<=1000000/\Q (.str (x++y)) .old
 | _,_=>False
theorem C3:DOp X K (binaryOp .Add) C2o:=DOp.mono (DOp.or ⟨_,D0j,A6d⟩ (DOp.or ⟨_,D2j,C2z⟩ C14)) fun d k e l Q h=>by
 unfold C2o at h;split at h
 ·exact .inl ⟨trivial,h⟩
 ·exact .inr (.inl h)
 ·exact .inr (.inr h)
 ·exact h.elim
def fIx:F2:=fun d k e _ Q=>match d,e with
 | .list ds,.int i=>∃ x,atI ds i=some x/\Q x k.sub
 | .tuple ds,.int i=>∃ x,atI ds i=some x/\Q x k.sub
 | .str z,.int i=>z.length<=1000000/\∃ c,atI z.cps.toList i=some c/\Q (.str ⟨#[c]⟩) .old
 | .dict [(.none,.list ds)],.int i=>∃ x,atI ds i=some x/\Q x .old
 | _,_=>False
theorem B4z {H:Hp}:∀ {us:List V} {ds:List D} {ns:List Addr} {j:Nat} {x:D},Ows K H us ds ns->ds[j]?=some x->∃ u ms,us[j]?=some u/\Ow K H u x ms/\(∀ a∈ms,a∈ns)/\(ns.Nodup->ms.Nodup)
 | _,_,_,0,x,.cons h r,e=>by simp at e;subst e;exact ⟨_,_,rfl,h,fun a ha=>mem_append_left _ ha,fun n=>(nodup_append.mp n).1⟩
 | _,_,_,j+1,x,.cons h r,e=>by
  simp at e;obtain ⟨u,ms,h1,h2,h3,h4⟩:=B4z r e;exact ⟨u,ms,by simpa using h1,h2,fun a ha=>mem_append_right _ (h3 a ha),fun n=>h4 (nodup_append.mp n).2.1⟩
theorem A7n {α:Type} {xs:List α} {i:Int} {x:α} (h:atI xs i=some x):∃ j,ixN xs.length i=some j/\xs[j]?=some x:=by
 unfold atI at h;cases e:ixN xs.length i with
 | none=>rw [e] at h;cases h
 | some j=>rw [e] at h;exact ⟨j,rfl,h⟩
theorem B1q {α:Type} {xs:List α} {i:Int} {j:Nat} {x:α} (h:ixN xs.length i=some j) (g:xs[j]?=some x):atI xs i=some x:=by
 unfold atI;rw [h];exact g
theorem A6h {Z:Addr->Prop} {ν:Nat->List Addr} {Hs H:Hp} {us:List V} {ds:List D} {ms:List Addr} (h:Ows K H us ds ms) (nd:ms.Nodup) (fr:∀ a∈ms,Hs a=none\/∃ j∈([]:List Nat),a∈ν j):∀ (j:Nat) x,ds[j]?=some x->∃ u,us[j]?=some u/\R3 K Z ν Hs H (.own []) u x:=fun j x e=>by
 obtain ⟨u,ns,r1,r2,r3,r4⟩:=B4z h e;exact ⟨u,r1,ns,r2,r4 nd,fun a ha=>fr a (r3 a ha)⟩
theorem A07 {H:Hp} {us:List V} {ds:List D} (h:Dns K H us ds):∀ (j:Nat) x,ds[j]?=some x->∃ u,us[j]?=some u/\Dn K H u x:=fun j x e=>h.get e
theorem B2i {Z:Addr->Prop} {ν:Nat->List Addr} {Hs H:Hp} {k:Kd} {v:V} {ds:List D} (h:R3 K Z ν Hs H k v (.tuple ds)):∃ a us,v=.ref a/\R4 K H a us/\us.length=ds.length/\Dns K H us ds/\∀ (j:Nat) x,ds[j]?=some x->∃ u,us[j]?=some u/\R3 K Z ν Hs H k.sub u x:=by
 unfold Kd.sub;split
 ·obtain ⟨ms,h1,h2,h3⟩:=h;cases h1 with
  | tup q1 q2=>exact ⟨_,_,rfl,q1,q2.den.length,q2.den,A6h q2 h2 h3⟩
 ·obtain ⟨a,us,rfl,q1,q2⟩:=J4 (show Dn K _ _ _ from h);exact ⟨a,us,rfl,A7.tup D4 q1,q2.length,Dns.same D4 q2,A07 q2⟩
 ·obtain ⟨a,us,rfl,q1,q2⟩:=J4 h.den;exact ⟨a,us,rfl,q1,q2.length,q2,A07 q2⟩
theorem B27 {Z:Addr->Prop} {ν:Nat->List Addr} {Hs H:Hp} {k:Kd} {v:V} {ds:List D} (h:R3 K Z ν Hs H k v (.list ds)):∃ a us,v=.ref a/\H a=some (.lst us)/\us.length=ds.length/\Dns K H us ds/\∀ (j:Nat) x,ds[j]?=some x->∃ u,us[j]?=some u/\R3 K Z ν Hs H k.sub u x:=by
 unfold Kd.sub;split
 ·obtain ⟨ms,h1,h2,h3⟩:=h;cases h1 with
  | lst q1 q2=>exact ⟨_,_,rfl,q1,q2.den.length,q2.den,A6h q2 (nodup_cons.mp h2).2 fun a ha=>h3 a (mem_cons_of_mem _ ha)⟩
 ·obtain ⟨a,us,rfl,q1,q2⟩:=D3 (show Dn K _ _ _ from h);exact ⟨a,us,rfl,(G5 q1).1,q2.length,Dns.same D4 q2,A07 q2⟩
 ·obtain ⟨a,us,rfl,q1,q2⟩:=D3 h.den;exact ⟨a,us,rfl,q1,q2.length,q2,A07 q2⟩
theorem dix (hK:X.K=K):DIx X K fIx:=by
 subst hK;refine ⟨_,D21,fun Z ν Hs H x y d k e l Qf Q hl hn hs h3 h4 h5 h6=>?_⟩;unfold fIx at h5;split at h5
 ·obtain ⟨z,e1,q⟩:=h5;obtain ⟨j,e2,e3⟩:=A7n e1;obtain ⟨a,us,rfl,g1,g2,_,g3⟩:=B27 h3;obtain ⟨u,g4,g5⟩:=g3 j z e3;have:=h4.den;cases this;exact .inl ⟨a,us,_,u,rfl,rfl,L4.of g1,B1q (by rw [g2];exact e2) g4,h6 _ _ _ _ q (A7.refl H) g5⟩
 ·obtain ⟨z,e1,q⟩:=h5;obtain ⟨j,e2,e3⟩:=A7n e1;obtain ⟨a,us,rfl,g1,g2,_,g3⟩:=B2i h3;obtain ⟨u,g4,g5⟩:=g3 j z e3;have:=h4.den;cases this;exact .inr (.inl ⟨a,us,_,u,rfl,rfl,g1,B1q (by rw [g2];exact e2) g4,h6 _ _ _ _ q (A7.refl H) g5⟩)
 ·have a:=h3.den;have b:=h4.den;cases a;cases b;obtain ⟨h0,c,e1,q⟩:=h5;exact .inr (.inr ⟨_,_,c,rfl,rfl,Nat.le_trans h0 K5,e1,h6 _ _ _ _ q (A7.refl H) (.str _)⟩)
 ·obtain ⟨z,e1,q⟩:=h5;obtain ⟨j,e2,e3⟩:=A7n e1;have b:=h4.den;cases b;have a:=h3.den;cases a with
  | scr ns h =>
   rw [List.getElem?_map] at e3;cases en:ns[j]? with
   | none=>rw [en] at e3;cases e3
   | some n =>
    rw [en] at e3;cases e3;exact .inl ⟨_,_,_,V.int n,rfl,rfl,h,B1q (by rw [length_map];rw [length_map] at e2;exact e2) (by rw [List.getElem?_map,en];rfl),h6 _ _ _ _ q (A7.refl H) (.int _)⟩
 ·exact h5.elim
def A5d (xs:List D) (lo hi:Option Int):List D:=(xs.drop (HT.sIx xs.length 0 lo)).take (HT.sIx xs.length xs.length hi - HT.sIx xs.length 0 lo)
theorem Dns.take {H:Hp}:∀ {us:List V} {ds:List D} (n:Nat),Dns K H us ds->Dns K H (us.take n) (ds.take n)
 | _,_,0,_=>by rw [List.take_zero,List.take_zero];exact .nil
 | _,_,n+1,.nil=>.nil
 | _,_,n+1,.cons h r=>.cons h (Dns.take n r)
theorem Dns.drop {H:Hp}:∀ {us:List V} {ds:List D} (n:Nat),Dns K H us ds->Dns K H (us.drop n) (ds.drop n)
 | _,_,0,h=>h
 | _,_,n+1,.nil=>.nil
 | _,_,n+1,.cons h r=>Dns.drop n r
theorem A0i:∀ {ds:List D},flats ds=true ↔ ∀ d∈ds,flat d=true
 | []=>by simp [flats]
 | d::r=>by simp [flats,A0i (ds:=r)]
def TDO:=C5->(Option Int->Prop)->XD->Prop
def LO (K:W.Frag) (E:XK) (t:TDO):TO:=fun σ H Q=>∃ H0 ν ρ Qd Xd,B7 K Z0 H0 ν ρ σ H/\t ρ Qd Xd/\(∀ b H',Qd b->A7 H H'->Q b H')/\∀ C H',Xd C->A7 H0 H'->E (.ref C) none H'
structure DO (X:Cx) (K:W.Frag) (E:XK) (e:Option Expr) (t:TDO):Prop where
 q:QO X e (LO K E t)
def B55:TDO:=fun _ Q _=>Q none
def C8g (t:TD):TDO:=fun ρ Q Xd=>t ρ (fun d _=>match d with|.int i=>Q (some i)|_=>False) Xd
theorem D1:DO X K E none B55:=⟨⟨fun pins s σ H Q I h=>C0t.h pins s σ H Q I (by
 obtain ⟨H0,ν,ρ,Qd,Xd,S,h1,q,_⟩:=h;exact q _ _ h1 (A7.refl H))⟩⟩
theorem C6 {e:Expr} {t:TD} (he:DE X K E e t):DO X K E (some e) (C8g t):=⟨⟨fun pins s σ H Q I h=>(C1k he.q).h pins s σ H Q I (by
 obtain ⟨H0,ν,ρ,Qd,Xd,S,h1,q,x⟩:=h;refine ⟨H0,ν,ρ,_,Xd,S,h1,fun d k v H' g1 g2 g3=>?_,x⟩;have:=g3.den;cases d with
 | int i=>cases this;exact ⟨i,rfl,q _ _ g1 g2⟩
 | _=>exact g1.elim)⟩⟩
abbrev F3:=D->Kd->Option Int->Option Int->QD->Prop
def dSl (f:F3) (te:TD) (tl th:TDO):TD:=fun ρ Q Xd=>te ρ (fun d k=>tl ρ (fun l=>th ρ (fun h=>f d k l h Q) Xd) Xd) Xd
def C4a (s t:List Nat):Bool:=s.all fun i=>!t.contains i
def N8 (d:D) (k:Kd) (l:Kd):Kd:=match (if flat d=true then Kd.own [] else k),l with
 | .own s,.own t=>if C4a s t=true then .own (s++t) else .mix
 | .own [],.old=>.old
 | .old,.own []=>.old
 | .old,.old=>.old
 | _,_=>.mix
def D4h:TDA:=fun _ Q _=>Q [] (.own [])
def C8f (ta:TD) (tr:TDA):TDA:=fun ρ Q Xd=>ta ρ (fun d k=>tr ρ (fun ds l=>Q (d::ds) (N8 d k l)) Xd) Xd
theorem RsL.old0 {Z:Addr->Prop} {ν:Nat->List Addr} {Hs H:Hp} {k:Kd} {us:List V} {ds:List D} (hl:∀ a,Hd Z ν a->Mu H a) (hn:∀ a,Hd Z ν a->Mu Hs a) (h:RsL K Z ν Hs H k us ds) (hk:k.isOld=true):Dns K (N4 (Hd Z ν) H) us ds:=by
 cases k with
 | own s =>
  cases s with
  | nil =>
   obtain ⟨ms,h1,_,h3⟩:=h;refine C3e hl h1 fun a ha z=>?_;rcases h3 a ha with q|⟨j,q,_⟩
   ·obtain ⟨us,z⟩:=hn a z;rw [q] at z;cases z
   ·cases q
  | cons=>cases hk
 | old=>exact h
 | mix=>cases hk
theorem A58 {Z:Addr->Prop} {ν:Nat->List Addr} {Hs H1 H2:Hp} {k l:Kd} {v:V} {d:D} {us:List V} {ds:List D} (hn:∀ a,Hd Z ν a->Mu Hs a) (dj:∀ i j a,a∈ν i->a∈ν j->i=j) (e1:A7 Hs H1) (e2:A7 H1 H2) (h:R3 K Z ν Hs H1 k v d) (g:RsL K Z ν H1 H2 l us ds) :
  RsL K Z ν Hs H2 (N8 d k l) (v::us) (d::ds):=by
 have hl1:∀ a,Hd Z ν a->Mu H1 a:=fun a z=>by obtain ⟨us,q⟩:=hn a z;exact ⟨us,e1 _ _ q⟩
 have hl2:∀ a,Hd Z ν a->Mu H2 a:=fun a z=>by obtain ⟨us,q⟩:=hl1 a z;exact ⟨us,e2 _ _ q⟩
 have h':R3 K Z ν Hs H1 (if flat d=true then Kd.own [] else k) v d:=by
  split
  ·exact R3.flat h.den ‹_› hl1 _
  ·exact h
 have all:Dns K H2 (v::us) (d::ds):=.cons (Dn.same e2 h.den) g.dens;have old:∀ {k':Kd},R3 K Z ν Hs H1 k' v d->k'.isOld=true->l.isOld=true->Dns K (N4 (Hd Z ν) H2) (v::us) (d::ds):=fun {k'} r1 q1 q2=>.cons ((r1.same e2).old hl2 hn q1) (g.old0 hl2 hl1 q2);unfold N8;generalize (if flat d=true then Kd.own [] else k)=k' at h';split
 ·split
  case isTrue q =>
   obtain ⟨ms,a1,a2,a3⟩:=h';obtain ⟨ns,b1,b2,b3⟩:=g;rename_i s t;refine ⟨ms++ns,.cons (a1.same e2) b1,nodup_append.mpr ⟨a2,b2,fun x hx y hy e=>?_⟩,fun a ha=>?_⟩
   ·subst e;obtain ⟨us',z1⟩:=a1.there x hx;rcases b3 x hy with z|⟨j,hj,z⟩
    ·rw [z1] at z;cases z
    ·rcases a3 x hx with z'|⟨i,hi,z'⟩
     ·obtain ⟨us'',z''⟩:=hn x (.inr ⟨j,z⟩);rw [z'] at z'';cases z''
     ·have:=dj i j x z' z;subst this;unfold C4a at q;have:=all_eq_true.mp q i hi;simp at this;exact this hj
   ·rcases mem_append.mp ha with ha|ha
    ·rcases a3 a ha with z|⟨j,hj,z⟩
     ·exact .inl z
     ·exact .inr ⟨j,mem_append_left _ hj,z⟩
    ·rcases b3 a ha with z|⟨j,hj,z⟩
     ·exact .inl (e1.gone z)
     ·exact .inr ⟨j,mem_append_right _ hj,z⟩
  case isFalse=>exact all
 ·exact old h' rfl rfl
 ·exact old h' rfl rfl
 ·exact old h' rfl rfl
 ·exact all
theorem A2:DA X K E [] D4h:=⟨B1y R7 fun σ H Q h=>by
 obtain ⟨H0,ν,ρ,Qd,Xd,S,h1,q,x⟩:=h;exact q _ _ _ _ h1 (A7.refl H) ⟨[],.nil,nodup_nil,fun _ z=>by cases z⟩⟩
theorem A0 {e:Expr} {es:List Expr} {te:TD} {t:TDA} (ha:DE X K E e te) (hr:DA X K E es t) (hs:starEach (e::es) X.env=(false,eval e X.env)::starEach es X.env:=by rfl):DA X K E (e::es) (C8f te t):=⟨B1y (J9 ha.q hr.q hs) fun σ H Q h=>by
 obtain ⟨H0,ν,ρ,Qd,Xd,S,h1,q,x⟩:=h;refine ⟨H0,ν,ρ,_,Xd,S,h1,fun d k v H1 g1 e1 r1=>?_,x⟩;refine ⟨H0,ν,ρ,_,Xd,S.same e1,g1,fun ds l us H2 g2 e2 r2=>?_,x⟩;exact q _ _ _ _ g2 (e1.trans e2) (A58 S.hl S.dj e1 e2 r1 r2)⟩
def D3w (t:TDA):TD:=fun ρ Q Xd=>t ρ (fun ds k=>ds.length<=1000/\Q (.tuple ds) k) Xd
def D7l (t:TDA):TD:=fun ρ Q Xd=>t ρ (fun ds k=>ds.length<=1000/\Q (.list ds) k) Xd
theorem E4 {es:List Expr} {t:TDA} {x1} (h:DA X K E es t):DE X K E (.Tuple es x1 pos) (D3w t):=⟨D2 (B45 h.q) fun σ H Q h=>by
 obtain ⟨H0,ν,ρ,Qd,Xd,S,h1,q,x⟩:=h;refine ⟨H0,ν,ρ,_,Xd,S,h1,fun ds k us H1 g1 e1 r1=>?_,x⟩;refine ⟨by rw [r1.dens.length];exact Nat.le_trans g1.1 (by decide),fun p hp=>q _ _ _ _ g1.2 (e1.trans (A7.new hp)) (A95 (S.same e1).hl e1 hp r1)⟩⟩
theorem L5 {es:List Expr} {t:TDA} (h:DA X K E es t):DE X K E (.List es pos) (D7l t):=⟨D2 (C6a h.q) fun σ H Q h=>by
 obtain ⟨H0,ν,ρ,Qd,Xd,S,h1,q,x⟩:=h;refine ⟨H0,ν,ρ,_,Xd,S,h1,fun ds k us H1 g1 e1 r1=>?_,x⟩;refine ⟨by rw [r1.dens.length];exact Nat.le_trans g1.1 (by decide),fun p hp=>q _ _ _ _ g1.2 (e1.trans (A7.new hp)) (Y8 (S.same e1).hl e1 hp r1)⟩⟩
end
section
variable {X:Cx} {K:W.Frag} {E:XK} {pos:Pos} {a b c e:Expr} {E7:List Expr} {ta tb tc:TD} {tA tB:Y3}
theorem A20 {H:Hp} {v:V} {x:Bool} (h:Dn K H v (.bool x)):v=.bl x:=by cases h;rfl
theorem W1 {H:Hp} {v:V} {x:Int} (h:Dn K H v (.int x)):v=.int x:=by cases h;rfl
def D7p (ta:TD):TD:=fun ρ Q Xd=>ta ρ (fun d _=>match d with|.int i=>Q (.int (-i)) .old|_=>False) Xd
theorem A8g (ha:DE X K E a ta):DE X K E (.UnaryOp .USub a pos) (D7p ta):=⟨D2 (D0b D08 ha.q) fun σ H Q h=>by
 obtain ⟨H0,ν,ρ,Qd,Xd,S,h1,q,x⟩:=h;refine ⟨H0,ν,ρ,_,Xd,S,h1,fun d k v H' g1 g2 g3=>?_,x⟩;cases d with
 | int i=>exact ⟨i,W1 g3.den,q _ _ _ _ g1 g2 (.int _)⟩
 | _=>exact g1.elim⟩
def C8c (ta:TD):TD:=fun ρ Q Xd=>ta ρ (fun d _=>match d with|.bool i=>Q (.bool (!i)) .old|_=>False) Xd
theorem B4a (ha:DE X K E a ta):DE X K E (.UnaryOp .Not a pos) (C8c ta):=⟨D2 (C55 ha.q) fun σ H Q h=>by
 obtain ⟨H0,ν,ρ,Qd,Xd,S,h1,q,x⟩:=h;refine ⟨H0,ν,ρ,_,Xd,S,h1,fun d k v H' g1 g2 g3=>?_,x⟩;cases d with
 | bool i=>exact ⟨i,A20 g3.den,q _ _ _ _ g1 g2 (.bl _)⟩
 | _=>exact g1.elim⟩
def C7p (ta tb:TD):TD:=fun ρ Q Xd=>ta ρ (fun d _=>match d with|.bool i=>if i=true then tb ρ Q Xd else Q (.bool false) .old|_=>False) Xd
theorem A0f {op} (h:DE X K E a ta):DE X K E (.BoolOp op [a] pos) ta:=⟨C6b h.q⟩
theorem W5 (ha:DE X K E a ta) (hb:DE X K E (.BoolOp .And (b::E7) pos) tb):DE X K E (.BoolOp .And (a::b::E7) pos) (C7p ta tb):=⟨D2 (C52 ha.q hb.q) fun σ H Q h=>by
 obtain ⟨H0,ν,ρ,Qd,Xd,S,h1,q,x⟩:=h;refine ⟨H0,ν,ρ,_,Xd,S,h1,fun d k v H' g1 g2 g3=>?_,x⟩;cases d with
 | bool i =>
  refine ⟨i,A20 g3.den,?_⟩;cases i with
  | true=>exact ⟨H0,ν,ρ,Qd,Xd,S.same g2,g1,fun d k v H'' a1 a2 a3=>q d k v H'' a1 (g2.trans a2) (a3.later g2),x⟩
  | false=>exact q _ _ _ _ g1 g2 (.bl _)
 | _=>exact g1.elim⟩
def dB (ta:TD):Y3:=fun ρ Q Xd=>ta ρ (fun d _=>match d with|.bool i=>Q i|_=>False) Xd
theorem C9r:∀ {σ:L2.St} {H:Hp} {Q:Bool->Hp->Prop},LT K E (dB ta) σ H Q->L2.tB (LE K E ta) σ H Q:=fun {σ H Q} h=>by
 obtain ⟨H0,ν,ρ,Qd,Xd,S,h1,q,x⟩:=h;refine ⟨H0,ν,ρ,_,Xd,S,h1,fun d k v H' g1 g2 g3=>?_,x⟩;cases d with
 | bool i=>exact ⟨i,A20 g3.den,q _ _ g1 g2⟩
 | _=>exact g1.elim
theorem G0 (h:DE X K E e ta) (he:∀ whole,isTrue e X.env whole=(do let v <- whole;standAt e.pos;holding [v] (truthy v)):=by intro _;rfl):DT X K E e (dB ta):=⟨A1d (C3v h.q he) fun σ H Q h=>C9r h⟩
def C6f:D->Option Bool
 | .none=>some false
 | .bool b=>some b
 | .int i=>some (!decide (i=0))
 | .str _=>Option.none
 | .list ds=>some (!ds.isEmpty)
 | .tuple ds=>some (!ds.isEmpty)
 | .dict _=>Option.none
def D5a (ta:TD):Y3:=fun ρ Q Xd=>ta ρ (fun d _=>∃ b,C6f d=some b/\Q b) Xd
theorem E5 {op:CmpOp} {f:F2} (ho:DOp X K (compareOp op) f) (ha:DE X K E a ta) (hb:DE X K E b tb) (hm:behindInMarks op b=false):DT X K E (.Compare a [op] [b] pos) (dB (dOp f ta tb)):=by
 obtain ⟨r,o,p⟩:=ho.ex;refine ⟨A1d (C0n o ha.q hb.q hm) fun σ H Q h=>?_⟩;obtain ⟨H0,ν,ρ,Qd,Xd,S,h1,q,x⟩:=h;refine A8v p σ H _ ⟨H0,ν,ρ,_,Xd,S,h1,fun d k v H' g1 g2 g3=>?_,x⟩;cases d with
 | bool i=>exact ⟨i,A20 g3.den,q _ _ g1 g2⟩
 | _=>exact g1.elim
def dOr (tA tB:Y3):Y3:=fun ρ Q Xd=>tA ρ (fun b=>if b=true then Q true else tB ρ Q Xd) Xd
def D7j (tA:Y3):Y3:=fun ρ Q Xd=>tA ρ (fun b=>Q (!b)) Xd
theorem A62 (h:DW X K E e tA):DT X K E e tA:=⟨D5q h.q⟩
theorem A0j (ha:DT X K E a tA):DW X K E (.BoolOp .Or [a] pos) tA:=⟨C60 ha.q⟩
theorem D6c:∀ σ H Q,LT K E (dOr tA tB) σ H Q->tOr (LT K E tA) (LT K E tB) σ H Q:=fun σ H Q h=>by
 obtain ⟨H0,ν,ρ,Qd,Xd,S,h1,q,x⟩:=h;refine ⟨H0,ν,ρ,_,Xd,S,h1,fun b H' g1 g2=>?_,x⟩;cases b with
 | false=>exact ⟨H0,ν,ρ,Qd,Xd,S.same g2,g1,fun b H'' a1 a2=>q b H'' a1 (g2.trans a2),x⟩
 | true=>exact q _ _ g1 g2
theorem Q0 (ha:DT X K E a tA) (hb:DW X K E (.BoolOp .Or (b::E7) pos) tB):DW X K E (.BoolOp .Or (a::b::E7) pos) (dOr tA tB):=⟨D2a (D2l ha.q hb.q) D6c⟩
theorem M4 (ha:DT X K E a tA):DT X K E (.UnaryOp .Not a pos) (D7j tA):=⟨A1d (C3z ha.q) fun σ H Q h=>by
 obtain ⟨H0,ν,ρ,Qd,Xd,S,h1,q,x⟩:=h;exact ⟨H0,ν,ρ,_,Xd,S,h1,fun b H' g1 g2=>q _ _ g1 g2,x⟩⟩
def A88 (f g:Int->Int->Bool) (ta tb tc:TD):TD:=fun ρ Q Xd=>ta ρ (fun x _=>tb ρ (fun y _=>match x,y with
 | .int i,.int j=>if f i j=true then tc ρ (fun z _=>match z with|.int l=>Q (.bool (g j l)) .old|_=>False) Xd else Q (.bool false) .old
 | _,_=>False) Xd) Xd
theorem C0m {f g:Int->Int->Bool}:∀ σ H Q,LE K E (A88 f g ta tb tc) σ H Q->B3e (rI0 fun i j=>.bl (f i j)) (rI0 fun i j=>.bl (g i j)) (LE K E ta) (LE K E tb) (LE K E tc) σ H Q:=fun σ H Q h=>by
 obtain ⟨H0,ν,ρ,Qd,Xd,S,h1,q,x⟩:=h;refine ⟨H0,ν,ρ,_,Xd,S,h1,fun d k v H1 g1 e1 r1=>?_,x⟩;refine ⟨H0,ν,ρ,_,Xd,S.same e1,g1,fun d2 k2 v2 H2 g2 e2 r2=>?_,x⟩;cases d with
 | int i =>
  cases d2 with
  | int j =>
   refine ⟨i,j,W1 r1.den,W1 r2.den,_,rfl,?_⟩;cases hf:f i j with
   | true =>
    rw [if_pos rfl];refine ⟨H0,ν,ρ,_,Xd,S.same (e1.trans e2),(by simp only [hf,if_true] at g2;exact g2),fun d3 k3 v3 H3 g3 e3 r3=>?_,x⟩;cases d3 with
    | int l=>exact ⟨j,l,W1 r2.den,W1 r3.den,q _ _ _ _ g3 ((e1.trans e2).trans e3) (.bl _)⟩
    | _=>exact g3.elim
   | false =>
    rw [if_neg Bool.false_ne_true];exact q (.bool false) .old _ _ (by simpa only [hf,if_neg Bool.false_ne_true] using g2) (e1.trans e2) (.bl _)
  | _=>exact g2.elim
 | _=>exact g2.elim
theorem A66 {op op':CmpOp} {f g:Int->Int->Bool} (ho:T5 X (compareOp op) (rI0 fun i j=>.bl (f i j))) (ho':T5 X (compareOp op') (rI0 fun i j=>.bl (g i j))) (ha:DE X K E a ta) (hb:DE X K E b tb) (hc:DE X K E c tc)
  (hm:lastMarks [op,op'] [b,c]=false:=by with_unfolding_all rfl):DT X K E (.Compare a [op,op'] [b,c] pos) (dB (A88 f g ta tb tc)):=⟨A1d (B71 ho ho' ha.q hb.q hc.q hm) fun σ H Q h=>by
 obtain ⟨H0,ν,ρ,Qd,Xd,S,h1,q,x⟩:=h;refine C0m σ H _ ⟨H0,ν,ρ,_,Xd,S,h1,fun d k v H' g1 g2 g3=>?_,x⟩;cases d with
 | bool i=>exact ⟨i,A20 g3.den,q _ _ g1 g2⟩
 | _=>exact g1.elim⟩
abbrev W0:=List D->(D->Bool->Prop)->XD->Prop
def RR (K:W.Frag) (H H':Hp):Bool->V->D->Prop
 | true,v,d=>∃ ms,Ow K H' v d ms/\ms.Nodup/\∀ a∈ms,H a=none
 | false,v,d=>Dn K H' v d
def E9 (K:W.Frag) (sp:W0):Sp:=fun vs H Q E=>∃ ds Qd Xd,Dns K H vs ds/\sp ds Qd Xd/\(∀ d o v H',Qd d o->A7 H H'->RR K H H' o v d->Q v H')/\∀ C H',Xd C->A7 H H'->E (.ref C) none H'
def A70 (o:Bool):Kd:=if o=true then .own [] else .mix
def C0f (sp:W0) (t:TDA):TD:=fun ρ Q Xd=>t ρ (fun ds _=>sp ds (fun d o=>Q d (A70 o)) Xd) Xd
theorem B1d {Z:Addr->Prop} {ν:Nat->List Addr} {Hs H H':Hp} {o:Bool} {v:V} {d:D} (e:A7 Hs H) (h:RR K H H' o v d):R3 K Z ν Hs H' (A70 o) v d:=by
 cases o with
 | true=>obtain ⟨ms,h1,h2,h3⟩:=h;exact ⟨ms,h1,h2,fun a ha=>.inl (e.gone (h3 a ha))⟩
 | false=>exact h
theorem C4l {sp:W0} {t:TDA}:∀ σ H Q,LE K E (C0f sp t) σ H Q->LA K E t σ H fun vs H1=>E9 K sp vs H1 Q E:=fun σ H Q h=>by
 obtain ⟨H0,ν,ρ,Qd,Xd,S,h1,q,x⟩:=h;refine ⟨H0,ν,ρ,_,Xd,S,h1,fun ds k vs H1 g1 e1 r1=>?_,x⟩;exact ⟨ds,_,Xd,r1.dens,g1,fun d o v H' a1 a2 a3=>q _ _ _ _ a1 (e1.trans a2) (B1d e1 a3),fun C H' a1 a2=>x C H' a1 ((S.sm.trans e1).trans a2)⟩
def B2d (sp:W0) (t:TDA):TD:=fun ρ Q Xd=>t ρ (fun ds _=>sp ds (fun d o=>Q d (A70 o)) (fun _=>False)) Xd
theorem B8j {sp:W0} {t:TDA}:∀ σ H Q,LE K E (B2d sp t) σ H Q->LA K E t σ H fun vs H1=>E9 K sp vs H1 Q E0:=fun σ H Q h=>by
 obtain ⟨H0,ν,ρ,Qd,Xd,S,h1,q,x⟩:=h;refine ⟨H0,ν,ρ,_,Xd,S,h1,fun ds k vs H1 g1 e1 r1=>?_,x⟩;exact ⟨ds,_,_,r1.dens,g1,fun d o v H' a1 a2 a3=>q _ _ _ _ a1 (e1.trans a2) (B1d e1 a3),fun C H' z _=>z.elim⟩
theorem C9 {x:Str} {ps:List Str} {k:Nat} {sp:W0} {p:Pos} {es:List Expr} {t:TDA} (D:Df X.prog X.w X.K X.mg X.base x ps k (E9 K sp)) (hr:O0 k X.A) (ha:DA X K E (e::es) t) (hg:Gl X x:=by rfl) (hdb:(x==("__debug__":Str))=false:=by decide)
  (he:starEach (e::es) X.env=(false,eval e X.env)::starEach es X.env:=by rfl) (hpl:(backTo pos (starEach es X.env)).any (·.1)=false:=by rfl):DE X K E (.Call (.Name x p) (e::es) [] pos) (B2d sp t) :=
 ⟨D2 (D23 D hr ha.q hg hdb he hpl) fun σ H Q h=>by
  show LA K E t σ H fun vs H1=>E9 K sp (vs++[]) H1 Q E0;simp only [append_nil];exact B8j σ H Q h⟩
theorem A3h {x:Str} {ps:List Str} {k:Nat} {sp:W0} {p:Pos} {es:List Expr} {t:TDA} (D:DfE X.prog X.w X.K X.mg X.base x ps k (E9 K sp)) (hx:A0w (CXE X.prog X.w X.base) X E) (hr:O0 k X.A) (ha:DA X K E (e::es) t) (hg:Gl X x:=by rfl) (hdb:(x==("__debug__":Str))=false:=by decide)
  (he:starEach (e::es) X.env=(false,eval e X.env)::starEach es X.env:=by rfl) (hpl:(backTo pos (starEach es X.env)).any (·.1)=false:=by rfl):DE X K E (.Call (.Name x p) (e::es) [] pos) (C0f sp t) :=
 ⟨D2 (C4h D hx hr ha.q hg hdb he hpl) fun σ H Q h=>by
  show LA K E t σ H fun vs H1=>E9 K sp (vs++[]) H1 Q E;simp only [append_nil];exact C4l σ H Q h⟩
abbrev FA:=List D->Kd->QD->Prop
def C89 (K:W.Frag) (r:List V->Hp->VK->Prop) (f:FA):Prop:=∀ (Z:Addr->Prop) (ν:Nat->List Addr) (Hs H:Hp) (xs:List V) (ds:List D) (k:Kd) (Qf:QD) (Q:VK),(∀ a,Hd Z ν a->Mu H a)->(∀ a,Hd Z ν a->Mu Hs a)->A7 Hs H->RsL K Z ν Hs H k xs ds ->
 f ds k Qf->(∀ d k v H',Qf d k->A7 H H'->R3 K Z ν Hs H' k v d->Q v H')->r xs H Q
structure DCl (X:Cx) (K:W.Frag) (f:Value) (g:FA):Prop where
 ex:∃ r,K2 X f r/\C89 K r g
def dCB (g:FA) (t:TDA):TD:=fun ρ Q Xd=>t ρ (fun ds k=>g ds k Q) Xd
theorem C7s {r:List V->Hp->VK->Prop} {g:FA} {t:TDA} (p:C89 K r g):∀ σ H Q,LE K E (dCB g t) σ H Q->tCB r (LA K E t) σ H Q:=fun σ H Q h=>by
 obtain ⟨H0,ν,ρ,Qd,Xd,S,h1,q,x⟩:=h;refine ⟨H0,ν,ρ,_,Xd,S,h1,fun ds k vs H1 g1 e1 r1=>?_,x⟩;exact p Z0 ν H H1 vs ds k _ _ (S.same e1).hl S.hl e1 r1 g1 fun d k v H' a1 a2 a3=>q d k v H' a1 (e1.trans a2) a3
theorem B5 {id:String} {g:FA} {x:Str} {p:Pos} {es:List Expr} {t:TDA} (hc:DCl X K (.builtin id) g) (hg:Gl X x) (hm:X.mg x=none) (hv:bootBuiltins x=some (.builtin id)) (ha:DA X K E (e::es) t) (hn:x≠"__name__":=by decide) (hdb:(x==("__debug__":Str))=false:=by decide)
  (he:starEach (e::es) X.env=(false,eval e X.env)::starEach es X.env:=by rfl) (hpl:(backTo pos (starEach es X.env)).any (·.1)=false:=by rfl):DE X K E (.Call (.Name x p) (e::es) [] pos) (dCB g t):=by
 obtain ⟨r,c,pr⟩:=hc.ex;exact ⟨D2 (A0e c hg hm hv ha.q hn hdb he hpl) (C7s pr)⟩
theorem A49 {T:String} {g:FA} {x:Str} {p:Pos} {es:List Expr} {t:TDA} (hc:DCl X K (.type T) g) (hg:Gl X x) (hm:X.mg x=none) (hv:bootBuiltins x=some (.type T)) (ha:DA X K E (e::es) t) (hn:x≠"__name__":=by decide) (hdb:(x==("__debug__":Str))=false:=by decide)
  (he:starEach (e::es) X.env=(false,eval e X.env)::starEach es X.env:=by rfl) (hpl:(backTo pos (starEach es X.env)).any (·.1)=false:=by rfl):DE X K E (.Call (.Name x p) (e::es) [] pos) (dCB g t):=by
 obtain ⟨r,c,pr⟩:=hc.ex;exact ⟨D2 (B2q c hg hm hv ha.q hn hdb he hpl) (C7s pr)⟩
theorem Z8 {H:Hp} {xs:List V} {d:D} (h:Dns K H xs [d]):∃ v,xs=[v]/\Dn K H v d:=by
 cases h with
 | cons h r=>cases r;exact ⟨_,rfl,h⟩
theorem D4y {H:Hp} {xs:List V} {d e:D} (h:Dns K H xs [d,e]):∃ v w',xs=[v,w']/\Dn K H v d/\Dn K H w' e:=by
 cases h with
 | cons h r=>obtain ⟨v,rfl,g⟩:=Z8 r;exact ⟨_,_,rfl,h,g⟩
def C1i:FA:=fun ds _ Q=>match ds with
 | [.list xs]=>Q (.int xs.length) .old
 | [.tuple xs]=>Q (.int xs.length) .old
 | [.dict [(.none,.list xs)]]=>Q (.int xs.length) .old
 | _=>False
theorem B24 {H:Hp} {v:V} {ds:List D} (h:Dn K H v (.dict [(.none,.list ds)])):∃ (a:Addr) (ns:List Int),v=.ref a/\L4 K H a (ns.map V.int)/\ds=ns.map PyData.int:=by
 cases h with
 | scr ns h=>exact ⟨_,_,rfl,h,rfl⟩
theorem A1r (hK:X.K=K):DCl X K (.builtin "len") C1i:=⟨_,B7b K hK,fun Z ν Hs H xs ds k Qf Q _ _ _ h g q=>by
 unfold C1i at g;split at g
 ·obtain ⟨v,rfl,h1⟩:=Z8 h.dens;obtain ⟨a,us,rfl,g1,g2⟩:=D3 h1;exact ⟨a,us,rfl,.inl (L4.of g1),q _ _ _ _ g (A7.refl H) (by rw [g2.length];exact .int _)⟩
 ·obtain ⟨v,rfl,h1⟩:=Z8 h.dens;obtain ⟨a,us,rfl,g1,g2⟩:=J4 h1;exact ⟨a,us,rfl,.inr g1,q _ _ _ _ g (A7.refl H) (by rw [g2.length];exact .int _)⟩
 ·obtain ⟨v,rfl,h1⟩:=Z8 h.dens;obtain ⟨a,ns,rfl,g1,rfl⟩:=B24 h1;exact ⟨a,_,rfl,.inl g1,q _ _ _ _ g (A7.refl H) (by rw [length_map,length_map];exact .int _)⟩
 ·exact g.elim⟩
def A0n:List D->Option (List Int)
 | []=>some []
 | .int i::r=>(A0n r).map (i::·)
 | _=>Option.none
def A16:List D->Option (List Bool)
 | []=>some []
 | .bool i::r=>(A16 r).map (i::·)
 | _=>Option.none
theorem A4v {H:Hp}:∀ {us:List V} {ds:List D} {ns:List Int},Dns K H us ds->A0n ds=some ns->us=ns.map V.int
 | _,_,_,.nil,e=>by cases e;rfl
 | _,_,ns,.cons h r,e=>by
  cases h<;>first|(simp only [A4r,A0n] at e;first|cases e|(rw [Option.map_eq_some_iff] at e;obtain ⟨ms,e1,rfl⟩:=e;rw [A4v r e1];rfl))
theorem A0g {H:Hp}:∀ {us:List V} {ds:List D} {ns:List Bool},Dns K H us ds->A16 ds=some ns->us=ns.map V.bl
 | _,_,_,.nil,e=>by cases e;rfl
 | _,_,ns,.cons h r,e=>by
  cases h<;>first|(simp only [A4r,A16] at e;first|cases e|(rw [Option.map_eq_some_iff] at e;obtain ⟨ms,e1,rfl⟩:=e;rw [A0g r e1];rfl))
def E0w:FA:=fun ds _ Q=>match ds with
 | [.list xs]=>∃ ns,A0n xs=some ns/\Q (.int ns.sum) .old
 | _=>False
def B1n (f:List Bool->Bool):FA:=fun ds _ Q=>match ds with
 | [.list xs]=>∃ ns,A16 xs=some ns/\Q (.bool (f ns)) .old
 | _=>False
theorem C49 (hK:X.K=K) (hc:X.calm=true):DCl X K (.builtin "all") (B1n fun l=>l.all id):=⟨_,B6e K hK hc,fun Z ν Hs H xs ds k Qf Q _ _ _ h g q=>by
 unfold B1n at g;split at g
 ·obtain ⟨v,rfl,h1⟩:=Z8 h.dens;obtain ⟨a,us,rfl,g1,g2⟩:=D3 h1;obtain ⟨ns,e,g⟩:=g;exact ⟨a,ns,rfl,L4.of (by rw [g1,A0g g2 e]),q _ _ _ _ g (A7.refl H) (.bl _)⟩
 ·exact g.elim⟩
theorem A29 (hK:X.K=K) (hc:X.calm=true):DCl X K (.builtin "any") (B1n fun l=>l.any id):=⟨_,B7p K hK hc,fun Z ν Hs H xs ds k Qf Q _ _ _ h g q=>by
 unfold B1n at g;split at g
 ·obtain ⟨v,rfl,h1⟩:=Z8 h.dens;obtain ⟨a,us,rfl,g1,g2⟩:=D3 h1;obtain ⟨ns,e,g⟩:=g;exact ⟨a,ns,rfl,L4.of (by rw [g1,A0g g2 e]),q _ _ _ _ g (A7.refl H) (.bl _)⟩
 ·exact g.elim⟩
theorem C6p {Z:Addr->Prop} {ν:Nat->List Addr} {Hs H:Hp} {k:Kd} {v:V} {d:D} (h:RsL K Z ν Hs H k [v] [d]):R3 K Z ν Hs H k v d:=by
 cases k with
 | own s =>
  obtain ⟨ms,h1,h2,h3⟩:=h;cases h1 with
  | cons h r=>cases r;rw [append_nil] at h2 h3;exact ⟨_,h,h2,h3⟩
 | old=>cases (show Dns K _ [v] [d] from h) with|cons h r=>exact h
 | mix=>cases (show Dns K _ [v] [d] from h) with|cons h r=>exact h
def C15:FA:=fun ds k Q=>match ds with
 | [.list xs]=>Q (.list xs) (A5j xs k)
 | _=>False
theorem B0j (hK:X.K=K):DCl X K (.type "list") C15:=⟨_,B2z K hK,fun Z ν Hs H xs ds k Qf Q hl hn hs h g q=>by
 unfold C15 at g;split at g
 ·obtain ⟨v,rfl,_⟩:=Z8 h.dens;obtain ⟨a,us,rfl,g1,g2,g3⟩:=A4k hl hn (C6p h);exact ⟨a,us,rfl,.inl (L4.of g1),fun p hp=>q _ _ _ _ g (A7.new hp) (Y8 hl hs hp g3)⟩
 ·exact g.elim⟩
def E12:FA:=fun ds _ Q=>match ds with
 | [.int i,.int j]=>Q (.int (if j < i then j else i)) .old
 | [.list xs]=>∃ ns,A0n xs=some ns/\ns≠[]/\∀ m,m∈ns->(∀ x∈ns,m<=x)->Q (.int m) .old
 | _=>False
def C9o:FA:=fun ds _ Q=>match ds with
 | [.int i,.int j]=>Q (.int (if j > i then j else i)) .old
 | [.list xs]=>∃ ns,A0n xs=some ns/\ns≠[]/\∀ m,m∈ns->(∀ x∈ns,x<=m)->Q (.int m) .old
 | _=>False
theorem C1u {f:Value} {r r':List V->Hp->VK->Prop} (h:K2 X f r) (h':K2 X f r'):K2 X f (fun x H Q=>r x H Q\/r' x H Q):=by
 intro pins s σ H xs us Q I rv h;rcases h with h1|h1
 ·exact h pins s σ H xs us Q I rv h1
 ·exact h' pins s σ H xs us Q I rv h1
theorem B4c (hK:X.K=K) (hc:X.calm=true):DCl X K (.builtin "max") C9o:=⟨_,C1u (B6s hc) (B31 K hK hc),fun Z ν Hs H xs ds k Qf Q hl hn hs h g q=>by
 unfold C9o at g;split at g
 ·obtain ⟨v,w',rfl,h1,h2⟩:=D4y h.dens;exact .inl ⟨_,_,by rw [W1 h1,W1 h2],q _ _ _ _ g (A7.refl H) (.int _)⟩
 ·obtain ⟨v,rfl,h1⟩:=Z8 h.dens;obtain ⟨a,us,rfl,g1,g2⟩:=D3 h1;obtain ⟨ns,e,ne,g⟩:=g;exact .inr ⟨a,ns,rfl,L4.of (by rw [g1,A4v g2 e]),ne,fun m m1 m2=>q _ _ _ _ (g m m1 m2) (A7.refl H) (.int _)⟩
 ·exact g.elim⟩
def tyN:D->String
 | .none=>"NoneType"
 | .bool _=>"bool"
 | .int _=>"int"
 | .str _=>"str"
 | .list _=>"list"
 | .tuple _=>"tuple"
 | .dict _=>"dict"
def isInt:D->Bool
 | .int _=>true
 | .bool _=>true
 | _=>false
def B9n:D->Bool
 | .bool _=>true
 | _=>false
def isList:D->Bool
 | .list _=>true
 | _=>false
def B3w:D->Bool
 | .tuple _=>true
 | _=>false
def Z4:D->Bool
 | .dict _=>false
 | _=>true
def B5i (K:W.Frag) (T:String) (f:D->Bool):Prop:=∀ d,Z4 d=true->PySem.W.kitOne K (.type (tyN d)) (.type T)=some (f d)
theorem B4w:B5i K "int" isInt:=by intro d h;cases d<;>first|rfl|simp [Z4] at h
theorem A1i:B5i K "bool" B9n:=by intro d h;cases d<;>first|rfl|simp [Z4] at h
theorem B05:B5i K "list" isList:=by intro d h;cases d<;>first|rfl|simp [Z4] at h
theorem A2w:B5i K "tuple" B3w:=by intro d h;cases d<;>first|rfl|simp [Z4] at h
def D9v (K:W.Frag) (T:String) (f:D->Bool):List V->Hp->VK->Prop:=fun xs H Q=>∃ x d,xs=[x,.ty T]/\Dn K H x d/\Z4 d=true/\Q (.bl (f d)) H
theorem C1v {T:String} {f:D->Bool} (hK:X.K=K) (kt:B5i K T f):K2 X (.builtin "isinstance") (D9v K T f):=by
 subst hK;intro pins s σ H xs us Q I r h;obtain ⟨x,d,rfl,hd,nd,q⟩:=h;obtain ⟨u,w',rfl,r1,r2⟩:=B9s r;cases r2;have k:=kt d nd;cases hd with
 | non=>exact U9 I r1 .non k fun tk=>⟨.bl _,H,I.tok _,rfl,q⟩
 | bl i=>exact U9 I r1 (.bl _) k fun tk=>⟨.bl _,H,I.tok _,rfl,q⟩
 | int i=>exact U9 I r1 (.int _) k fun tk=>⟨.bl _,H,I.tok _,rfl,q⟩
 | str i=>exact U9 I r1 (.str _) k fun tk=>⟨.bl _,H,I.tok _,rfl,q⟩
 | lst h _=>exact U9 I r1 (.lst h) k fun tk=>⟨.bl _,H,I.tok _,rfl,q⟩
 | tup h _ =>
  cases r1;obtain ⟨its,rv,⟨o,e,c,n,d⟩,_⟩:=I.tuple h;exact PySem.W.kia_one PySem.W.kitx_tuple I.kIn ⟨o,e,c⟩ k (fun z=>nomatch z) fun tk=>⟨.bl _,H,I.tok _,rfl,q⟩
 | scr _ _=>cases nd
 | opq _=>cases nd
 | dct _ _=>cases nd
 | dcf _ _=>cases nd
def dIs (f:D->Bool) (ta:TD):TD:=fun ρ Q Xd=>ta ρ (fun d _=>Z4 d=true/\Q (.bool (f d)) .old) Xd
theorem N7 {T:String} {f:D->Bool} {y:Str} {p p2:Pos} (hK:X.K=K) (kt:B5i K T f) (hg:Gl X "isinstance") (hm:X.mg "isinstance"=none) (ha:DE X K E a ta) (hg2:Gl X y) (hm2:X.mg y=none) (hv2:bootBuiltins y=some (.type T)) (hn:y≠"__name__":=by decide) (hd:(y==("__debug__":Str))=false:=by decide)
  (he:starEach [a,.Name y p2] X.env=(false,eval a X.env)::starEach [.Name y p2] X.env:=by rfl) (hpl:(backTo pos (starEach [.Name y p2] X.env)).any (·.1)=false:=by rfl):DE X K E (.Call (.Name "isinstance" p) [a,.Name y p2] [] pos) (dIs f ta) :=
 ⟨D2 (A0e (C1v hK kt) hg hm (by decide +kernel) (J9 ha.q (hs:=he) (J9 (A9i (v:=.ty T) hg2 hm2 hv2 rfl hn hd) R7)) (by decide) (by decide) he hpl) fun σ H Q h=>by
  obtain ⟨H0,ν,ρ,Qd,Xd,S,h1,q,x⟩:=h;refine ⟨H0,ν,ρ,_,Xd,S,h1,fun d k v H' g1 g2 g3=>?_,x⟩;exact ⟨v,d,rfl,g3.den,g1.1,q _ _ _ _ g1.2 g2 (.bl _)⟩⟩
def O1:D->Bool
 | .none=>true
 | .bool _=>true
 | .int _=>true
 | .str _=>true
 | _=>false
theorem A3u {H:Hp} {v:V} {d:D} (h:Dn K H v d) (s:O1 d=true):A0p v=true:=by
 cases h<;>first|rfl|simp [O1,A4r] at s
theorem D0l {H:Hp} {v u:V} {d e:D} (h:Dn K H v d) (g:Dn K H u e) (s:O1 d=true) (t:O1 e=true):eqV v u=PyData.eqv d e:=by
 cases h<;>first|(simp [O1,A4r] at s;done)|(cases g<;>first|(simp [O1,A4r] at t;done)|rfl|(simp [eqV,PyData.eqv];done))
def inD (x:D) (xs:List D):Bool:=xs.any fun y=>PyData.eqv y x
def fIn (f:Bool->Bool):F2:=fun d _ e _ Q=>O1 d=true/\match e with
 | .list es=>es.all O1=true/\Q (.bool (f (inD d es))) .old
 | .tuple es=>es.all O1=true/\Q (.bool (f (inD d es))) .old
 | _=>False
theorem A4y {H:Hp} {v:V} {d:D} (h:Dn K H v d) (s:O1 d=true):∀ {us:List V} {es:List D},Dns K H us es->es.all O1=true->us.all A0p=true/\inV v us=inD d es
 | _,_,.nil,_=>⟨rfl,rfl⟩
 | _,_,.cons g r,t=>by
  rw [all_cons,Bool.and_eq_true] at t;obtain ⟨h1,h2⟩:=A4y h s r t.2;refine ⟨by rw [all_cons,A3u g t.1,h1];rfl,?_⟩;unfold inV inD at h2 ⊢;rw [any_cons,any_cons,h2,D0l g h t.1 s]
theorem B52 {neg:Bool} {f:Bool->Bool} (hf:∀ b,f b=if neg then !b else b):A1x K (rIn K neg) (fIn f):=fun Z ν Hs H x y d k e l Qf Q _ _ _ h3 h4 h5 h6=>by
 obtain ⟨h0,h5⟩:=h5;split at h5
 ·obtain ⟨a,us,rfl,g1,g2⟩:=D3 h4.den;obtain ⟨q1,q2⟩:=A4y h3.den h0 g2 h5.1;refine ⟨a,us,rfl,.inl (L4.of g1),A3u h3.den h0,q1,h6 _ _ _ _ h5.2 (A7.refl H) ?_⟩;rw [q2,hf];cases neg<;>exact .bl _
 ·obtain ⟨a,us,rfl,g1,g2⟩:=J4 h4.den;obtain ⟨q1,q2⟩:=A4y h3.den h0 g2 h5.1;refine ⟨a,us,rfl,.inr g1,A3u h3.den h0,q1,h6 _ _ _ _ h5.2 (A7.refl H) ?_⟩;rw [q2,hf];cases neg<;>exact .bl _
 ·exact h5.elim
theorem D1c (hK:X.K=K):DOp X K (compareOp .In) (fIn id):=⟨_,D37 K hK,B52 fun b=>rfl⟩
theorem B78 (hK:X.K=K):DOp X K (compareOp .NotIn) (fIn not):=⟨_,B7u K hK,B52 fun b=>rfl⟩
theorem A65 {e:Expr} (hK:X.K=K) (h:DE X K E e ta) (he:∀ whole,isTrue e X.env whole=(do let v <- whole;standAt e.pos;holding [v] (truthy v)):=by intro _;rfl):DT X K E e (D5a ta):=⟨by
 subst hK;refine A1d ⟨C2g h.q.h he⟩ fun σ H Q h=>?_;obtain ⟨H0,ν,ρ,Qd,Xd,S,h1,q,x⟩:=h;refine ⟨H0,ν,ρ,_,Xd,S,h1,fun d k v H' g1 g2 g3=>?_,x⟩;obtain ⟨b,e1,e2⟩:=g1;refine ⟨b,?_,q _ _ e2 g2⟩;have:=g3.den;cases this with
 | non=>cases e1;exact rfl
 | bl i=>cases e1;exact rfl
 | int i=>cases e1;exact rfl
 | str i=>cases e1
 | lst h r=>cases e1;exact .inl ⟨_,L4.of h,by cases r<;>rfl⟩
 | tup h r=>cases e1;exact .inr (.inl ⟨_,h,by cases r<;>rfl⟩)
 | scr _ _=>cases e1
 | opq _=>cases e1
 | dct _ _=>cases e1
 | dcf _ _=>cases e1⟩
end
structure N6 where
 nx:C5->Prop
 rt:D->Bool->Prop
 bk:C5->Prop:=fun _=>False
 ct:C5->Prop:=fun _=>False
abbrev L9:=N6->C5->XD->Prop
structure A4a (K:W.Frag) (H0:Hp) (En:T1) (Dd:N6):Prop where
 nx:∀ ν ρ σ H,Dd.nx ρ->B7 K Z0 H0 ν ρ σ H->En.nx σ H
 bk:∀ ν ρ σ H,Dd.bk ρ->B7 K Z0 H0 ν ρ σ H->En.bk σ H
 ct:∀ ν ρ σ H,Dd.ct ρ->B7 K Z0 H0 ν ρ σ H->En.ct σ H
 rt:∀ d o v H,Dd.rt d o->A7 H0 H->RR K H0 H o v d->En.rt v H
def LS (K:W.Frag) (E:XK) (t:L9):TS:=fun En σ H=>∃ H0 ν ρ Dd Xd,B7 K Z0 H0 ν ρ σ H/\t Dd ρ Xd/\A4a K H0 En Dd/\∀ C H',Xd C->A7 H0 H'->E (.ref C) none H'
structure DS (X:Cx) (K:W.Frag) (E:XK) (s:Stmt) (t:L9):Prop where
 q:QS X s (LS K E t)
structure DSs (X:Cx) (K:W.Frag) (E:XK) (s:List Stmt) (t:L9):Prop where
 q:QSs X s (LS K E t)
def setK (ρ:C5) (i:Nat) (d:D) (k:Kd):C5:=if flat d=true then ρ.set i (some (false,d)) else match k with
 | .own s=>(D9 ρ s).set i (some (true,d))
 | .old=>ρ.set i (some (false,d))
 | .mix=>(frz ρ).set i (some (false,d))
section
variable {K:W.Frag} {H0 H H':Hp} {ν:Nat->List Addr} {ρ:C5} {σ:L2.St} {v:V} {d:D} {k:Kd}
theorem A7s {H:Hp}:A7 H (N4 (Hd Z0 fun _=>[]) H):=fun a o h=>D5 h fun z=>by
 rcases z with z|⟨_,z⟩
 ·exact z
 ·cases z
theorem B7.setK (S:B7 K Z0 H0 ν ρ σ H) (e:A7 H H') (h:R3 K Z0 ν H H' k v d) (i:Nat):∃ ν',B7 K Z0 H0 ν' (setK ρ i d k) (σ.set i (some v)) H':=by
 unfold DL.setK;split
 ·exact ⟨_,(S.same e).setOld i (R6 (S.same e).hl h.den ‹_›)⟩
 ·cases k with
  | own s =>
   obtain ⟨ms,h1,h2,h3⟩:=h;exact ⟨_,S.setOwn s i e h1 h2 h3⟩
  | old=>exact ⟨_,(S.same e).setOld i h⟩
  | mix=>exact ⟨_,(S.same e).frz.setOld i (Dn.same A7s h)⟩
def rtK (d:D) (k:Kd):Bool:=flat d||match k with
 | .own _=>true
 | _=>false
theorem C84 (S:B7 K Z0 H0 ν ρ σ H) (e:A7 H H') (h:R3 K Z0 ν H H' k v d):RR K H0 H' (rtK d k) v d:=by
 unfold rtK;cases hf:flat d with
 | true=>exact ⟨[],A8j h.den hf,nodup_nil,fun _ z=>by cases z⟩
 | false =>
  cases k with
  | own s =>
   obtain ⟨ms,h1,h2,h3⟩:=h;refine ⟨ms,h1,h2,fun a ha=>?_⟩;rcases h3 a ha with z|⟨j,_,z⟩
   ·exact S.sm.gone z
   ·exact (S.fr j a z).1
  | old=>exact Dn.same D4 h
  | mix=>exact h
theorem B7.low {Z:Addr->Prop} {H1:Hp} (S:B7 K Z H1 ν ρ σ H) (e:A7 H0 H1):B7 K Z H0 ν ρ σ H :=
 ⟨e.trans S.sm,S.len,S.sl,S.nd,S.dj,fun i a h=>⟨e.gone (S.fr i a h).1,(S.fr i a h).2⟩,fun a h=>⟨e.gone (S.zf a h).1,(S.zf a h).2⟩⟩
theorem B7.base {Z:Addr->Prop} (S:B7 K Z H0 ν ρ σ H):A7 H0 (N4 (Hd Z ν) H):=fun a o h=>D5 (S.sm a o h) fun z=>by
 rcases z with z|⟨i,z⟩
 ·rw [(S.zf a z).1] at h;cases h
 ·rw [(S.fr i a z).1] at h;cases h
theorem B7.high {Z:Addr->Prop} (S:B7 K Z H0 ν ρ σ H):B7 K Z (N4 (Hd Z ν) H) ν ρ σ H :=
 ⟨D4,S.len,S.sl,S.nd,S.dj,fun i a h=>⟨by unfold N4;rw [if_pos (.inr ⟨i,h⟩)],(S.fr i a h).2⟩,fun a h=>⟨by unfold N4;rw [if_pos (.inl h)],(S.zf a h).2⟩⟩
theorem RR.low {H1:Hp} {o:Bool} (h:RR K H1 H o v d) (e:A7 H0 H1):RR K H0 H o v d:=by
 cases o with
 | true=>obtain ⟨ms,h1,h2,h3⟩:=h;exact ⟨ms,h1,h2,fun a ha=>e.gone (h3 a ha)⟩
 | false=>exact h
theorem A4a.high {En:T1} {Dd:N6} {H1:Hp} (h:A4a K H0 En Dd) (e:A7 H0 H1):A4a K H1 En Dd :=
 ⟨fun ν ρ σ H a S=>h.nx ν ρ σ H a (S.low e),fun ν ρ σ H a S=>h.bk ν ρ σ H a (S.low e),fun ν ρ σ H a S=>h.ct ν ρ σ H a (S.low e),fun d o v H a b c=>h.rt d o v H a (e.trans b) (c.low e)⟩
end
section
variable {X:Cx} {K:W.Frag} {E:XK} {pos:Pos} {a b c e:Expr} {te:TD} {tA:Y3} {t u:L9}
def C2a (i:Nat) (te:TD):L9:=fun Dd ρ Xd=>te ρ (fun d k=>Dd.nx (setK ρ i d k)) Xd
theorem C1 (i:Nat) {x:Str} {pos':Pos} (hN:X.N.Nodup) (he:DE X K E e te) (hi:X.N[i]?=some x:=by rfl) (hx:Loc X.env.scope x:=by first|exact Or.inl rfl|exact Or.inr rfl) (hs:swapsWith e (some (.Name x pos')) pos.line X.env=pure false:=by rfl) (hf:X.fn x=true\/X.env.scope.names.lookup x=some .local:=by first|exact .inl rfl|exact .inr rfl|assumption) :
  DS X K E (.Assign [.Name x pos'] e pos) (C2a i te):=⟨M8 (D5t i hN he.q hi hx hs hf) fun En σ H h=>by
 obtain ⟨H0,ν,ρ,Dd,Xd,S,h1,ok,x⟩:=h;refine ⟨H0,ν,ρ,_,Xd,S,h1,fun d k v H' g1 g2 g3=>?_,x⟩;obtain ⟨ν',S'⟩:=S.setK g2 g3 i;exact ok.nx _ _ _ _ g1 S'⟩
def D6m (te:TD):L9:=fun Dd ρ Xd=>te ρ (fun d k=>Dd.rt d (rtK d k)) Xd
theorem B6 (he:DE X K E e te):DS X K E (.Return (some e) pos) (D6m te):=⟨M8 (C72 he.q) fun En σ H h=>by
 obtain ⟨H0,ν,ρ,Dd,Xd,S,h1,ok,x⟩:=h;exact ⟨H0,ν,ρ,_,Xd,S,h1,fun d k v H' g1 g2 g3=>ok.rt _ _ _ _ g1 (S.sm.trans g2) (C84 S g2 g3),x⟩⟩
def C7a (te:TD):L9:=fun Dd ρ Xd=>te ρ (fun _ _=>Dd.nx ρ) Xd
theorem B0c (he:DE X K E e te) (hs:swapsWith e none pos.line X.env=pure false:=by rfl):DS X K E (.Expr e pos) (C7a te):=⟨M8 (Y2 he.q hs) fun En σ H h=>by
 obtain ⟨H0,ν,ρ,Dd,Xd,S,h1,ok,x⟩:=h;exact ⟨H0,ν,ρ,_,Xd,S,h1,fun d k v H' g1 g2 g3=>ok.nx _ _ _ _ g1 (S.same g2),x⟩⟩
def C7w:L9:=fun Dd ρ _=>Dd.nx ρ
def D4i (tA:Y3) (t u:L9):L9:=fun Dd ρ Xd=>tA ρ (fun b=>if b=true then t Dd ρ Xd else u Dd ρ Xd) Xd
theorem D7 {as bs:List Stmt} (hc:DT X K E c tA) (ha:DSs X K E as t) (hb:DSs X K E bs u):DS X K E (.If c as bs pos) (D4i tA t u):=⟨M8 (B8p hc.q ha.q hb.q) fun En σ H h=>by
 obtain ⟨H0,ν,ρ,Dd,Xd,S,h1,ok,x⟩:=h;refine ⟨H0,ν,ρ,_,Xd,S,h1,fun b H' g1 g2=>?_,x⟩;cases b with
 | true=>exact ⟨H0,ν,ρ,Dd,Xd,S.same g2,g1,ok,x⟩
 | false=>exact ⟨H0,ν,ρ,Dd,Xd,S.same g2,g1,ok,x⟩⟩
def D18 (t u:L9):L9:=fun Dd ρ Xd=>t { Dd with nx:=fun ρ'=>u Dd ρ' Xd } ρ Xd
theorem C0:DSs X K E [] C7w:=⟨A86 A91 fun En σ H h=>by
 obtain ⟨H0,ν,ρ,Dd,Xd,S,h1,ok,x⟩:=h;exact ok.nx _ _ _ _ h1 S⟩
theorem A6 {st:Stmt} (h1:DS X K E st t):DSs X K E [st] t:=⟨A26 h1.q⟩
theorem A1 {st:Stmt} {E7:List Stmt} (h1:DS X K E st t) (h2:DSs X K E E7 u):DSs X K E (st::E7) (D18 t u):=⟨A86 (A2r h1.q h2.q) fun En σ H h=>by
 obtain ⟨H0,ν,ρ,Dd,Xd,S,h1,ok,x⟩:=h;exact ⟨H0,ν,ρ,_,Xd,S,h1,⟨fun ν' ρ' σ' H' a S'=>⟨H0,ν',ρ',Dd,Xd,S',a,ok,x⟩,ok.bk,ok.ct,ok.rt⟩,x⟩⟩
def D6n (i:Nat) (t:L9):L9:=fun Dd ρ Xd=>t Dd (frz1 i ρ) Xd
theorem S4 (i:Nat) {s:Stmt} (h:DS X K E s t):DS X K E s (D6n i t):=⟨M8 h.q fun En σ H h=>by
 obtain ⟨H0,ν,ρ,Dd,Xd,S,h1,ok,x⟩:=h;exact ⟨H0,_,_,Dd,Xd,S.frz1 i,h1,ok,x⟩⟩
def B9b (C:Addr) (t:TDA):L9:=fun _ ρ Xd=>t ρ (fun ds _=>ds.length<=1000/\Xd C) Xd
theorem U8 {x:Str} {C:Addr} {e0:Expr} {es:List Expr} {t:TDA} {np cpos:Pos} (hx:A3i X E) (hc:X.calm=true) (c:W3 X.K X.mg x C) (hg:Gl X x) (ha:DA X K E (e0::es) t) (hdb:(x==("__debug__":Str))=false:=by decide)
  (he:starEach (e0::es) X.env=(false,eval e0 X.env)::starEach es X.env:=by rfl) (hpl:(backTo cpos (starEach es X.env)).any (·.1)=false:=by rfl) :
  DS X K E (.Raise (some (.Call (.Name x np) (e0::es) [] cpos)) none pos) (B9b C t):=⟨M8 (B6a hx hc c hg ha.q hdb he hpl) fun En σ H h=>by
 obtain ⟨H0,ν,ρ,Dd,Xd,S,h1,ok,x⟩:=h;refine ⟨H0,ν,ρ,_,Xd,S,h1,fun ds k vs H' g1 g2 g3=>?_,x⟩;exact ⟨by rw [g3.dens.length];exact Nat.le_trans g1.1 (by decide),x C H' g1.2 (S.sm.trans g2)⟩⟩
def D1d (tc:Y3) (tb:L9):L9:=fun Dd ρ Xd=>∃ W:Nat->C5->Prop,(∃ m,W m ρ)/\∀ m ρ,W m ρ->tc ρ (fun b=>if b=true then tb { Dd with nx:=fun ρ'=>∃ m',m' < m/\W m' ρ',ct:=fun ρ'=>∃ m',m' < m/\W m' ρ',bk:=Dd.nx } ρ Xd else Dd.nx ρ) Xd
theorem A5s {body:List Stmt} {tb:L9} (hp:PassesOwn (model X.prog X.w) X.A X.env X.xe) (hc:DT X K E c tA) (hb:DSs X K E body tb):DS X K E (.While c body [] pos) (D1d tA tb):=⟨M8 (B5y hp hc.q hb.q) fun En σ H h=>by
 obtain ⟨H0,ν,ρ,Dd,Xd,S,⟨W,⟨m0,w0⟩,turn⟩,ok,x⟩:=h;refine ⟨fun m σ H=>∃ ν ρ,B7 K Z0 H0 ν ρ σ H/\W m ρ,⟨m0,ν,ρ,S,w0⟩,?_⟩;rintro m σ1 H1 ⟨ν1,ρ1,S1,w1⟩;refine ⟨H0,ν1,ρ1,_,Xd,S1,turn m ρ1 w1,fun b H' g1 g2=>?_,x⟩;cases b with
 | true =>
  rw [if_pos rfl] at g1 ⊢;refine ⟨fun σ' H'=>∃ m',m' < m/\∃ ν ρ,B7 K Z0 H0 ν ρ σ' H'/\W m' ρ,fun σ' H' z=>z,H0,ν1,ρ1,_,Xd,S1.same g2,g1,⟨fun ν ρ σ H a S=>?_,fun ν ρ σ H a S=>ok.nx ν ρ σ H a S,fun ν ρ σ H a S=>?_,ok.rt⟩,x⟩
  ·obtain ⟨m',hm,w'⟩:=a;exact ⟨m',hm,ν,ρ,S,w'⟩
  ·obtain ⟨m',hm,w'⟩:=a;exact ⟨m',hm,ν,ρ,S,w'⟩
 | false =>
  rw [if_neg Bool.false_ne_true] at g1 ⊢;exact ok.nx _ _ _ _ g1 (S1.same g2)⟩
end
abbrev TGD:=D->C5->(C5->Prop)->Prop
abbrev A5i:=List D->C5->(C5->Prop)->Prop
def Q6 (ρ:C5):Prop:=∀ (i:Nat) d,ρ[i]?≠some (some (true,d))
theorem B5r {ρ:C5} (h:Q6 ρ) (i:Nat) (d:D):Q6 (ρ.set i (some (false,d))):=fun j e z=>by
 rcases O8 z with ⟨_,z,_⟩|⟨_,z⟩
 ·cases z
 ·exact h j e z
def Agr (T:List Nat) (ρ ρ':C5):Prop:=ρ'.length=ρ.length/\∀ i,i∉T->ρ'[i]?=ρ[i]?
def D6l (K:W.Frag) (g:TG) (T:List Nat) (bnd:TGD):Prop:=∀ (H0:Hp) (ν:Nat->List Addr) (ρ:C5) (σ:L2.St) (H:Hp) (v:V) (d:D) (Qd:C5->Prop) (Q:L2.St->Hp->Prop),B7 K Z0 H0 ν ρ σ H->Dn K (N4 (Hd Z0 ν) H) v d->bnd d ρ Qd ->
 (∀ ρ' σ',Qd ρ'->B7 K Z0 H0 ν ρ' σ' H->Agr T ρ ρ'->(Q6 ρ->Q6 ρ')->Q σ' H)->g v σ H Q
def C94 (K:W.Frag) (g:TGs) (T:List Nat) (bnd:A5i):Prop:=∀ (H0:Hp) (ν:Nat->List Addr) (ρ:C5) (σ:L2.St) (H:Hp) (vs:List V) (ds:List D) (Qd:C5->Prop) (Q:L2.St->Hp->Prop),B7 K Z0 H0 ν ρ σ H->Dns K (N4 (Hd Z0 ν) H) vs ds->bnd ds ρ Qd ->
 (∀ ρ' σ',Qd ρ'->B7 K Z0 H0 ν ρ' σ' H->Agr T ρ ρ'->(Q6 ρ->Q6 ρ')->Q σ' H)->g vs σ H Q
structure DG (X:Cx) (K:W.Frag) (tg:Expr) (T:List Nat) (bnd:TGD):Prop where
 ex:∃ g,QG X tg g/\D6l K g T bnd
structure DGs (X:Cx) (K:W.Frag) (tg:List Expr) (T:List Nat) (bnd:A5i):Prop where
 ex:∃ g,QGs X tg g/\C94 K g T bnd
def C80 (i:Nat):TGD:=fun d ρ Q=>Q (ρ.set i (some (false,d)))
def D7r:A5i:=fun ds ρ Q=>ds=[]/\Q ρ
def C7b (b:TGD) (bs:A5i):A5i:=fun ds ρ Q=>match ds with
 | d::r=>b d ρ fun ρ'=>bs r ρ' Q
 | []=>False
def C8n (n:Nat) (bs:A5i):TGD:=fun d ρ Q=>match d with
 | .tuple ds=>ds.length=n/\bs ds ρ Q
 | _=>False
section
variable {X:Cx} {K:W.Frag} {pos:Pos}
theorem Agr.trans {T U:List Nat} {a b c:C5} (h:Agr T a b) (g:Agr U b c):Agr (T++U) a c:=⟨g.1.trans h.1,fun i hi=>by
 rw [mem_append,not_or] at hi;rw [g.2 i hi.2,h.2 i hi.1]⟩
theorem M7 (i:Nat) {x:Str} (hN:X.N.Nodup) (hi:X.N[i]?=some x:=by rfl) (hx:Loc X.env.scope x:=by first|exact Or.inl rfl|exact Or.inr rfl) (hf:X.fn x=true\/X.env.scope.names.lookup x=some .local:=by first|exact .inl rfl|exact .inr rfl|assumption):DG X K (.Name x pos) [i] (C80 i) :=
 ⟨_,V7 i hN hi hx hf,fun H0 ν ρ σ H v d Qd Q S h b q=>q _ _ b (S.setOld i h) ⟨length_set,fun j hj=>List.getElem?_set_ne (by simpa using Ne.symm (by simpa using hj))⟩ fun n=>B5r n i d⟩
theorem C23:DGs X K [] [] D7r:=⟨_,Q3,fun H0 ν ρ σ H vs ds Qd Q S h b q=>by
 obtain ⟨rfl,b⟩:=b;cases h;exact ⟨rfl,q _ _ b S ⟨rfl,fun _ _=>rfl⟩ id⟩⟩
theorem A5n {e:Expr} {es:List Expr} {T U:List Nat} {b:TGD} {bs:A5i} (h1:DG X K e T b) (h2:DGs X K es U bs) (hs:(assignEach (e::es) X.env).map (·.2)=assign e X.env::(assignEach es X.env).map (·.2):=by rfl):DGs X K (e::es) (T++U) (C7b b bs):=by
 obtain ⟨g,q1,o1⟩:=h1.ex;obtain ⟨gs,q2,o2⟩:=h2.ex;refine ⟨_,E2 q1 q2 hs,fun H0 ν ρ σ H vs ds Qd Q S h b q=>?_⟩;cases h with
 | nil=>exact b.elim
 | cons h r =>
  refine ⟨_,_,rfl,o1 H0 ν ρ σ H _ _ _ _ S h b fun ρ' σ' b' S' A n1=>?_⟩;exact o2 H0 ν ρ' σ' H _ _ _ _ S' r b' fun ρ'' σ'' b'' S'' A' n2=>q _ _ b'' S'' (A.trans A') fun n=>n2 (n1 n)
theorem C75 (n:Nat) {es:List Expr} {k:Nat} {T:List Nat} {bs:A5i} (hK:X.K=K) (hc:X.calm=true) (h:DGs X K es T bs) (hn:(assignEach es X.env).length=n) (hst:(assignEach es X.env).findIdx? (·.1)=none):DG X K (.Tuple es k pos) T (C8n n bs):=by
 obtain ⟨gs,q1,o1⟩:=h.ex;refine ⟨_,A43 K n hK hc q1 hn hst,fun H0 ν ρ σ H v d Qd Q S h b q=>?_⟩;unfold C8n at b;split at b
 ·obtain ⟨a,us,rfl,g1,g2⟩:=J4 h;exact ⟨a,us,rfl,A7.tup D4 g1,by rw [g2.length];exact b.1,o1 H0 ν ρ σ H _ _ _ _ S g2 b.2 q⟩
 ·exact b.elim
end
def A8c (K:W.Frag) (F0:Hp) (J:It) (ds:List D):Prop:=∀ (W:Addr->Prop) (H2:Hp),(∀ a,W a->Mu H2 a)->A7 F0 (N4 W H2) ->
 J.stop ds.length H2/\∀ i d,ds[i]?=some d->J.go i H2/\∀ x H',J.yld i H2 x H'->A7 H2 H'/\Dn K (N4 W H') x d
abbrev TDI:=C5->(List D->Bool->Prop)->XD->Prop
noncomputable def fz (b:Bool) (ν:Nat->List Addr) (H:Hp):Hp:=if b=true then N4 (Hd Z0 ν) H else H
def LI (K:W.Frag) (E:XK) (t:TDI):TI:=fun σ H R=>∃ H0 ν ρ Qd Xd,B7 K Z0 H0 ν ρ σ H/\t ρ Qd Xd/\(∀ ds b J H1,Qd ds b->A7 H H1->A8c K (fz b ν H1) J ds->R J H1)/\∀ C H',Xd C->A7 H0 H'->E (.ref C) none H'
structure DI (X:Cx) (K:W.Frag) (E:XK) (tg e:Expr) (t:TDI):Prop where
 q:QI X tg e (LI K E t)
theorem A42 {X:Cx} {tg e:Expr} {t t':TI} (h:QI X tg e t) (i:∀ σ H Q,t' σ H Q->t σ H Q):QI X tg e t':=⟨fun pins s σ H Q I w=>h.h pins s σ H Q I (i σ H Q w)⟩
section
variable {X:Cx} {K:W.Frag} {E:XK} {pos:Pos} {tg l:Expr} {te:TD} {ta:TDA}
theorem B76 {F0:Hp} {a:Addr} {us:List V} {ds:List D} (h:F0 a=some (.lst us)) (r:Dns K F0 us ds):A8c K F0 (Itl K a) ds:=fun W H2 hl sm=>by
 have h2:H2 a=some (.lst us):=(G5 (sm _ _ h)).1;refine ⟨⟨us,L4.of h2,by rw [r.length];exact Nat.le_refl _⟩,fun i d hd=>?_⟩;obtain ⟨u,h3,h4⟩:=r.get hd;refine ⟨⟨us,u,L4.of h2,h3⟩,fun x H' y=>?_⟩;obtain ⟨rfl,y⟩:=y;have:=y us (L4.of h2);rw [h3] at this;cases this;exact ⟨A7.refl _,Dn.same sm h4⟩
theorem C2v {F0:Hp} {a:Addr} {us:List V} {ds:List D} (h:R4 K F0 a us) (r:Dns K F0 us ds):A8c K F0 (Itt K a) ds:=fun W H2 hl sm=>by
 have h2:R4 K H2 a us:=A7.tup D4 (A7.tup sm h);refine ⟨⟨us,h2,by rw [r.length];exact Nat.le_refl _⟩,fun i d hd=>?_⟩;obtain ⟨u,h3,h4⟩:=r.get hd;refine ⟨⟨us,u,h2,h3⟩,fun x H' y=>?_⟩;obtain ⟨rfl,y⟩:=y;have:=y us h2;rw [h3] at this;cases this;exact ⟨A7.refl _,Dn.same sm h4⟩
theorem C03 {ν:Nat->List Addr} {Hs H:Hp} {k:Kd} {v:V} {d:D} (hl:∀ a,Hd Z0 ν a->Mu H a) (hn:∀ a,Hd Z0 ν a->Mu Hs a) (h:R3 K Z0 ν Hs H k v d):Dn K (fz k.isOld ν H) v d:=by
 unfold fz;split
 ·exact h.old hl hn ‹_›
 ·exact h.den
def iL (te:TD):TDI:=fun ρ Q Xd=>te ρ (fun d k=>match d with
 | .list ds=>Q ds k.isOld
 | _=>False) Xd
theorem E6 (hK:X.K=K) (hl:DE X K E l te):DI X K E tg l (iL te):=⟨A42 (A67 K hK hl.q) fun σ H R h=>by
 obtain ⟨H0,ν,ρ,Qd,Xd,S,h1,q,x⟩:=h;refine ⟨H0,ν,ρ,_,Xd,S,h1,fun d k v H' g1 g2 g3=>?_,x⟩;cases d with
 | list ds =>
  have hf:=C03 (S.same g2).hl S.hl g3;obtain ⟨a,us,rfl,q1,q2⟩:=D3 hf;have q0:H' a=some (.lst us):=by unfold fz at q1;split at q1;exact (G5 q1).1;exact q1
  exact ⟨a,rfl,⟨us,L4.of q0⟩,q ds _ _ H' g1 g2 (B76 q1 q2)⟩
 | _=>exact g1.elim⟩
def iT (te:TD):TDI:=fun ρ Q Xd=>te ρ (fun d k=>match d with
 | .tuple ds=>Q ds k.isOld
 | _=>False) Xd
theorem A3m (hK:X.K=K) (hl:DE X K E l te):DI X K E tg l (iT te):=⟨A42 (B85 K hK hl.q) fun σ H R h=>by
 obtain ⟨H0,ν,ρ,Qd,Xd,S,h1,q,x⟩:=h;refine ⟨H0,ν,ρ,_,Xd,S,h1,fun d k v H' g1 g2 g3=>?_,x⟩;cases d with
 | tuple ds =>
  have hf:=C03 (S.same g2).hl S.hl g3;obtain ⟨a,us,rfl,q1,q2⟩:=J4 hf;have q0:R4 K H' a us:=by unfold fz at q1;split at q1;exact A7.tup D4 q1;exact q1
  exact ⟨a,rfl,⟨us,q0⟩,q ds _ _ H' g1 g2 (C2v q1 q2)⟩
 | _=>exact g1.elim⟩
def A3c (lo:Int) (n:Nat):List D:=(List.range n).map fun (i:Nat)=>PyData.int (lo+i)
theorem B9j {F0:Hp} {lo:Int} {n:Nat}:A8c K F0 (Itr lo n) (A3c lo n):=fun W H2 hl sm=>by
 refine ⟨?_,fun i d hd=>?_⟩
 ·show n<=_;unfold A3c;rw [length_map,length_range];exact Nat.le_refl _
 ·unfold A3c at hd;rw [List.getElem?_map] at hd;cases e:(List.range n)[i]? with
  | none=>rw [e] at hd;cases hd
  | some j =>
   rw [e] at hd;cases hd;obtain ⟨h1,h2⟩:=List.getElem?_eq_some_iff.mp e;rw [List.getElem_range] at h2;subst h2;rw [length_range] at h1;refine ⟨h1,fun x H' y=>?_⟩;obtain ⟨rfl,rfl⟩:=y;exact ⟨A7.refl _,.int _⟩
def iR1 (ta:TDA):TDI:=fun ρ Q Xd=>ta ρ (fun ds _=>match ds with
 | [.int j]=>-(2 ^ 62)<=j/\j < 2 ^ 62/\Q (A3c 0 j.toNat) true
 | _=>False) Xd
theorem K6 {a:Expr} {p:Pos} (hg:Gl X "range") (hm:X.mg "range"=none) (ha:DA X K E [a] ta) (hs:starEach [a] X.env=[(false,eval a X.env)]:=by rfl):DI X K E tg (.Call (.Name "range" p) [a] [] pos) (iR1 ta):=⟨A42 (B38 hg hm ha.q hs) fun σ H R h=>by
 obtain ⟨H0,ν,ρ,Qd,Xd,S,h1,q,x⟩:=h;refine ⟨H0,ν,ρ,_,Xd,S,h1,fun ds k vs H' g1 g2 g3=>?_,x⟩;split at g1
 ·obtain ⟨v,rfl,h2⟩:=Z8 g3.dens;exact ⟨_,by rw [W1 h2],g1.1,g1.2.1,q _ _ _ H' g1.2.2 g2 B9j⟩
 ·exact g1.elim⟩
theorem C8v {ν:Nat->List Addr} {Hs H:Hp} {k:Kd} {vs:List V} {ds:List D} (hl:∀ a,Hd Z0 ν a->Mu H a) (hn:∀ a,Hd Z0 ν a->Mu Hs a) (h:RsL K Z0 ν Hs H k vs ds):Dns K (fz k.isOld ν H) vs ds:=by
 unfold fz;split
 ·exact h.old0 hl hn ‹_›
 ·exact h.dens
theorem C9b {b:Bool} {ν:Nat->List Addr} {H:Hp} {a:Addr} {us:List V} (h:fz b ν H a=some (.lst us)):H a=some (.lst us):=by
 unfold fz at h;split at h
 ·exact (G5 h).1
 ·exact h
def R9:Nat->List D->List D
 | _,[]=>[]
 | i,d::r=>.tuple [.int i,d]::R9 (i+1) r
theorem A0h:∀ {n i:Nat} {ds:List D} {x:D},(R9 n ds)[i]?=some x->∃ d,ds[i]?=some d/\x=.tuple [.int ((n+i:Nat):Int),d]
 | n,0,d::r,x,h=>by simp [R9] at h;exact ⟨d,rfl,h.symm⟩
 | n,i+1,d::r,x,h=>by
  simp [R9] at h;obtain ⟨e,h1,h2⟩:=A0h h;exact ⟨e,by simpa using h1,by rw [h2];simp;omega⟩
 | n,i,[],x,h=>by simp [R9] at h
theorem U7:∀ (n:Nat) (ds:List D),(R9 n ds).length=ds.length
 | _,[]=>rfl
 | n,d::r=>by simp [R9,U7 (n+1) r]
theorem C5q {W:Addr->Prop} {H:Hp} {p:Addr} {vs:List V} {ds:List D} (hl:∀ a,W a->Mu H a) (hp:H p=none) (h:Dns K (N4 W H) vs ds):A7 H (upd H p (.tup vs))/\Dn K (N4 W (upd H p (.tup vs))) (.ref p) (.tuple ds):=by
 have hz:¬ W p:=fun z=>by obtain ⟨us,q⟩:=hl p z;rw [hp] at q;cases q
 exact ⟨A7.new hp,.tup (R4.of (D5 B3 hz)) (Dns.same (U4 (A7.new hp)) h)⟩
theorem B5d {F0:Hp} {a:Addr} {us:List V} {ds:List D} (h:F0 a=some (.lst us)) (r:Dns K F0 us ds):A8c K F0 (Ite K a) (R9 0 ds):=fun W H2 hl sm=>by
 have h2:H2 a=some (.lst us):=(G5 (sm _ _ h)).1;refine ⟨⟨us,L4.of h2,by rw [r.length,U7];exact Nat.le_refl _⟩,fun i d hd=>?_⟩;obtain ⟨e,hd2,rfl⟩:=A0h hd;obtain ⟨u,h3,h4⟩:=r.get hd2;refine ⟨⟨us,u,L4.of h2,h3⟩,fun x H' y=>?_⟩;obtain ⟨p,z,hp,hy,rfl,rfl⟩:=y;have:=hy us (L4.of h2);rw [h3] at this;cases this;refine C5q hl hp (.cons ?_ (.cons (Dn.same sm h4) .nil));rw [Nat.zero_add];exact .int _
def iEn (ta:TDA):TDI:=fun ρ Q Xd=>ta ρ (fun ds k=>match ds with
 | [.list xs]=>Q (R9 0 xs) k.isOld
 | _=>False) Xd
theorem A92 {a:Expr} {p:Pos} {elts:List Expr} {x1} {tp:Pos} (hK:X.K=K) (hg:Gl X "enumerate") (hm:X.mg "enumerate"=none) (ha:DA X K E [a] ta) (hs:starEach [a] X.env=[(false,eval a X.env)]):DI X K E (.Tuple elts x1 tp) (.Call (.Name "enumerate" p) [a] [] pos) (iEn ta):=⟨A42 (B6o K hK hg hm ha.q hs) fun σ H R h=>by
 obtain ⟨H0,ν,ρ,Qd,Xd,S,h1,q,x⟩:=h;refine ⟨H0,ν,ρ,_,Xd,S,h1,fun ds k vs H' g1 g2 g3=>?_,x⟩;split at g1
 ·obtain ⟨v,rfl,h2⟩:=Z8 (C8v (S.same g2).hl S.hl g3);obtain ⟨a,us,rfl,q1,q2⟩:=D3 h2;exact ⟨a,rfl,⟨us,L4.of (C9b q1)⟩,q _ _ _ H' g1 g2 (B5d q1 q2)⟩
 ·exact g1.elim⟩
def D51 (ti:TDI) (bnd:TGD) (tb:L9):L9:=fun Dd ρ Xd=>ti ρ (fun ds b=>b=true/\∃ W:Nat->C5->Prop,W 0 ρ/\(∀ i d ρ,ds[i]?=some d->W i ρ->bnd d ρ fun ρ'=>tb { Dd with nx:=W (i+1),ct:=W (i+1),bk:=Dd.nx } ρ' Xd)/\∀ ρ,W ds.length ρ->Dd.nx ρ) Xd
theorem J2 {iter:Expr} {body:List Stmt} {ti:TDI} {T:List Nat} {bnd:TGD} {tb:L9} (hp:PassesOwn (model X.prog X.w) X.A X.env X.xe) (hc:X.calm=true) (hi:DI X K E tg iter ti) (hg:DG X K tg T bnd) (hb:DSs X K E body tb) (hs:∀ x,foldedSetIterable iter X.env x=pure x:=by intro _;rfl) :
  DS X K E (.For tg iter body [] pos) (D51 ti bnd tb):=by
 obtain ⟨g,qg,og⟩:=hg.ex;refine ⟨M8 (A72 hp hc hi.q qg hb.q hs) fun En σ H h=>?_⟩;obtain ⟨H0,ν,ρ,Dd,Xd,S,h1,ok,x⟩:=h;refine ⟨H0,ν,ρ,_,Xd,S,h1,fun ds b J H1 g1 e1 it=>?_,x⟩;obtain ⟨rfl,W,w0,step,done⟩:=g1;have S1:=(S.same e1).high;have eb:A7 H0 (N4 (Hd Z0 ν) H1):=(S.same e1).base;have ok1:=ok.high eb;have x1:∀ C H',Xd C->A7 (N4 (Hd Z0 ν) H1) H'->E (.ref C) none H':=fun C H' a b=>x C H' a (eb.trans b);have it:A8c K (N4 (Hd Z0 ν) H1) J ds:=it;refine ⟨fun i m σ H=>m=ds.length - i/\i<=ds.length/\∃ ν' ρ',B7 K Z0 (N4 (Hd Z0 ν) H1) ν' ρ' σ H/\W i ρ',⟨ds.length,by simp,Nat.zero_le _,ν,ρ,S1,w0⟩,?_⟩;rintro i m σ2 H2 ⟨rfl,hi,ν2,ρ2,S2,w2⟩;obtain ⟨i1,i2⟩:=it (Hd Z0 ν2) H2 S2.hl S2.base;by_cases hlt:i < ds.length
 ·obtain ⟨j1,j2⟩:=i2 i ds[i] (List.getElem?_eq_getElem hlt);refine .inr ⟨j1,fun σ' H'=>∃ ν' ρ',B7 K Z0 (N4 (Hd Z0 ν) H1) ν' ρ' σ' H'/\W (i+1) ρ',fun σ' H' ⟨ν',ρ',S',w'⟩=>⟨_,by omega,rfl,hlt,ν',ρ',S',w'⟩,fun y H' hy=>?_⟩;obtain ⟨k1,k2⟩:=j2 y H' hy;refine og _ ν2 ρ2 σ2 H' y _ _ _ (S2.same k1) k2 (step i _ ρ2 (List.getElem?_eq_getElem hlt) w2) fun ρ3 σ3 b3 S3 A _=>?_;exact ⟨_,ν2,ρ3,_,Xd,S3,b3,⟨fun ν ρ σ H a S=>⟨ν,ρ,S,a⟩,fun ν ρ σ H a S=>ok1.nx ν ρ σ H a S,fun ν ρ σ H a S=>⟨ν,ρ,S,a⟩,ok1.rt⟩,x1⟩
 ·have e:i=ds.length:=by omega
  subst e;exact .inl ⟨i1,ok1.nx _ _ _ _ (done ρ2 w2) S2⟩
end
abbrev P5:=List (D × Bool)
abbrev TB:=C5->P5->(P5->Prop)->Prop
def Xf:XD:=fun _=>False
structure In (K:W.Frag) (Hs Hm H0:Hp) (ν:Nat->List Addr) (acc:Addr) (ρ:C5) (σ:L2.St) (H:Hp) (es:P5):Prop where
 st:B7 K Z0 H0 ν ρ σ H
 sm:A7 Hm H
 nm:Hm acc=none
 hs:∃ o,Hs acc=some o
 sh:∀ a,H a=none->Hs a=none
 hd:∃ j,acc∈ν j
 no:Q6 ρ
 ac:∃ us,H acc=some (.lst us)/\Dns K (N4 (Hd Z0 ν) H) us (es.map (·.1))/\(es.all (·.2)=true->∃ ms,Ows K H us (es.map (·.1)) ms/\ms.Nodup/\∀ a∈ms,Hs a=none)
section
variable {K:W.Frag} {Hs Hm H0 H H':Hp} {ν:Nat->List Addr} {acc:Addr} {ρ ρ':C5} {σ:L2.St} {es:P5}
theorem In.same (I:In K Hs Hm H0 ν acc ρ σ H es) (e:A7 H H'):In K Hs Hm H0 ν acc ρ σ H' es:=by
 obtain ⟨us,h1,h2,h3⟩:=I.ac;refine ⟨I.st.same e,I.sm.trans e,I.nm,I.hs,fun a h=>I.sh a (e.gone h),I.hd,I.no,us,e _ _ h1,Dns.same (U4 e) h2,fun q=>?_⟩;obtain ⟨ms,g1,g2,g3⟩:=h3 q;exact ⟨ms,g1.same e,g2,g3⟩
theorem In.ren {σ':L2.St} (I:In K Hs Hm H0 ν acc ρ σ H es) (S:B7 K Z0 H0 ν ρ' σ' H) (no:Q6 ρ'):In K Hs Hm H0 ν acc ρ' σ' H es:=⟨S,I.sm,I.nm,I.hs,I.sh,I.hd,no,I.ac⟩
theorem A3v {vs:List V} {ds:List D} {v:V} {d:D} {ns ms:List Addr} (h:Ow K H v d ns) (r:Ows K H vs ds ms):Ows K H (vs++[v]) (ds++[d]) (ms++ns):=by
 induction vs generalizing ds ms with
 | nil =>
  cases r;rw [List.nil_append,List.nil_append,List.nil_append];have:=Ows.cons h (.nil (K:=K) (H:=H));rw [append_nil] at this;exact this
 | cons u us ih =>
  cases r with
  | cons a b=>rw [append_assoc];exact .cons a (ih b)
theorem B7.updH {ws:List V} (S:B7 K Z0 H0 ν ρ σ H) (hd:∃ j,acc∈ν j) (no:Q6 ρ):B7 K Z0 H0 ν ρ σ (upd H acc (.lst ws)) where
 sm:=by obtain ⟨j,hj⟩:=hd;exact S.sm.put (S.fr j acc hj).1
 len:=S.len
 sl:=fun i b d h=>by
  obtain ⟨v,h1,h2⟩:=S.sl i b d h;refine ⟨v,h1,?_⟩;cases b with
  | true=>exact absurd h (no i d)
  | false =>
   refine Dn.same (fun a o ha=>?_) h2;obtain ⟨g1,g2⟩:=G5 ha;have:a≠acc:=fun z=>g2 (.inr (by rw [z];exact hd));exact D5 (by rw [B1 this];exact g1) g2
 nd:=S.nd
 dj:=S.dj
 fr:=fun i a h=>by
  obtain ⟨g1,g2,us,g3⟩:=S.fr i a h;by_cases z:a=acc
  ·subst z;exact ⟨g1,g2,Mu.lst B3⟩
  ·exact ⟨g1,g2,us,by rw [B1 z];exact g3⟩
 zf:=fun a h=>h.elim
theorem In.emit {He:Hp} {k:Kd} {v:V} {d:D} (I:In K Hs Hm H0 ν acc ρ σ H es) (e:A7 H H') (r:R3 K Z0 ν H H' k v d) (hk:(if flat d=true then Kd.own [] else k).isOld=true) (b:Bool) (hb:b=true->(if flat d=true then Kd.own [] else k)=.own []) :
  ∃ us,H' acc=some (.lst us)/\us.length=es.length/\In K Hs Hm H0 ν acc ρ σ (upd H' acc (.lst (us++[v]))) (es++[(d,b)]):=by
 have I':=I.same e;obtain ⟨us,h1,h2,h3⟩:=I'.ac;have hl:=I'.st.hl;have r':R3 K Z0 ν H H' (if flat d=true then Kd.own [] else k) v d:=by
  split
  ·exact R3.flat r.den ‹_› hl _
  ·exact r
 generalize (if flat d=true then Kd.own [] else k)=k' at hk hb r';refine ⟨us,h1,by rw [h2.length,length_map],I'.st.updH I'.hd I'.no,I'.sm.put I'.nm,I'.nm,I'.hs,fun a h=>?_,I'.hd,I'.no,us++[v],B3,?_,fun q=>?_⟩
 ·by_cases z:a=acc
  ·subst z;rw [B3] at h;cases h
  ·rw [B1 z] at h;exact I'.sh a h
 ·rw [map_append];have ho:=r'.old hl I.st.hl hk;have all:Dns K (N4 (Hd Z0 ν) H') (us++[v]) (es.map (·.1)++[d]):=h2.append (.cons ho .nil);refine Dns.same (fun a o ha=>?_) all;obtain ⟨g1,g2⟩:=G5 ha;have:a≠acc:=fun z=>g2 (.inr (by rw [z];exact I'.hd));exact D5 (by rw [B1 this];exact g1) g2
 ·rw [List.all_append,Bool.and_eq_true] at q;obtain ⟨q1,q2⟩:=q;have hb':=hb (by simpa using q2);subst hb';obtain ⟨ms,g1,g2,g3⟩:=h3 q1;obtain ⟨ns,k1,k2,k3⟩:=r';have frn:∀ a∈ns,H a=none:=fun a ha=>by
   rcases k3 a ha with z|⟨j,z,_⟩
   ·exact z
   ·cases z
  obtain ⟨us0,_,_,h30⟩:=I.ac;obtain ⟨ms0,g10,g20,g30⟩:=h30 q1;refine ⟨ms0++ns,?_,nodup_append.mpr ⟨g20,k2,fun x hx y hy e'=>?_⟩,fun a ha=>?_⟩
  ·have hu:us0=us:=by
    obtain ⟨us1,z1,_⟩:=I.ac;have z2:=e _ _ z1;rw [h1] at z2;cases z2;rename_i hh _;have:H acc=some (.lst us0):=by assumption
    rw [z1] at this;cases this;rfl
   subst hu;rw [map_append];have hacc:∀ a∈ms0++ns,a≠acc:=fun a ha z=>by
    obtain ⟨o,ho⟩:=I.hs;rcases mem_append.mp ha with ha|ha
    ·have:=g30 a ha;rw [z,ho] at this;cases this
    ·have:=I.sh a (frn a ha);rw [z,ho] at this;cases this
   refine (A3v k1 (g10.same e)).kept ⟨fun a ha=>B1 (hacc a ha),fun a o ha hn=>?_⟩;have:a≠acc:=fun z=>by rw [z,h1] at ha;cases ha;cases (show true=false from hn)
   rw [B1 this];exact ha
  ·subst e';obtain ⟨ws,z⟩:=g10.there x hx;rw [frn x hy] at z;cases z
  ·rcases mem_append.mp ha with ha|ha
   ·exact g30 a ha
   ·exact I.sh a (frn a ha)
end
def go (f:D->P5->(P5->Prop)->Prop):List D->P5->(P5->Prop)->Prop
 | [],es,Q=>Q es
 | d::r,es,Q=>f d es fun es'=>go f r es' Q
def LB (K:W.Frag) (acc:Addr) (T:List Nat) (tb:TB):TS:=fun En σ H=>∃ Hs Hm H0 ν ρ es Qd,In K Hs Hm H0 ν acc ρ σ H es/\tb ρ es Qd/\∀ es' ρ' σ' H',Qd es'->In K Hs Hm H0 ν acc ρ' σ' H' es'->Agr T ρ ρ'->En.nx σ' H'
def LG (K:W.Frag) (T:List Nat) (bnd:TGD):TG:=fun v σ H Q=>∃ H0 ν ρ d Qd,B7 K Z0 H0 ν ρ σ H/\Dn K (N4 (Hd Z0 ν) H) v d/\bnd d ρ Qd/\∀ ρ' σ',Qd ρ'->B7 K Z0 H0 ν ρ' σ' H->Agr T ρ ρ'->(Q6 ρ->Q6 ρ')->Q σ' H
structure DB (Y:Cx) (K:W.Frag) (elt:Expr) (gens:List Comprehension) (scope:Scope) (pos:Pos) (d:Nat) (acc:Addr) (T:List Nat) (tb:TB):Prop where
 q:QB Y elt gens scope pos d acc (LB K acc T tb)
structure DTs (Y:Cx) (K:W.Frag) (ifs:List Expr) (t:Y3):Prop where
 q:QTs Y ifs (LT K E0 t)
theorem C98 {X:Cx} {e:Expr} {g g':TG} (h:QG X e g) (i:∀ v σ H Q,g' v σ H Q->g v σ H Q):QG X e g':=⟨fun pins s σ H x u Q I r w=>h.h pins s σ H x u Q I r (i x σ H Q w)⟩
theorem C04 {Y:Cx} {elt:Expr} {gens:List Comprehension} {scope:Scope} {pos:Pos} {d:Nat} {acc:Addr} {t t':TS} (h:QB Y elt gens scope pos d acc t) (i:∀ En σ H,t' En σ H->t En σ H):QB Y elt gens scope pos d acc t':=⟨fun pins s σ H D I w=>h.h pins s σ H D I (i D σ H w)⟩
theorem DG.lift {X:Cx} {K:W.Frag} {tg:Expr} {T:List Nat} {bnd:TGD} (h:DG X K tg T bnd):QG X tg (LG K T bnd):=by
 obtain ⟨g,q,o⟩:=h.ex;refine C98 q fun v σ H Q w=>?_;obtain ⟨H0,ν,ρ,d,Qd,S,h1,h2,h3⟩:=w;exact o H0 ν ρ σ H v d Qd Q S h1 h2 h3
def C8b:Y3:=fun _ Q _=>Q true
def A2g:Kd->Bool
 | .own []=>true
 | _=>false
def eff (d:D) (k:Kd):Kd:=if flat d=true then Kd.own [] else k
def C88 (te:TD):TB:=fun ρ es Q=>te ρ (fun d k=>es.length < 1000000/\(eff d k).isOld=true/\Q (es++[(d,A2g (eff d k))])) Xf
def D7e (ti:TDI) (T:List Nat) (bnd:TGD) (tif:Y3) (tb:TB):TB:=fun ρ es Q=>ti ρ (fun ds b=>b=true/\go (fun d es Q'=>bnd d (D9 ρ T) fun ρ'=>tif ρ' (fun c=>if c=true then tb ρ' es Q' else Q' es) Xf) ds es Q) Xf
section
variable {Y:Cx} {K:W.Frag} {pos:Pos} {elt:Expr} {gens:List Comprehension} {scope:Scope} {dep:Nat} {acc:Addr}
theorem G9:DTs Y K [] C8b:=⟨⟨fun pins s σ H Q I h=>B87.h pins s σ H Q I (by
 obtain ⟨H0,ν,ρ,Qd,Xd,S,h1,q,x⟩:=h;exact q _ _ h1 (A7.refl H))⟩⟩
theorem A1k {c:Expr} {t:Y3} (h:DT Y K E0 c t):DTs Y K [c] t:=⟨B8v h.q⟩
theorem G8 {te:TD} (hg:gens[dep+1]?=none) (hx:Y.xe=fun _ _=>False) (he:DE Y K E0 elt te):DB Y K elt gens scope pos dep acc [] (C88 te):=⟨C04 (A9b hg hx he.q) fun En σ H h=>by
 obtain ⟨Hs,Hm,H0,ν,ρ,es,Qd,I,h1,q⟩:=h;refine ⟨H0,ν,ρ,_,_,I.st,h1,fun d k v H' g1 g2 g3=>?_,fun C H' z _=>z.elim⟩;obtain ⟨g0,g4,g5⟩:=g1;obtain ⟨us,k1,k2,I'⟩:=I.emit (He:=H) g2 g3 g4 (A2g (eff d k)) (fun z=>by
  change eff d k=_;generalize eff d k=k' at z;unfold A2g at z;split at z
  ·rfl
  ·cases z)
 exact ⟨us,k1,by rw [k2];exact Nat.lt_of_lt_of_le g0 K5,q _ _ _ _ g5 I' ⟨rfl,fun _ _=>rfl⟩⟩⟩
theorem A4x {ρ:C5} {T:List Nat} (h:Q6 ρ):Q6 (D9 ρ T):=fun i d z=>h i d (V6 T z).2
theorem B7.agr {H0:Hp} {ν:Nat->List Addr} {ρ ρ':C5} {σ:L2.St} {H:Hp} {T:List Nat} (S:B7 K Z0 H0 ν ρ' σ H) (A:Agr T ρ ρ'):B7 K Z0 H0 ν (D9 ρ T) σ H :=
 ⟨S.sm,by rw [P6,S.len,A.1],fun i b d h=>by
  obtain ⟨h1,h2⟩:=V6 T h;exact S.sl i b d (by rw [A.2 i h1];exact h2),S.nd,S.dj,S.fr,S.zf⟩
theorem Agr.drop {ρ:C5} {T:List Nat}:Agr T ρ (D9 ρ T):=by
 refine ⟨P6 T ρ,fun i hi=>?_⟩
 induction T generalizing ρ with
 | nil=>rfl
 | cons j r ih =>
  rw [mem_cons,not_or] at hi;show (D9 (ρ.set j none) r)[i]?=_;rw [ih hi.2,List.getElem?_set_ne (Ne.symm hi.1)]
theorem Agr.same {ρ ρ' ρ'':C5} {T:List Nat} (h:Agr T ρ ρ') (g:Agr T ρ' ρ''):Agr T ρ ρ'':=⟨g.1.trans h.1,fun i hi=>by rw [g.2 i hi,h.2 i hi]⟩
theorem Agr.less {ρ ρ':C5} {T U:List Nat} (h:Agr T ρ ρ') (s:∀ i∈T,i∈U):Agr U ρ ρ':=⟨h.1,fun i hi=>h.2 i fun z=>hi (s i z)⟩
theorem In.low {Hs Hm H0 H1 H:Hp} {ν:Nat->List Addr} {ρ:C5} {σ:L2.St} {es:P5} (I:In K Hs Hm H1 ν acc ρ σ H es) (e:A7 H0 H1):In K Hs Hm H0 ν acc ρ σ H es:=⟨I.st.low e,I.sm,I.nm,I.hs,I.sh,I.hd,I.no,I.ac⟩
theorem In.high {Hs Hm H0 H:Hp} {ν:Nat->List Addr} {ρ:C5} {σ:L2.St} {es:P5} (I:In K Hs Hm H0 ν acc ρ σ H es):In K Hs Hm (N4 (Hd Z0 ν) H) ν acc ρ σ H es:=⟨I.st.high,I.sm,I.nm,I.hs,I.sh,I.hd,I.no,I.ac⟩
theorem In.agr {Hs Hm H0 H:Hp} {ν:Nat->List Addr} {ρ ρ':C5} {σ:L2.St} {es:P5} {T:List Nat} (I:In K Hs Hm H0 ν acc ρ' σ H es) (A:Agr T ρ ρ') (n:Q6 ρ):In K Hs Hm H0 ν acc (D9 ρ T) σ H es:=I.ren (I.st.agr A) (A4x n)
theorem B4j {Hs Hm H0 H F0:Hp} {ν:Nat->List Addr} {ρ:C5} {σ:L2.St} {es:P5} {J:It} {ds:List D} {T Tb:List Nat} {bnd:TGD} {tif:Y3} {tb:TB} {Qd:P5->Prop} {En:T1} (I:In K Hs Hm H0 ν acc ρ σ H es) (it:A8c K F0 J ds) (hf:A7 F0 H0) (hT:∀ i∈T,i∈T++Tb)
  (h:go (fun d es Q'=>bnd d (D9 ρ (T++Tb)) fun ρ'=>tif ρ' (fun c=>if c=true then tb ρ' es Q' else Q' es) Xf) ds es Qd)
  (q:∀ es' ρ' σ' H',Qd es'->In K Hs Hm H0 ν acc ρ' σ' H' es'->Agr (T++Tb) ρ ρ'->En.nx σ' H') :
  A30 J (LG K T bnd) (A57 (LT K E0 tif) (LB K acc Tb tb)) En σ H:=by
 refine ⟨fun i m σ H=>m=ds.length - i/\i<=ds.length/\∃ es,In K Hs Hm H0 ν acc (D9 ρ (T++Tb)) σ H es/\go (fun d es Q'=>bnd d (D9 ρ (T++Tb)) fun ρ'=>tif ρ' (fun c=>if c=true then tb ρ' es Q' else Q' es) Xf) (ds.drop i) es Qd,
  ⟨ds.length,by simp,Nat.zero_le _,es,I.ren (I.st.agr ⟨rfl,fun _ _=>rfl⟩) (A4x I.no),by simpa using h⟩,?_⟩
 rintro i m σ2 H2 ⟨rfl,hi,es2,I2,w2⟩;obtain ⟨i1,i2⟩:=it (Hd Z0 ν) H2 I2.st.hl (hf.trans I2.st.base);by_cases hlt:i < ds.length
 ·obtain ⟨j1,j2⟩:=i2 i ds[i] (List.getElem?_eq_getElem hlt);rw [List.drop_eq_getElem_cons hlt] at w2;have back:∀ es3 ρ3 σ3 H3,go (fun d es Q'=>bnd d (D9 ρ (T++Tb)) fun ρ'=>tif ρ' (fun c=>if c=true then tb ρ' es Q' else Q' es) Xf) (ds.drop (i+1)) es3 Qd->In K Hs Hm H0 ν acc ρ3 σ3 H3 es3->Agr (T++Tb) (D9 ρ (T++Tb)) ρ3 ->
    ∃ es,In K Hs Hm H0 ν acc (D9 ρ (T++Tb)) σ3 H3 es/\go (fun d es Q'=>bnd d (D9 ρ (T++Tb)) fun ρ'=>tif ρ' (fun c=>if c=true then tb ρ' es Q' else Q' es) Xf) (ds.drop (i+1)) es Qd:=fun es3 ρ3 σ3 H3 g3 I3 A3=>⟨es3,I3.agr (Agr.same Agr.drop A3) I.no,g3⟩
  refine .inr ⟨j1,fun σ' H'=>∃ es,In K Hs Hm H0 ν acc (D9 ρ (T++Tb)) σ' H' es/\go (fun d es Q'=>bnd d (D9 ρ (T++Tb)) fun ρ'=>tif ρ' (fun c=>if c=true then tb ρ' es Q' else Q' es) Xf) (ds.drop (i+1)) es Qd,fun σ' H' ⟨es',a,b⟩=>⟨_,by omega,rfl,hlt,es',a,b⟩,fun y H' hy=>?_⟩;obtain ⟨k1,k2⟩:=j2 y H' hy;refine ⟨H0,ν,_,_,_,(I2.same k1).st,k2,w2,fun ρ3 σ3 b3 S3 A3 n3=>?_⟩;have I3:=(I2.same k1).ren S3 (n3 I2.no);have A3':Agr (T++Tb) (D9 ρ (T++Tb)) ρ3:=A3.less hT;refine ⟨H0,ν,ρ3,_,_,S3,b3,fun c H4 g4 e4=>?_,fun C H' z _=>z.elim⟩;cases c with
  | true =>
   rw [if_pos rfl] at g4 ⊢;exact ⟨Hs,Hm,H0,ν,ρ3,es2,_,I3.same e4,g4,fun es5 ρ5 σ5 H5 g5 I5 A5=>back es5 ρ5 σ5 H5 g5 I5 (Agr.same A3' (A5.less fun i hi=>mem_append_right _ hi))⟩
  | false =>
   rw [if_neg Bool.false_ne_true] at g4 ⊢;exact back es2 ρ3 σ3 H4 g4 (I3.same e4) A3'
 ·have e:i=ds.length:=by omega
  subst e;rw [List.drop_length] at w2;exact .inl ⟨i1,q es2 _ σ2 H2 w2 I2 Agr.drop⟩
theorem C3n {tg iter:Expr} {ifs:List Expr} {ti:TDI} {T Tb:List Nat} {bnd:TGD} {tif:Y3} {tb:TB} (hgd:gens[dep+1]?=some ⟨tg,iter,ifs,0⟩) (hx:Y.xe=fun _ _=>False) (hc:Y.calm=true) (hs:∀ x,foldedSetIterable iter Y.env x=pure x) (hi:DI Y K E0 tg iter ti) (hg:DG Y K tg T bnd) (ht:DTs Y K ifs tif) (hb:DB Y K elt gens scope pos (dep+1) acc Tb tb) :
  DB Y K elt gens scope pos dep acc (T++Tb) (D7e ti (T++Tb) bnd tif tb):=⟨C04 (C6m hgd hx hc hs hi.q hg.lift ht.q hb.q) fun En σ H h=>by
 obtain ⟨Hs,Hm,H0,ν,ρ,es,Qd,I,h1,q⟩:=h;refine ⟨H0,ν,ρ,_,_,I.st,h1,fun ds b J H1 g1 e1 it=>?_,fun C H' z _=>z.elim⟩;obtain ⟨rfl,g1⟩:=g1;have I1:=I.same e1;exact B4j I1.high it (A7.refl _) (fun i hi=>mem_append_left _ hi) g1 fun es' ρ' σ' H' a I' A=>q es' ρ' σ' H' a (I'.low I1.st.base) A⟩
end
def A93 (own:List Str) (cap:List (Str × Nat)) (ρ:C5):C5:=own.map (fun _=>none)++cap.map fun p=>((ρ[p.2]?).join).map fun y=>(false,y.2)
def A6b (cap:List (Str × Nat)) (ρ:C5):Bool:=cap.all fun p=>match (ρ[p.2]?).join with
 | some (true,_)=>false
 | _=>true
def dLC (ti:TDI) (T:List Nat) (bnd:TGD) (tif:Y3) (tb:TB) (own:List Str) (cap:List (Str × Nat)):TD:=fun ρ Q Xd=>ti ρ (fun ds b =>
 go (fun d es Q'=>bnd d (D9 (A93 own cap ρ) T) fun ρ'=>tif ρ' (fun c=>if c=true then tb ρ' es Q' else Q' es) Xf) ds [] fun es=>Q (.list (es.map (·.1))) (if es.all (·.2)=true then .own [] else if (b&&A6b cap ρ)=true then .old else .mix)) Xd
section
variable {K:W.Frag}
theorem B0o {own:List Str} {cap:List (Str × Nat)} {ρ:C5} {i:Nat} {b:Bool} {d:D} (h:(A93 own cap ρ)[i]?=some (some (b,d))):b=false/\∃ p c,cap[i - own.length]?=some p/\own.length<=i/\ρ[p.2]?=some (some (c,d)):=by
 unfold A93 at h;by_cases hi:i < own.length
 ·rw [List.getElem?_append_left (by simpa using hi),List.getElem?_map] at h;cases e:own[i]? with
  | none=>rw [e] at h;cases h
  | some _=>rw [e] at h;cases h
 ·rw [List.getElem?_append_right (by simpa using Nat.le_of_not_lt hi),length_map,List.getElem?_map] at h;cases e:cap[i - own.length]? with
  | none=>rw [e] at h;cases h
  | some p =>
   rw [e] at h;simp only [Option.map_some,Option.some.injEq] at h;cases e2:ρ[p.2]? with
   | none=>rw [e2] at h;cases h
   | some x =>
    rw [e2] at h;cases x with
    | none=>cases h
    | some y=>cases h;exact ⟨rfl,p,y.1,rfl,Nat.le_of_not_lt hi,e2⟩
theorem B9w {own:List Str} {cap:List (Str × Nat)} {σ:L2.St} {i:Nat} {p:Str × Nat} {v:V} (h:cap[i - own.length]?=some p) (hi:own.length<=i) (hv:σ[p.2]?=some (some v)):(A4b own cap σ)[i]?=some (some v):=by
 unfold A4b;rw [List.getElem?_append_right (by simpa using hi),length_map,List.getElem?_map,h];simp [hv]
theorem C44 {own:List Str} {cap:List (Str × Nat)} {ρ:C5}:Q6 (A93 own cap ρ):=fun i d h=>by
 have:=(B0o h).1;cases this
def D0 (ok:Bool) (acc:Addr) (ν:Nat->List Addr):Nat->List Addr
 | 0=>[acc]
 | i+1=>if ok=true then ν i else []
theorem P7 {ok:Bool} {acc:Addr} {ν:Nat->List Addr} {i:Nat}:D0 ok acc ν (i+1)=if ok=true then ν i else []:=rfl
theorem B9v {own:List Str} {cap:List (Str × Nat)} {H0 H1:Hp} {ν:Nat->List Addr} {ρ:C5} {σ:L2.St} {acc:Addr} (S:B7 K Z0 H0 ν ρ σ H1) (ha:H1 acc=none) (ok:Bool) (hok:ok=true->A6b cap ρ=true) :
  In K (upd H1 acc (.lst [])) H1 (fz ok ν H1) (D0 ok acc ν) acc (A93 own cap ρ) (A4b own cap σ) (upd H1 acc (.lst [])) []:=by
 have sm:A7 H1 (upd H1 acc (.lst [])):=A7.new ha;have fzs:A7 (fz ok ν H1) H1:=by unfold fz;split;exact D4;exact A7.refl _
 have nacc:∀ i,acc∉ν i:=fun i z=>by obtain ⟨_,_,us,q⟩:=S.fr i acc z;rw [ha] at q;cases q
 refine ⟨⟨fzs.trans sm,?_,?_,?_,?_,?_,fun a z=>z.elim⟩,sm,ha,⟨_,B3⟩,fun a h=>h,⟨0,by simp [D0]⟩,C44,[],B3,.nil,fun _=>⟨[],.nil,nodup_nil,fun _ z=>by cases z⟩⟩
 ·unfold A4b A93;simp
 ·intro i b d h;obtain ⟨rfl,p,c,h1,h2,h3⟩:=B0o h;obtain ⟨v,g1,g2⟩:=S.sl p.2 c d h3;refine ⟨v,B9w h1 h2 g1,?_⟩;cases ok with
  | true =>
   have hc:=hok rfl;unfold A6b at hc;have hc:=all_eq_true.mp hc p (mem_of_getElem? h1);rw [h3] at hc;cases c with
   | true=>cases hc
   | false =>
    refine Dn.same (fun a o q=>?_) (show Dn K (N4 (Hd Z0 ν) H1) v d from g2);obtain ⟨q1,q2⟩:=G5 q;refine D5 (sm _ _ q1) fun z=>?_;rcases z with z|⟨j,z⟩
    ·exact z
    ·cases j with
     | zero=>rw [show D0 true acc ν 0=[acc] from rfl,mem_singleton] at z;rw [z,ha] at q1;cases q1
     | succ j=>exact q2 (.inr ⟨j,z⟩)
  | false =>
   have gd:Dn K H1 v d:=by
    cases c with
    | true=>exact Ow.den g2
    | false=>exact Dn.same D4 g2
   refine Dn.same (fun a o q=>?_) gd;refine D5 (sm _ _ q) fun z=>?_;rcases z with z|⟨j,z⟩
   ·exact z
   ·cases j with
    | zero=>rw [show D0 false acc ν 0=[acc] from rfl,mem_singleton] at z;rw [z,ha] at q;cases q
    | succ j=>cases z
 ·intro i;cases i with
  | zero=>simp [D0]
  | succ i=>rw [P7];split;exact S.nd i;exact nodup_nil
 ·intro i j a hi hj;cases i with
  | zero =>
   have e:a=acc:=by simpa [D0] using hi
   cases j with
   | zero=>rfl
   | succ j =>
    rw [P7] at hj;split at hj
    ·rw [e] at hj;exact absurd hj (nacc j)
    ·cases hj
  | succ i =>
   rw [P7] at hi;split at hi
   case isFalse=>cases hi
   case isTrue =>
    cases j with
    | zero =>
     have e:a=acc:=by simpa [D0] using hj
     rw [e] at hi;exact absurd hi (nacc i)
    | succ j =>
     rename_i hk;rw [P7,if_pos hk] at hj;rw [S.dj i j a hi hj]
 ·intro i a h;cases i with
  | zero =>
   have e:a=acc:=by simpa [D0] using h
   subst e;exact ⟨fzs.gone ha,fun z=>z,Mu.lst B3⟩
  | succ i =>
   rw [P7] at h;split at h
   case isFalse=>cases h
   case isTrue hk =>
    obtain ⟨_,_,us,q⟩:=S.fr i a h;refine ⟨?_,fun z=>z,us,sm _ _ q⟩;unfold fz;rw [if_pos hk];unfold N4;rw [if_pos (.inr ⟨i,h⟩)]
theorem C9d {H0 Hs H1 H' Hq:Hp} {ν:Nat->List Addr} {ρ ρr:C5} {σ σr:L2.St} {acc:Addr} {es:P5} {ok:Bool} (S:B7 K Z0 H0 ν ρ σ Hs) (e1:A7 Hs H1) (ha:H1 acc=none) (I:In K (upd H1 acc (.lst [])) H1 Hq (D0 ok acc ν) acc ρr σr H' es) :
  R3 K Z0 ν Hs H' (if es.all (·.2)=true then .own [] else if ok=true then .old else .mix) (.ref acc) (.list (es.map (·.1))):=by
 obtain ⟨us,h1,h2,h3⟩:=I.ac;split
 ·obtain ⟨ms,g1,g2,g3⟩:=h3 ‹_›;refine ⟨acc::ms,.lst h1 g1,nodup_cons.mpr ⟨fun z=>?_,g2⟩,fun a hm=>.inl ?_⟩
  ·have:=g3 acc z;rw [B3] at this;cases this
  ·rcases mem_cons.mp hm with rfl|hm
   ·exact e1.gone ha
   ·have:=g3 a hm;by_cases z:a=acc
    ·subst z;exact e1.gone ha
    ·rw [B1 z] at this;exact e1.gone this
 ·split
  case isTrue hk =>
   have hz:¬ Hd Z0 ν acc:=fun z=>by obtain ⟨us,q⟩:=S.hl acc z;rw [e1.gone ha] at q;cases q
   refine .lst (D5 h1 hz) (Dns.same (A04 fun a z=>?_) h2);rcases z with z|⟨j,z⟩
   ·exact z.elim
   ·exact .inr ⟨j+1,by rw [P7,if_pos hk];exact z⟩
  case isFalse=>exact .lst h1 (Dns.same D4 h2)
end
section
variable {X:Cx} {K:W.Frag} {E:XK} {pos:Pos} {elt tg iter:Expr} {ifs:List Expr} {E7:List Comprehension} {scope:Scope} {ti:TDI} {T Tb:List Nat} {bnd:TGD} {tif:Y3} {tb:TB}
theorem C86 {own:List Str} {cap:List (Str × Nat)}:∀ σ H Q,LE K E (dLC ti (T++Tb) bnd tif tb own cap) σ H Q->tLC (LI K E ti) (LG K T bnd) (LT K E0 tif) (fun acc=>LB K acc Tb tb) own cap σ H Q:=fun σ H Q h=>by
 obtain ⟨H0,ν,ρ,Qd,Xd,S,h1,q,x⟩:=h;refine ⟨H0,ν,ρ,_,Xd,S,h1,fun ds b J H1 g1 e1 it=>?_,x⟩;intro acc ha;obtain ⟨ok,hk⟩:∃ ok,ok=(b&&A6b cap ρ):=⟨_,rfl⟩;have I:=B9v (own:=own) (S.same e1) ha ok (fun z=>by rw [hk,Bool.and_eq_true] at z;exact z.2);have hf:A7 (fz b ν H1) (fz ok ν H1):=by
  cases ok with
  | true =>
   have:b=true:=by rw [Eq.comm,Bool.and_eq_true] at hk;exact hk.1
   rw [this];exact A7.refl _
  | false=>unfold fz;split;exact D4;exact A7.refl _
 refine B4j I it hf (fun i hi=>mem_append_left _ hi) g1 fun es' ρ' σ' H' a I' A=>?_;rw [<-hk] at a;exact q _ _ _ H' a (e1.trans I'.sm) (C9d S e1 ha I')
theorem U1 (own:List Str) (cap:List (Str × Nat)) (hc:X.calm=true) (L:B9 X scope own cap) (hi:DI X K E tg iter ti)
  (hin:∀ (s₃:Shared) (H₃:Hp) (fp:List Addr) (acc:Addr),DG (X.inn scope (L2.D0 own cap) s₃ H₃ fp) K tg T bnd/\DTs (X.inn scope (L2.D0 own cap) s₃ H₃ fp) K ifs tif/\DB (X.inn scope (L2.D0 own cap) s₃ H₃ fp) K elt (⟨tg,iter,ifs,0⟩::E7) scope pos 0 acc Tb tb)
  (hs:∀ x,foldedSetIterable iter X.env x=pure x:=by intro _;rfl):DE X K E (.ListComp elt (⟨tg,iter,ifs,0⟩::E7) scope pos) (dLC ti (T++Tb) bnd tif tb own cap) :=
 ⟨D2 (B8h own cap hc L hi.q (fun a b c d=>⟨(hin a b c d).1.lift,(hin a b c d).2.1.q,(hin a b c d).2.2.q⟩) hs) C86⟩
theorem A0a {i:Nat} {y:Str} {py spos:Pos} (own:List Str) (cap:List (Str × Nat)) (hN:X.N.Nodup) (hyi:X.N[i]?=some y) (hy:X.env.scope.names.lookup y=some .local) (hc:X.calm=true) (L:B9 X scope own cap) (hi:DI X K E tg iter ti)
  (hin:∀ (s₃:Shared) (H₃:Hp) (fp:List Addr) (acc:Addr),DG (X.inn scope (L2.D0 own cap) s₃ H₃ fp) K tg T bnd/\DTs (X.inn scope (L2.D0 own cap) s₃ H₃ fp) K ifs tif/\DB (X.inn scope (L2.D0 own cap) s₃ H₃ fp) K elt (⟨tg,iter,ifs,0⟩::E7) scope pos 0 acc Tb tb)
  (hsw:swapsWith (.ListComp elt (⟨tg,iter,ifs,0⟩::E7) scope pos) (some (.Name y py)) spos.line X.env=pure true:=by rfl) (hs:∀ x,foldedSetIterable iter X.env x=pure x:=by intro _;rfl) :
  DS X K E (.Assign [.Name y py] (.ListComp elt (⟨tg,iter,ifs,0⟩::E7) scope pos) spos) (C2a i (dLC ti (T++Tb) bnd tif tb own cap)) :=
 ⟨M8 (B6l own cap hN hyi hy hc L hi.q (fun a b c d=>⟨(hin a b c d).1.lift,(hin a b c d).2.1.q,(hin a b c d).2.2.q⟩) hsw hs) fun En σ H h=>by
  obtain ⟨H0,ν,ρ,Dd,Xd,S,h1,ok,x⟩:=h;refine C86 σ H _ ⟨H0,ν,ρ,_,Xd,S,h1,fun d k v H' g1 g2 g3=>?_,x⟩;obtain ⟨ν',S'⟩:=S.setK g2 g3 i;exact ok.nx _ _ _ _ g1 S'⟩
end
section
variable {K:W.Frag} {H0 H H':Hp} {ν:Nat->List Addr} {ρ:C5} {σ:L2.St} {v:V} {d:D}
theorem B7.mut (S:B7 K Z0 H0 ν ρ σ H) (s:List Nat) (i:Nat) {ms:List Addr} (hi:σ[i]?=some (some v)) (hr:i < ρ.length) (k:∀ a o,H a=some o->a∉ν i->H' a=some o) (h:Ow K H' v d ms) (nd:ms.Nodup) (fr:∀ a∈ms,a∈ν i\/H a=none\/∃ j∈s,a∈ν j) (hs:i∉s)
  (gone:∀ j∈s,∀ a∈ν j,Mu H' a) :
  B7 K Z0 H0 (fun j=>if j=i then ms else if j∈s then [] else ν j) ((D9 ρ s).set i (some (true,d))) σ H' where
 sm:=fun a o ha=>k a o (S.sm a o ha) fun z=>by rw [(S.fr i a z).1] at ha;cases ha
 len:=by rw [length_set,P6];exact S.len
 sl:=fun j b c hj=>by
  rcases O8 hj with ⟨rfl,h1,h2⟩|⟨h1,h2⟩
  ·cases h1;exact ⟨v,hi,by rw [if_pos rfl];rw [if_pos rfl];exact h⟩
  ·obtain ⟨h3,h4⟩:=V6 s h2;obtain ⟨u,q1,q2⟩:=S.sl j b c h4;refine ⟨u,q1,?_⟩;cases b with
   | true =>
    rw [if_pos rfl,if_neg h1,if_neg h3];have q2:Ow K H u c (ν j):=q2;refine q2.kept ⟨fun a ha=>?_,fun a o ha hn=>k a o ha fun z=>?_⟩
    ·obtain ⟨us,q⟩:=q2.there a ha;rw [k a _ q fun z=>h1 (S.dj j i a ha z),q]
    ·exact (S.fr i a z).2.2.no ha hn
   | false =>
    refine Dn.same (fun a o ha=>?_) q2;obtain ⟨g1,g2⟩:=G5 ha;refine D5 (k a o g1 fun z=>g2 (.inr ⟨i,z⟩)) fun z=>?_;rcases z with z|⟨l,z⟩
    ·exact z
    ·have z:a∈(if l=i then ms else if l∈s then [] else ν l):=z;split at z
     ·rcases fr a z with z|z|⟨l,_,z⟩
      ·exact g2 (.inr ⟨i,z⟩)
      ·rw [g1] at z;cases z
      ·exact g2 (.inr ⟨l,z⟩)
     ·split at z
      ·cases z
      ·exact g2 (.inr ⟨l,z⟩)
 nd:=fun j=>by
  split
  ·exact nd
  ·split
   ·exact nodup_nil
   ·exact S.nd j
 dj:=fun j l a hj hl=>by
  have key:∀ m,m≠i->m∉s->a∈ν m->a∉ms:=fun m hm hms ha hz=>by
   rcases fr a hz with z|z|⟨n,hn,z⟩
   ·exact hm (S.dj m i a ha z)
   ·obtain ⟨_,_,us,q⟩:=S.fr m a ha;rw [z] at q;cases q
   ·rw [S.dj m n a ha z] at hms;exact hms hn
  split at hj
  ·split at hl
   ·omega
   ·split at hl
    ·cases hl
    ·exact absurd hj (key l ‹_› ‹_› hl)
  ·split at hj
   ·cases hj
   ·split at hl
    ·exact absurd hl (key j ‹_› ‹_› hj)
    ·split at hl
     ·cases hl
     ·exact S.dj j l a hj hl
 fr:=fun j a ha=>by
  split at ha
  ·have ht:=h.there a ha;rcases fr a ha with z|z|⟨m,_,z⟩
   ·exact ⟨(S.fr i a z).1,(fun q=>q),ht⟩
   ·exact ⟨S.sm.gone z,(fun q=>q),ht⟩
   ·exact ⟨(S.fr m a z).1,(fun q=>q),ht⟩
  ·split at ha
   ·cases ha
   ·obtain ⟨q1,q2,us,q3⟩:=S.fr j a ha;exact ⟨q1,q2,us,k a _ q3 fun z=>absurd (S.dj j i a ha z) ‹_›⟩
 zf:=fun a h=>h.elim
theorem C6s {k:Kd} {s:List Nat} {Hs:Hp} (e:eff d k=.own s) (hl:∀ a,Hd Z0 ν a->Mu H a) (h:R3 K Z0 ν Hs H k v d):∃ ms,Ow K H v d ms/\ms.Nodup/\∀ a∈ms,Hs a=none\/∃ j∈s,a∈ν j:=by
 have h':R3 K Z0 ν Hs H (eff d k) v d:=by
  unfold eff;split
  ·exact R3.flat h.den ‹_› hl _
  ·exact h
 rw [e] at h';exact h'
end
section
variable {X:Cx} {K:W.Frag} {E:XK} {pos apos cpos:Pos} {e:Expr} {te:TD}
def D44 (i:Nat) (te:TD):L9:=fun Dd ρ Xd=>∃ ds,ρ[i]?=some (some (true,.list ds))/\ds.length < 1000000/\te ρ (fun d k=>match eff d k with
 | .own s=>i∉s/\Dd.nx ((D9 ρ s).set i (some (true,.list (ds++[d]))))
 | _=>False) Xd
theorem A55 {H0 H:Hp} {ν:Nat->List Addr} {ρ:C5} {σ:L2.St} {i:Nat} {ds:List D} (S:B7 K Z0 H0 ν ρ σ H) (h:ρ[i]?=some (some (true,.list ds))):∃ a us ns,σ[i]?=some (some (.ref a))/\H a=some (.lst us)/\Ows K H us ds ns/\ν i=a::ns/\a∉ns/\ns.Nodup:=by
 obtain ⟨v,h1,h2⟩:=S.sl i true _ h;have h2:Ow K H v (.list ds) (ν i):=h2;have hn:=S.nd i;generalize hv:ν i=n at h2 hn;cases h2 with
 | lst h r=>exact ⟨_,_,_,h1,h,r,rfl,(nodup_cons.mp hn).1,(nodup_cons.mp hn).2⟩
theorem B2j {α:Type} {l:List α} {i:Nat} {x:α} (h:l[i]?=some x):i < l.length:=(List.getElem?_eq_some_iff.mp h).1
theorem A0x (i:Nat) {x:Str} {px:Pos} (hK:X.K=K) (ho:QE X (.Name x px) (V4 i)) (he:DE X K E e te) (hs:starEach [e] X.env=[(false,eval e X.env)]) (hbase:attributeBase (.Name x px) "append" X.env (eval (.Name x px) X.env)=eval (.Name x px) X.env) (hline:(apos.endLine==cpos.line)=true)
  (hsw:swapsWith (.Call (.Attribute (.Name x px) "append" apos) [e] [] cpos) none pos.line X.env=pure false:=by rfl):DS X K E (.Expr (.Call (.Attribute (.Name x px) "append" apos) [e] [] cpos) pos) (D44 i te):=⟨M8 (Y2 (S6 K hK ho he.q hs hbase hline) hsw) fun En σ H h=>by
 obtain ⟨H0,ν,ρ,Dd,Xd,S,⟨ds,h1,h2,h3⟩,ok,x⟩:=h;obtain ⟨a,us,ns,g1,g2,g3,g4,g5,g6⟩:=A55 S h1;refine ⟨_,g1,tyl (L4.of g2),H0,ν,ρ,_,Xd,S,h3,fun d k v H1 q1 e1 r1=>?_,x⟩;split at q1
 case h_2=>exact q1.elim
 case h_1 s es =>
  obtain ⟨ms,m1,m2,m3⟩:=C6s es (S.same e1).hl r1;have ha1:H1 a=some (.lst us):=e1 _ _ g2;have nm:∀ b∈ms,b∉ν i:=fun b hb z=>by
   rcases m3 b hb with y|⟨j,hj,y⟩
   ·obtain ⟨_,_,us,w⟩:=S.fr i b z;rw [y] at w;cases w
   ·rw [S.dj i j b z y] at q1;exact q1.1 hj
  have ham:a∉ms:=fun z=>nm a z (by rw [g4];exact mem_cons_self);refine ⟨a,us,v,rfl,rfl,ha1,by rw [g3.den.length];exact Nat.lt_of_lt_of_le h2 K5,?_⟩;have S1:=S.same e1;refine ok.nx _ _ _ _ q1.2 (S.mut s i (ms:=a::(ns++ms)) (v:=.ref a) g1 (B2j h1) (fun b o hb hn=>?_) ?_ ?_ ?_ q1.1 ?_)
  ·rw [B1 (fun z=>hn (by rw [z,g4];exact mem_cons_self))];exact e1 _ _ hb
  ·have kp:∀ l:List Addr,(∀ b∈l,b≠a)->A1y l H1 (upd H1 a (.lst (us++[v]))):=fun l hl=>⟨fun b hb=>B1 (hl b hb),fun b o hb hn=>by
    have:b≠a:=fun z=>by rw [z,ha1] at hb;cases hb;cases (show true=false from hn)
    rw [B1 this];exact hb⟩
   have A:=(g3.same e1).kept (kp ns fun b hb z=>g5 (z ▸ hb));have B:=m1.kept (kp ms fun b hb z=>ham (z ▸ hb));exact .lst B3 (A3v B A)
  ·refine nodup_cons.mpr ⟨fun z=>?_,nodup_append.mpr ⟨g6,m2,fun y hy z hz e=>?_⟩⟩
   ·rcases mem_append.mp z with z|z
    ·exact g5 z
    ·exact ham z
   ·subst e;exact nm y hz (by rw [g4];exact mem_cons_of_mem _ hy)
  ·intro b hb;rcases mem_cons.mp hb with rfl|hb
   ·exact .inl (by rw [g4];exact mem_cons_self)
   ·rcases mem_append.mp hb with hb|hb
    ·exact .inl (by rw [g4];exact mem_cons_of_mem _ hb)
    ·rcases m3 b hb with y|y
     ·exact .inr (.inl y)
     ·exact .inr (.inr y)
  ·intro j hj b hb;obtain ⟨_,_,us',w⟩:=S1.fr j b hb;have:b≠a:=fun z=>by
    have:=S.dj i j b (by rw [g4,z];exact mem_cons_self) hb;rw [this] at q1;exact q1.1 hj
   exact ⟨us',by rw [B1 this];exact w⟩⟩
end
def A1c (N:List Str) (ds:List D):C5:=ds.map (fun d=>some (false,d))++List.replicate (N.length - ds.length) none
theorem B8w {K:W.Frag} {H:Hp} {vs:List V} {ds:List D} {N:List Str} (h:Dns K H vs ds):B7 K Z0 H (fun _=>[]) (A1c N ds) (start N vs) H:=by
 have hl:=h.length;refine ⟨A7.refl H,?_,fun i b d hi=>?_,fun _=>nodup_nil,(fun _ _ _ z=>by cases z),(fun _ _ z=>by cases z),fun _ z=>False.elim z⟩
 ·unfold A1c L2.start;simp [hl]
 ·unfold A1c at hi;by_cases hlt:i < ds.length
  ·rw [List.getElem?_append_left (by simpa using hlt),List.getElem?_map] at hi;cases e:ds[i]? with
   | none=>rw [e] at hi;cases hi
   | some c =>
    rw [e] at hi;cases hi;obtain ⟨v,g1,g2⟩:=h.get e;refine ⟨v,?_,Dn.same A7s g2⟩;unfold L2.start;rw [List.getElem?_append_left (by rw [length_map,hl];exact hlt),List.getElem?_map,g1];rfl
  ·rw [List.getElem?_append_right (by simpa using Nat.le_of_not_lt hlt),List.getElem?_replicate] at hi;split at hi<;>cases hi
theorem dmk {X:Cx} {K:W.Frag} {E:XK} {b:List Stmt} {t:L9} {N:List Str} {vs:List V} {H:Hp} {Q:VK} {ds:List D} {Qd:D->Bool->Prop} {Xd:XD} (h:DSs X K E b t) (hd:Dns K H vs ds) (q:∀ d o v H',Qd d o->A7 H H'->RR K H H' o v d->Q v H') (x:∀ C H',Xd C->A7 H H'->E (.ref C) none H')
  (r:t { nx:=fun _=>Qd .none true,rt:=Qd } (A1c N ds) Xd):∃ t,PSs X b t/\t { nx:=fun _ H'=>Q .non H',rt:=Q } (start N vs) H :=
 ⟨_,h.q.h,H,_,_,_,Xd,B8w hd,r,⟨fun ν ρ σ H' a S=>q _ _ _ _ a S.sm ⟨[],.non,nodup_nil,fun _ z=>by cases z⟩,fun _ _ _ _ z=>z.elim,fun _ _ _ _ z=>z.elim,q⟩,x⟩
theorem ok0 {P:Program} {w:World} {K:W.Frag} {mg:Str->Option Value} {base:Heap} {x qual:Str} {st:Stmt} {f:Addr} {fd:FuncData} {N ps:List Str} {k:Nat} {sp:W0} (F:U3 K x qual st f fd) (S:B8 N ps (A9 st)) (len:∀ ds Q X,sp ds Q X->ds.length=ps.length)
  (hbody:∀ (cdv:Value) (A:Around) (outer:List Env) (s:Shared) (H:Hp) (E:XK),O0 k (A.deeper (envOfC qual (A9 st) s.heap.objs.size f cdv))->∃ t,DSs (A02 X6 P w K mg base N qual (A9 st) f cdv A outer s H E).nox K E0 (M5 st) t/\∀ ds Qd,sp ds Qd Xf->t { nx:=fun _=>Qd .none true,rt:=Qd } (A1c N ds) Xf)
  (hx:∀ ds Qd Xd,sp ds Qd Xd->sp ds Qd Xf):G6 P w K mg base X6 (k+1) f fd ps (E9 K sp):=by
 refine F.ok S (fun vs H Q E h=>?_) (fun cdv A outer s H vs Q E hr h=>?_)
 ·obtain ⟨ds,Qd,Xd,h1,h2,_⟩:=h;rw [h1.length];exact len ds Qd Xd h2
 ·obtain ⟨ds,Qd,Xd,h1,h2,h3,h4⟩:=h;obtain ⟨t,D,r⟩:=hbody cdv A outer s H E hr;exact dmk D h1 h3 (fun _ _ z _=>z.elim) (r ds Qd (hx _ _ _ h2))
theorem okE {P:Program} {w:World} {K:W.Frag} {mg:Str->Option Value} {base:Heap} {x qual:Str} {st:Stmt} {f:Addr} {fd:FuncData} {N ps:List Str} {k:Nat} {sp:W0} (F:U3 K x qual st f fd) (S:B8 N ps (A9 st)) (len:∀ ds Q X,sp ds Q X->ds.length=ps.length)
  (hbody:∀ (cdv:Value) (A:Around) (outer:List Env) (s:Shared) (H:Hp) (E:XK),O0 k (A.deeper (envOfC qual (A9 st) s.heap.objs.size f cdv))->∃ t,DSs (A02 (CXE P w base) P w K mg base N qual (A9 st) f cdv A outer s H E) K E (M5 st) t/\∀ ds Qd Xd,sp ds Qd Xd->t { nx:=fun _=>Qd .none true,rt:=Qd } (A1c N ds) Xd) :
  G6 P w K mg base (CXE P w base) (k+1) f fd ps (E9 K sp):=by
 refine F.okE S (fun vs H Q E h=>?_) (fun cdv A outer s H vs Q E hr h=>?_)
 ·obtain ⟨ds,Qd,Xd,h1,h2,_⟩:=h;rw [h1.length];exact len ds Qd Xd h2
 ·obtain ⟨ds,Qd,Xd,h1,h2,h3,h4⟩:=h;obtain ⟨t,D,r⟩:=hbody cdv A outer s H E hr;exact dmk D h1 h3 h4 (r ds Qd Xd h2)
section
variable {X:Cx} {K:W.Frag} {E:XK} {pos:Pos} {e e1:Expr} {te:TD} {x:Str}
theorem dnS {s:Stmt} {t:L9} (h:DS X.nox K E s t):DS X K E s t:=⟨qnS h.q⟩
theorem dnT {e:Expr} {t:Y3} (h:DT X.nox K E e t):DT X K E e t:=⟨qnT h.q⟩
def N5 (b:Bool):C5->List Nat->List D->C5
 | ρ,i::is,d::ds=>N5 b (ρ.set i (some (b&&!flat d,d))) is ds
 | ρ,_,_=>ρ
def A82 (ρ:C5) (is:List Nat) (ds:List D) (k:Kd):C5:=match eff (.tuple ds) k with
 | .own []=>N5 true ρ is ds
 | .old=>N5 false ρ is ds
 | _=>N5 false (frz ρ) is ds
def A9k:L2.St->List Nat->List V->L2.St
 | σ,i::is,v::vs=>A9k (σ.set i (some v)) is vs
 | σ,_,_=>σ
theorem A7o {H0 H:Hp} {ν:Nat->List Addr}:∀ {is:List Nat} {vs:List V} {ds:List D} {ρ:C5} {σ:L2.St},B7 K Z0 H0 ν ρ σ H->Dns K (N4 (Hd Z0 ν) H) vs ds->B7 K Z0 H0 ν (N5 false ρ is ds) (A9k σ is vs) H
 | [],_,_,_,_,S,_=>S
 | i::is,_,_,_,_,S,.nil=>S
 | i::is,_,_,_,_,S,.cons h r=>by
  have:=A7o (is:=is) (S.setOld i h) r;exact this
theorem C6v {H0 H':Hp}:∀ (is:List Nat) {vs:List V} {ds:List D} {ρ:C5} {σ:L2.St} {ν:Nat->List Addr} {ms:List Addr},B7 K Z0 H0 ν ρ σ (N4 (·∈ms) H')->Ows K H' vs ds ms->ms.Nodup->∃ ν',B7 K Z0 H0 ν' (N5 true ρ is ds) (A9k σ is vs) H':=by
 intro is
 induction is with
 | nil=>intro vs ds ρ σ ν ms S _ _;exact ⟨ν,by unfold N5 A9k;exact S.same D4⟩
 | cons i is ih =>
  intro vs ds ρ σ ν ms S r0 nd;cases r0 with
  | nil=>exact ⟨ν,S.same D4⟩
  | cons h r =>
   rename_i v vs d ds n m;rw [nodup_append] at nd;have sm:A7 (N4 (·∈n++m) H') (N4 (·∈m) H'):=A04 fun a z=>mem_append_right _ z;have nt:∀ a o,H' a=some o->muO o=false->N4 (·∈m) H' a=some o:=fun a o ha hn=>D5 ha fun z=>by
    exact (r.there a z).no ha hn
   have hk:A1y n H' (N4 (·∈m) H'):=⟨fun a ha=>by
    unfold N4;rw [if_neg fun z=>nd.2.2 a ha a z rfl],nt⟩
   show ∃ ν',B7 K Z0 H0 ν' (N5 true (ρ.set i (some (true&&!flat d,d))) is _) (A9k (σ.set i (some v)) is _) H';cases hf:flat d with
   | true =>
    have S1:=(S.same sm).setOld i (v:=v) (d:=d) (R6 (S.same sm).hl (A28 nt h.den hf) hf);exact ih S1 r nd.2.1
   | false =>
    have S1:=S.setOwn [] i sm (h.kept hk) nd.1 fun a ha=>.inl (by unfold N4;rw [if_pos (mem_append_left _ ha)]);exact ih S1 r nd.2.1
theorem C8r {H0 H H':Hp} {ν:Nat->List Addr} {ρ:C5} {σ:L2.St} {k:Kd} {a:Addr} {ds:List D} (S:B7 K Z0 H0 ν ρ σ H) (e:A7 H H') (h:R3 K Z0 ν H H' k (.ref a) (.tuple ds)) (is:List Nat):∃ us ν',R4 K H' a us/\us.length=ds.length/\B7 K Z0 H0 ν' (A82 ρ is ds k) (A9k σ is us) H':=by
 have h':R3 K Z0 ν H H' (eff (.tuple ds) k) (.ref a) (.tuple ds):=by
  unfold eff;split
  ·exact R3.flat h.den ‹_› (S.same e).hl _
  ·exact h
 have frzc:∃ us ν',R4 K H' a us/\us.length=ds.length/\B7 K Z0 H0 ν' (N5 false (frz ρ) is ds) (A9k σ is us) H':=by
  obtain ⟨a',us,q,q1,q2⟩:=J4 h.den;cases q;exact ⟨us,_,q1,q2.length,A7o (S.same e).frz (Dns.same A7s q2)⟩
 unfold A82;generalize eff (.tuple ds) k=k' at h';split
 ·obtain ⟨ms,m1,m2,m3⟩:=h';cases m1 with
  | tup q1 q2 =>
   have sm:A7 H (N4 (·∈ms) H'):=fun b o hb=>D5 (e _ _ hb) fun z=>by
    rcases m3 b z with y|⟨_,y,_⟩
    ·rw [hb] at y;cases y
    ·cases y
   obtain ⟨ν',S'⟩:=C6v is (S.same sm) q2 m2;exact ⟨_,ν',q1,q2.den.length,S'⟩
 ·obtain ⟨a',us,q,q1,q2⟩:=J4 (show Dn K _ _ _ from h');cases q;exact ⟨us,ν,A7.tup D4 q1,q2.length,A7o (S.same e) q2⟩
 ·exact frzc
def B2x:List Nat->TGs
 | []=>C1n
 | i::is=>A4w (K9 i) (B2x is)
theorem A5t:∀ (is:List Nat) (vs:List V) (σ:L2.St) (H:Hp) (Q:L2.St->Hp->Prop),vs.length=is.length->Q (A9k σ is vs) H->B2x is vs σ H Q
 | [],[],σ,H,Q,_,q=>⟨rfl,q⟩
 | i::is,v::vs,σ,H,Q,hl,q=>⟨v,vs,rfl,A5t is vs _ H Q (by simpa using hl) q⟩
 | [],_::_,_,_,_,hl,_=>by cases hl
 | _::_,[],_,_,_,hl,_=>by cases hl
def D6s (is:List Nat) (te:TD):L9:=fun Dd ρ Xd=>te ρ (fun d k=>match d with
 | .tuple ds=>ds.length=is.length/\Dd.nx (A82 ρ is ds k)
 | _=>False) Xd
theorem A1u (is:List Nat) (n:Nat) {es:List Expr} {kt:Nat} {pt:Pos} (hn':is.length=n) (hK:X.K=K) (hc:X.calm=true) (hg:QGs X es (B2x is)) (hn:(assignEach es X.env).length=n) (hst:(assignEach es X.env).findIdx? (·.1)=none) (he:DE X K E e te)
  (hs:swapsWithSole [.Tuple es kt pt] e pos.line X.env=pure false:=by rfl) (hw:swappedStores [.Tuple es kt pt] e X.env=pure none:=by rfl) (h1:(assignEach [.Tuple es kt pt] X.env).map (·.2)=[assign (.Tuple es kt pt) X.env]:=by rfl) :
  DS X K E (.Assign [.Tuple es kt pt] e pos) (D6s is te):=⟨M8 (C5r he.q (A43 K n hK hc hg hn hst) hs hw h1) fun En σ H h=>by
 obtain ⟨H0,ν,ρ,Dd,Xd,S,h1,ok,x⟩:=h;refine ⟨H0,ν,ρ,_,Xd,S,h1,fun d k v H' q1 e1 r1=>?_,x⟩;cases d with
 | tuple ds =>
  obtain ⟨a,us0,rfl,_,_⟩:=J4 r1.den;obtain ⟨us,ν',k1,k2,S'⟩:=C8r S e1 r1 is;exact ⟨a,us,rfl,k1,by rw [k2,q1.1,hn'],A5t is us σ H' _ (by rw [k2,q1.1]) (ok.nx _ _ _ _ q1.2 S')⟩
 | _=>exact q1.elim⟩
theorem B3f {ns:List Int}:flats (ns.map PyData.int)=true:=A0i.mpr fun d hd=>by
 obtain ⟨n,_,rfl⟩:=mem_map.mp hd;rfl
theorem A32 {H:Hp}:∀ (ns:List Int),Dns K H (ns.map V.int) (ns.map PyData.int)
 | []=>.nil
 | n::r=>.cons (.int n) (A32 r)
def C7z (ns:List Int):TDA:=fun _ Q _=>Q (ns.map PyData.int) (.own [])
theorem C11 {es:List Expr} {ns:List Int} (h:A3s es=some ns):DA X K E es (C7z ns):=⟨B1y (C1t h) fun σ H Q h=>by
 obtain ⟨H0,ν,ρ,Qd,Xd,S,h1,q,x⟩:=h;exact q _ _ _ H h1 (A7.refl H) ⟨[],A03 (A32 ns) B3f,nodup_nil,fun _ z=>by cases z⟩⟩
end
def iD (r:List Int):D:=.list (r.map PyData.int)
def gD (g:List (List Int)):D:=.list (g.map iD)
theorem C2r {i:Int}:flat (.int i)=true:=rfl
theorem B7q {i:Bool}:flat (.bool i)=true:=rfl
theorem C2n {i:Str}:flat (.str i)=true:=rfl
theorem C06:flat .none=true:=rfl
theorem B6g {l:List D}:flat (.list l)=false:=rfl
theorem X4 {l:List D}:flat (.tuple l)=flats l:=rfl
theorem B5x:flats []=true:=rfl
theorem B2k {d:D} {l:List D}:flats (d::l)=(flat d&&flats l):=rfl
theorem C64 {r:List Int}:flat (iD r)=false:=rfl
theorem C4n {r:List (List Int)}:flat (gD r)=false:=rfl
def lpD (ds:List D) (bnd:TGD) (tb:L9):L9:=fun Dd ρ Xd=>∃ W:Nat->C5->Prop,W 0 ρ/\(∀ i d ρ,ds[i]?=some d->W i ρ->bnd d ρ fun ρ'=>tb { Dd with nx:=W (i+1),ct:=W (i+1),bk:=Dd.nx } ρ' Xd)/\∀ ρ,W ds.length ρ->Dd.nx ρ
theorem O7 {ds:List D} {bnd:TGD} {tb:L9} {Dd:N6} {ρ:C5} {Xd:XD} (W:Nat->C5->Prop) (h0:W 0 ρ) (hs:∀ i d ρ,ds[i]?=some d->W i ρ->bnd d ρ fun ρ'=>tb { Dd with nx:=W (i+1),ct:=W (i+1),bk:=Dd.nx } ρ' Xd) (hd:∀ ρ,W ds.length ρ->Dd.nx ρ):lpD ds bnd tb Dd ρ Xd:=⟨W,h0,hs,hd⟩
theorem B8e {lo:Int} {n i:Nat} {d:D} (h:(A3c lo n)[i]?=some d):i < n/\d=.int (lo+i):=by
 unfold A3c at h;rw [List.getElem?_map] at h;cases e:(List.range n)[i]? with
 | none=>rw [e] at h;cases h
 | some j =>
  rw [e] at h;cases h;obtain ⟨h1,h2⟩:=List.getElem?_eq_some_iff.mp e;rw [List.getElem_range] at h2;rw [length_range] at h1;exact ⟨h1,by rw [h2]⟩
theorem C1q {lo:Int} {n:Nat}:(A3c lo n).length=n:=by unfold A3c;rw [length_map,length_range]
theorem A15 {lo:Int} {n:Nat} {bnd:TGD} {tb:L9} {Dd:N6} {ρ:C5} {Xd:XD} (W:Nat->C5->Prop) (h0:W 0 ρ) (hs:∀ (i:Nat) ρ,i < n->W i ρ->bnd (.int (lo+i)) ρ fun ρ'=>tb { Dd with nx:=W (i+1),ct:=W (i+1),bk:=Dd.nx } ρ' Xd) (hd:∀ ρ,W n ρ->Dd.nx ρ):lpD (A3c lo n) bnd tb Dd ρ Xd :=
 ⟨W,h0,fun i d ρ e w=>by obtain ⟨h1,rfl⟩:=B8e e;exact hs i ρ h1 w,fun ρ w=>hd ρ (by rw [C1q] at w;exact w)⟩
def onB (d:D) (Q:Bool->Prop):Prop:=match d with|.bool i=>Q i|_=>False
def onI (d:D) (Q:Int->Prop):Prop:=match d with|.int i=>Q i|_=>False
def onL (d:D) (Q:List D->Prop):Prop:=match d with|.list l=>Q l|_=>False
def onT (d:D) (Q:List D->Prop):Prop:=match d with|.tuple l=>Q l|_=>False
section
variable {t u:L9} {te ta tb tc:TD} {tA tB:Y3} {tl:TDA} {Dd:N6} {ρ:C5} {Xd:XD} {Q:QD} {QT:Bool->Prop} {QA:List D->Kd->Prop} {i:Nat} {d e:D} {k l:Kd}
theorem D49 {b:Bool} {Q:Bool->Prop} (h:Q b):onB (.bool b) Q:=h
theorem D7f {b:Int} {Q:Int->Prop} (h:Q b):onI (.int b) Q:=h
theorem D76 {b:List D} {Q:List D->Prop} (h:Q b):onL (.list b) Q:=h
theorem D4k {b:List D} {Q:List D->Prop} (h:Q b):onT (.tuple b) Q:=h
theorem D5f (h:t { Dd with nx:=fun ρ'=>u Dd ρ' Xd } ρ Xd):D18 t u Dd ρ Xd:=h
theorem D70 (h:te ρ (fun d k=>Dd.nx (setK ρ i d k)) Xd):C2a i te Dd ρ Xd:=h
theorem D3t (h:te ρ (fun d k=>Dd.rt d (rtK d k)) Xd):D6m te Dd ρ Xd:=h
theorem D2y (h:te ρ (fun _ _=>Dd.nx ρ) Xd):C7a te Dd ρ Xd:=h
theorem D0i (h:Dd.nx ρ):C7w Dd ρ Xd:=h
theorem D47 (h:tA ρ (fun b=>if b=true then t Dd ρ Xd else u Dd ρ Xd) Xd):D4i tA t u Dd ρ Xd:=h
theorem D8d {f b c:C5->Prop} {r:D->Bool->Prop} (h:f ρ):N6.nx ⟨f,r,b,c⟩ ρ:=h
theorem D90 {f b c:C5->Prop} {r:D->Bool->Prop} {o:Bool} (h:r d o):N6.rt ⟨f,r,b,c⟩ d o:=h
theorem D42 (h:t Dd (frz1 i ρ) Xd):D6n i t Dd ρ Xd:=h
theorem w_c (h:Q d .old):dC d ρ Q Xd:=h
theorem D8p {f:F2} (h:ta ρ (fun d k=>tb ρ (fun e l=>f d k e l Q) Xd) Xd):dOp f ta tb ρ Q Xd:=h
theorem D4j {g:Int->Int->D} {x y:Int} (h:Q (g x y) .old):fI T2 g (.int x) k (.int y) l Q:=⟨trivial,h⟩
theorem D9c {C:Int->Int->Prop} {g:Int->Int->D} {x y:Int} (h:C x y/\Q (g x y) .old):fI C g (.int x) k (.int y) l Q:=h
theorem D1t {x y:Int} (h:Q (.int (x+y)) .old):C2o (.int x) k (.int y) l Q:=h
theorem D1v {x y:List D} (h:x.length+y.length<=1000000/\Q (.list (x++y)) (A25 x k y l)):C2o (.list x) k (.list y) l Q:=h
theorem D26 {x y:Str} (h:x.length+y.length<=1000000/\Q (.str (x++y)) .old):C2o (.str x) k (.str y) l Q:=h
def IxD (ds:List D) (i:Int) (Q:D->Prop):Prop:=∃ x,atI ds i=some x/\Q x
theorem D5e {x:List D} {y:Int} (h:IxD x y fun d=>Q d k.sub):fIx (.list x) k (.int y) l Q:=h
theorem D3x {x:List D} {y:Int} (h:IxD x y fun d=>Q d k.sub):fIx (.tuple x) k (.int y) l Q:=h
theorem E04 {f:Bool->Bool} (h:(d.canLay0=true/\e.canLay0=true/\d.depth<=32)/\Q (.bool (f (PyData.eqv d e))) .old):fEq f d k e l Q:=⟨h.1.1,h.1.2.1,h.1.2.2,h.2⟩
theorem D5o {f:Bool->Bool} {x y:Int} (h:Q (.bool (f (x==y))) .old):fEq f (.int x) k (.int y) l Q:=⟨rfl,rfl,Nat.zero_le _,h⟩
theorem D9l {f:Bool->Bool} {x:List D} (h:(O1 d=true/\x.all O1=true)/\Q (.bool (f (inD d x))) .old):fIn f d k (.list x) l Q:=⟨h.1.1,h.1.2,h.2⟩
theorem D43 {f:Bool->Bool} {x:List D} (h:(O1 d=true/\x.all O1=true)/\Q (.bool (f (inD d x))) .old):fIn f d k (.tuple x) l Q:=⟨h.1.1,h.1.2,h.2⟩
theorem D7i (h:ta ρ (fun d _=>onI d fun i=>Q (.int (-i)) .old) Xd):D7p ta ρ Q Xd:=h
theorem D3a (h:ta ρ (fun d _=>onB d fun i=>Q (.bool (!i)) .old) Xd):C8c ta ρ Q Xd:=h
theorem D09 (h:ta ρ (fun d _=>onB d fun i=>if i=true then tb ρ Q Xd else Q (.bool false) .old) Xd):C7p ta tb ρ Q Xd:=h
theorem w_B (h:ta ρ (fun d _=>onB d QT) Xd):dB ta ρ QT Xd:=h
theorem D8f (h:tA ρ (fun b=>if b=true then QT true else tB ρ QT Xd) Xd):dOr tA tB ρ QT Xd:=h
theorem w_not (h:tA ρ (fun b=>QT (!b)) Xd):D7j tA ρ QT Xd:=h
theorem D2q (h:QT true):C8b ρ QT Xd:=h
theorem D6r (h:ta ρ (fun d _=>∃ b,C6f d=some b/\QT b) Xd):D5a ta ρ QT Xd:=h
theorem D0z {x:List D} (h:QT (!x.isEmpty)):∃ b,C6f (.list x)=some b/\QT b:=⟨_,rfl,h⟩
theorem D3c {x:Bool} (h:QT x):∃ b,C6f (.bool x)=some b/\QT b:=⟨_,rfl,h⟩
theorem C6z {f g:Int->Int->Bool} (h:ta ρ (fun x _=>tb ρ (fun y _=>onI x fun i=>onI y fun j=>if f i j=true then tc ρ (fun z _=>onI z fun l=>Q (.bool (g j l)) .old) Xd else Q (.bool false) .old) Xd) Xd):A88 f g ta tb tc ρ Q Xd:=by
 unfold A88;have key:∀ x y:D,(onI x fun i=>onI y fun j=>if f i j=true then tc ρ (fun z _=>onI z fun l=>Q (.bool (g j l)) .old) Xd else Q (.bool false) .old)=(match x,y with
  | .int i,.int j=>if f i j=true then tc ρ (fun z _=>match z with|.int l=>Q (.bool (g j l)) .old|_=>False) Xd else Q (.bool false) .old
  | _,_=>False):=fun x y=>by
  cases x<;>first|rfl|(cases y<;>rfl)
 simp only [key] at h;exact h
theorem D4u (h:QA [] (.own [])):D4h ρ QA Xd:=h
theorem D0k (h:ta ρ (fun d k=>tl ρ (fun ds l=>QA (d::ds) (N8 d k l)) Xd) Xd):C8f ta tl ρ QA Xd:=h
theorem D0e {ns:List Int} (h:QA (ns.map PyData.int) (.own [])):C7z ns ρ QA Xd:=h
theorem D4d (h:tl ρ (fun ds k=>ds.length<=1000/\Q (.tuple ds) k) Xd):D3w tl ρ Q Xd:=h
theorem D69 (h:tl ρ (fun ds k=>ds.length<=1000/\Q (.list ds) k) Xd):D7l tl ρ Q Xd:=h
theorem D3h {sp:W0} (h:tl ρ (fun ds _=>sp ds (fun d o=>Q d (A70 o)) Xd) Xd):C0f sp tl ρ Q Xd:=h
theorem C5u {sp:W0} (h:tl ρ (fun ds _=>sp ds (fun d o=>Q d (A70 o)) Xf) Xd):B2d sp tl ρ Q Xd:=h
theorem D9e {g:FA} (h:tl ρ (fun ds k=>g ds k Q) Xd):dCB g tl ρ Q Xd:=h
theorem D7b {x:List D} (h:Q (.int x.length) .old):C1i [.list x] k Q:=h
theorem C9e {x:List D} (h:Q (.int x.length) .old):C1i [.tuple x] k Q:=h
theorem D2s {x:List D} (h:Q (.int x.length) .old):C1i [.dict [(.none,.list x)]] k Q:=h
theorem A6g:∀ (ns:List Int),A0n (ns.map PyData.int)=some ns
 | []=>rfl
 | n::r=>by show (A0n (r.map PyData.int)).map (n::·)=_;rw [A6g r];rfl
theorem D4z {f:List Bool->Bool} {x:List D} (h:∃ ns,A16 x=some ns/\Q (.bool (f ns)) .old):B1n f [.list x] k Q:=h
theorem D1b {x:List D} (h:Q (.list x) (A5j x k)):C15 [.list x] k Q:=h
theorem C9f {x y:Int} (h:Q (.int (if y > x then y else x)) .old):C9o [.int x,.int y] k Q:=h
theorem D53 {f:D->Bool} (h:ta ρ (fun d _=>Z4 d=true/\Q (.bool (f d)) .old) Xd):dIs f ta ρ Q Xd:=h
theorem D9i {f:F3} {tlo thi:TDO} (h:te ρ (fun d k=>tlo ρ (fun l=>thi ρ (fun h=>f d k l h Q) Xd) Xd) Xd):dSl f te tlo thi ρ Q Xd:=h
theorem C1a {Q:Option Int->Prop} (h:Q none):B55 ρ Q Xd:=h
theorem D1s {Q:Option Int->Prop} (h:te ρ (fun d _=>onI d fun i=>Q (some i)) Xd):C8g te ρ Q Xd:=h
theorem C5g {Q:C5->Prop} (h:Q (ρ.set i (some (false,d)))):C80 i d ρ Q:=h
theorem D1h {n:Nat} {bs:A5i} {ds:List D} {Q:C5->Prop} (h:ds.length=n/\bs ds ρ Q):C8n n bs (.tuple ds) ρ Q:=h
theorem C4t {b:TGD} {bs:A5i} {ds:List D} {Q:C5->Prop} (h:b d ρ fun ρ'=>bs ds ρ' Q):C7b b bs (d::ds) ρ Q:=h
theorem C95 {Q:C5->Prop} (h:Q ρ):D7r [] ρ Q:=⟨rfl,h⟩
theorem D4r {ti:TDI} {bnd:TGD} (h:ti ρ (fun ds b=>b=true/\lpD ds bnd t Dd ρ Xd) Xd):D51 ti bnd t Dd ρ Xd:=h
theorem D8r {Q:List D->Bool->Prop} (h:te ρ (fun d k=>onL d fun ds=>Q ds k.isOld) Xd):iL te ρ Q Xd:=h
theorem D8n {Q:List D->Bool->Prop} (h:te ρ (fun d k=>onT d fun ds=>Q ds k.isOld) Xd):iT te ρ Q Xd:=h
def C5x (ds:List D) (Q:Int->Prop):Prop:=match ds with|[.int j]=>Q j|_=>False
def D54 (ds:List D) (Q:List D->Prop):Prop:=match ds with|[.list j]=>Q j|_=>False
theorem D3d {x:Int} {Q:Int->Prop} (h:Q x):C5x [.int x] Q:=h
theorem D0s {x:List D} {Q:List D->Prop} (h:Q x):D54 [.list x] Q:=h
theorem D7d {Q:List D->Bool->Prop} (h:tl ρ (fun ds _=>C5x ds fun j=>(-(2 ^ 62)<=j/\j < 2 ^ 62)/\Q (A3c 0 j.toNat) true) Xd):iR1 tl ρ Q Xd:=by
 have e:(fun (ds:List D) (_:Kd)=>C5x ds fun j=>(-(2 ^ 62)<=j/\j < 2 ^ 62)/\Q (A3c 0 j.toNat) true)=(fun ds _=>match ds with|[.int j]=>-(2 ^ 62)<=j/\j < 2 ^ 62/\Q (A3c 0 j.toNat) true|_=>False):=by
  funext ds _;unfold C5x;split
  ·exact propext and_assoc
  ·rfl
 rw [e] at h;exact h
theorem D6e {Q:List D->Bool->Prop} (h:tl ρ (fun ds k=>D54 ds fun x=>Q (R9 0 x) k.isOld) Xd):iEn tl ρ Q Xd:=h
theorem D65 {is:List Nat} (h:te ρ (fun d k=>onT d fun ds=>ds.length=is.length/\Dd.nx (A82 ρ is ds k)) Xd):D6s is te Dd ρ Xd:=h
theorem C68 {C:Addr} (h:tl ρ (fun ds _=>ds.length<=1000/\Xd C) Xd):B9b C tl Dd ρ Xd:=h
def LcD (f:D->P5->(P5->Prop)->Prop) (ds:List D) (ok:Bool) (Q:QD):Prop:=go f ds [] fun es=>Q (.list (es.map (·.1))) (if es.all (·.2)=true then .own [] else if ok=true then .old else .mix)
theorem D9t {ti:TDI} {T:List Nat} {bnd:TGD} {tif:Y3} {tb:TB} {own:List Str} {cap:List (Str × Nat)} (h:ti ρ (fun ds b=>LcD (fun d es Q'=>bnd d (D9 (A93 own cap ρ) T) fun ρ'=>tif ρ' (fun c=>if c=true then tb ρ' es Q' else Q' es) Xf) ds (b&&A6b cap ρ) Q) Xd):dLC ti T bnd tif tb own cap ρ Q Xd:=h
theorem D03 {es:P5} {Q:P5->Prop} (h:te ρ (fun d k=>es.length < 1000000/\(eff d k).isOld=true/\Q (es++[(d,A2g (eff d k))])) Xf):C88 te ρ es Q:=h
theorem D0p {ti:TDI} {T:List Nat} {bnd:TGD} {tif:Y3} {tb:TB} {es:P5} {Q:P5->Prop} (h:ti ρ (fun ds b=>b=true/\go (fun d es Q'=>bnd d (D9 ρ T) fun ρ'=>tif ρ' (fun c=>if c=true then tb ρ' es Q' else Q' es) Xf) ds es Q) Xf):D7e ti T bnd tif tb ρ es Q:=h
theorem D5b {A B:Prop} (h:A):if (true:Bool)=true then A else B:=h
theorem D7g {A B:Prop} (h:B):if (false:Bool)=true then A else B:=by rw [if_neg Bool.false_ne_true];exact h
theorem C0q {x:Int}:setK ρ i (.int x) k=ρ.set i (some (false,.int x)):=rfl
theorem B7s {x:Bool}:setK ρ i (.bool x) k=ρ.set i (some (false,.bool x)):=rfl
theorem C13 {x:Str}:setK ρ i (.str x) k=ρ.set i (some (false,.str x)):=rfl
theorem C0l:setK ρ i .none k=ρ.set i (some (false,.none)):=rfl
theorem C02 {x:List D} {s:List Nat}:setK ρ i (.list x) (.own s)=(D9 ρ s).set i (some (true,.list x)):=rfl
theorem C12 {x:List D}:setK ρ i (.list x) .old=ρ.set i (some (false,.list x)):=rfl
theorem C1c {x:List D}:setK ρ i (.list x) .mix=(frz ρ).set i (some (false,.list x)):=rfl
theorem B79 {x:List Int} {s:List Nat}:setK ρ i (iD x) (.own s)=(D9 ρ s).set i (some (true,iD x)):=rfl
theorem B5s {x:List Int}:setK ρ i (iD x) .old=ρ.set i (some (false,iD x)):=rfl
theorem B5w {x:List Int}:setK ρ i (iD x) .mix=(frz ρ).set i (some (false,iD x)):=rfl
theorem B5u {x:List (List Int)} {s:List Nat}:setK ρ i (gD x) (.own s)=(D9 ρ s).set i (some (true,gD x)):=rfl
theorem B61 {x:List (List Int)}:setK ρ i (gD x) .old=ρ.set i (some (false,gD x)):=rfl
theorem B6t {x:List (List Int)}:setK ρ i (gD x) .mix=(frz ρ).set i (some (false,gD x)):=rfl
theorem B8z {x:List D} (h:flats x=true):setK ρ i (.tuple x) k=ρ.set i (some (false,.tuple x)):=by unfold setK;rw [X4,if_pos h]
theorem C5c {x:Int}:rtK (.int x) k=true:=rfl
theorem C1r {x:Bool}:rtK (.bool x) k=true:=rfl
theorem C3s {x:Str}:rtK (.str x) k=true:=rfl
theorem C39:rtK .none k=true:=rfl
theorem C6q {s:List Nat}:rtK d (.own s)=true:=by unfold rtK;rw [Bool.or_true]
theorem C3h {x:List D} (h:flats x=true):rtK (.tuple x) k=true:=by unfold rtK;rw [X4,h];rfl
theorem Q7 (h:flat d=true):N8 d k (.own [])=.own []:=by unfold N8;rw [if_pos h];rfl
theorem B62 {s:List Nat} (h:flat d=false):N8 d (.own s) (.own [])=.own (s++[]):=by
 unfold N8;rw [h,if_neg Bool.false_ne_true];show (if C4a s []=true then Kd.own (s++[]) else .mix)=_;rw [if_pos (by unfold C4a;simp)]
theorem B7r (h:flat d=false):N8 d .old (.own [])=.old:=by unfold N8;rw [h];rfl
theorem C5s:frz []=[]:=rfl
theorem C0g {b:Bool} {r:C5}:frz (some (b,d)::r)=some (false,d)::frz r:=rfl
theorem B9g {r:C5}:frz (none::r)=none::frz r:=rfl
theorem B73:D9 ρ []=ρ:=rfl
theorem B2o {s:List Nat}:D9 ρ (i::s)=D9 (ρ.set i none) s:=rfl
theorem D0q:A70 true=.own []:=rfl
theorem C8s:A70 false=.mix:=rfl
theorem C5l:Kd.sub (.own [])=.own []:=rfl
theorem C61:Kd.sub .old=.old:=rfl
theorem B97 {s:List Nat}:Kd.sub (.own (i::s))=.mix:=rfl
theorem C6t:Kd.sub .mix=.mix:=rfl
theorem B5p:Kd.isOld (.own [])=true:=rfl
theorem B7e:Kd.isOld .old=true:=rfl
theorem B6q:Kd.isOld .mix=false:=rfl
theorem B2a {s:List Nat}:Kd.isOld (.own (i::s))=false:=rfl
theorem C4j {x:Int}:eff (.int x) k=.own []:=rfl
theorem B8y {x:Bool}:eff (.bool x) k=.own []:=rfl
theorem C3l {x:Str}:eff (.str x) k=.own []:=rfl
theorem B3r {x:List D} (h:flats x=true):eff (.tuple x) k=.own []:=by unfold eff;rw [X4,h];rfl
theorem C6c {x:List D}:eff (.list x) k=k:=rfl
theorem D0n {x:List Int}:eff (iD x) k=k:=rfl
theorem D38 {x:List (List Int)}:eff (gD x) k=k:=rfl
theorem B1r:A2g (.own [])=true:=rfl
theorem B1g:A2g .old=false:=rfl
theorem D88 {r:C5} (q:Q d .old):X7 0 (some (false,d)::r) Q Xd:=⟨false,d,rfl,q⟩
theorem D9u {x0:Option (Bool × D)} {r:C5} (q:Q d .old):X7 1 (x0::some (false,d)::r) Q Xd:=⟨false,d,rfl,q⟩
theorem D8g {x0:Option (Bool × D)} {r:C5} (q:Q d (.own [1])):X7 1 (x0::some (true,d)::r) Q Xd:=⟨true,d,rfl,q⟩
theorem D9h {x0 x1:Option (Bool × D)} {r:C5} (q:Q d .old):X7 2 (x0::x1::some (false,d)::r) Q Xd:=⟨false,d,rfl,q⟩
theorem D95 {x0 x1:Option (Bool × D)} {r:C5} (q:Q d (.own [2])):X7 2 (x0::x1::some (true,d)::r) Q Xd:=⟨true,d,rfl,q⟩
theorem D8w {x0 x1 x2:Option (Bool × D)} {r:C5} (q:Q d .old):X7 3 (x0::x1::x2::some (false,d)::r) Q Xd:=⟨false,d,rfl,q⟩
theorem D9f {x0 x1 x2:Option (Bool × D)} {r:C5} (q:Q d (.own [3])):X7 3 (x0::x1::x2::some (true,d)::r) Q Xd:=⟨true,d,rfl,q⟩
theorem D8e {x0 x1 x2 x3:Option (Bool × D)} {r:C5} (q:Q d .old):X7 4 (x0::x1::x2::x3::some (false,d)::r) Q Xd:=⟨false,d,rfl,q⟩
theorem D9r {x0 x1 x2 x3:Option (Bool × D)} {r:C5} (q:Q d (.own [4])):X7 4 (x0::x1::x2::x3::some (true,d)::r) Q Xd:=⟨true,d,rfl,q⟩
theorem D8z {x0 x1 x2 x3 x4:Option (Bool × D)} {r:C5} (q:Q d .old):X7 5 (x0::x1::x2::x3::x4::some (false,d)::r) Q Xd:=⟨false,d,rfl,q⟩
theorem D9n {x0 x1 x2 x3 x4:Option (Bool × D)} {r:C5} (q:Q d (.own [5])):X7 5 (x0::x1::x2::x3::x4::some (true,d)::r) Q Xd:=⟨true,d,rfl,q⟩
theorem D9d {x0 x1 x2 x3 x4 x5:Option (Bool × D)} {r:C5} (q:Q d .old):X7 6 (x0::x1::x2::x3::x4::x5::some (false,d)::r) Q Xd:=⟨false,d,rfl,q⟩
theorem D8u {x0 x1 x2 x3 x4 x5 x6:Option (Bool × D)} {r:C5} (q:Q d .old):X7 7 (x0::x1::x2::x3::x4::x5::x6::some (false,d)::r) Q Xd:=⟨false,d,rfl,q⟩
theorem D8h {x0 x1 x2 x3 x4 x5 x6:Option (Bool × D)} {r:C5} (q:Q d (.own [7])):X7 7 (x0::x1::x2::x3::x4::x5::x6::some (true,d)::r) Q Xd:=⟨true,d,rfl,q⟩
theorem D8l {x0 x1 x2 x3 x4 x5 x6 x7:Option (Bool × D)} {r:C5} (q:Q d .old):X7 8 (x0::x1::x2::x3::x4::x5::x6::x7::some (false,d)::r) Q Xd:=⟨false,d,rfl,q⟩
theorem D92 {x0 x1 x2 x3 x4 x5 x6 x7 x8:Option (Bool × D)} {r:C5} (q:Q d (.own [9])):X7 9 (x0::x1::x2::x3::x4::x5::x6::x7::x8::some (true,d)::r) Q Xd:=⟨true,d,rfl,q⟩
theorem D6k {x0 x1 x2 x3 x4 x5 x6 x7 x8 x9:Option (Bool × D)} {r:C5} (q:Q d .old):X7 10 (x0::x1::x2::x3::x4::x5::x6::x7::x8::x9::some (false,d)::r) Q Xd:=⟨false,d,rfl,q⟩
end
structure B0t (k:Nat) (A:Around):Prop where
 dp:A.depth+3*k+5 < recursionLimit
 un:A.units+16*k+200 < cLine
theorem B0t.units {k:Nat} {A:Around} (r:B0t k A):A.units+64 < cLine:=by have:=r.un;omega
abbrev cxH (P:Program) (w:World) (K:W.Frag) (mg:Str->Option Value) (base:Heap) (N:List Str) (qual:Str) (scope:Scope) (f:Addr) (cd:Value) (A:Around) (outer:List Env) (s:Shared) (H:Hp) (E:XK):Cx :=
 { A02 X6 P w K mg base N qual scope f cd A outer s H E with calm:=false }
theorem B26 {P:Program} {w:World} {K:W.Frag} {mg:Str->Option Value} {base:Heap} {N ps:List Str} {qual:Str} {scope:Scope} {f:Addr} {cd:Value} {A:Around} {outer:List Env} {s s1:Shared} {H:Hp} {E:XK} {us:List Value} {vs:List V}
  (S:B8 N ps scope) (e0:B0w P w K mg base A outer s H) (hl:vs.length=ps.length) (r:C4 vs us)
  (x:InCallC s s.heap.objs.size (bindL (envOfC qual scope s.heap.objs.size f cd).kindOf (ps.zip us) fun _=>none) (cellsFrom (s.heap.objs.size+1) scope.names []) (bindC (envOfC qual scope s.heap.objs.size f cd).kindOf (ps.zip us) fun _=>none) s1) :
  B4 (cxH P w K mg base N qual scope f cd A outer s H E) [] (L2.start N vs) H s1:=by
 have I:=A5v (CX:=X6) (E:=E) (qual:=qual) (f:=f) (cd:=cd) (A:={ A with handled:=none }) (outer:=outer) S rfl (show B0w P w K mg base { A with handled:=none } outer s H from ⟨e0.frames,e0.mod,e0.bs,e0.bsz,e0.funs,e0.frf,e0.hok,e0.bare⟩) hl r x;exact ⟨⟨I.ok.mod,I.ok.kind,I.ok.glob,I.ok.blt,I.ok.above,I.ok.inj,I.ok.has,I.ok.cab,(fun z=>nomatch z),Around.frames_deeper e0.frames,I.ok.stk,I.ok.exf,I.ok.bs,I.ok.bsz,I.ok.noex,I.ok.exfs,I.ok.funs,I.ok.frf⟩,I.os,I.bare,I.base,I.loc,I.cell,I.free,I.freeC,I.pin,I.hok,I.len⟩
def LEX (K:W.Frag) (t:TD):TEX:=fun σ H Q E=>∃ H0 ν ρ Qd Xd,B7 K Z0 H0 ν ρ σ H/\t ρ Qd Xd/\(∀ d k v H',Qd d k->A7 H H'->R3 K Z0 ν H H' k v d->Q v H')/\∀ C H',Xd C->A7 H H'->E (.ref C) none H'
structure DEX (X:Cx) (K:W.Frag) (e:Expr) (t:TD):Prop where
 q:PEX X e (LEX K t)
abbrev A5f:=N6->C5->(C5->Addr->Prop)->Prop
def LSX (K:W.Frag) (t:A5f):TSX:=fun En Es σ H=>∃ H0 ν ρ Dd Xr,B7 K Z0 H0 ν ρ σ H/\t Dd ρ Xr/\A4a K H0 En Dd/\∀ ν' ρ' σ' H' C,Xr ρ' C->B7 K Z0 H0 ν' ρ' σ' H'->Es σ' (.ref C) none H'
structure DSX (X:Cx) (K:W.Frag) (s:Stmt) (t:A5f):Prop where
 q:PSX X s (LSX K t)
structure D5c (X:Cx) (K:W.Frag) (s:List Stmt) (t:A5f):Prop where
 q:C5i X s (LSX K t)
theorem B4q {X:Cx} {e:Expr} {t t':TEX} (h:PEX X e t) (i:∀ σ H Q E,t' σ H Q E->t σ H Q E):PEX X e t':=⟨fun pins s σ H Q E I w=>h.h pins s σ H Q E I (i σ H Q E w)⟩
theorem C6g {X:Cx} {e:Stmt} {t t':TSX} (h:PSX X e t) (i:∀ D E σ H,t' D E σ H->t D E σ H):PSX X e t':=⟨fun pins s σ H D E I w=>h.h pins s σ H D E I (i D E σ H w)⟩
section
variable {X:Cx} {K:W.Frag} {pos:Pos} {e:Expr}
def xCl (sp:W0) (t:TDA):TD:=fun ρ Q Xd=>t ρ (fun ds _=>sp ds (fun d o=>Q d (A70 o)) Xd) Xf
theorem B89 {x:Str} {ps:List Str} {k:Nat} {sp:W0} {p:Pos} {es:List Expr} {t:TDA} (D:DfE X.prog X.w X.K X.mg X.base x ps k (E9 K sp)) (F:A4m X) (hr:O0 k X.A) (ha:DA X.nox K E0 (e::es) t) (hg:Gl X x:=by rfl) (hdb:(x==("__debug__":Str))=false:=by decide)
  (he:starEach (e::es) X.env=(false,eval e X.env)::starEach es X.env:=by rfl) (hpl:(backTo pos (starEach es X.env)).any (·.1)=false:=by rfl):DEX X K (.Call (.Name x p) (e::es) [] pos) (xCl sp t):=⟨B4q (B8c D F hr ha.q hg hdb he hpl) fun σ H Q E h=>by
 obtain ⟨H0,ν,ρ,Qd,Xd,S,h1,q,x⟩:=h;refine ⟨H0,ν,ρ,_,Xf,S,h1,fun ds k vs H1 g1 e1 r1=>?_,fun _ _ z _=>z.elim⟩;exact ⟨ds,_,Xd,r1.dens,g1,fun d o v H' a1 a2 a3=>q _ _ _ _ a1 (e1.trans a2) (B1d e1 a3),fun C H' a1 a2=>x C H' a1 (e1.trans a2)⟩⟩
def D4t (ta tb:TD):TD:=fun ρ Q Xd=>ta ρ (fun d k=>tb ρ (fun e l=>Q (.tuple [d,e]) (N8 d k (N8 e l (.own [])))) Xd) Xf
theorem C2l {a b:Expr} {ta tb:TD} {x1} (ha:DE X.nox K E0 a ta) (hb:DEX X K b tb) (hs:starEach [a,b] X.env=[(false,eval a X.env),(false,eval b X.env)]:=by rfl):DEX X K (.Tuple [a,b] x1 pos) (D4t ta tb):=⟨B4q (B9q ha.q hb.q hs) fun σ H Q E h=>by
 obtain ⟨H0,ν,ρ,Qd,Xd,S,h1,q,x⟩:=h;refine ⟨H0,ν,ρ,_,Xf,S,h1,fun d k v H1 g1 e1 r1=>?_,fun _ _ z _=>z.elim⟩;refine ⟨H0,ν,ρ,_,Xd,S.same e1,g1,fun d2 k2 v2 H2 g2 e2 r2 p hp=>?_,fun C H' a b=>x C H' a (e1.trans b)⟩;have hl2:∀ a,Hd Z0 ν a->Mu H2 a:=(S.same (e1.trans e2)).hl;have R2:RsL K Z0 ν H1 H2 (N8 d2 k2 (.own [])) [v2] [d2]:=A58 (S.same e1).hl S.dj e2 (A7.refl H2) r2 ⟨[],.nil,nodup_nil,fun _ z=>by cases z⟩;exact q _ _ _ _ g2 ((e1.trans e2).trans (A7.new hp)) (A95 hl2 (e1.trans e2) hp (A58 S.hl S.dj e1 e2 r1 R2))⟩
def xRt (te:TD):A5f:=fun Dd ρ Xr=>te ρ (fun d k=>Dd.rt d (rtK d k)) (Xr ρ)
theorem C63 {te:TD} (h:DEX X K e te):DSX X K (.Return (some e) pos) (xRt te):=⟨C6g (C54 h.q) fun D E σ H h=>by
 obtain ⟨H0,ν,ρ,Dd,Xr,S,h1,ok,x⟩:=h;exact ⟨H0,ν,ρ,_,_,S,h1,fun d k v H' g1 g2 g3=>ok.rt _ _ _ _ g1 (S.sm.trans g2) (C84 S g2 g3),fun C H' a b=>x _ _ _ _ _ a (S.same b)⟩⟩
theorem C0z {s:Stmt} {t:A5f} (h:DSX X K s t):D5c X K [s] t:=⟨C2t h.q⟩
def xIf (tc:Y3) (a b:A5f):A5f:=fun Dd ρ Xr=>tc ρ (fun c=>if c=true then a Dd ρ Xr else b Dd ρ Xr) Xf
def opq (a:Addr):D:=.dict [(.bool true,.int (a:Nat))]
def B25 (Dd:N6):N6:={ nx:=fun _=>False,rt:=Dd.rt,bk:=fun _=>False,ct:=fun _=>False }
def C7o (K:W.Frag) (mg:Str->Option Value) (R:Addr) (i:Nat) (tb:A5f) (ts:Addr->Addr->L9):L9:=fun Dd ρ _=>tb Dd ρ fun ρ' C=>A4g K C R/\(∃ x,W3 K mg x C)/\ExK K C/\∀ ea,ts ea C (B25 Dd) (ρ'.set i (some (false,opq ea))) Xf
theorem B8n (i:Nat) {E:XK} {x n:Str} {R:Addr} {b0:Stmt} {body suite:List Stmt} {tb:A5f} {ts:Addr->Addr->L9} {np hpos:Pos} {mg:Str->Option Value} (hK:X.K=K) (hmg:X.mg=mg) (F:A4m X) (hN:X.N.Nodup) (hg:Gl X x) (hm:mg x=some (.ref R)) (hb:D5c X K body tb)
  (hs:∀ ea oe C y,XOf oe C->W3 K mg y C->ExK K C->DSs (X.within ea oe) K E0 (b0::suite) (ts ea C)) (hi:X.N[i]?=some n:=by rfl) (hln:X.env.kindOf n=some .local:=by rfl) (hln2:X.env.scope.names.lookup n=some .local:=by rfl) (hdb:(x==("__debug__":Str))=false:=by decide) :
  DS X K E (.Try body [.ExceptHandler (some (.Name x np)) (some n) (b0::suite) hpos] [] [] pos) (C7o K mg R i tb ts):=⟨M8 (C1h i K hK mg hmg F hN hg hm hb.q (fun ea oe C y h1 h2 h3=>(hs ea oe C y h1 h2 h3).q) hi hln hln2 hdb) fun En σ H h=>by
 obtain ⟨H0,ν,ρ,Dd,Xd,S,h1,ok,x⟩:=h;refine ⟨H0,ν,ρ,Dd,_,S,h1,ok,fun ν' ρ' σ' H' C a S'=>?_⟩;obtain ⟨a1,⟨y,a2⟩,a3,a4⟩:=a;refine ⟨C,y,rfl,a1,a2,a3,fun ea _=>⟨H0,ν',_,B25 Dd,Xf,S'.setOld i (v:=.ref ea) (d:=opq ea) (.opq ea),a4 ea,⟨fun _ _ _ _ z=>z.elim,fun _ _ _ _ z=>z.elim,fun _ _ _ _ z=>z.elim,ok.rt⟩,fun _ _ z _=>z.elim⟩⟩⟩
def D6h (K:W.Frag) (ea C D:Addr) (te:TD):TD:=fun ρ Q Xd=>te ρ (fun d _=>d=opq ea/\∃ b,PySem.W.kitOne K (.ref C) (.ref D)=some b/\Q (.bool b) .old) Xd
theorem B37 {H:Hp} {v:V} {a:Addr} (h:Dn K H v (opq a)):v=.ref a:=by
 unfold opq at h;generalize hd:(PyData.dict [(.bool true,.int ((a:Nat):Int))])=d at h;cases h with
 | opq b =>
  have:((a:Nat):Int)=((b:Nat):Int):=by injection hd with z;injection z with z _;injection z with _ z;injection z
  have:a=b:=by exact_mod_cast this
  rw [this]
 | _=>cases hd
theorem W6 {E:XK} {ea C D:Addr} {oe:Obj} {x y:Str} {te:TD} {p p2:Pos} {ex:Expr} (hK:X.K=K) (hp:(ea,oe)∈X.pn) (hc:XOf oe C) (c:W3 K X.mg x C) (k:ExK K C) (hg:Gl X "isinstance") (hm:X.mg "isinstance"=none) (ha:DE X K E ex te) (hg2:Gl X y) (hm2:X.mg y=some (.ref D)) (hd:(y==("__debug__":Str))=false:=by decide)
  (he:starEach [ex,.Name y p2] X.env=(false,eval ex X.env)::starEach [.Name y p2] X.env:=by rfl) (hpl:(backTo pos (starEach [.Name y p2] X.env)).any (·.1)=false:=by rfl):DE X K E (.Call (.Name "isinstance" p) [ex,.Name y p2] [] pos) (D6h K ea C D te) :=
 ⟨D2 (A0e (B17 hK hp hc.1 c k) hg hm (by decide +kernel) (J9 ha.q (hs:=he) (J9 (C5b hg2 hm2 hd) R7)) (by decide) (by decide) he hpl) fun σ H Q h=>by
  obtain ⟨H0,ν,ρ,Qd,Xd,S,h1,q,x⟩:=h;refine ⟨H0,ν,ρ,_,Xd,S,h1,fun d l v H' g1 g2 g3=>?_,x⟩;obtain ⟨rfl,b,hb,g1⟩:=g1;exact ⟨.ref D,b,by rw [B37 g3.den],.inl ⟨D,rfl,hb⟩,q _ _ _ _ g1 g2 (.bl _)⟩⟩
end
section
variable {X:Cx} {K:W.Frag}
theorem C3r {x:List Int}:PyData.list (x.map PyData.int)=iD x:=rfl
theorem C6o {x:List (List Int)}:PyData.list (x.map iD)=gD x:=rfl
theorem B75:DOp X K (binaryOp .FloorDiv) (fI C7h fun i j=>.int (i / j)):=⟨_,C0a,A06⟩
end
section
variable {te:TD} {Dd:N6} {ρ:C5} {Xd:XD} {i:Nat} {d e:D} {k:Kd}
def D05 (ds:List D) (i:Nat) (ρ:C5) (Dd:N6) (d:D):Kd->Prop
 | .own s=>i∉s/\Dd.nx ((D9 ρ s).set i (some (true,.list (ds++[d]))))
 | _=>False
theorem D6x {ds:List D} (e:ρ[i]?=some (some (true,.list ds))) (hl:ds.length < 1000000) (h:te ρ (fun d k=>D05 ds i ρ Dd d (eff d k)) Xd):D44 i te Dd ρ Xd:=by
 refine ⟨ds,e,hl,?_⟩;have:(fun d k=>D05 ds i ρ Dd d (eff d k))=(fun d k=>match eff d k with
  | .own s=>i∉s/\Dd.nx ((D9 ρ s).set i (some (true,.list (ds++[d]))))
  | _=>False):=by
  funext d k;cases eff d k<;>rfl
 rw [this] at h;exact h
theorem C93 {ds:List D} {s:List Nat} (h:i∉s/\Dd.nx ((D9 ρ s).set i (some (true,.list (ds++[d]))))):D05 ds i ρ Dd d (.own s):=h
theorem C2m {is:List Nat} {ds:List D}:A82 ρ is ds (.own [])=N5 true ρ is ds:=by
 unfold A82 eff;split<;>first|rfl|(split at*<;> simp_all)
theorem B7j {is:List Nat} {ds:List D} (h:flats ds=true):A82 ρ is ds k=N5 true ρ is ds:=by
 unfold A82;have:eff (.tuple ds) k=.own []:=B3r h;rw [this]
theorem B10 {b:Bool} {is:List Nat} {ds:List D}:N5 b ρ (i::is) (d::ds)=N5 b (ρ.set i (some (b&&!flat d,d))) is ds:=rfl
theorem B2g {b:Bool} {ds:List D}:N5 b ρ [] ds=ρ:=rfl
theorem D1z {r:List Int} {x:Int}:PyData.list (r.map .int++[.int x])=iD (r++[x]):=by unfold iD;rw [map_append];rfl
theorem D1i {g:List (List Int)} {r:List Int}:PyData.list (g.map iD++[iD r])=gD (g++[r]):=by unfold gD;rw [map_append];rfl
end
variable {α:Type}
theorem A73 {f:D->P5->(P5->Prop)->Prop} {Q:P5->Prop} (F G:α->D) (p:α->Bool):∀ (L:List α) (es:P5),(∀ a∈L,∀ es (Q':P5->Prop),es.length < 1000000->Q' (if p a=true then es++[(G a,true)] else es)->f (F a) es Q')->es.length+L.length<=1000000->Q (es++(L.filter p).map fun a=>(G a,true))->go f (L.map F) es Q
 | [],es,_,_,q=>by
  show Q es;simpa using q
 | a::r,es,hs,hm,q=>by
  rw [length_cons] at hm;refine hs a mem_cons_self es _ (by omega) ?_;refine A73 F G p r _ (fun b hb=>hs b (mem_cons_of_mem _ hb)) ?_ ?_
  ·split
   ·rw [length_append,List.length_singleton];omega
   ·omega
  ·rw [List.filter_cons] at q;by_cases hp:p a=true
   ·rw [if_pos hp] at q ⊢;rw [append_assoc];exact q
   ·rw [if_neg hp] at q ⊢;exact q
theorem B42 {f:D->P5->(P5->Prop)->Prop} {ok:Bool} {Q:QD} {L:List α} (F G:α->D) (p:α->Bool) (hs:∀ a∈L,∀ es (Q':P5->Prop),es.length < 1000000->Q' (if p a=true then es++[(G a,true)] else es)->f (F a) es Q') (hm:L.length<=1000000) (q:Q (.list ((L.filter p).map G)) (.own [])):LcD f (L.map F) ok Q:=by
 refine A73 F G p L [] hs (by simpa using hm) ?_;have e1:((((L.filter p).map fun a=>(G a,true)):P5).map (·.1))=(L.filter p).map G:=by rw [map_map];rfl
 have e2:((((L.filter p).map fun a=>(G a,true)):P5).all (·.2))=true:=by rw [List.all_map];exact all_eq_true.mpr fun _ _=>rfl
 rw [List.nil_append,e1,if_pos e2];exact q
theorem N1 {f:D->P5->(P5->Prop)->Prop} {ok:Bool} {Q:QD} {L:List α} (F G:α->D) (hs:∀ a∈L,∀ es (Q':P5->Prop),es.length < 1000000->Q' (es++[(G a,true)])->f (F a) es Q') (hm:L.length<=1000000) (q:Q (.list (L.map G)) (.own [])):LcD f (L.map F) ok Q :=
 B42 F G (fun _=>true) hs hm (by rw [List.filter_eq_self.mpr fun _ _=>rfl];exact q)
def dJn (t:L9):L9:=t
theorem C0d {X:Cx} {K:W.Frag} {E:XK} {s:Stmt} {t:L9} (h:DS X K E s t):DS X K E s (dJn t):=h
theorem D7m {t:L9} {Dd:N6} {ρ:C5} {Xd:XD} (I:C5->Prop) (h1:∀ N:C5->Prop,(∀ ρ',I ρ'->N ρ')->t { Dd with nx:=N } ρ Xd) (h2:∀ ρ',I ρ'->Dd.nx ρ'):dJn t Dd ρ Xd:=h1 Dd.nx h2
section
variable {K:W.Frag} {R:Addr} {tb:A5f} {ts:L9} {Dd:N6} {ρ:C5} {Xd:XD} {Xr:C5->Addr->Prop} {te:TD} {tl:TDA} {sp:W0} {Q:QD}
theorem D1f {mg:Str->Option Value} {i:Nat} {ts:Addr->Addr->L9} (h:tb Dd ρ fun ρ' C=>A4g K C R/\(∃ x,W3 K mg x C)/\ExK K C/\∀ ea,ts ea C (B25 Dd) (ρ'.set i (some (false,opq ea))) Xf):C7o K mg R i tb ts Dd ρ Xd:=h
theorem D4q (h:tl ρ (fun ds _=>sp ds (fun d o=>Q d (A70 o)) Xd) Xf):xCl sp tl ρ Q Xd:=h
theorem D4n {ta tb:TD} (h:ta ρ (fun d k=>tb ρ (fun e l=>Q (.tuple [d,e]) (N8 d k (N8 e l (.own [])))) Xd) Xf):D4t ta tb ρ Q Xd:=h
theorem D78 (h:te ρ (fun d k=>Dd.rt d (rtK d k)) (Xr ρ)):xRt te Dd ρ Xr:=h
end
theorem D36 {b:Bool} {d:D} {r:C5}:frz1 0 (some (b,d)::r)=some (false,d)::r:=rfl
theorem D1x {i:Nat} {x:Option (Bool × D)} {r:C5}:frz1 (i+1) (x::r)=x::frz1 i r:=by
 unfold frz1;rw [List.getElem?_cons_succ];cases h:r[i]? with
 | none=>rfl
 | some y=>cases y with
  | none=>rfl
  | some p=>rfl
section
variable {k:Expr}
theorem B65 {x:Int} {k:Kd}:N8 (.int x) k (.own [])=.own []:=Q7 rfl
theorem B6d {x:Bool} {k:Kd}:N8 (.bool x) k (.own [])=.own []:=Q7 rfl
theorem C0x {x:Str} {k:Kd}:N8 (.str x) k (.own [])=.own []:=Q7 rfl
theorem C2b {k:Kd}:N8 .none k (.own [])=.own []:=Q7 rfl
theorem D0u {x:Int}:PyData.list [PyData.int x]=iD [x]:=rfl
theorem two_iD {x y:Int}:PyData.list [PyData.int x,PyData.int y]=iD [x,y]:=rfl
end
abbrev SpX:=Addr->(D->Prop)->Prop
structure C2i (P:Program) (w:World) (K:W.Frag) (mg:Str->Option Value) (base:Heap) (k:Nat) (f:Addr) (fd:FuncData) (p:Str) (spx:SpX):Prop where
 run:∀ (A:Around) (outer:List Env) (s:Shared) (H:Hp) (args:Args) (ea C:Addr) (oe:Obj) (y:Str) (Qd:D->Prop) (Q:VK),B0t k A->B0w P w K mg base A outer s H->BindsTo s fd args [(p,.ref ea)]->s.heap.get? ea=some oe->A.handled=some (.ref ea)->XOf oe C->W3 K mg y C->ExK K C->H ea=none->ea∉frs outer->(∀ v,oe.data≠.cell v)->spx C Qd->(∀ d v H',Qd d->flat d=true->A7 H H'->Dn K H' v d->Q v H') ->
  codeAny (model P w) A (.call (.ref f) args) (CR X6 outer P w H s Q E0) s
abbrev cxX (P:Program) (w:World) (K:W.Frag) (mg:Str->Option Value) (base:Heap) (N:List Str) (qual:Str) (scope:Scope) (f:Addr) (cd:Value) (A:Around) (outer:List Env) (s:Shared) (H:Hp) (E:XK) (ea:Addr) (oe:Obj):Cx :=
 { A02 X6 P w K mg base N qual scope f cd A outer s H E with calm:=false,pn:=[(ea,oe)] }
theorem B2s {P:Program} {w:World} {K:W.Frag} {mg:Str->Option Value} {base:Heap} {N ps:List Str} {qual:Str} {scope:Scope} {f:Addr} {cd:Value} {A:Around} {outer:List Env} {s s1:Shared} {H:Hp} {E:XK} {us:List Value} {vs:List V} {ea:Addr} {oe:Obj}
  (S:B8 N ps scope) (e0:B0w P w K mg base A outer s H) (hl:vs.length=ps.length) (r:C4 vs us) (he:s.heap.get? ea=some oe) (h1:H ea=none) (h2:ea∉frs outer) (h3:∀ v,oe.data≠.cell v)
  (x:InCallC s s.heap.objs.size (bindL (envOfC qual scope s.heap.objs.size f cd).kindOf (ps.zip us) fun _=>none) (cellsFrom (s.heap.objs.size+1) scope.names []) (bindC (envOfC qual scope s.heap.objs.size f cd).kindOf (ps.zip us) fun _=>none) s1) :
  B4 (cxX P w K mg base N qual scope f cd A outer s H E ea oe) [] (L2.start N vs) H s1:=by
 have I:=B26 (E:=E) (qual:=qual) (f:=f) (cd:=cd) S e0 hl r x;refine ⟨⟨I.ok.mod,I.ok.kind,I.ok.glob,I.ok.blt,I.ok.above,I.ok.inj,I.ok.has,I.ok.cab,(fun z=>nomatch z),I.ok.frames,I.ok.stk,I.ok.exf,I.ok.bs,I.ok.bsz,I.ok.noex,I.ok.exfs,I.ok.funs,I.ok.frf⟩,I.os,I.bare,I.base,I.loc,I.cell,I.free,I.freeC,fun p hp=>?_,I.hok,I.len⟩;have:p=(ea,oe):=by simpa using hp
 subst this;exact ⟨x.toInCall.keep _ _ he,h1,Nat.ne_of_lt (Heap.lt_size he),h2,h3⟩
theorem okX {P:Program} {w:World} {K:W.Frag} {mg:Str->Option Value} {base:Heap} {x qual:Str} {st:Stmt} {f:Addr} {fd:FuncData} {N:List Str} {p:Str} {k:Nat} {spx:SpX} (F:U3 K x qual st f fd) (S:B8 N [p] (A9 st))
  (hbody:∀ (cdv:Value) (A:Around) (outer:List Env) (s:Shared) (H:Hp) (E:XK) (ea C:Addr) (oe:Obj) (y:Str),B0t k (A.deeper (envOfC qual (A9 st) s.heap.objs.size f cdv))->A.handled=some (.ref ea)->XOf oe C->W3 K mg y C->ExK K C->∃ t,DSs (cxX P w K mg base N qual (A9 st) f cdv A outer s H E ea oe).nox K E0 (M5 st) t/\∀ Qd:D->Prop,spx C Qd->t { nx:=fun _=>Qd .none,rt:=fun d _=>Qd d/\flat d=true } (A1c N [opq ea]) Xf):C2i P w K mg base (k+1) f fd p spx:=by
 obtain ⟨oc,od,kV,doc,pm,an,cdv,ct,osl,rfl,lk,hcd⟩:=F.ex;refine ⟨fun A outer s H args ea C oe y Qd Q hr e0 hb he hA hc cx kx h1 h2 h3 hsp q=>?_⟩;have KX:K.In s.heap:=e0.mod.kin.keeps fun b o e=>(e0.bs b o e).1;have lim:s.heap.NoLimit:=e0.mod.nolimit.keeps fun b o e=>(e0.bs b o e).1;have hkind:∀ y∈[p].zip [Value.ref ea],(A9 st).names.lookup y.1=some .local\/((A9 st).names.lookup y.1=some .cell/\((cellsFrom (s.heap.objs.size+1) (A9 st).names []).lookup y.1).isSome=true):=fun ⟨n,v⟩ hy=>by
  rcases S.par n (List.of_mem_zip hy).1 with q|q
  ·exact .inl q
  ·exact .inr ⟨q,PySem.W.cellsFrom_some _ _ _ (.inl q)⟩
 refine codeAny_call_function (by have:=hr.dp;omega) (KX _ _ lk) rfl S.co S.gen rfl (PySem.W.codeRec_of KX hcd) (hb _ _ _ _ ?_);refine wpAny_newFunctionEnv_cells S.kind hkind fun env henv s1 x=>?_;subst henv;refine ⟨lim.keeps x.toInCall.keep,codeAny_func ?_⟩;obtain ⟨t,ht,hq⟩:=hbody cdv A outer s H E0 ea C oe y ⟨by have:=hr.dp;show A.depth+1+3*k+5 < _;omega,by have:=hr.un;show A.units+3+16*k+200 < _;omega⟩ hA hc cx kx;obtain ⟨t',ht',hq'⟩:=dmk (N:=N) (vs:=[.ref ea]) (H:=H) (Q:=Q) (Qd:=fun d _=>Qd d/\flat d=true) (Xd:=Xf) ht (.cons (.opq ea) .nil) (fun d o v H' hd sm r=>q d v H' hd.1 hd.2 sm (by
  cases o with
  | true=>obtain ⟨ms,m1,_⟩:=r;exact m1.den
  | false=>exact r)) (fun _ _ z _=>z.elim) (by
   have:=hq Qd hsp;have e:(fun (_:C5)=>Qd PyData.none)=fun _=>(Qd PyData.none/\flat PyData.none=true):=by funext _;simp [flat]
   rw [e] at this;exact this)
 have ht2:PSs (cxX P w K mg base N qual (A9 st) f cdv A outer s H E0 ea oe) (M5 st) t':=fun pins s σ H D I hw =>
  wpAny_mono (ht' pins s σ H D (I.wish _) hw) (fun _ _ q=>q.unwish) fun _ _ z=>False.elim z
 have I:B4 (cxX P w K mg base N qual (A9 st) f cdv A outer s H E0 ea oe) [] (L2.start N [.ref ea]) H s1:=B2s S e0 rfl (.cons rfl .nil) he h1 h2 h3 x;refine wpAny_mono (ht2 [] s1 (L2.start N [.ref ea]) H _ I hq') (fun fl s' hs=>?_) fun e s' hs=>hs;have fin:∀ {σ':L2.St} {H':Hp} {v:V} {u:Value},B4 (cxX P w K mg base N qual (A9 st) f cdv A outer s H E0 ea oe) [] σ' H' s'->C8 v u->Q v H'->CE outer P w H s Q u s' :=
  fun {σ' H' v u} J rv q=>⟨v,H',J.os,J.bare,J.base,J.hok,rv,q⟩
 cases fl with
 | ret u =>
  obtain ⟨v,σ',H',J,rv,q⟩:=hs;exact fin J rv q
 | next =>
  obtain ⟨σ',H',J,q⟩:=hs;exact fin (v:=V.non) (u:=Value.none) J rfl q
 | brk =>
  obtain ⟨_,_,_,q⟩:=hs;exact False.elim q
 | cont =>
  obtain ⟨_,_,_,q⟩:=hs;exact False.elim q
structure DfX (P:Program) (w:World) (K:W.Frag) (mg:Str->Option Value) (base:Heap) (x p:Str) (k:Nat) (spx:SpX):Prop where
 ex:∃ f fd,C2i P w K mg base k f fd p spx/\mg x=some (.ref f)/\PySem.W.keepIn K (.ref f)=true/\A2z K fd [p] []
section
variable {X:Cx} {K:W.Frag} {E:XK} {pos pp:Pos} {te:TD} {x:Str} {ex:Expr}
def C01 (spx:SpX) (ea C:Addr) (te:TD):TD:=fun ρ Q Xd=>te ρ (fun d _=>d=opq ea/\spx C fun r=>Q r .old) Xd
theorem C43 {p:Str} {k:Nat} {spx:SpX} {ea C:Addr} {oe:Obj} {y:Str} (D:DfX X.prog X.w K X.mg X.base x p k spx) (hK:X.K=K) (hr:B0t k X.A) (hp:(ea,oe)∈X.pn) (hA:X.A.handled=some (.ref ea)) (hc:XOf oe C) (c:W3 K X.mg y C) (kk:ExK K C) (ha:DE X K E ex te) (hst:X.stack=X.env::X.outer/\X.env.frame=some X.env.locals) (hg:Gl X x:=by rfl) (hdb:(x==("__debug__":Str))=false:=by decide)
  (he:starEach [ex] X.env=(false,eval ex X.env)::starEach [] X.env:=by rfl) (hpl:(backTo pos (starEach [] X.env)).any (·.1)=false:=by rfl):DE X K E (.Call (.Name x pp) [ex] [] pos) (C01 spx ea C te):=by
 subst hK;refine ⟨⟨fun pins s σ H Q I h=>?_⟩⟩;obtain ⟨f,fd,F,hm,hk,hb⟩:=D.ex;obtain ⟨H0,ν,ρ,Qd,Xd,S,h1,q,xx⟩:=h;refine wpAny_Call_Name_kw (A0d I hg hm ?_ hdb);refine PySem.W.callWith_K (h₀:=X.base) I.ok.mod.kin hk (D6 ((J9 ha.q R7 he).h pos pins s σ H (fun vs H1=>vs=[.ref ea]/\A7 H H1/\spx C fun r=>Qd r .old) I ⟨H0,ν,ρ,_,Xd,S,h1,fun d k v H1 g1 g2 g3=>?_,xx⟩) fun us s1 ⟨vs,H1,I1,r,q1⟩=>⟨I1.kIn,?_⟩) he hpl
 ·obtain ⟨rfl,g1⟩:=g1;exact ⟨by rw [B37 g3.den],g2,g1⟩
 ·obtain ⟨rfl,sm,hsp⟩:=q1;obtain ⟨u,rfl⟩:∃ u,us=[u]:=by
   cases r with
   | cons _ r2=>cases r2;exact ⟨_,rfl⟩
  have hu:u=.ref ea:=by
   cases r with
   | cons h _=>exact h
  subst hu;obtain ⟨p1,p2,p3,p4,p5⟩:=I1.pin (ea,oe) (mem_append_left _ hp);have hfr:ea∉frs X.stack:=by
   rw [hst.1];unfold frs;rw [List.filterMap_cons,hst.2];intro z;rcases mem_cons.mp z with z|z
   ·exact p3 z
   ·exact p4 z
  refine wpAny_call (codeAny_mono (F.run X.A X.stack s1 H1 ⟨[.ref ea],[]⟩ ea C oe y (fun r=>Qd r .old) Q hr I1.env0 (hb s1 [.ref ea] I1.kIn rfl) p1 hA hc c kk p2 hfr p5 hsp fun d v H' hd hf sm2 hv=>?_) fun r s' hq=>?_)
  ·exact q d .old v H' hd (sm.trans sm2) (by
    exact R6 (fun a z=>by
     obtain ⟨us,w⟩:=((S.same sm).same sm2).hl a z;exact ⟨us,w⟩) hv hf)
  ·cases r with
   | error e=>exact hq.elim
   | ok fl =>
    cases fl with
    | ret u=>exact I1.after hq
    | next=>exact False.elim hq
    | brk=>exact False.elim hq
    | cont=>exact False.elim hq
end
section
variable {X:Cx} {K:W.Frag} {E:XK}
def C83 (K:W.Frag) (ea C:Addr) (n:String) (te:TD):TD:=fun ρ Q Xd=>te ρ (fun d _=>d=opq ea/\∃ b,PySem.W.kitOne K (.ref C) (.type n)=some b/\Q (.bool b) .old) Xd
theorem C0p {ea C:Addr} {oe:Obj} {x y:Str} {n:String} {te:TD} {p p2 pos:Pos} {ex:Expr} (hK:X.K=K) (hp:(ea,oe)∈X.pn) (hc:XOf oe C) (c:W3 K X.mg x C) (k:ExK K C) (hg:Gl X "isinstance") (hm:X.mg "isinstance"=none) (ha:DE X K E ex te) (hg2:Gl X y) (hm2:X.mg y=none) (hv2:bootBuiltins y=some (.type n)) (hn:y≠"__name__":=by decide) (hd:(y==("__debug__":Str))=false:=by decide)
  (he:starEach [ex,.Name y p2] X.env=(false,eval ex X.env)::starEach [.Name y p2] X.env:=by rfl) (hpl:(backTo pos (starEach [.Name y p2] X.env)).any (·.1)=false:=by rfl):DE X K E (.Call (.Name "isinstance" p) [ex,.Name y p2] [] pos) (C83 K ea C n te) :=
 ⟨D2 (A0e (B17 hK hp hc.1 c k) hg hm (by decide +kernel) (J9 ha.q (hs:=he) (J9 (A9i (v:=.ty n) hg2 hm2 hv2 rfl hn hd) R7)) (by decide) (by decide) he hpl) fun σ H Q h=>by
  obtain ⟨H0,ν,ρ,Qd,Xd,S,h1,q,x⟩:=h;refine ⟨H0,ν,ρ,_,Xd,S,h1,fun d l v H' g1 g2 g3=>?_,x⟩;obtain ⟨rfl,b,hb,g1⟩:=g1;exact ⟨.ty n,b,by rw [B37 g3.den],.inr ⟨n,rfl,hb⟩,q _ _ _ _ g1 g2 (.bl _)⟩⟩
end
end DL
namespace L2
open PySem PySem.Spec PyProof.Rows
end L2
namespace DL
open PySem PySem.Spec PyProof.Rows L2
section
variable {K:W.Frag}
theorem C5w {spx:SpX} {ea C:Addr} {te:TD} {ρ:C5} {Q:QD} {Xd:XD} (h:te ρ (fun d _=>d=opq ea/\spx C fun r=>Q r .old) Xd):C01 spx ea C te ρ Q Xd:=h
theorem D59 {ea C D':Addr} {te:TD} {ρ:C5} {Q:QD} {Xd:XD} (h:te ρ (fun d _=>d=opq ea/\∃ b,PySem.W.kitOne K (.ref C) (.ref D')=some b/\Q (.bool b) .old) Xd):D6h K ea C D' te ρ Q Xd:=h
theorem D29 {ea C:Addr} {n:String} {te:TD} {ρ:C5} {Q:QD} {Xd:XD} (h:te ρ (fun d _=>d=opq ea/\∃ b,PySem.W.kitOne K (.ref C) (.type n)=some b/\Q (.bool b) .old) Xd):C83 K ea C n te ρ Q Xd:=h
end
end DL
namespace L2
open PySem PySem.Spec PyProof.Rows
end L2
namespace DL
open PySem PySem.Spec PyProof.Rows L2
section
variable {κ:Type} [DecidableEq κ]
def look (es:List (κ × D)) (k:κ):Option D:=(es.find? fun p=>decide (p.1=k)).map (·.2)
def X3 (es:List (κ × D)) (k:κ) (d:D):List (κ × D):=if (es.any fun p=>decide (p.1=k))=true then es.map (fun p=>if p.1=k then (p.1,d) else p) else es++[(k,d)]
inductive VPs:List (κ × V)->List (κ × D)->Prop
 | nil:VPs [] []
 | cons {k v d r t}:X8 d=some v->VPs r t->VPs ((k,v)::r) ((k,d)::t)
theorem VPs.look {kvs:List (κ × V)} {es:List (κ × D)} (h:VPs kvs es) (k:κ):(∃ d v,DL.look es k=some d/\U6 kvs k=some v/\X8 d=some v)\/(DL.look es k=none/\U6 kvs k=none):=by
 induction h with
 | nil=>exact .inr ⟨rfl,rfl⟩
 | @cons k' v d r t e _ ih =>
  by_cases h:k'=k
  ·exact .inl ⟨d,v,by unfold DL.look;rw [List.find?_cons_of_pos (by simpa using h)];rfl,by unfold U6;rw [List.find?_cons_of_pos (by simpa using h)];rfl,e⟩
  ·have e1:DL.look ((k',d)::t) k=DL.look t k:=by unfold DL.look;rw [find?_cons_of_neg (by simpa using h)]
   have e2:U6 ((k',v)::r) k=U6 r k:=by unfold U6;rw [find?_cons_of_neg (by simpa using h)]
   rw [e1,e2];exact ih
theorem VPs.any {kvs:List (κ × V)} {es:List (κ × D)} (h:VPs kvs es) (k:κ):(kvs.any fun p=>decide (p.1=k))=es.any fun p=>decide (p.1=k):=by
 induction h with
 | nil=>rfl
 | cons _ _ ih=>rw [any_cons,any_cons,ih]
theorem VPs.snoc {kvs:List (κ × V)} {es:List (κ × D)} {k:κ} {v:V} {d:D} (h:VPs kvs es) (e:X8 d=some v):VPs (kvs++[(k,v)]) (es++[(k,d)]):=by
 induction h with
 | nil=>exact .cons e .nil
 | cons e' _ ih=>exact .cons e' ih
theorem VPs.repl {kvs:List (κ × V)} {es:List (κ × D)} {k:κ} {v:V} {d:D} (h:VPs kvs es) (e:X8 d=some v):VPs (kvs.map fun p=>if p.1=k then (p.1,v) else p) (es.map fun p=>if p.1=k then (p.1,d) else p):=by
 induction h with
 | nil=>exact .nil
 | @cons k' v' d' r t e' _ ih =>
  rw [map_cons,map_cons];by_cases q:k'=k
  ·rw [if_pos q,if_pos q];exact .cons e ih
  ·rw [if_neg q,if_neg q];exact .cons e' ih
theorem VPs.put {kvs:List (κ × V)} {es:List (κ × D)} {k:κ} {v:V} {d:D} (h:VPs kvs es) (e:X8 d=some v):VPs (A05 kvs k v) (X3 es k d):=by
 unfold A05 X3;rw [h.any k];split
 ·exact h.repl e
 ·exact h.snoc e
theorem VPs.length {kvs:List (κ × V)} {es:List (κ × D)} (h:VPs kvs es):kvs.length=es.length:=by
 induction h with
 | nil=>rfl
 | cons _ _ ih=>rw [length_cons,length_cons,ih]
theorem A9p (es:List (κ × D)) (k:κ) (d:D):(X3 es k d).length<=es.length+1:=by
 unfold X3;split
 ·rw [length_map];omega
 ·rw [length_append];exact Nat.le_refl _
end
def B5g (k:List C2):D:=.tuple (k.map L1)
def M6 (es:List (C2 × D)):D:=A4r false (es.map fun p=>(L1 p.1,p.2))
def dTD (es:List (List C2 × D)):D:=A4r true (es.map fun p=>(B5g p.1,p.2))
theorem A9r {a b:C2} (h:L1 a=L1 b):a=b:=by
 cases a<;>cases b<;>simp [L1] at h
 ·rw [h]
 ·rw [h]
theorem A61:∀ {a b:List C2},a.map L1=b.map L1->a=b
 | [],[],_=>rfl
 | [],_::_,h=>by cases h
 | _::_,[],h=>by cases h
 | _::r,_::t,h=>by
  rw [map_cons,map_cons] at h;injection h with h1 h2
  rw [A9r h1,A61 h2]
theorem B2b:∀ {kvs:List (C2 × V)} {es:List (C2 × D)},B13 kvs (es.map fun p=>(L1 p.1,p.2))->VPs kvs es
 | [],[],_=>.nil
 | (k,v)::r,(k',d)::t,h=>by
  have h1:L1 k'=L1 k/\X8 d=some v/\B13 r (t.map fun p=>(L1 p.1,p.2)):=h;rw [A9r h1.1];exact .cons h1.2.1 (B2b h1.2.2)
 | [],_::_,h=>h.elim
 | _::_,[],h=>h.elim
theorem C7t {kvs:List (C2 × V)} {es:List (C2 × D)} (h:VPs kvs es):B13 kvs (es.map fun p=>(L1 p.1,p.2)):=by
 induction h with
 | nil=>trivial
 | cons e _ ih=>exact ⟨rfl,e,ih⟩
theorem C0r:∀ {kvs:List (List C2 × V)} {es:List (List C2 × D)},C0j kvs (es.map fun p=>(B5g p.1,p.2))->VPs kvs es
 | [],[],_=>.nil
 | (k,v)::r,(k',d)::t,h=>by
  have h1:B5g k'=.tuple (k.map L1)/\X8 d=some v/\C0j r (t.map fun p=>(B5g p.1,p.2)):=h;have h2:k'.map L1=k.map L1:=by have:=h1.1;unfold B5g at this;injection this
  rw [A61 h2];exact .cons h1.2.1 (C0r h1.2.2)
 | [],_::_,h=>h.elim
 | _::_,[],h=>h.elim
theorem D60 {kvs:List (List C2 × V)} {es:List (List C2 × D)} (h:VPs kvs es):C0j kvs (es.map fun p=>(B5g p.1,p.2)):=by
 induction h with
 | nil=>trivial
 | cons e _ ih=>exact ⟨rfl,e,ih⟩
section
variable {K:W.Frag} {H:Hp} {v:V}
theorem A34 {es:List (C2 × D)} (h:Dn K H v (M6 es)):∃ a kvs,v=.ref a/\H a=some (.dK kvs)/\VPs kvs es:=by
 unfold M6 A4r at h;cases h with
 | dct e r =>
  rename_i a o;cases o<;>first|exact r.elim|skip
  exact ⟨_,_,rfl,e,B2b r⟩
theorem B3i {es:List (List C2 × D)} (h:Dn K H v (dTD es)):∃ a kvs,v=.ref a/\H a=some (.dT kvs)/\VPs kvs es:=by
 unfold dTD A4r at h;cases h with
 | dct e r =>
  rename_i a o;cases o<;>first|exact r.elim|skip
  exact ⟨_,_,rfl,e,C0r r⟩
theorem A94 {a:Addr} {kvs:List (C2 × V)} {es:List (C2 × D)} (e:H a=some (.dK kvs)) (h:VPs kvs es):Ow K H (.ref a) (M6 es) [a]:=.dct e (C7t h)
theorem D4g {a:Addr} {kvs:List (List C2 × V)} {es:List (List C2 × D)} (e:H a=some (.dT kvs)) (h:VPs kvs es):Ow K H (.ref a) (dTD es) [a]:=.dct e (D60 h)
theorem A9o {b:Bool} {kds:List (D × D)} {ms:List Addr} (h:Ow K H v (A4r b kds) ms):∃ a,v=.ref a/\ms=[a]:=by
 unfold A4r at h;cases h with
 | dct e r=>exact ⟨_,rfl,rfl⟩
end
abbrev A2s:=Sum C2 (List C2)
def A6e (H:Hp):A2s->V->Prop
 | .inl k,v=>v=kV k
 | .inr ks,v=>∃ b,v=.ref b/\H b=some (.tup (ks.map kV))
theorem A6e.same {H H':Hp} {k:A2s} {v:V} (h:A6e H k v) (e:A7 H H'):A6e H' k v:=by
 cases k with
 | inl=>exact h
 | inr=>obtain ⟨b,h1,h2⟩:=h;exact ⟨b,h1,e _ _ h2⟩
abbrev TKy:=C5->(A2s->Prop)->XD->Prop
def LKy (K:W.Frag) (E:XK) (t:TKy):TE:=fun σ H Q=>∃ H0 ν ρ Qd Xd,B7 K Z0 H0 ν ρ σ H/\t ρ Qd Xd/\(∀ k v H',Qd k->A7 H H'->A6e H' k v->Q v H')/\∀ C H',Xd C->A7 H0 H'->E (.ref C) none H'
structure DKy (X:Cx) (K:W.Frag) (E:XK) (e:Expr) (t:TKy):Prop where
 q:QE X e (LKy K E t)
section
variable {X:Cx} {K:W.Frag} {E:XK} {pos:Pos} {e:Expr} {es:List Expr} {te td:TD} {tk:TKy}
theorem B4t {H:Hp} {v:V} {k:C2} (h:Dn K H v (L1 k)):v=kV k:=by
 cases k with
 | inl=>exact W1 h
 | inr=>cases h;rfl
def kyS (t:TD):TKy:=fun ρ Q Xd=>t ρ (fun d _=>∃ k,d=L1 k/\Q (.inl k)) Xd
theorem T7 (h:DE X K E e te):DKy X K E e (kyS te):=⟨D2 h.q fun σ H Q h=>by
 obtain ⟨H0,ν,ρ,Qd,Xd,S,h1,q,x⟩:=h;refine ⟨H0,ν,ρ,_,Xd,S,h1,fun d k v H' g1 g2 g3=>?_,x⟩;obtain ⟨k',rfl,g⟩:=g1;exact q _ _ _ g g2 (B4t g3.den)⟩
def C2k (d:D) (k:A2s) (C:Bool->Prop):Prop:=(∃ es k',d=M6 es/\k=.inl k'/\C (look es k').isSome)\/∃ es k',d=dTD es/\k=.inr k'/\C (look es k').isSome
theorem B9a {H:Hp} {x y:V} {d:D} {k:A2s} {C:Bool->Prop} (h:C2k d k C) (hx:Dn K H x d) (hy:A6e H k y):∃ a o,x=.ref a/\A0k H a y o/\C o.isSome:=by
 rcases h with ⟨es,k',rfl,rfl,c⟩|⟨es,k',rfl,rfl,c⟩
 ·obtain ⟨a,kvs,rfl,e,p⟩:=A34 hx;cases hy;refine ⟨a,_,rfl,A0k.k e,?_⟩;rcases p.look k' with ⟨d,v,e1,e2,_⟩|⟨e1,e2⟩
  ·rw [e1] at c;rw [e2];exact c
  ·rw [e1] at c;rw [e2];exact c
 ·obtain ⟨a,kvs,rfl,e,p⟩:=B3i hx;obtain ⟨b,rfl,hb⟩:=hy;refine ⟨a,_,rfl,A0k.t e hb,?_⟩;rcases p.look k' with ⟨d,v,e1,e2,_⟩|⟨e1,e2⟩
  ·rw [e1] at c;rw [e2];exact c
  ·rw [e1] at c;rw [e2];exact c
def C59 (f:Bool->Bool) (tk:TKy) (td:TD):TD:=fun ρ Q Xd=>tk ρ (fun k=>td ρ (fun d _=>C2k d k fun b=>Q (.bool (f b)) .old) Xd) Xd
theorem C2q {i o:Expr} (f:Bool->Bool) (r:TE->TE->TE) (hr:∀ (ty td:TE) σ H Q,(ty σ H fun y H1=>td σ H1 fun x H2=>∃ a o,x=.ref a/\A0k H2 a y o/\Q (.bl (f o.isSome)) H2)->r ty td σ H Q):∀ σ H Q,LE K E (C59 f tk td) σ H Q->r (LKy K E tk) (LE K E td) σ H Q:=fun σ H Q h=>by
 refine hr _ _ _ _ _ ?_;obtain ⟨H0,ν,ρ,Qd,Xd,S,h1,q,x⟩:=h;refine ⟨H0,ν,ρ,_,Xd,S,h1,fun k v H1 g1 e1 r1=>?_,x⟩;refine ⟨H0,ν,ρ,_,Xd,S.same e1,g1,fun d kk u H2 g2 e2 r2=>?_,x⟩;obtain ⟨a,o,ha,hg,c⟩:=B9a g2 r2.den (r1.same e2);exact ⟨a,o,ha,hg,q _ _ _ _ c (e1.trans e2) (.bl _)⟩
theorem B3k {i o:Expr} (hu:X.A.units+1 < cLine) (hi:DKy X K E i tk) (ho:DE X K E o td) (hm:behindInMarks .In o=false):DE X K E (.Compare i [.In] [o] pos) (C59 id tk td) :=
 ⟨D2 (B4e hu hi.q ho.q hm) (C2q (i:=i) (o:=o) id B7m fun _ _ _ _ _ h=>h)⟩
def D5y (d:D) (k:A2s) (C:D->Prop):Prop:=(∃ es k' z,d=M6 es/\k=.inl k'/\look es k'=some z/\C z)\/∃ es k' z,d=dTD es/\k=.inr k'/\look es k'=some z/\C z
theorem D13 {H:Hp} {v:V} {d:D} (h:X8 d=some v):Dn K H v d:=by
 cases d<;>simp [X8] at h<;>subst h
 ·exact .non
 ·exact .bl _
 ·exact .int _
 ·exact .str _
theorem C0v {H:Hp} {x y:V} {d:D} {k:A2s} {C:D->Prop} (h:D5y d k C) (hx:Dn K H x d) (hy:A6e H k y):∃ a v z,x=.ref a/\A0k H a y (some v)/\X8 z=some v/\C z:=by
 rcases h with ⟨es,k',z,rfl,rfl,l,c⟩|⟨es,k',z,rfl,rfl,l,c⟩
 ·obtain ⟨a,kvs,rfl,e,p⟩:=A34 hx;cases hy;rcases p.look k' with ⟨d,v,e1,e2,e3⟩|⟨e1,e2⟩
  ·rw [l] at e1;cases e1;exact ⟨a,v,_,rfl,e2 ▸ A0k.k e,e3,c⟩
  ·rw [l] at e1;cases e1
 ·obtain ⟨a,kvs,rfl,e,p⟩:=B3i hx;obtain ⟨b,rfl,hb⟩:=hy;rcases p.look k' with ⟨d,v,e1,e2,e3⟩|⟨e1,e2⟩
  ·rw [l] at e1;cases e1;exact ⟨a,v,_,rfl,e2 ▸ A0k.t e hb,e3,c⟩
  ·rw [l] at e1;cases e1
def C7i (td:TD) (tk:TKy):TD:=fun ρ Q Xd=>td ρ (fun d _=>tk ρ (fun k=>D5y d k fun z=>Q z .old) Xd) Xd
theorem B0d {i o:Expr} (hu:X.A.units+1 < cLine) (ho:DE X K E o td) (hi:DKy X K E i tk) (hs:C40 i):DE X K E (.Subscript o i pos) (C7i td tk):=⟨D2 (B9u hu ho.q hi.q hs) fun σ H Q h=>by
 obtain ⟨H0,ν,ρ,Qd,Xd,S,h1,q,x⟩:=h;refine ⟨H0,ν,ρ,_,Xd,S,h1,fun d kk u H1 g1 e1 r1=>?_,x⟩;refine ⟨H0,ν,ρ,_,Xd,S.same e1,g1,fun k v H2 g2 e2 r2=>?_,x⟩;obtain ⟨a,w',z,ha,hg,hz,c⟩:=C0v g2 (r1.same e2).den r2;exact ⟨a,w',ha,hg,q _ _ _ _ c (e1.trans e2) (D13 hz)⟩⟩
def C7c (b:Bool):TD:=fun _ Q _=>Q (if b=true then dTD [] else M6 []) (.own [])
theorem A6r:DE X K E (.Dict [] [] pos) (C7c false):=⟨D2 B7g fun σ H Q h=>by
 obtain ⟨H0,ν,ρ,Qd,Xd,S,h1,q,x⟩:=h;exact fun p hp=>q _ _ _ _ h1 (A7.new hp) ⟨[p],A94 B3 .nil,by simp,fun a ha=>by rw [mem_singleton] at ha;subst ha;exact .inl hp⟩⟩
def B4y (x:D) (k:A2s) (d:D) (C:D->Prop):Prop:=(∃ es k',x=M6 es/\k=.inl k'/\es.length < 1000000/\C (M6 (X3 es k' d)))\/∃ es k',x=dTD es/\k=.inr k'/\es.length < 1000000/\C (dTD (X3 es k' d))
def C7k (i:Nat) (tk:TKy) (te:TD):L9:=fun Dd ρ Xd=>te ρ (fun d _=>(X8 d).isSome=true/\∃ x,ρ[i]?=some (some (true,x))/\tk ρ (fun k=>B4y x k d fun y=>Dd.nx (ρ.set i (some (true,y)))) Xd) Xd
theorem D32 {H:Hp} {v:V} {d:D} (h:Dn K H v d) (hs:(X8 d).isSome=true):X8 d=some v:=by
 cases h<;>simp [X8] at hs ⊢
theorem A9u (i:Nat) {x:Str} {px pos':Pos} {ie value:Expr} (hu:X.A.units+1 < cLine) (ho:QE X (.Name x px) (V4 i)) (hi:DKy X K E ie tk) (hv:DE X K E value te) (hs:swapsWith value (some (.Subscript (.Name x px) ie pos')) pos.line X.env=pure false:=by rfl):DS X K E (.Assign [.Subscript (.Name x px) ie pos'] value pos) (C7k i tk te):=⟨M8 (C17 hu ho hi.q hv.q hs) fun En σ H h=>by
 obtain ⟨H0,ν,ρ,Dd,Xd,S,h1,ok,x⟩:=h;refine ⟨H0,ν,ρ,_,Xd,S,h1,fun d kk v H1 g1 e1 r1=>?_,x⟩;obtain ⟨hd,y,hy,g1⟩:=g1;have hvd:=D32 r1.den hd;obtain ⟨u,u1,u2⟩:=S.sl i true y hy;have u2:Ow K H u y (ν i):=u2;refine ⟨u,u1,H0,ν,ρ,_,Xd,S.same e1,g1,fun k w' H2 g2 e2 r2=>?_,x⟩;have e02:=e1.trans e2;have fin:∀ (a:Addr) (o o':HO) (z:D),u=.ref a->ν i=[a]->H2 a=some o->muO o=true->Ow K (upd H2 a o') (.ref a) z [a]->Dd.nx (ρ.set i (some (true,z)))->En.nx σ (upd H2 a o'):=fun a o o' z hu hn ho hm hz hx=>by
  subst hu;have S':=S.mut [] i (ms:=[a]) (v:=.ref a) (H':=upd H2 a o') u1 (B2j hy) (fun b ob hb hnb=>by
   rw [B1 (fun z=>hnb (by rw [z,hn];exact mem_cons_self))];exact e02 _ _ hb) hz (by simp) (fun b hb=>.inl (by rw [hn];exact hb)) (by simp) (fun j hj=>by cases hj)
  exact ok.nx _ _ _ _ hx S'
 rcases g2 with ⟨es,k',rfl,rfl,hl,g2⟩|⟨es,k',rfl,rfl,hl,g2⟩
 ·obtain ⟨a,rfl,hn⟩:=A9o (b:=false) u2;obtain ⟨a',kvs,ea,e,p⟩:=A34 u2.den;cases ea;cases r2;have e':=e02 _ _ e;exact ⟨a,_,rfl,B0x.k e' (by rw [p.length];exact Nat.lt_of_lt_of_le hl K5),fin a _ _ _ rfl hn e' rfl (A94 B3 (p.put hvd)) g2⟩
 ·obtain ⟨a,rfl,hn⟩:=A9o (b:=true) u2;obtain ⟨a',kvs,ea,e,p⟩:=B3i u2.den;cases ea;obtain ⟨b,rfl,hb⟩:=r2;have e':=e02 _ _ e;exact ⟨a,_,rfl,B0x.t e' hb (by rw [p.length];exact Nat.lt_of_lt_of_le hl K5),fin a _ _ _ rfl hn e' rfl (D4g B3 (p.put hvd)) g2⟩⟩
end
end DL
namespace L2
open PySem PySem.Spec PyProof.Rows
def ItS (z:Str):It:=⟨fun i _=>i < z.cps.size,fun i H x H'=>H'=H/\∃ c,z.cps[i]?=some c/\x=.str ⟨#[c]⟩,fun i _=>z.cps.size<=i⟩
theorem B16 {P:Program} {w:World} {K:W.Frag} {tg:Expr} {it:Addr} {T:String} {z:Str} {t:Tok}
  (hT:["enumerate","zip","dict_itemiterator","dict_reverseitemiterator","odict_iterator","itertools.zip_longest","itertools.pairwise"].contains T=false)
  (W:∀ A:Around,A.handled=none->Walks P w A it [it] [it] z.cps.size (SignAt z) (fun i h=>h.IsStrIter it T z t i))
  (slf:∀ (A:Around) (i:Nat) (s:Shared) (Q:Value->Shared->Prop) (E:Value->Shared->Prop),s.heap.IsStrIter it T z t i->Q (.ref it) s->wpAny (model P w) A (pyIter (.ref it)) Q E s):A7r P w K tg (ItS z) [it] it (fun i h=>i<=z.cps.size/\h.IsStrIter it T z t i) where
 mem:=by simp
 obj:=fun i h st b hb=>by
  have e:b=it:=by simpa using hb
  subst e;obtain ⟨_,o,e,c,d⟩:=st;exact ⟨o,e,fun v z=>by rw [d] at z;cases z⟩
 keep:=fun i h h' st k=>⟨st.1,let ⟨o,e,r⟩:=st.2;⟨o,k it (by simp) o e,r⟩⟩
 item:=by
  intro X hP hw hK hc i pins s σ H E I hf st hg;subst hP hw hK;obtain ⟨f0,f1,f2,f3,f4,f5⟩:=hf it (by simp);refine (W X.A (I.ok.hd hc)).item i s _ _ hg st.2 fun v h' tk hv st' kk=>?_;obtain ⟨c,u,hc',rfl⟩:=hv;have I1:B4 X pins σ H { s with heap:=h',toks:=tk }:=I.turned (fun b o hb e=>kk b o (by simpa using hb) e) f0 f1 f3 f4 f5;obtain ⟨o,e1,e2,e3⟩:=id st';exact ⟨_,rfl,A9j (s:={ s with heap:=h',toks:=tk }) (n:=T) e1 e2 e3 hT ⟨.str ⟨#[c]⟩,H,I1,⟨u,rfl⟩,⟨rfl,c,hc',rfl⟩,⟨hg,st'⟩,fun b hb=>(hf b hb).1⟩⟩
 done:=by
  intro X hP hw hK hc i pins s σ H E I hf st hg;subst hP hw hK;obtain ⟨f0,f1,f2,f3,f4,f5⟩:=hf it (by simp);have ei:i=z.cps.size:=Nat.le_antisymm st.1 hg;subst ei;refine (W X.A (I.ok.hd hc)).done s _ _ st.2 fun h' tk kk=>?_;exact ⟨rfl,I.turned (fun b o hb e=>kk b o (by simpa using hb) e) f0 f1 f3 f4 f5⟩
 self:=fun A i s Q E st hq=>slf A i s Q E st.2 hq
section
variable {X:Cx} {tg:Expr}
def D5n (tl:TE):TI:=fun σ H R=>tl σ H fun x H1=>∃ z,x=.str z/\R (ItS z) H1
theorem D27 {l:Expr} {tl:TE} (hl:PE X l tl):PI X tg l (D5n tl):=by
 intro pins s σ H R I h;refine D6 (hl pins s σ H _ I h) fun v s1 ⟨x,H1,I1,r1,q1⟩=>?_;obtain ⟨z,rfl,q⟩:=q1;obtain ⟨t,rfl⟩:=r1;have fp:∀ (o:Obj),∀ b∈[s1.heap.objs.size],U0 X pins H1 b:=fun o b hb=>by
  have e:b=s1.heap.objs.size:=by simpa using hb
  subst e;exact I1.fpOk (Nat.le_refl _) (I1.hok.fresh (Nat.le_refl _))
 cases ha:z.cps.all (· < 128) with
 | false =>
  refine wpAny_pyIter_wide ha ?_;exact ⟨s1.heap.objs.size,[s1.heap.objs.size],_,_,H1,rfl,I1.kept (t':=s1.toks) fun b o e=>Heap.get?_push_of_some _ e,B16 (by decide) (fun A hA=>Walks.strWide hA _ z t) (fun A i s Q E st hq=>wpAny_pyIter_striter_wide st hq),⟨Nat.zero_le _,_,Heap.get?_push_size _ rfl,rfl,rfl⟩,fp { cls:=.none,data:=.fields #[] },q⟩
 | true =>
  refine wpAny_pyIter_ascii ha ?_;exact ⟨s1.heap.objs.size,[s1.heap.objs.size],_,_,H1,rfl,I1.kept (t':=s1.toks) fun b o e=>Heap.get?_push_of_some _ e,B16 (by decide) (fun A hA=>Walks.strAscii hA _ z t) (fun A i s Q E st hq=>wpAny_pyIter_striter_ascii st hq),⟨Nat.zero_le _,_,Heap.get?_push_size _ rfl,rfl,rfl⟩,fp { cls:=.none,data:=.fields #[] },q⟩
def D9k:V->Option Int->Option Int->Hp->VK->Prop:=fun x lo hi H Q=>∃ z,x=.str z/\z.length<=sizeLine/\Q (.str (Txt.slice z lo hi)) H
theorem B3m {v:Value} {o:Option Int} (h:IsPart v o):∃ l:Option (Int × Tok),v=partValue l/\l.map (·.1)=o:=by
 cases h with
 | none=>exact ⟨none,rfl,rfl⟩
 | int i t=>exact ⟨some (i,t),rfl,rfl⟩
theorem D2g:SlR X D9k:=by
 intro pins s σ H x v vl vu lo hi sl Q I rx hs pl pu h;obtain ⟨z,rfl,hz,q⟩:=h;obtain ⟨t,rfl⟩:=rx;obtain ⟨l,rfl,rfl⟩:=B3m pl;obtain ⟨u,rfl,rfl⟩:=B3m pu;refine ⟨"str",_,F.slot_str_getitem.lookup,typeIs_str _ _ _,wpAny_getItem_str_slice (l:=l) (u:=u) (st:=none) hs rfl ?_⟩;exact post_val_or_str ⟨Nat.le_trans (Txt.slice_le z _ _) hz,fun t' k=>⟨.str _,H,I.tok _,⟨t',rfl⟩,q⟩⟩
theorem B1j:T5 X (binaryOp .Mult) (fun x y H Q=>∃ z n,x=.str z/\y=.int n/\MulOk z n/\Q (.str (Txt.mul z n)) H):=by
 intro pins s σ H x y v u Q I rx ry h;obtain ⟨z,n,rfl,rfl,hm,q⟩:=h;obtain ⟨t,rfl⟩:=rx;obtain ⟨t',rfl⟩:=ry;exact SB.mul hm fun t k=>⟨.str _,H,I.tok _,⟨t,rfl⟩,q⟩
end
end L2
namespace DL
open PySem PySem.Spec PyProof.Rows L2
section
variable {X:Cx} {K:W.Frag} {E:XK} {pos:Pos} {tg l:Expr} {te:TD}
def signs (z:Str):List D:=z.cps.toList.map fun c=>PyData.str ⟨#[c]⟩
theorem B6c (z:Str):(signs z).length=z.cps.size:=by unfold signs;rw [length_map,Array.length_toList]
theorem C1p {F0:Hp} {z:Str}:A8c K F0 (ItS z) (signs z):=fun W H2 hl sm=>by
 refine ⟨?_,fun i d hd=>?_⟩
 ·show z.cps.size<=_;rw [B6c];exact Nat.le_refl _
 ·unfold signs at hd;rw [List.getElem?_map,Array.getElem?_toList] at hd;cases e:z.cps[i]? with
  | none=>rw [e] at hd;cases hd
  | some c =>
   rw [e] at hd;cases hd;refine ⟨?_,fun x H' y=>?_⟩
   ·show i < z.cps.size;exact (Array.getElem?_eq_some_iff.mp e).1
   ·obtain ⟨rfl,c',e',rfl⟩:=y;rw [e] at e';cases e';exact ⟨A7.refl _,.str _⟩
def iS (te:TD):TDI:=fun ρ Q Xd=>te ρ (fun d _=>match d with
 | .str z=>Q (signs z) true
 | _=>False) Xd
theorem A79 (hl:DE X K E l te):DI X K E tg l (iS te):=⟨A42 (⟨D27 hl.q.h⟩:QI X tg l (D5n (LE K E te))) fun σ H R h=>by
 obtain ⟨H0,ν,ρ,Qd,Xd,S,h1,q,x⟩:=h;refine ⟨H0,ν,ρ,_,Xd,S,h1,fun d k v H' g1 g2 g3=>?_,x⟩;have:=g3.den;cases d with
 | str z=>cases this;exact ⟨z,rfl,q _ _ _ H' g1 g2 C1p⟩
 | _=>exact g1.elim⟩
def D01:F2:=fun d _ e _ Q=>match d,e with
 | .str z,.int i=>z.length<=1000000/\∃ c,atI z.cps.toList i=some c/\Q (.str ⟨#[c]⟩) .old
 | _,_=>False
theorem D6d:DIx X K D01:=⟨_,B9x,fun Z ν Hs H x y d k e l Qf Q _ _ _ h3 h4 h5 h6=>by
 unfold D01 at h5;split at h5
 ·have a:=h3.den;have b:=h4.den;cases a;cases b;obtain ⟨h5,c,h7,h8⟩:=h5;exact ⟨_,_,c,rfl,rfl,Nat.le_trans h5 K5,h7,h6 _ _ _ _ h8 (A7.refl H) (.str _)⟩
 ·exact h5.elim⟩
def B86:F2:=fun d _ e _ Q=>match d,e with
 | .str z,.int i=>MulOk z i/\Q (.str (Txt.mul z i)) .old
 | _,_=>False
theorem A9q:DOp X K (binaryOp .Mult) B86:=⟨_,B1j,fun Z ν Hs H x y d k e l Qf Q _ _ _ h3 h4 h5 h6=>by
 unfold B86 at h5;split at h5
 ·have a:=h3.den;have b:=h4.den;cases a;cases b;exact ⟨_,_,rfl,rfl,h5.1,h6 _ _ _ _ h5.2 (A7.refl H) (.str _)⟩
 ·exact h5.elim⟩
def C08:FA:=fun ds _ Q=>match ds with
 | [.str z]=>z.length<=1000000/\Q (.int z.length) .old
 | _=>False
theorem M2:DCl X K (.builtin "len") C08:=⟨_,A76,fun Z ν Hs H xs ds k Qf Q _ _ _ h g q=>by
 unfold C08 at g;split at g
 ·obtain ⟨v,rfl,h1⟩:=Z8 h.dens;cases h1;exact ⟨_,rfl,Nat.le_trans g.1 K5,q _ _ _ _ g.2 (A7.refl H) (.int _)⟩
 ·exact g.elim⟩
def D0f:F3:=fun d _ lo hi Q=>match d with
 | .str z=>z.length<=1000000/\Q (.str (Txt.slice z lo hi)) .old
 | _=>False
theorem C7 {e:Expr} {lo hi:Option Expr} {te:TD} {tl th:TDO} {p2:Pos} (he:DE X K E e te) (hl:DO X K E lo tl) (hu:DO X K E hi th):DE X K E (.Subscript e (.Slice lo hi none p2) pos) (dSl D0f te tl th):=⟨by
 refine D2 (A6i D2g he.q hl.q hu.q) fun σ H Q h=>?_;obtain ⟨H0,ν,ρ,Qd,Xd,S,h1,q,x⟩:=h;refine ⟨H0,ν,ρ,_,Xd,S,h1,fun d k v H1 g1 e1 r1=>?_,x⟩;refine ⟨H0,ν,ρ,_,Xd,S.same e1,g1,fun l H2 g2 e2=>?_,x⟩;refine ⟨H0,ν,ρ,_,Xd,S.same (e1.trans e2),g2,fun u H3 g3 e3=>?_,x⟩;have r:=r1.den;unfold D0f at g3;split at g3
 ·cases r;exact ⟨_,rfl,Nat.le_trans g3.1 K5,q _ _ _ _ g3.2 ((e1.trans e2).trans e3) (.str _)⟩
 ·exact g3.elim⟩
theorem B9r {ea C:Addr} {oe:Obj} (hK:X.K=K) (hp:(ea,oe)∈X.pn) (hc:XOf oe C) (hh:X.A.handled=some (.ref ea)):DCl X K (.builtin "any") (B1n fun l=>l.any id):=⟨_,B6v K hK hp hc.2 hh,fun Z ν Hs H xs ds k Qf Q _ _ _ h g q=>by
 unfold B1n at g;split at g
 ·obtain ⟨v,rfl,h1⟩:=Z8 h.dens;obtain ⟨a,us,rfl,g1,g2⟩:=D3 h1;obtain ⟨ns,e,g⟩:=g;exact ⟨a,ns,rfl,L4.of (by rw [g1,A0g g2 e]),q _ _ _ _ g (A7.refl H) (.bl _)⟩
 ·exact g.elim⟩
end
section
variable {ρ:C5} {Q:QD} {Xd:XD} {z:Str} {i:Int} {k l:Kd} {te:TD} {lo hi:Option Int}
theorem D79 (h:z.length<=1000000/\∃ c,atI z.cps.toList i=some c/\Q (.str ⟨#[c]⟩) .old):D01 (.str z) k (.int i) l Q:=h
theorem C8o (h:MulOk z i/\Q (.str (Txt.mul z i)) .old):B86 (.str z) k (.int i) l Q:=h
theorem D30 (h:z.length<=1000000/\Q (.int z.length) .old):C08 [.str z] k Q:=h
theorem D6j (h:z.length<=1000000/\Q (.str (Txt.slice z lo hi)) .old):D0f (.str z) k lo hi Q:=h
def onS (Q:List D->Bool->Prop):QD:=fun d _=>match d with
 | .str z=>Q (signs z) true
 | _=>False
theorem D99 {Q:List D->Bool->Prop} (h:te ρ (onS Q) Xd):iS te ρ Q Xd:=h
theorem D68 {Q:List D->Bool->Prop} (h:Q (signs z) true):onS Q (.str z) k:=h
end
end DL
namespace L2
open PySem PySem.Spec PyProof.Rows PySem.W
open PySem.Calls
def A0r:V->V->Bool
 | .int _,.int _=>true
 | .str _,.str _=>true
 | _,_=>false
def P0:List V->List V->Bool
 | [],[]=>true
 | a::r,b::t=>A0r a b&&P0 r t
 | _,_=>false
theorem A0r.symm {a b:V} (h:A0r a b=true):A0r b a=true:=by cases a<;>cases b<;>first|rfl|cases h
theorem A0r.trans {a b c:V} (h:A0r a b=true) (g:A0r b c=true):A0r a c=true:=by cases a<;>cases b<;>first|(cases h;done)|(cases c<;>first|rfl|(cases g;done))
theorem P0.symm:∀ {a b:List V},P0 a b=true->P0 b a=true
 | [],[],_=>rfl
 | _::_,_::_,h=>by
  rw [P0,Bool.and_eq_true] at h ⊢;exact ⟨A0r.symm h.1,P0.symm h.2⟩
 | [],_::_,h=>by cases h
 | _::_,[],h=>by cases h
theorem P0.trans:∀ {a b c:List V},P0 a b=true->P0 b c=true->P0 a c=true
 | [],[],[],_,_=>rfl
 | _::_,_::_,_::_,h,g=>by
  rw [P0,Bool.and_eq_true] at h g ⊢;exact ⟨A0r.trans h.1 g.1,P0.trans h.2 g.2⟩
 | [],_::_,_,h,_=>by cases h
 | _::_,[],_,h,_=>by cases h
 | _,[],_::_,_,g=>by cases g
 | _,_::_,[],_,g=>by cases g
end L2
namespace DL
open PySem PySem.Spec PyProof.Rows L2
variable {α:Type}
theorem C3j {f:D->P5->(P5->Prop)->Prop} {Q:P5->Prop} (F G:α->D) (L:List α) (es:P5) (hs:∀ a∈L,∀ es (Q':P5->Prop),es.length < 1000000->Q' (es++[(G a,true)])->f (F a) es Q') (hm:es.length+L.length<=1000000) (q:Q (es++(L.map G).map fun d=>(d,true))):go f (L.map F) es Q :=
 A73 F G (fun _=>true) L es hs hm (by rw [List.filter_eq_self.mpr fun _ _=>rfl];rw [map_map] at q;exact q)
theorem A96 {f:D->P5->(P5->Prop)->Prop} {Q:P5->Prop} (F:α->D) (G:α->List D):∀ (L:List α) (es:P5),(∀ a∈L,∀ es (Q':P5->Prop),es.length+(G a).length<=1000000->Q' (es++(G a).map fun d=>(d,true))->f (F a) es Q')->es.length+(L.flatMap G).length<=1000000->Q (es++(L.flatMap G).map fun d=>(d,true))->go f (L.map F) es Q
 | [],es,_,_,q=>by
  show Q es;simpa using q
 | a::r,es,hs,hm,q=>by
  rw [List.flatMap_cons,length_append] at hm;rw [List.flatMap_cons,map_append,<-append_assoc] at q;refine hs a mem_cons_self es _ (by omega) ?_;exact A96 F G r _ (fun b hb=>hs b (mem_cons_of_mem _ hb)) (by rw [length_append,length_map];omega) q
theorem B8l {f:D->P5->(P5->Prop)->Prop} {ok:Bool} {Q:QD} {L:List α} (F:α->D) (G:α->List D) (hs:∀ a∈L,∀ es (Q':P5->Prop),es.length+(G a).length<=1000000->Q' (es++(G a).map fun d=>(d,true))->f (F a) es Q') (hm:(L.flatMap G).length<=1000000) (q:Q (.list (L.flatMap G)) (.own [])):LcD f (L.map F) ok Q:=by
 refine A96 F G L [] hs (by simpa using hm) ?_;have e1:((((L.flatMap G).map fun d=>(d,true)):P5).map (·.1))=L.flatMap G:=by rw [map_map];exact List.map_id _
 have e2:((((L.flatMap G).map fun d=>(d,true)):P5).all (·.2))=true:=by rw [List.all_map];exact all_eq_true.mpr fun _ _=>rfl
 rw [List.nil_append,e1,if_pos e2];exact q
end DL
namespace L2
open PySem PySem.Spec PyProof.Rows
end L2
namespace DL
open PySem PySem.Spec PyProof.Rows L2
end DL
namespace L2
open PySem PySem.Spec PyProof.Rows PySem.W PySem.Calls
def A0l (h:Heap) (d:Addr) (es:Array DictEntry) (ep:Nat):Prop:=∃ o,h.get? d=some o/\o.ExactDict/\o.data=.dict es ep
theorem A0l.lt {h:Heap} {d:Addr} {es:Array DictEntry} {ep:Nat} (x:A0l h d es ep):d < h.objs.size:=let ⟨_,e,_⟩:=x;Heap.lt_size e
theorem A0l.at {h h':Heap} {d:Addr} {es:Array DictEntry} {ep:Nat} (x:A0l h d es ep) (k:∀ o,h.get? d=some o->h'.get? d=some o):A0l h' d es ep:=let ⟨o,e,r⟩:=x;⟨o,k o e,r⟩
theorem A0l.ty {s:Shared} {d:Addr} {es:Array DictEntry} {ep:Nat} (x:A0l s.heap d es ep):s.TypeIs (.ref d) "dict":=let ⟨o,e,c,_⟩:=x;⟨o,e,c.1⟩
section
variable {prog:Program} {w:World} {A:Around} {E:Value->Shared->Prop} {s:Shared} {d it:Addr} {es:Array DictEntry} {ep i:Nat}
theorem C1f {Q:Value->Shared->Prop} (hd:(d==sysModules)=false) (hm:A0l s.heap d es ep)
  (hQ:Q (.ref s.heap.objs.size) { s with heap:=s.heap.push { cls:=.type "dict_keyiterator",data:=.fields #[.ref d,.int 0 0,.int es.size 0,.int ep 0] } }):wpAny (model prog w) A (pyIter (.ref d)) Q E s:=by
 obtain ⟨o,ho,hc,hdat⟩:=id hm;refine wpAny_pyIter_slot hm.ty F.slot_dict_iter (wpAny_call_entry F.slot_dict_iter hm.ty F.entry_dict_iter ?_ (F.args_dict_iter_1 _));unfold Builtin.«dict.__iter__»;refine wpAny_bind ?_;unfold Builtin.Dict.dictSlotNone;refine wpAny_bind (wpAny_notOrdered_dict hm.ty ?_);show wpAny _ _ (pure (Value.ref d)) _ _ s;refine wpAny_pure ?_;show wpAny _ _ (Builtin.Dict.showsAll d >>= _) _ _ s;unfold Builtin.Dict.showsAll;rw [if_neg (by rw [hd];exact Bool.false_ne_true)];refine wpAny_bind (wpAny_pure ?_);refine wpAny_bind (wpAny_dictEntries ho hdat ?_);refine wpAny_bind (wpAny_dictEpoch ho hdat ?_);refine wpAny_bind (wpAny_newObj_type (wpAny_pure ⟨_,rfl,"dict_keyiterator",_,⟨_,Heap.get?_push_size _ rfl,rfl⟩,F.slot_dict_keyiterator_next.lookup,?_⟩));simpa [rawInt] using hQ
theorem C1m {e:DictEntry} {Q:Option Value->Shared->Prop} (hit:s.heap.IsKeyIter it d i es.size ep) (hm:A0l s.heap d es ep) (hx:es[i]?=some e)
  (hQ:∀ h',h'.IsKeyIter it d (i+1) es.size ep->Heap.SameBut it s.heap h'->Q (some e.key) { s with heap:=h' }):wpAny (model prog w) A (pyNext (.ref it)) Q E s:=by
 obtain ⟨o,ho,hc,hd⟩:=id hit;obtain ⟨od,hod,hcd,hdd⟩:=id hm;unfold pyNext;refine wpAny_bind (wpAny_attempt (wpAny_callSpecial?_slot (name:=Str.ofString "__next__") hit.typeIs F.slot_dict_keyiterator_next
  (wpAny_call_entry F.slot_dict_keyiterator_next hit.typeIs F.entry_dict_keyiterator_next ?_ (F.args_dict_keyiterator_next_1 _))))
 refine wpAny_bind (wpAny_pure ?_);refine wpAny_bind ?_;refine wpAny_bind ?_
 first|refine wpAny_bind (wpAny_typeNameOfWhole_keyiter hit.typeIs (wpAny_pure ?_))|refine wpAny_bind (wpAny_typeNameOf_keyiter hit.typeIs (wpAny_pure ?_))
 refine wpAny_bind (wpAny_fieldsOf ho hd ?_);simp only [show Builtin.Dict_items.ownsTuple "dict_keyiterator"=false by decide,Bool.false_eq_true,if_false];show wpAny _ _ (if (Value.ref d==Value.none)=true then _ else _) _ _ s;rw [if_neg (show ¬ ((Value.ref d==Value.none)=true) from Bool.false_ne_true)];refine wpAny_bind (wpAny_pure ?_);refine wpAny_bind (wpAny_dictEntries hod hdd ?_);rw [if_neg (by simp)];refine wpAny_bind (wpAny_pure ?_);refine wpAny_bind (wpAny_dictEpoch hod hdd ?_);rw [if_neg (by simp)];refine wpAny_pure ?_;simp only [show ¬ ((i:Int) < 0) from by omega,if_false,Int.toNat_natCast,hx];refine wpAny_bind ?_
 first|refine wpAny_bind (wpAny_typeNameOfWhole_keyiter hit.typeIs (wpAny_pure ?_))|refine wpAny_bind (wpAny_typeNameOf_keyiter hit.typeIs (wpAny_pure ?_))
 refine wpAny_bind (wpAny_isOneOf_keyiter hit.typeIs ?_);show wpAny _ _ (setField (.ref it) 1 (rawInt ((i:Int)+1)) >>= _) _ _ s;refine wpAny_bind (wpAny_setField ho hd (by simp) ?_);have hit':(s.heap.update it (Obj.mapFields (·.setIfInBounds 1 (rawInt ((i:Int)+1))))).IsKeyIter it d (i+1) es.size ep :=
  ⟨_,Heap.get?_update_self _ ho (Obj.isFreed_of_fields (Obj.data_mapFields hd _)),(Obj.cls_mapFields ..).trans hc,by rw [Obj.data_mapFields hd];simp [rawInt]⟩
 refine wpAny_bind (wpAny_holding ?_);refine wpAny_bind (wpAny_isOneOf_keyiter (s:={ s with heap:=s.heap.update it (Obj.mapFields (·.setIfInBounds 1 (rawInt ((i:Int)+1)))) }) hit'.typeIs ?_);show wpAny _ _ (pure e.key) _ _ _;exact wpAny_pure (wpAny_pure ⟨_,rfl,wpAny_pure (hQ _ hit' (Heap.SameBut.update ..))⟩)
theorem C5o {Q:Option Value->Shared->Prop} (hh:A.handled=none) (hit:s.heap.IsKeyIter it d i es.size ep) (hm:A0l s.heap d es ep) (hx:es[i]?=none)
  (hQ:∀ h',Heap.ExtBut it s.heap h'->Q none { s with heap:=h' }):wpAny (model prog w) A (pyNext (.ref it)) Q E s:=by
 obtain ⟨o,ho,hc,hd⟩:=id hit;obtain ⟨od,hod,hcd,hdd⟩:=id hm;unfold pyNext;refine wpAny_bind (wpAny_attempt (wpAny_callSpecial?_slot (name:=Str.ofString "__next__") hit.typeIs F.slot_dict_keyiterator_next
  (wpAny_call_entry F.slot_dict_keyiterator_next hit.typeIs F.entry_dict_keyiterator_next ?_ (F.args_dict_keyiterator_next_1 _))))
 refine wpAny_bind (wpAny_pure ?_);refine wpAny_bind ?_;refine wpAny_bind ?_
 first|refine wpAny_bind (wpAny_typeNameOfWhole_keyiter hit.typeIs (wpAny_pure ?_))|refine wpAny_bind (wpAny_typeNameOf_keyiter hit.typeIs (wpAny_pure ?_))
 refine wpAny_bind (wpAny_fieldsOf ho hd ?_);simp only [show Builtin.Dict_items.ownsTuple "dict_keyiterator"=false by decide,Bool.false_eq_true,if_false];show wpAny _ _ (if (Value.ref d==Value.none)=true then _ else _) _ _ s;rw [if_neg (show ¬ ((Value.ref d==Value.none)=true) from Bool.false_ne_true)];refine wpAny_bind (wpAny_pure ?_);refine wpAny_bind (wpAny_dictEntries hod hdd ?_);rw [if_neg (by simp)];refine wpAny_bind (wpAny_pure ?_);refine wpAny_bind (wpAny_dictEpoch hod hdd ?_);rw [if_neg (by simp)];refine wpAny_pure ?_;simp only [show ¬ ((i:Int) < 0) from by omega,if_false,Int.toNat_natCast,hx];refine wpAny_bind ?_
 first|refine wpAny_bind (wpAny_typeNameOfWhole_keyiter hit.typeIs (wpAny_pure ?_))|refine wpAny_bind (wpAny_typeNameOf_keyiter hit.typeIs (wpAny_pure ?_))
 show wpAny _ _ (setField (.ref it) 0 .none >>= _) _ _ s;refine wpAny_bind (wpAny_setField ho hd (by simp) ?_);show wpAny _ _ (newExc (.type "StopIteration") [] >>= _) _ _ _;refine wpAny_bind ?_;simp only [newExc,newTuple];refine wpAny_bind (wpAny_newObj_type ?_ (by size_fits));refine wpAny_bind (m:=firstArgMember _ _) (wpAny_of_eq (a:=Value.none) (by first|rfl|(simp only [firstArgMember];rfl)) ?_);refine wpAny_newObj_type ?_ (by size_fits);simp only [raiseNew];refine wpAny_bind (wpAny_handled ?_);rw [show A.in1.handled=none from hh];refine wpAny_bind (wpAny_pure (wpAny_throw ?_));refine wpAny_bind (wpAny_isInstance (T:="StopIteration") (b:=true) ⟨_,Heap.get?_push_size _ rfl,rfl⟩ isSubtype_stop ?_);exact wpAny_pure (hQ _ (((Heap.SameBut.update ..).extBut.push _).push _))
theorem B5h (hh:A.handled=none) (I:Addr) (hne:d≠I):Walks prog w A I [I,d] [I] es.size (fun i v=>(es[i]?).map (·.key)=some v) (fun i h=>h.IsKeyIter I d i es.size ep/\A0l h d es ep) where
 sub:=fun b hb=>by simp at hb;simp [hb]
 frame:=fun _ _ _ st hk=>⟨st.1.at fun o e=>hk I (by simp) o e,st.2.at fun o e=>hk d (by simp) o e⟩
 item:=fun i s Q E hi st hQ=>by
  have hx:es[i]?=some es[i]:=Array.getElem?_eq_getElem hi;refine C1m st.1 st.2 hx fun h' hit' hs'=>?_;exact hQ _ h' s.toks (by rw [hx];rfl) ⟨hit',st.2.at fun o e=>hs'.extBut d o hne e⟩ fun b o hb e=>hs'.extBut b o (fun h=>hb (by simp [h])) e
 done:=fun s Q E st hQ=>C5o hh st.1 st.2 (by simp) fun h' he'=>hQ h' s.toks fun b o hb e=>he' b o (fun h=>hb (by simp [h])) e
 self:=fun _ _ _ _ st hQ=>wpAny_pyIter_keyiter st.1 hQ
theorem C73 (lo:(d==sysModules)=false):KdlSrc prog w "dict" d d es.size (fun i v=>(es[i]?).map (·.key)=some v) (fun h=>A0l h d es ep) where
 type:=fun _ hm=>hm.ty
 there:=fun _ hm=>⟨hm.lt,hm.lt⟩
 keep:=fun _ _ hm hk=>hm.at fun o e=>hk d (.inl rfl) o e
 notList:=by decide
 notTuple:=by decide
 hint:=fun _ _ _ _ hm hq=>kdl_hint_dict hm.ty hq
 iter:=fun _ _ hh hm=>⟨_,_,(fun _ _ hq=>C1f lo hm hq),B5h hh _ (Nat.ne_of_lt hm.lt),⟨⟨_,Heap.get?_push_size _ rfl,rfl,rfl⟩,hm.at fun o e=>Heap.get?_push_of_some _ e⟩⟩
theorem A90 {T:String} {r:Addr} {n:Nat} {P:Nat->Value->Prop} {OK:Heap->Prop} {Q:List Value->Shared->Prop} (K:KdlSrc prog w T r d n P OK) (hh:A.handled=none) (hok:OK s.heap) (hn:n<=sizeLine)
  (h:∀ h' tk (vs:List Value),(∀ b o,s.heap.get? b=some o->h'.get? b=some o)->s.heap.objs.size<=h'.objs.size->ItemsOf P vs.toArray n->Q vs { s with heap:=h',toks:=tk }):wpAny (model prog w) A (collect (.ref r)) Q E s:=by
 have hlt:=K.there _ hok;have hS0:(s.heap.push (seqObj "list" #[] 0)).get? s.heap.objs.size=some { cls:=.type "list",data:=.seq #[] 0 }:=Heap.get?_push_size _ rfl;have key:∀ R:Result->Shared->Prop,(∀ h' tk acc' c',(∀ b o,b≠s.heap.objs.size->(s.heap.push (seqObj "list" #[] 0)).get? b=some o->h'.get? b=some o)->h'.get? s.heap.objs.size=some { cls:=.type "list",dict:=none,data:=.seq acc' c',slots:=#[] }->ItemsOf P acc' n->R (.ok (.ret (.ref s.heap.objs.size))) { s with heap:=h',toks:=tk }) ->
   codeAny (model prog w) A (.builtin "list.__iadd__" ⟨[.ref s.heap.objs.size,.ref r],[]⟩) R { s with heap:=s.heap.push (seqObj "list" #[] 0) }:=fun R hR =>
  codeAny_builtin entry_list_iadd' (kdl_extend (s:={ s with heap:=s.heap.push (seqObj "list" #[] 0) }) K hh (K.keep _ _ hok fun b _ o e=>Heap.get?_push_of_some _ e) s.heap.objs.size (Nat.ne_of_gt hlt.1) (Nat.ne_of_gt hlt.2) _ 0 hS0 hR hn)
 unfold collect;refine wpAny_bind (wpAny_runValue (codeAny_builtin entry_proto_collect' ?_));show wpAny _ _ (do again (.builtin "list.__iadd__" ⟨[<-newList [],.ref r],[]⟩)) _ _ s;refine wpAny_bind (wpAny_newList (wpAny_pure ⟨Code.quiet_builtin _ (by decide +kernel),key _ fun h' tk acc' c' hk hS hacc=>?_⟩));show wpAny (model prog w) A (do
   let o <- load s.heap.objs.size
   match o.data with
   | .seq xs _=>pure xs.toList
   | _=>unsupported "internal:collect") Q E { s with heap:=h',toks:=tk }
 refine wpAny_bind (wpAny_load hS ?_);show wpAny _ _ (pure acc'.toList) Q E _;exact wpAny_pure (h h' tk acc'.toList (fun b o e=>hk b o (Nat.ne_of_lt (Heap.lt_size e)) (Heap.get?_push_of_some _ e)) (Nat.le_of_lt (Heap.lt_size hS)) (by simpa using hacc))
end
section
variable {vs:List Value}
theorem Y9 {h:Heap} {a b:Addr} {out:Array Value} {o:Obj} (hb:b≠a) (q:h.get? b=some o):(sortedHeap h a vs out).get? b=some o:=by
 unfold sortedHeap;rw [Heap.get?_update_ne _ _ _ _ hb];refine Heap.get?_push_of_some _ (Heap.get?_push_of_some _ ?_);rw [Heap.get?_update_ne _ _ _ _ hb];exact q
theorem A0o {h:Heap} {a:Addr} {out:Array Value} {n:Nat} (q:h.get? a=some (seqObj "list" vs.toArray n)):∃ e,(sortedHeap h a vs out).get? a=some (seqObj "list" out e):=by
 unfold sortedHeap;obtain ⟨e1,q1⟩:∃ e,(h.update a (Obj.mapSeq fun _=>(#[]:Array Value))).get? a=some (seqObj "list" #[] e):=⟨_,get?_update_seq q fun _=>#[]⟩;have q2:=Heap.get?_push_of_some (seqObj "list" #[] 0) (Heap.get?_push_of_some (seqObj "tuple" vs.toArray 0) q1);exact ⟨_,get?_update_seq q2 fun _=>out⟩
theorem A54 {es:Array DictEntry} {ws:List Value} (h:ItemsOf (fun i v=>(es[i]?).map (·.key)=some v) ws.toArray es.size):ws=es.toList.map (·.key):=by
 obtain ⟨h1,h2⟩:=h;rw [size_toArray] at h1;apply List.ext_getElem?;intro i;rw [List.getElem?_map];have q:es.toList[i]?=es[i]?:=Array.getElem?_toList;rw [q];cases e:ws[i]? with
 | some v =>
  have:=h2 i v (by simpa using e);exact this.symm
 | none =>
  have:ws.length<=i:=by simpa using e
  have e2:es[i]?=none:=Array.getElem?_eq_none (by omega);rw [e2];rfl
end
section
variable {X:Cx} {pins:List (Addr × Obj)} {σ:List (Option V)} {H:Hp} {s:Shared} {a:Addr}
theorem D1j (I:B4 X pins σ H s) {kvs:List (List C2 × V)} (e:H a=some (.dT kvs)):(a==sysModules)=false/\∃ es ep bs,A0l s.heap a es ep/\es.size=kvs.length/\es.toList.map (·.key)=bs.map Value.ref/\Paired (fun b (p:List C2 × V)=>H b=some (.tup (p.1.map kV))) bs kvs:=by
 obtain ⟨_,y,xs,r,o,es,ep,h1,h2,h3,h4,_⟩:=(show E1 X.prog X.w H s.heap a (.dT kvs) from I.hok a _ e);refine ⟨y,es,ep,xs.map (·.2.1),⟨o,h1,h2,h3⟩,?_,?_,?_⟩
 ·have:es.toList.length=xs.length:=by rw [h4,length_map]
  rw [Array.length_toList] at this;rw [this];exact (Paired.length r).symm
 ·rw [h4,map_map,map_map];rfl
 ·have go:∀ {l:List (List C2 × V)} {m:List (List C2 × Addr × Value)},Paired (fun (p:List C2 × V) (q:List C2 × Addr × Value)=>p.1=q.1/\H q.2.1=some (.tup (p.1.map kV))/\C8 p.2 q.2.2) l m->Paired (fun b (p:List C2 × V)=>H b=some (.tup (p.1.map kV))) (m.map (·.2.1)) l:=by
   intro l m r
   induction r with
   | nil=>exact .nil
   | cons h _ ih=>exact .cons h.2.1 ih
  exact go r
theorem B8t (I:B4 X pins σ H s) {kvs:List (C2 × V)} (e:H a=some (.dK kvs)):(a==sysModules)=false/\∃ es ep,A0l s.heap a es ep/\es.size=kvs.length/\C4 (kvs.map fun p=>kV p.1) (es.toList.map (·.key)):=by
 obtain ⟨_,y,vs,r,o,es,ep,h1,h2,h3,_,h5,_⟩:=(show E1 X.prog X.w H s.heap a (.dK kvs) from I.hok a _ e);have hp:∀ {l:List DictEntry} {m:List (C2 × Value)} {n:List (C2 × V)},Pairs (J1 X.prog X.w) l m->KV n m->C4 (n.map fun p=>kV p.1) (l.map (·.key)):=by
  intro l m n p
  induction p generalizing n with
  | nil=>intro k;cases k;exact .nil
  | cons g1 g2 _ ih =>
   intro k;cases k with
   | cons q1 q2 =>
    refine .cons ?_ (ih q2);show C8 (kV _) _;rw [q1.1];rcases E8 g1 with ⟨i,t,e1,e2⟩|⟨x,t,e1,e2⟩
    ·rw [e1];exact ⟨t,e2⟩
    ·rw [e1];exact ⟨t,e2⟩
 have v:=hp h5 r;refine ⟨y,es,ep,⟨o,h1,h2,h3⟩,?_,v⟩;have:=v.length;rw [length_map,length_map,Array.length_toList] at this;exact this.symm
end
end L2
namespace DL
open PySem PySem.Spec PyProof.Rows L2
end DL
namespace L2
open PySem PySem.Spec PyProof.Rows PySem.W PySem.Calls
section
variable {prog:Program} {w:World} {A:Around} {E:Value->Shared->Prop} {s:Shared} {d:Addr} {es:Array DictEntry} {ep:Nat}
theorem A5e (hd:(d==sysModules)=false):MeetsIn prog w (Builtin.«dict.__len__» ⟨[.ref d],[]⟩) (fun _ R s=>A0l s.heap d es ep/\R (.ok (.ret (.int es.size s.toks))) { s with toks:=s.toks+1 }) :=
 .of_wp fun A R s ⟨hm,h⟩=>by
  obtain ⟨o,ho,hc,hdat⟩:=hm;show wpAny _ _ (dictSize d >>= _) _ _ s;unfold dictSize;refine wpAny_bind (wpAny_bind (wpAny_dictEntries ho hdat (wpAny_pure ?_)));show wpAny _ _ (Builtin.Dict.pendingCount d >>= _) _ _ s;refine wpAny_bind (wpAny_pendingCount_other hd ?_);refine wpAny_ret_mkInt ?_;rw [Nat.add_zero];exact h
theorem B43 {Q:Value->Shared->Prop} (hd:(d==sysModules)=false) (hm:A0l s.heap d es ep) (hfit:(es.size:Int) < 2 ^ 63)
  (h:Q (.int es.size (s.toks+1)) { s with toks:=s.toks+1+1 }):wpAny (model prog w) A (call (.builtin "len") [.ref d]) Q E s:=by
 refine Calls.call_function_entry kind_len plain_len entry_len (args_len1 _) ?_;unfold Builtin.«len»;refine wpAny_bind (m:=oneArg "len" _) (wpAny_pure ?_);refine wpAny_bind (m:=callSpecial? (.ref d) (Str.ofString "__len__")) (wpAny_callSpecial?_slot (name:=Str.ofString "__len__") hm.ty F.slot_dict_len
  (call_meetsIn F.slot_dict_len hm.ty F.entry_dict_len (F.args_dict_len_1 _) (A5e (es:=es) (ep:=ep) hd) ⟨hm,?_⟩))
 show wpAny _ _ _ _ _ { s with toks:=s.toks+1 };refine wpAny_bind (wpAny_holding (wpAny_pure ?_));refine wpAny_bind (wpAny_letGo ?_);show wpAny _ _ (if ((es.size:Nat):Int) < 0 then _ else _) _ _ _;rw [if_neg (by omega)];show wpAny _ _ (if ((es.size:Nat):Int) ≥ 2 ^ 63 then _ else _) _ _ _;rw [if_neg (by omega)];exact wpAny_bind (wpAny_mkInt (wpAny_pure ⟨_,rfl,h⟩))
end
def D2k:List V->Hp->VK->Prop:=fun xs H Q=>∃ a,xs=[.ref a]/\((∃ kvs,H a=some (.dK kvs)/\Q (.int kvs.length) H)\/∃ kvs,H a=some (.dT kvs)/\Q (.int kvs.length) H)
theorem B1u {X:Cx}:K2 X (.builtin "len") D2k:=by
 intro pins s σ H xs us Q I r h;obtain ⟨a,rfl,h⟩:=h;obtain ⟨u,rfl,rx⟩:=S8 r;cases rx;rcases h with ⟨kvs,e,q⟩|⟨kvs,e,q⟩
 ·obtain ⟨lo,es,ep,h1,h2,_⟩:=B8t I e;have hz:=(C1x I.hok e).1;refine B43 lo h1 (by rw [h2];rw [sizeLine_eq] at hz;omega) ?_;exact ⟨.int kvs.length,H,I.tok _,⟨_,by rw [h2]⟩,q⟩
 ·obtain ⟨lo,es,ep,bs,h1,h2,_⟩:=D1j I e;have hz:=(C85 I.hok e).1;refine B43 lo h1 (by rw [h2];rw [sizeLine_eq] at hz;omega) ?_;exact ⟨.int kvs.length,H,I.tok _,⟨_,by rw [h2]⟩,q⟩
end L2
namespace DL
open PySem PySem.Spec PyProof.Rows L2
section
variable {X:Cx} {K:W.Frag} {E:XK}
def C7f:FA:=fun ds _ Q=>(∃ es,ds=[dTD es]/\Q (.int es.length) .old)\/∃ es,ds=[M6 es]/\Q (.int es.length) .old
theorem Y0:DCl X K (.builtin "len") C7f:=⟨_,B1u,fun Z ν Hs H xs ds k Qf Q hl hn hs h g q=>by
 rcases g with ⟨es,rfl,g⟩|⟨es,rfl,g⟩
 ·obtain ⟨v,rfl,h1⟩:=Z8 h.dens;obtain ⟨a,kvs,rfl,e,p⟩:=B3i h1;exact ⟨a,rfl,.inr ⟨kvs,e,by rw [p.length];exact q _ _ _ _ g (A7.refl H) (.int _)⟩⟩
 ·obtain ⟨v,rfl,h1⟩:=Z8 h.dens;obtain ⟨a,kvs,rfl,e,p⟩:=A34 h1;exact ⟨a,rfl,.inl ⟨kvs,e,by rw [p.length];exact q _ _ _ _ g (A7.refl H) (.int _)⟩⟩⟩
variable {ρ:C5} {Q:QD} {Xd:XD} {k:Kd} {te td:TD} {tk:TKy} {es:List (List C2 × D)} {eK:List (C2 × D)} {i:Nat} {Dd:N6}
theorem C6u (h:Q (.int eK.length) .old):C7f [M6 eK] k Q:=.inr ⟨eK,rfl,h⟩
theorem C90 (h:Q (M6 []) (.own [])):C7c false ρ Q Xd:=h
def D6w (Q:A2s->Prop):QD:=fun d _=>∃ k,d=L1 k/\Q (.inl k)
theorem D55 {Q:A2s->Prop} (h:te ρ (D6w Q) Xd):kyS te ρ Q Xd:=h
theorem D3f {Q:A2s->Prop} {x:Str} (h:Q (.inl (.inr x))):D6w Q (.str x) k:=⟨.inr x,rfl,h⟩
def D6g (f:Bool->Bool) (td:TD) (ρ:C5) (Q:QD) (Xd:XD):A2s->Prop:=fun k=>td ρ (fun d _=>C2k d k fun b=>Q (.bool (f b)) .old) Xd
theorem D66 {f:Bool->Bool} (h:tk ρ (D6g f td ρ Q Xd) Xd):C59 f tk td ρ Q Xd:=h
theorem C9z {f:Bool->Bool} {kr:A2s} (h:td ρ (fun d _=>C2k d kr fun b=>Q (.bool (f b)) .old) Xd):D6g f td ρ Q Xd kr:=h
theorem D39 {kk:C2} {C:Bool->Prop} (h:C (look eK kk).isSome):C2k (M6 eK) (.inl kk) C:=.inl ⟨eK,kk,rfl,rfl,h⟩
def C7g (i:Nat) (tk:TKy) (Dd:N6) (ρ:C5) (Xd:XD):QD:=fun d _=>(X8 d).isSome=true/\∃ x,ρ[i]?=some (some (true,x))/\tk ρ (fun k=>B4y x k d fun y=>Dd.nx (ρ.set i (some (true,y)))) Xd
theorem C9w (h:te ρ (C7g i tk Dd ρ Xd) Xd):C7k i tk te Dd ρ Xd:=h
theorem C4k {d x:D} {k:Kd} (h1:(X8 d).isSome=true) (h2:ρ[i]?=some (some (true,x))) (h:tk ρ (fun k=>B4y x k d fun y=>Dd.nx (ρ.set i (some (true,y)))) Xd):C7g i tk Dd ρ Xd d k:=⟨h1,x,h2,h⟩
theorem C4q {d:D} {kk:C2} {C:D->Prop} (h:eK.length < 1000000/\C (M6 (X3 eK kk d))):B4y (M6 eK) (.inl kk) d C:=.inl ⟨eK,kk,rfl,rfl,h⟩
section
variable {pos:Pos} {i o:Expr}
theorem C6w (hu:X.A.units+1 < cLine) (hi:DKy X K E i tk) (ho:DE X K E o td) (hm:behindInMarks .In o=false):DT X K E (.Compare i [.In] [o] pos) (dB (C59 id tk td)) :=
 ⟨A1d (B4h hu hi.q ho.q hm) fun σ H Q h=>C2q (i:=i) (o:=o) id B7m (fun _ _ _ _ _ h=>h) σ H _ (C9r h)⟩
end
end
section
variable {ρ:C5} {i:Nat} {s:List Nat} {eK:List (C2 × D)}
theorem C5n:flat (M6 eK)=false:=rfl
theorem B64:setK ρ i (M6 eK) (.own s)=(D9 ρ s).set i (some (true,M6 eK)):=rfl
theorem B7c:setK ρ i (M6 eK) .old=ρ.set i (some (false,M6 eK)):=rfl
theorem B77:setK ρ i (M6 eK) .mix=(frz ρ).set i (some (false,M6 eK)):=rfl
end
structure A8s (mg:Str->Option Value) (x:Str) (i:Int):Prop where
 ex:∃ t,mg x=some (.int i t)
structure A9g (K:W.Frag) (mg:Str->Option Value) (x:Str) (ds:List D):Prop where
 ex:∃ a,mg x=some (.ref a)/\∀ H,Dn K H (.ref a) (.tuple ds)
def scD:Value->Option D
 | .none=>some .none
 | .bool b=>some (.bool b)
 | .int i _=>some (.int i)
 | .str x _=>some (.str x)
 | _=>Option.none
def B7i:List Value->Option (List D)
 | []=>some []
 | v::r=>match scD v,B7i r with
  | some d,some ds=>some (d::ds)
  | _,_=>Option.none
section
variable {X:Cx} {K:W.Frag} {E:XK} {pos:Pos} {x:Str}
theorem D1p {H:Hp} {v:Value} {d:D} (h:scD v=some d):∃ u,C8 u v/\Dn K H u d:=by
 cases v<;>simp [scD] at h<;>subst h
 ·exact ⟨.non,rfl,.non⟩
 ·exact ⟨.bl _,rfl,.bl _⟩
 ·exact ⟨.int _,⟨_,rfl⟩,.int _⟩
 ·exact ⟨.str _,⟨_,rfl⟩,.str _⟩
theorem B0i {H:Hp}:∀ {vs:List Value} {ds:List D},B7i vs=some ds->∃ us,C4 us vs/\Dns K H us ds
 | [],_,h=>by cases h;exact ⟨[],.nil,.nil⟩
 | v::r,ds,h=>by
  unfold B7i at h;cases e1:scD v with
  | none=>rw [e1] at h;cases h
  | some d =>
   cases e2:B7i r with
   | none=>rw [e1,e2] at h;cases h
   | some l =>
    rw [e1,e2] at h;cases h;obtain ⟨u,h1,h2⟩:=D1p (K:=K) (H:=H) e1;obtain ⟨us,h3,h4⟩:=B0i (H:=H) e2;exact ⟨u::us,.cons h1 h3,.cons h2 h4⟩
theorem C42 {mg:Str->Option Value} {a:Addr} {o:Obj} {its:Array Value} {n:Nat} {ds:List D} (hm:mg x=some (.ref a)) (h1:K.lookup a=some o) (h2:o.cls=.type "tuple") (h3:o.data=.seq its n) (h4:its.size<=1000) (h5:B7i its.toList=some ds):A9g K mg x ds :=
 ⟨a,hm,fun H=>by
  obtain ⟨us,r,d⟩:=B0i (K:=K) (H:=H) h5;exact .tup (.inr ⟨o,its,n,h1,h2,h3,Nat.le_trans h4 (by decide),r⟩) d⟩
theorem A24 {i:Int} (G:A8s X.mg x i) (hg:Gl X x) (hd:(x==("__debug__":Str))=false:=by decide):DE X K E (.Name x pos) (dC (.int i)):=by
 obtain ⟨t,hm⟩:=G.ex;exact B0f (⟨A6u hg hm (v:=.int i) ⟨t,rfl⟩ hd⟩:QE X (.Name x pos) (tC (.int i))) fun _=>.int _
theorem U5 {ds:List D} (G:A9g K X.mg x ds) (hg:Gl X x) (hd:(x==("__debug__":Str))=false:=by decide):DE X K E (.Name x pos) (dC (.tuple ds)):=by
 obtain ⟨a,hm,h⟩:=G.ex;refine ⟨D2 (⟨A6u hg hm (v:=.ref a) rfl hd⟩:QE X (.Name x pos) (tC (.ref a))) fun σ H Q h'=>?_⟩;obtain ⟨H0,ν,ρ,Qd,Xd,S,h1,q,_⟩:=h';exact q _ _ (.ref a) H h1 (A7.refl H) (h _)
end
end DL
namespace L2
open PySem PySem.Spec PyProof.Rows
end L2
namespace DL
open PySem PySem.Spec PyProof.Rows L2
section
theorem B3a {ds es:List D} {k l:Kd} (h:(flats ds&&flats es)=true):A25 ds k es l=.own []:=by unfold A25;rw [if_pos h]
end
section
variable {ρ:C5} {d:D} {q:Nat}
def lk (q:Nat) (d:D) (ρ:C5):C5:=(frz ρ).set q (some (false,d))
end
end DL
namespace L2
open PySem PySem.Spec PyProof.Rows
section
variable {P:Program} {w:World} {A:Around} {R:Result->Shared->Prop} {it bx:Addr} {fp wr:List Addr} {n:Nat} {V0:Nat->Value->Prop} {St:Nat->Heap->Prop} {bt:Nat->Nat->Bool} {dv:Value}
abbrev C0c (it bx:Addr) (dv:Value):Args:=⟨[.ref it,.none,.ref bx],[("default",dv)]⟩
abbrev C7r (us:Array Value) (c:Nat):Obj:={ cls:=.type "list",dict:=none,data:=.seq us c,slots:=#[] }
theorem B40:(toString "max"++toString ".loop":String)="max.loop":=by decide
theorem C2c (W:Walks P w A.in1 it fp wr n V0 St) (hc:CmpOf P w A.in1 .Gt V0 bt) (hb:bx∉fp) :
  ∀ (r j:Nat) (s:Shared) (u:Value) (c:Nat),n=j+1+r->St (j+1) s.heap->V0 (argBest bt j) u->s.heap.get? bx=some (C7r #[u,u] c) ->
  (∀ v h' tk,V0 (argBest bt (n - 1)) v->(∀ b o,b∉wr->b≠bx->s.heap.get? b=some o->h'.get? b=some o)->R (.ok (.ret v)) { s with heap:=h',toks:=tk }) ->
  codeAny (model P w) A (.builtin "max.loop" (C0c it bx dv)) R s
 | 0,j,s,u,c,hn,st,hu,hx,hR=>by
  have hw:bx∉wr:=fun h=>hb (W.sub _ h);refine codeAny_builtin PySem.F.entry_max_loop ?_;rw [Around.under_plainId PySem.F.plain_max_loop _];show wpAny _ A.in1 (seqItems? (.ref bx) >>= _) _ _ s;refine wpAny_bind (wpAny_seqItems hx rfl ?_);show wpAny _ A.in1 (tryCatch (pyNext (.ref it)) _ >>= _) _ _ s;refine wpAny_bind (wpAny_tryCatch (W.done s _ _ (by rw [hn];exact st) fun h' tk kk=>?_));show wpAny _ A.in1 (updateSeq bx (fun _=>#[]) >>= _) _ _ _;refine wpAny_bind (wpAny_updateSeq (kk bx _ hw hx) rfl (wpAny_bind (wpAny_letGo (wpAny_pure ?_))));exact hR u _ tk (by rw [hn];exact hu) fun b o h1 h2 e=>(Heap.get?_update_other _ _ (Ne.symm h2)).trans (kk b o h1 e)
 | r+1,j,s,u,c,hn,st,hu,hx,hR=>by
  have hw:bx∉wr:=fun h=>hb (W.sub _ h);refine codeAny_builtin PySem.F.entry_max_loop ?_;rw [Around.under_plainId PySem.F.plain_max_loop _];show wpAny _ A.in1 (seqItems? (.ref bx) >>= _) _ _ s;refine wpAny_bind (wpAny_seqItems hx rfl ?_);show wpAny _ A.in1 (tryCatch (pyNext (.ref it)) _ >>= _) _ _ s;refine wpAny_bind (wpAny_tryCatch (W.item (j+1) s _ _ (by omega) st fun v h' tk hv st' kk=>?_));have hx':=kk bx _ hw hx;show wpAny _ A.in1 (tryCatch (holding [v,v] (richCompare .Gt v u >>= _)) _ >>= _) _ _ _;refine wpAny_bind (wpAny_tryCatch (wpAny_holding (wpAny_bind (hc (j+1) (argBest bt j) v u _ _ _ hv hu ?_))));refine wpAny_bind (wpAny_holding (wpAny_truthy_bool (wpAny_bind (wpAny_letGo (wpAny_pure ?_)))));cases hq:bt (j+1) (argBest bt j) with
  | true =>
   simp only [if_true];refine wpAny_bind (wpAny_updateSeq hx' rfl (wpAny_bind (wpAny_letGo ?_)));rw [B40];refine wpAny_pure ⟨plainId_quiet PySem.F.plain_max_loop _,C2c W hc hb r (j+1) _ v _ (by omega) (W.frame _ _ _ st' fun b hbf o e=>?_) (by simp only [argBest,hq,if_true];exact hv) (Heap.get?_update_self _ hx' rfl) fun v2 h2 tk2 a1 a2=>?_⟩
   ·exact (Heap.get?_update_other _ _ (fun h:bx=b=>hb (by rw [h];exact hbf))).trans e
   ·exact hR v2 h2 tk2 a1 fun b o e1 e2 e=>a2 b o e1 e2 ((Heap.get?_update_other _ _ (Ne.symm e2)).trans (kk b o e1 e))
  | false =>
   simp only [Bool.false_eq_true,if_false];refine wpAny_bind (wpAny_letGo ?_);rw [B40];refine wpAny_pure ⟨plainId_quiet PySem.F.plain_max_loop _,C2c W hc hb r (j+1) _ u c (by omega) st' (by simp only [argBest,hq,Bool.false_eq_true,if_false];exact hu) hx' fun v2 h2 tk2 a1 a2=>?_⟩;exact hR v2 h2 tk2 a1 fun b o e1 e2 e=>a2 b o e1 e2 (kk b o e1 e)
theorem D1a (W:Walks P w A.in1 it fp wr n V0 St) (hc:CmpOf P w A.in1 .Gt V0 bt) (hb:bx∉fp) {s:Shared} {c:Nat} (st:St 0 s.heap) (hx:s.heap.get? bx=some (C7r #[] c))
  (hR:∀ v h' tk,(n=0/\v=dv\/0 < n/\V0 (argBest bt (n - 1)) v)->(∀ b o,b∉wr->b≠bx->s.heap.get? b=some o->h'.get? b=some o)->R (.ok (.ret v)) { s with heap:=h',toks:=tk }) :
  codeAny (model P w) A (.builtin "max.loop" (C0c it bx dv)) R s:=by
 have hw:bx∉wr:=fun h=>hb (W.sub _ h);refine codeAny_builtin PySem.F.entry_max_loop ?_;rw [Around.under_plainId PySem.F.plain_max_loop _];show wpAny _ A.in1 (seqItems? (.ref bx) >>= _) _ _ s;refine wpAny_bind (wpAny_seqItems hx rfl ?_);show wpAny _ A.in1 (tryCatch (pyNext (.ref it)) _ >>= _) _ _ s;by_cases hn:n=0
 ·refine wpAny_bind (wpAny_tryCatch (W.done s _ _ (by rw [hn];exact st) fun h' tk kk=>?_));refine wpAny_bind (wpAny_rule (wpAny_pure ?_));exact hR dv h' tk (.inl ⟨hn,rfl⟩) fun b o h1 _ e=>kk b o h1 e
 ·refine wpAny_bind (wpAny_tryCatch (W.item 0 s _ _ (by omega) st fun v h' tk hv st' kk=>?_));have hx':=kk bx _ hw hx;show wpAny _ A.in1 (updateSeq bx (fun _=>#[v,v]) >>= _) _ _ _;refine wpAny_bind (wpAny_updateSeq hx' rfl ?_);rw [B40];refine wpAny_pure ⟨plainId_quiet PySem.F.plain_max_loop _,C2c W hc hb (n - 1) 0 _ v _ (by omega) (W.frame _ _ _ st' fun b hbf o e=>?_) hv (Heap.get?_update_self _ hx' rfl) fun v2 h2 tk2 a1 a2=>?_⟩
  ·exact (Heap.get?_update_other _ _ (fun h:bx=b=>hb (by rw [h];exact hbf))).trans e
  ·exact hR v2 h2 tk2 (.inr ⟨by omega,a1⟩) fun b o e1 e2 e=>a2 b o e1 e2 ((Heap.get?_update_other _ _ (Ne.symm e2)).trans (kk b o e1 e))
end
theorem B5v (a v:Value):argsOk "max" ⟨[a],[(Str.ofString "default",v)]⟩:=by unfold argsOk;kernel_rfl
theorem C0o {P:Program} {w:World} {A:Around} {E:Value->Shared->Prop} {s:Shared} {l:Addr} {xs:Array (Int × Tok)} {dv:Value} {Q:Value->Shared->Prop} (hh:A.handled=none) (hl:s.heap.IsList l (intItems xs))
  (h:∀ v h' tk,(xs.size=0/\v=dv\/0 < xs.size/\(intItems xs)[argBest (fun i j=>decide (numAt xs i > numAt xs j)) (xs.size - 1)]?=some v)->(∀ b o,s.heap.get? b=some o->h'.get? b=some o)->Q v { s with heap:=h',toks:=tk }) :
  wpAny (model P w) A (call (.builtin "max") [.ref l] [(Str.ofString "default",dv)]) Q E s:=by
 refine kmk_tree PySem.F.kind_max PySem.F.plain_max PySem.F.entry_max (B5v _ _) ?_;show wpAny _ A.in1 (Builtin.Builtins.bindParams "max" ["key","default"] 0 ⟨[],[(Str.ofString "default",dv)]⟩ >>= _) _ _ s;refine wpAny_bind (wpAny_of_eq (show Builtin.Builtins.bindParams "max" ["key","default"] 0 ⟨[],[(Str.ofString "default",dv)]⟩=pure [none,some dv] from rfl) ?_);refine wpAny_bind (wpAny_pure (wpAny_bind (iter_intList hl fun s2 e st hfp hlI=>?_)));subst e;refine wpAny_bind (wpAny_newObj_type ?_);have W:=Walks.list (prog:=P) (w:=w) (A:=A.in1) hh s.heap.objs.size l hlI (intItems xs);have sz:(intItems xs).size=xs.size:=by simp [intItems]
 rw [B40];refine wpAny_pure ⟨plainId_quiet PySem.F.plain_max_loop _,D1a W (CmpOf.ints_gt (numAt xs) fun _ _=>intItems_at) (fun hm=>Nat.lt_irrefl _ (hfp _ hm)) (W.frame _ _ _ st fun b _ o e=>Heap.get?_push_of_some _ e) (Heap.get?_push_size _ rfl) fun v h' tk hv kk=>?_⟩;rw [sz] at hv;exact h v h' tk hv (old_kept fun b o hb e=>kk b o hb (Nat.ne_of_lt (Heap.lt_size e)) (Heap.get?_push_of_some _ e))
section
variable {X:Cx}
def C8d (K:W.Frag) (d:Int) (t:TA):TE:=fun σ H Q=>t σ H fun xs H1=>∃ (a:Addr) (ns:List Int),xs=[.ref a]/\L4 K H1 a (ns.map V.int)/\∀ M,(ns=[]->M=d)->(ns≠[]->M∈ns/\∀ x∈ns,x<=M)->Q (.int M) H1
theorem C4w (K:W.Frag) (hK:X.K=K) (hc:X.calm=true) {e:Expr} {t:TA} {d:Int} {p pos kp cp:Pos} {j} (hg:Gl X "max") (hm:X.mg "max"=none) (ha:PA X [e] t)
  (he:backTo pos (starEach [e] X.env)=(false,eval e X.env)::backTo pos (starEach [] X.env):=by rfl) (hplain:(backTo pos (starEach [e] X.env)).any (·.1)=false:=by rfl):PE X (.Call (.Name "max" p) [e] [⟨some "default",.Constant (.int d) j cp,kp⟩] pos) (C8d K d t):=by
 subst hK;intro pins s σ H Q I h;refine wpAny_Call_Name_kw (A2u I hg hm boot_max ?_ (by decide) (by decide));refine callWith_kw (D6 (ha pos pins s σ H _ I h) fun us s1 ⟨vs,H1,I1,r,q⟩=>kws_cons (wpAny_Constant_int (kws_nil ?_))) he hplain;obtain ⟨a,ns,rfl,hq,q⟩:=q;obtain ⟨u,rfl,r1⟩:=S8 r;cases r1;have I2:=I1.tok (s1.toks+1);obtain ⟨its,rv,pl,hz⟩:=I2.list hq;have hi:=A1b rv;obtain ⟨zs,ez⟩:=hi.allInts.items;have hl:=pl.isList;rw [ez] at hl;have e3:ns=zs.toList.map (fun x=>x.1):=by
  have e2:=hi.numsOf;have e3:=nums_intItems (xs:=zs);rw [<-ez] at e3;exact e2.symm.trans e3
 have hlen:ns.length=zs.size:=by rw [e3,length_map,Array.length_toList]
 refine C0o (I2.ok.hd hc) hl fun v h' tk hv hk=>?_;rcases hv with ⟨h0,rfl⟩|⟨h0,hv⟩
 ·exact ⟨.int _,H1,I2.kept hk,⟨_,rfl⟩,q _ (fun _=>rfl) fun z=>absurd (List.eq_nil_of_length_eq_zero (by omega)) z⟩
 ·obtain ⟨t,rfl⟩:=intItems_at hv;obtain ⟨h1,h2⟩:=argBest_gt (numAt zs) (zs.size - 1);refine ⟨.int _,H1,I2.kept hk,⟨_,rfl⟩,q _ (fun z=>by rw [z] at hlen;simp at hlen;omega) fun _=>⟨?_,fun x hx=>?_⟩⟩
  ·rw [e3,numAt_eq];exact getD_mem (by rw [length_map,Array.length_toList];omega)
  ·rw [e3] at hx;obtain ⟨j,hj,rfl⟩:=mem_getD hx;rw [length_map,Array.length_toList] at hj;rw [<-numAt_eq];exact h2 j (by omega)
end
open HT
section
variable {prog:Program} {w:World} {A:Around} {E:Value->Shared->Prop} {s:Shared}
theorem A2b {t sl:Addr} {items:Array Value} {vl vu:Value} {lo hi:Option Int} {Q:Value->Shared->Prop} (ht:IsTup s.heap t items) (hs:s.heap.IsSliceOf sl vl vu .none) (pl:IsPart vl lo) (pu:IsPart vu hi)
  (hw:sIx items.size 0 lo=0/\sIx items.size items.size hi=items.size) (h:Q (.ref t) s):wpAny (model prog w) A (getItem (.ref t) (.ref sl)) Q E s:=by
 obtain ⟨os,hos,hcs,hds⟩:=id hs;have hTs:s.TypeIs (.ref sl) "slice":=⟨os,hos,hcs⟩;unfold getItem
 try with_reducible refine wpAny_holding ?_
 first|refine wpAny_bind (wpAny_pure ?_)|skip
 refine wpAny_bind (wpAny_sequenceKey ht.typeIs (by decide) ?_);refine wpAny_bind (wpAny_callSpecial?_slot (name:=Str.ofString "__getitem__") ht.typeIs PyProof.Rows.slot_tuple_getitem
  (wpAny_call_entry PyProof.Rows.slot_tuple_getitem ht.typeIs entry_tuple_getitem ?_ (args_tuple_getitem _ _)))
 show wpAny _ _ (Builtin.Tuple.tupleItemsOf (.ref t) >>= _) _ _ s;refine wpAny_bind (tupleItemsOf_ ht ?_);refine wpAny_bind (wpAny_typeOf hTs ?_);rw [if_pos (by decide)];refine wpAny_bind (V3 hs pl pu ?_);have hyes:(((sIx items.size 0 lo:Nat):Int)==0&&(1:Int)==1&&(sIx items.size items.size hi - sIx items.size 0 lo)==items.size)=true:=by
  rw [hw.1,hw.2];simp
 show wpAny _ _ (if (((sIx items.size 0 lo:Nat):Int)==0&&(1:Int)==1&&(sIx items.size items.size hi - sIx items.size 0 lo)==items.size)=true then _ else _) _ _ s;rw [if_pos hyes];refine wpAny_bind (wpAny_bind (wpAny_typeOf ht.typeIs (wpAny_pure ?_)));rw [if_pos (by decide)];exact wpAny_bind (wpAny_rule (wpAny_pure ⟨_,rfl,wpAny_pure h⟩))
end
section
variable {X:Cx}
def D9w (K:W.Frag):V->Option Int->Option Int->Hp->VK->Prop:=fun x lo hi H Q=>∃ a xs,x=.ref a/\R4 K H a xs/\(HT.sIx xs.length 0 lo=0/\HT.sIx xs.length xs.length hi=xs.length)/\Q (.ref a) H
theorem C9a:SlR X (D9w X.K):=by
 intro pins s σ H x v vl vu lo hi sl Q I rx hs pl pu h;obtain ⟨a,xs,rfl,hx,hw,q⟩:=h;cases rx;obtain ⟨its,r,ht,hz⟩:=I.tuple hx;have hlen:its.toArray.size=xs.length:=by rw [size_toArray];exact r.length.symm
 exact ⟨"tuple",_,PyProof.Rows.slot_tuple_getitem.lookup,ht.typeIs,A2b ht hs pl pu (by rw [hlen];exact hw) ⟨.ref a,H,I,rfl,q⟩⟩
end
end L2
namespace DL
open PySem PySem.Spec PyProof.Rows L2
section
variable {X:Cx} {K:W.Frag} {E:XK} {pos:Pos}
def D7n:F3:=fun d _ lo hi Q=>match d with
 | .tuple ds=>flats ds=true/\Q (.tuple (A5d ds lo hi)) .old
 | _=>False
theorem P8 {e:Expr} {lo hi:Option Expr} {te:TD} {tl th:TDO} {p2:Pos} (hK:X.K=K) (he:DE X K E e te) (hl:DO X K E lo tl) (hu:DO X K E hi th):DE X K E (.Subscript e (.Slice lo hi none p2) pos) (dSl D7n te tl th):=⟨by
 subst hK;refine D2 (A6i (C9a.or C8k) he.q hl.q hu.q) fun σ H Q h=>?_;obtain ⟨H0,ν,ρ,Qd,Xd,S,h1,q,x⟩:=h;refine ⟨H0,ν,ρ,_,Xd,S,h1,fun d k v H1 g1 e1 r1=>?_,x⟩;refine ⟨H0,ν,ρ,_,Xd,S.same e1,g1,fun l H2 g2 e2=>?_,x⟩;refine ⟨H0,ν,ρ,_,Xd,S.same (e1.trans e2),g2,fun u H3 g3 e3=>?_,x⟩;have e03:=(e1.trans e2).trans e3;have hl3:=(S.same e03).hl;have r3:=((r1.den).same e2).same e3;cases d with
 | tuple ds =>
  obtain ⟨hf,g3⟩:=g3;cases r3 with
  | @tup a us _ ht hd =>
   by_cases hw:HT.sIx us.length 0 l=0/\HT.sIx us.length us.length u=us.length
   ·refine .inl ⟨a,us,rfl,ht,hw,q _ _ _ _ g3 e03 ?_⟩;have e:A5d ds l u=ds:=by
     unfold A5d;rw [<-hd.length,hw.1,hw.2,List.drop_zero,Nat.sub_zero,List.take_of_length_le (by rw [hd.length];exact Nat.le_refl _)]
    rw [e];exact R6 hl3 (.tup ht hd) hf
   ·refine .inr ⟨a,us,rfl,ht,hw,fun p hp=>q _ _ _ _ g3 (e03.trans (A7.new hp)) ?_⟩;have hd':Dns X.K (upd H3 p (.tup (A7f us l u))) (A7f us l u) (A5d ds l u):=by
     unfold A7f A5d;rw [hd.length];exact (((hd.same (A7.new hp))).drop _).take _
    have hf':flats (A5d ds l u)=true:=A0i.mpr fun d hd=>A0i.mp hf d (List.mem_of_mem_drop (mem_of_mem_take hd));exact R6 (S.same (e03.trans (A7.new hp))).hl (.tup (.inl (.inl B3)) hd') hf'
 | _=>exact g3.elim⟩
theorem D4s {x:List D} {k:Kd} {lo hi:Option Int} {Q:QD} (h:flats x=true/\Q (.tuple (A5d x lo hi)) .old):D7n (.tuple x) k lo hi Q:=h
theorem A4n:∀ bs:List Str,flats (bs.map PyData.str)=true
 | []=>rfl
 | _::r=>by rw [map_cons];exact A4n r
theorem B6f {bs:List Str} {k:Kd}:A5j (bs.map PyData.str) k=.own []:=by unfold A5j;rw [A4n];rfl
def B95 (d:Int):FA:=fun ds _ Q=>match ds with
 | [.list xs]=>∃ ns,A0n xs=some ns/\∀ M,(ns=[]->M=d)->(ns≠[]->M∈ns/\∀ x∈ns,x<=M)->Q (.int M) .old
 | _=>False
theorem C2e {e:Expr} {ta:TDA} {d:Int} {p kp cp:Pos} {j} (hK:X.K=K) (hc:X.calm=true) (hg:Gl X "max") (hm:X.mg "max"=none) (ha:DA X K E [e] ta) (he:backTo pos (starEach [e] X.env)=(false,eval e X.env)::backTo pos (starEach [] X.env):=by rfl) (hplain:(backTo pos (starEach [e] X.env)).any (·.1)=false:=by rfl) :
  DE X K E (.Call (.Name "max" p) [e] [⟨some "default",.Constant (.int d) j cp,kp⟩] pos) (dCB (B95 d) ta):=⟨D2 (⟨C4w K hK hc hg hm ha.q.h he hplain⟩:QE X _ (C8d K d (LA K E ta))) fun σ H Q h=>by
 obtain ⟨H0,ν,ρ,Qd,Xd,S,h1,q,x⟩:=h;refine ⟨H0,ν,ρ,_,Xd,S,h1,fun ds k vs H1 g1 e1 r1=>?_,x⟩;unfold B95 at g1;split at g1
 ·obtain ⟨v,rfl,h1⟩:=Z8 r1.dens;obtain ⟨a,us,rfl,g2,g3⟩:=D3 h1;obtain ⟨ns,e,g1⟩:=g1;exact ⟨a,ns,rfl,L4.of (by rw [g2,A4v g3 e]),fun M m1 m2=>q _ _ _ _ (g1 M m1 m2) e1 (.int _)⟩
 ·exact g1.elim⟩
theorem D2h {d:Int} {x:List D} {k:Kd} {Q:QD} (h:∃ ns,A0n x=some ns/\∀ M,(ns=[]->M=d)->(ns≠[]->M∈ns/\∀ x∈ns,x<=M)->Q (.int M) .old):B95 d [.list x] k Q:=h
end
end DL
namespace L2
open PySem PySem.Spec PyProof.Rows
section
variable {X:Cx}
def rSw:V->List V->Hp->VK->Prop:=fun x vs H Q=>∃ z y,x=.str z/\vs=[.str y]/\Q (.bl (Txt.startswith z y)) H
theorem D6q:MtR X "str.startswith" rSw:=by
 intro pins s σ H x vs v us Q I rx rv h;obtain ⟨z,y,rfl,rfl,q⟩:=h;obtain ⟨t,rfl⟩:=rx;obtain ⟨u,rfl,t',rfl⟩:=rv.one;exact SC.startswith ⟨.bl _,H,I,rfl,q⟩
end
end L2
namespace DL
open PySem PySem.Spec PyProof.Rows L2
section
variable {X:Cx} {K:W.Frag} {E:XK} {apos cpos:Pos} {x:Str} {o e:Expr} {to te:TD}
def E0e:FA:=fun ds _ Q=>match ds with
 | [.str z]=>z.length<=640/\∃ n,PySem.intText? z=some n/\Q (.int n) .old
 | _=>False
def onX (d:D) (Q:Str->Prop):Prop:=match d with
 | .str z=>Q z
 | _=>False
theorem D72 {z:Str} {Q:Str->Prop} (h:Q z):onX (.str z) Q:=h
theorem C9g {d:D} {Q:Str->Prop} (h:onX d Q):∃ z,d=.str z/\Q z:=by
 cases d with
 | str z=>exact ⟨z,rfl,h⟩
 | _=>exact h.elim
structure DMm (X:Cx) (K:W.Frag) (id:String) (g:Str->D->QD->Prop):Prop where
 ex:∃ r,MtR X id r/\∀ (ν:Nat->List Addr) (Hs H:Hp) (z:Str) (v:V) (d:D) (Qf:QD) (Q:VK),(∀ a,Hd Z0 ν a->Mu H a)->A7 Hs H->Dn K H v d->g z d Qf->(∀ d k v H',Qf d k->A7 H H'->R3 K Z0 ν Hs H' k v d->Q v H')->r (.str z) [v] H Q
def dMm (g:Str->D->QD->Prop) (to te:TD):TD:=fun ρ Q Xd=>to ρ (fun d _=>onX d fun z=>te ρ (fun e _=>g z e Q) Xd) Xd
theorem D31 {name:Str} {id:String} {g:Str->D->QD->Prop} (hK:X.K=K) (slot:Slot "str" name id) (hty:typeOf (.builtin id)=pure (.type "method_descriptor")) (hm:DMm X K id g) (ho:DE X K E o to) (he:DE X K E e te)
  (hb:attributeBase o name X.env (eval o X.env)=eval o X.env:=by rfl) (hfew:((backTo cpos (starEach [e] X.env)).all (fun x=>!x.1)&&(backToKw cpos (keywordEach [] X.env)).all (fun x=>x.1.isSome)&&decide (([e]:List Expr).length+([]:List Keyword).length+(if ([]:List Keyword).isEmpty then 0 else 1) < 30))=true:=by rfl) (hline:(apos.endLine==cpos.line)=true:=by rfl) (hs:starEach [e] X.env=(false,eval e X.env)::starEach [] X.env:=by rfl) (hplain:(backTo cpos (starEach [] X.env)).any (·.1)=false:=by rfl) :
  DE X K E (.Call (.Attribute o name apos) [e] [] cpos) (dMm g to te):=by
 obtain ⟨r,hr,p⟩:=hm.ex;refine ⟨D2 (⟨C1j PySem.F.plainAttrs_str slot hty hr ho.q.h (J9 he.q R7 hs).h hb hfew hline hs hplain⟩:QE X _ _) fun σ H Q h=>?_⟩;obtain ⟨H0,ν,ρ,Qd,Xd,S,h1,q,x⟩:=h;refine ⟨H0,ν,ρ,_,Xd,S,h1,fun d k u H1 g1 e1 r1=>?_,x⟩;obtain ⟨z,rfl,g1⟩:=C9g g1;have hu:=r1.den;cases hu;refine ⟨rfl,H0,ν,ρ,_,Xd,S.same e1,g1,fun d2 k2 v H2 g2 e2 r2=>?_,x⟩;exact p ν H H2 z v d2 Qd Q (S.same (e1.trans e2)).hl (e1.trans e2) r2.den g2 fun d3 k3 v3 H3 a1 a2 a3=>q d3 k3 v3 H3 a1 ((e1.trans e2).trans a2) a3
def gSw:Str->D->QD->Prop:=fun z d Q=>match d with
 | .str y=>Q (.bool (Txt.startswith z y)) .old
 | _=>False
theorem D11:DMm X K "str.startswith" gSw:=⟨_,D6q,fun ν Hs H z v d Qf Q hl e h g q=>by
 unfold gSw at g;split at g
 ·cases h;exact ⟨z,_,rfl,rfl,q _ _ _ _ g (A7.refl H) (.bl _)⟩
 ·exact g.elim⟩
variable {ρ:C5} {Q:QD} {Xd:XD} {k:Kd} {z y:Str} {ds:List D} {n:Nat}
theorem D97 {g:Str->D->QD->Prop} (h:to ρ (fun d _=>onX d fun z=>te ρ (fun e _=>g z e Q) Xd) Xd):dMm g to te ρ Q Xd:=h
theorem D9x (h:Q (.bool (Txt.startswith z y)) .old):gSw z (.str y) Q:=h
end
end DL
namespace L2
open PySem PySem.Spec PyProof.Rows HT
end L2
namespace DL
open PySem PySem.Spec PyProof.Rows L2
end DL
namespace L2
open PySem PySem.Spec PyProof.Rows
theorem C3o {v v':V} {u:Value} (h:C8 v u) (h':C8 v' u):v=v':=by
 cases v<;>cases v'<;>simp only [C8] at h h'<;>first
  | (subst h;cases h';rfl)
  | (subst h;cases h';done)
  | (obtain ⟨t,rfl⟩:=h;obtain ⟨t',e⟩:=h';cases e;rfl)
  | (obtain ⟨t,rfl⟩:=h;obtain ⟨t',e⟩:=h';cases e;done)
  | (obtain ⟨t,rfl⟩:=h;cases h';done)
  | (subst h;obtain ⟨t,e⟩:=h';cases e;done)
  | rfl
section
variable {X:Cx} {pins:List (Addr × Obj)} {σ:St} {H:Hp} {s:Shared}
theorem B4b (I:B4 X pins σ H s) {a:Addr} {us ws:List V} (h:L4 X.K H a us) (h':R4 X.K H a ws):False:=by
 obtain ⟨its,_,pl,_⟩:=I.list h;obtain ⟨its',_,t,_⟩:=I.tuple h';obtain ⟨o,e1,c1,_⟩:=pl.isList;obtain ⟨o',e2,c2,_⟩:=t;rw [e1] at e2;cases e2;rw [c1] at c2;exact absurd (Value.type.inj c2) (by decide)
mutual
theorem Den.one (I:B4 X pins σ H s):∀ {v d d'},Den X.K H v d->Den X.K H v d'->d=d'
 | _,_,_,.non,q=>by cases q;rfl
 | _,_,_,.bl _,q=>by cases q;rfl
 | _,_,_,.int _,q=>by cases q;rfl
 | _,_,_,.str _,q=>by cases q;rfl
 | _,_,_,.lst h r,q=>by
  cases q with
  | lst h' r' =>
   have e:=I.list_inj h h';subst e;rw [Dens.one I r r']
  | tup h' _=>exact (B4b I h h').elim
 | _,_,_,.tup h r,q=>by
  cases q with
  | lst h' _=>exact (B4b I h' h).elim
  | tup h' r' =>
   have e:=I.tuple_inj h h';subst e;rw [Dens.one I r r']
theorem Dens.one (I:B4 X pins σ H s):∀ {v d d'},Dens X.K H v d->Dens X.K H v d'->d=d'
 | _,_,_,.nil,q=>by cases q;rfl
 | _,_,_,.cons h r,q=>by
  cases q with
  | cons h' r'=>rw [Den.one I h h',Dens.one I r r']
end
open Classical in
noncomputable def eIn (K:W.Frag) (H:Hp) (dx:PyData) (y:Value):Bool:=decide (∃ v d,C8 v y/\Den K H v d/\PyData.eqv d dx=true)
open Classical in
theorem C24 (I:B4 X pins σ H s) {dx d:PyData} {v:V} {y:Value} (r:C8 v y) (h:Den X.K H v d):eIn X.K H dx y=PyData.eqv d dx:=by
 unfold eIn;cases e:PyData.eqv d dx with
 | true=>exact decide_eq_true ⟨v,d,r,h,e⟩
 | false =>
  refine decide_eq_false fun ⟨v',d',r',h',e'⟩=>?_;have:=C3o r r';subst this;rw [<-Den.one I h h',e] at e';cases e'
theorem B4x (I:B4 X pins σ H s) {dx:PyData} {x:Value} {xs:List Addr} {A:Around} (hx:Reads s.heap x dx xs) (cx:dx.canLay0=true) (hd:dx.depth<=32) (hu:A.units+32 < cLine):∀ {vs:List V} {ds:List PyData} {its:List Value},C4 vs its->Dens X.K H vs ds->PyData.canLayAll0 ds=true->∀ y∈its,SeqAt.EqAt A s y x (eIn X.K H dx y)
 | _,_,_,.nil,.nil,_,y,hy=>by cases hy
 | _,_,_,.cons r t,.cons h u,c,y,hy=>by
  simp only [PyData.canLayAll0,Bool.and_eq_true] at c;rcases mem_cons.mp hy with rfl|hy
  ·rw [C24 I r h];obtain ⟨as,ra⟩:=h.reads I r;exact SeqAt.eqAt_reads _ _ A s _ _ _ _ ra hx c.1 cx (by omega)
  ·exact B4x I hx cx hd hu t u c.2 y hy
end
end L2
namespace DL
open PySem PySem.Spec PyProof.Rows L2
end DL
namespace L2
open PySem PySem.Spec PyProof.Rows PySem.W PySem.Calls
section
variable {X:Cx} {pins:List (Addr × Obj)} {σ:St} {H:Hp} {s:Shared} {a:Addr} {v:V} {u r:Value} {A:Around} {E:Value->Shared->Prop}
theorem B74 {kvs:List (C2 × V)} {k:C2} {Q:Unit->Shared->Prop} (I:B4 X pins σ H s) (e:H a=some (.dK kvs)) (l:kvs.length < sizeLine) (ry:C8 (kV k) u) (rv:C8 v r) (h:∀ s',B4 X pins σ (upd H a (.dK (A05 kvs k v))) s'->Q () s') :
  wpAny (model X.prog X.w) A (dictSet a u r) Q E s:=by
 obtain ⟨z,hd,vs,rel,dd⟩:=C1x I.hok e;have hz:vs.length<=sizeLine:=by rw [<-rel.length];exact z
 have hl:(A05 kvs k v).length<=sizeLine:=by have:=Z3 kvs k v;omega
 refine wpAny_dictSet_pairs (hsz:=hz) (B06 ry) dd fun h' dd' hs=>h _ ?_;have he:∃ q,h'.get? a=some q:=let ⟨q,_,_,hq,_⟩:=dd';⟨q,hq⟩
 exact A7x I (by rw [e];exact True.intro) hs he (B99 hl hd (rel.put k rv) dd')
end
section
variable {acc:Addr}
def B3c (acc:Addr) (tk tv:TE):TS:=fun D σ H=>tk σ H fun k H1=>tv σ H1 fun v H2=>∃ kvs k',k=kV k'/\H2 acc=some (.dK kvs)/\kvs.length < sizeLine/\D.nx σ (upd H2 acc (.dK (A05 kvs k' v)))
end
end L2
namespace DL
open PySem PySem.Spec PyProof.Rows L2
def P2 (es:List (C2 × D)):List C2->List (C2 × D)
 | []=>es
 | k::r=>P2 (X3 es k (.bool true)) r
theorem A6n {κ:Type} [DecidableEq κ] (es:List (κ × D)) (k k':κ) (d:D):look (X3 es k d) k'=if k=k' then some d else look es k':=by
 unfold X3;split
 ·rename_i h
  induction es with
  | nil=>cases h
  | cons p r ih =>
   obtain ⟨a,x⟩:=p;rw [map_cons];unfold look;by_cases e:a=k
   ·subst e;rw [if_pos rfl];by_cases e2:a=k'
    ·subst e2;rw [List.find?_cons_of_pos (by simp)];simp
    ·rw [find?_cons_of_neg (by simpa using e2),find?_cons_of_neg (by simpa using e2)];by_cases h2:(r.any fun p=>decide (p.1=a))=true
     ·have:=ih h2;unfold look at this;rw [this]
     ·rw [if_neg e2];have:r.map (fun p=>if p.1=a then (p.1,d) else p)=r:=by
       conv=>rhs;rw [<-List.map_id r]
       refine List.map_congr_left fun p hp=>?_;rw [if_neg (fun z=>h2 (any_eq_true.mpr ⟨p,hp,decide_eq_true z⟩))];rfl
      rw [this]
   ·rw [if_neg e];by_cases e2:a=k'
    ·subst e2;rw [List.find?_cons_of_pos (by simp),List.find?_cons_of_pos (by simp),if_neg (fun z=>e z.symm)]
    ·rw [find?_cons_of_neg (by simpa using e2),find?_cons_of_neg (by simpa using e2)];have h2:(r.any fun p=>decide (p.1=k))=true:=by
      rw [any_cons] at h;simpa [e] using h
     have:=ih h2;unfold look at this;exact this
 ·rename_i h;unfold look;rw [List.find?_append];by_cases e:k=k'
  ·subst e;have:List.find? (fun p=>decide (p.1=k)) es=none:=List.find?_eq_none.mpr fun p hp z=>h (any_eq_true.mpr ⟨p,hp,z⟩);rw [this];simp
  ·rw [if_neg e,find?_cons_of_neg (by simpa using e)];simp
theorem A5u:∀ (ks:List C2) (es:List (C2 × D)),(P2 es ks).length<=es.length+ks.length
 | [],es=>Nat.le_refl _
 | a::r,es=>by
  have:=A5u r (X3 es a (.bool true));have:=A9p es a (.bool true);rw [P2,length_cons];omega
end DL
namespace L2
open PySem PySem.Spec PyProof.Rows PySem.W PySem.Calls
section
variable {prog:Program} {w:World} {A:Around} {R:Result->Shared->Prop} {s:Shared}
theorem B0m {ke ve target iter:Expr} {ifs:List Expr} {scope:Scope} {pos:Pos} {it:Value} {acc:Addr} {env:Env} (I:Nat->Shared->Prop)
  (turn:∀ n s,I n s->wpAny (model prog w) A (pyNext it) (fun r s₁=>match r with
   | none=>R (.ok .next) s₁
   | some v=>wpAny (model prog w) A (letOwnedTupleGo target it v) (fun _ s₁'=>wpAny (model prog w) A (assign target env v) (fun _ s₂ =>
     wpAny (model prog w) A (forIn ifs true fun c r=>if r=true then do let ok <- isTrue c env (eval c env);pure (ForInStep.yield ok) else pure (ForInStep.yield r)) (fun ok s₃=>if ok=true then
      wpAny (model prog w) A (eval ke env) (fun kv s₃=>wpAny (model prog w) A (eval ve env) (fun vv s₄=>wpAny (model prog w) A (dictSet acc kv vv) (fun _ s₅=>∃ m,m < n/\I m s₅) (fun _ _=>False) s₄) (fun _ _=>False) s₃) (fun _ _=>False) s₃
      else ∃ m,m < n/\I m s₃) (fun _ _=>False) s₂) (fun _ _=>False) s₁') (fun _ _=>False) s₁) (fun _ _=>False) s)
  (n:Nat) (h:I n s) :
  codeAny (model prog w) A (.compLoop (.DictComp ke ve [⟨target,iter,ifs,0⟩] scope pos) 0 it (.ref acc) env) R s:=by
 refine codeAny_loop rfl I (fun n s hI=>?_) n h;show wpAny _ A ((compTurn (.DictComp ke ve [⟨target,iter,ifs,0⟩] scope pos) 0 it (.ref acc) env).onRaise (fun x=>do noteFrame x env;theTreesLotGoes x)) _ _ s;refine wpAny_noted (wpAny_noRaise ?_);unfold compTurn;dsimp only [List.getElem?_cons_zero];refine wpAny_bind (wpAny_standAt (wpAny_bind (D6 (turn n s hI) (fun r s₁ h₁=>?_))));cases r with
 | none=>exact wpAny_pure h₁
 | some v =>
  refine wpAny_bind (D6 h₁ fun _ s₁' h₁=>wpAny_bind (D6 h₁ fun _ s₂ h₂=>wpAny_bind (D6 h₂ fun ok s₂' h₂=>?_)));cases ok with
  | false=>exact wpAny_pure ⟨rfl,h₂⟩
  | true =>
  rw [if_pos rfl] at h₂ ⊢;dsimp only [List.getElem?_cons_succ,List.getElem?_nil];refine wpAny_bind ?_;refine wpAny_bind (D6 h₂ fun kv s₃ h₃=>?_);refine wpAny_bind (wpAny_holding (D6 h₃ fun vv s₄ h₄=>?_));refine wpAny_bind (wpAny_standAt ?_);exact wpAny_holding (D6 h₄ fun _ s₅ h₅=>wpAny_pure ⟨rfl,h₅⟩)
theorem A27 {ke ve target iter:Expr} {ifs:List Expr} {scope:Scope} {pos:Pos} {it acc:Value} {env:Env}
  (h0:codeAny (model prog w) A (.compLoop (.DictComp ke ve [⟨target,iter,ifs,0⟩] scope pos) 0 it acc env) R s)
  (h:wpAny (model prog w) A (pyIter it) (fun it' s'=>codeAny (model prog w) A (.compLoop (.DictComp ke ve [⟨target,iter,ifs,0⟩] scope pos) 0 it' acc env) R s') (fun _ _=>False) s) :
  codeAny (model prog w) A (.compStart (.DictComp ke ve [⟨target,iter,ifs,0⟩] scope pos) 0 it acc env) R s:=by
 refine codeAny_of_tree ?_;show wpAny _ _ ((compStart (.DictComp ke ve [⟨target,iter,ifs,0⟩] scope pos) 0 it acc env).onRaise (fun x=>do noteFrame x env;standAt theWindowsPlace)) _ _ s;refine wpAny_notedAt (wpAny_noRaise ?_);unfold compStart;have hc:clausesOf (.DictComp ke ve [⟨target,iter,ifs,0⟩] scope pos)=[⟨target,iter,ifs,0⟩]:=rfl;rw [hc];show wpAny _ _ (ask >>= _) _ _ s;refine wpAny_bind (wpAny_askSetting (wpAny_ite ?_));split
 ·first
   | exact wpAny_bind (wpAny_pure (wpAny_pure (And.intro rfl h0)))
   | exact wpAny_pure (And.intro rfl h0)
 ·first
   | exact wpAny_bind (wpAny_rule (wpAny_bind (wpAny_standAt (wpAny_bind (wpAny_mono h (fun it' s' h'=>wpAny_pure (And.intro rfl h')) fun _ _ x=>x)))))
   | (refine wpAny_bind (wpAny_rule ?_);show wpAny _ _ (standAt iter.pos >>= _) _ _ s;exact wpAny_bind (wpAny_standAt (wpAny_bind (wpAny_mono h (fun it' s' h'=>wpAny_pure (And.intro rfl h')) fun _ _ x=>x))))
end
section
variable {Y:Cx} {acc:Addr} {scope:Scope} {pos:Pos} {ke ve:Expr}
theorem A9v {tg iter:Expr} {ifs:List Expr} {ti:TT} {g:TG} {tk tv:TE} {pins:List (Addr × Obj)} {s:Shared} {σ:St} {H:Hp} {D:T1} {J:It} {fp:List Addr} {it:Addr} {tn:Nat->Heap->Prop}
  (hx:Y.xe=fun _ _=>False) (hc:Y.calm=true) (hg:PG Y tg g) (ht:PTs Y ifs ti) (hk:PE Y ke tk) (hve:PE Y ve tv)
  (I:B4 Y pins σ H s) (T:A7r Y.prog Y.w Y.K tg J fp it tn) (st:tn 0 s.heap) (f2:∀ b∈fp,U0 Y pins H b) (h:A30 J g (A57 ti (B3c acc tk tv)) D σ H) :
  codeAny (model Y.prog Y.w) Y.A (.compLoop (.DictComp ke ve [⟨tg,iter,ifs,0⟩] scope pos) 0 (.ref it) (.ref acc) Y.env) (fun r s'=>r=.ok .next/\∃ σ' H',B4 Y pins σ' H' s'/\D.nx σ' H') s:=by
 obtain ⟨W,⟨m0,w0⟩,turn⟩:=h;have stat:∀ {H':Hp},(∀ b∈fp,H' b=none)->∀ b∈fp,U0 Y pins H' b:=fun hn b hb=>⟨hn b hb,(f2 b hb).2⟩;refine B0m (fun n s'=>∃ i σ' H',B4 Y pins σ' H' s'/\tn i s'.heap/\(∀ b∈fp,H' b=none)/\W i n σ' H') ?_ m0 ⟨0,σ,H,I,st,fun b hb=>(f2 b hb).1,w0⟩;rintro n s3 ⟨i,σ3,H3,I3,st3,fr3,w3⟩;rcases turn i n σ3 H3 w3 with ⟨stop,qn⟩|⟨go,N,hN,step⟩
 ·refine D6 (T.done Y rfl rfl rfl hc i pins s3 σ3 H3 _ I3 (stat fr3) st3 stop) fun r s4 ⟨hr,I4⟩=>?_;subst hr;exact ⟨rfl,σ3,H3,I4,qn⟩
 ·refine D6 (T.item Y rfl rfl rfl hc i pins s3 σ3 H3 _ I3 (stat fr3) st3 go) fun r s4 ⟨u,hr,h4⟩=>?_;subst hr;refine D6 h4 fun _ s5 ⟨x,H5,I5,r5,y5,st5,fr5⟩=>?_;have I5':=I5.pinned (stat fr5) (T.obj _ _ st5);have a1:=hg _ s5 σ3 H5 x u _ I5' r5 (step x H5 y5);rw [hx] at a1;refine D6 a1 fun _ s6 ⟨σ6,H6,I6,q6⟩=>?_;have a0:=ht _ s6 σ6 H6 _ I6 q6;rw [hx] at a0;refine D6 a0 fun ok s6 ⟨H6,I6,q6⟩=>?_;cases ok with
  | false =>
   rw [if_neg Bool.false_ne_true] at q6 ⊢;obtain ⟨m',hm,w7⟩:=hN _ _ q6;refine ⟨m',hm,i+1,_,_,I6.unpinned,T.keep _ _ _ st5 fun b hb o e=>(I6.pin (b,o) (mem_append_right _ (mem_append_right _ (L8 hb e)))).1,fun b hb=>?_,w7⟩;obtain ⟨o,e,d⟩:=T.obj _ _ st5 b hb;exact (I6.pin (b,o) (mem_append_right _ (mem_append_right _ (L8 hb e)))).2.1
  | true =>
  rw [if_pos rfl] at q6 ⊢;have a2:=hk _ s6 σ6 H6 _ I6 q6;rw [hx] at a2;refine D6 a2 fun kv s7 ⟨k,H7,I7,r7,q7⟩=>?_;have a3:=hve _ s7 σ6 H7 _ I7 q7;rw [hx] at a3;refine D6 a3 fun vv s8 ⟨v,H8,I8,r8,kvs,k',ek,e8,l8,q8⟩=>?_;subst ek;refine B74 I8 e8 l8 r7 r8 fun s9 I9=>?_;obtain ⟨m',hm,w7⟩:=hN _ _ q8;refine ⟨m',hm,i+1,_,_,I9.unpinned,T.keep _ _ _ st5 fun b hb o e=>(I9.pin (b,o) (mem_append_right _ (mem_append_right _ (L8 hb e)))).1,fun b hb=>?_,w7⟩;obtain ⟨o,e,d⟩:=T.obj _ _ st5 b hb;exact (I9.pin (b,o) (mem_append_right _ (mem_append_right _ (L8 hb e)))).2.1
end
def B5f (wi:TI) (g:TG) (ti:TT) (tk tv:TE) (own:List Str) (cap:List (Str × Nat)):TE:=fun σ H Q=>wi σ H fun J H1=>∀ acc,H1 acc=none ->
 A30 J g (A57 ti (B3c acc tk tv)) { nx:=fun _ H'=>Q (.ref acc) H',rt:=fun _ _=>False } (A4b own cap σ) (upd H1 acc (.dK []))
theorem D14 {X:Cx} {ke ve tg iter:Expr} {ifs:List Expr} {ti:TT} {scope:Scope} {pos:Pos} {wi:TI} {g:TG} {tk tv:TE} (own:List Str) (cap:List (Str × Nat)) (hc:X.calm=true) (L:B9 X scope own cap) (hi:PI X tg iter wi)
  (hin:∀ (s₃:Shared) (H₃:Hp) (fp:List Addr),PG (X.inn scope (D0 own cap) s₃ H₃ fp) tg g/\PTs (X.inn scope (D0 own cap) s₃ H₃ fp) ifs ti/\PE (X.inn scope (D0 own cap) s₃ H₃ fp) ke tk/\PE (X.inn scope (D0 own cap) s₃ H₃ fp) ve tv)
  (hs:∀ x,foldedSetIterable iter X.env x=pure x:=by intro _;rfl):PE X (.DictComp ke ve [⟨tg,iter,ifs,0⟩] scope pos) (B5f wi g ti tk tv own cap):=by
 intro pins s σ H Q I h;have ev:eval (.DictComp ke ve [⟨tg,iter,ifs,0⟩] scope pos) X.env=comprehension (.DictComp ke ve [⟨tg,iter,ifs,0⟩] scope pos) scope X.env (firstIterPos [⟨tg,iter,ifs,0⟩] pos) newDict (firstAsync [⟨tg,iter,ifs,0⟩]) (firstIter [⟨tg,iter,ifs,0⟩] X.env):=by rw [eval]
 rw [ev];have hcl:∀ x∈scope.names,x.2=.free->∃ c,X.env.cells.lookup x.1=some c:=fun x hx hk=>I.ok.has x.1 (L.fre x hx hk);refine wpAny_comprehension_free (use:=none) rfl hs (O6 hcl) L.kind L.loc (D6 (hi pins s σ H _ I h) fun x s1 h1=>D6 h1 fun itv s2 ⟨it,fp,tn,J,H2,e,I2,T,st2,f2,q2⟩=>?_);subst e;refine wpAny_newObj_type ?_;have I3:=I2.laid (a:=s2.heap.objs.size) (o:=.dK []) (t':=s2.toks) (fun _ _ q=>Heap.get?_push_of_some _ q) (Nat.le_refl _) (A50 s2.heap I2.big);have fr2:H2 s2.heap.objs.size=none:=I2.fresh;have f3:∀ b∈fp,U0 X pins (upd H2 s2.heap.objs.size (.dK [])) b:=fun b hb=>by
  obtain ⟨o,eo,_⟩:=T.obj 0 _ st2 b hb;obtain ⟨g1,g2⟩:=f2 b hb;exact ⟨by rw [B1 (Nat.ne_of_lt (Heap.lt_size eo))];exact g1,g2⟩
 have k3:∀ b o,s2.heap.get? b=some o->(s2.heap.push { cls:=.type "dict",data:=.dict #[] }).get? b=some o:=fun b o e=>Heap.get?_push_of_some _ e;have st3:tn 0 (s2.heap.push { cls:=.type "dict",data:=.dict #[] }):=T.keep 0 _ _ st2 fun b _ o e=>k3 b o e;refine A0c ?_;have I4:=A7g L I3 f3 fun b hb=>by obtain ⟨o,eo,_⟩:=T.obj 0 _ st3 b hb;exact ⟨o,eo⟩
 obtain ⟨hg,ht,hk,hv⟩:=hin { s2 with heap:=s2.heap.push { cls:=.type "dict",data:=.dict #[] },toks:=s2.toks } (upd H2 s2.heap.objs.size (.dK [])) fp;have st4:=T.keep 0 _ (pushCells ((s2.heap.push { cls:=.type "dict",data:=.dict #[] }).push { cls:=.type "dict",data:=.dict #[] }) scope.names) st3 fun b _ o e=>pushCells_keeps _ _ b o (Heap.get?_push_of_some _ e);have f4:∀ b∈fp,U0 (X.inn scope (D0 own cap) { s2 with heap:=s2.heap.push { cls:=.type "dict",data:=.dict #[] },toks:=s2.toks } (upd H2 s2.heap.objs.size (.dK [])) fp) [] (upd H2 s2.heap.objs.size (.dK [])) b:=fun b hb =>
  ⟨(f3 b hb).1,(I4.ok.exf b hb).1,I4.ok.exfs b hb,.inl hb,(I4.ok.exf b hb).2,fun p hp=>absurd (show p∈([]:List (Addr × Obj)) from hp) (by simp)⟩
 have lp:=A9v (Y:=X.inn scope (D0 own cap) { s2 with heap:=s2.heap.push { cls:=.type "dict",data:=.dict #[] },toks:=s2.toks } (upd H2 s2.heap.objs.size (.dK [])) fp) (acc:=s2.heap.objs.size) (scope:=scope) (pos:=pos) (iter:=iter) rfl hc hg ht hk hv I4 T st4 f4 (q2 _ fr2);have lp':=codeAny_mono lp (R':=compPost (model X.prog X.w) X.A X.xe none (EP X pins σ Q) (.ref s2.heap.objs.size) (s2.heap.push { cls:=.type "dict",data:=.dict #[] }).objs.size) fun r s' ⟨hr,σ',H',I',q'⟩=>by
  subst hr;obtain ⟨m',hn',_⟩:=id I'.loc;refine ⟨m',hn',fun h' hsb=>?_⟩;refine ⟨.ref s2.heap.objs.size,H',?_,rfl,q'⟩;have neC:∀ b o,(s2.heap.push { cls:=.type "dict",data:=.dict #[] }).get? b=some o->b≠(s2.heap.push { cls:=.type "dict",data:=.dict #[] }).objs.size:=fun b o e=>Nat.ne_of_lt (Heap.lt_size e);have B:=I'.base;refine I3.call' (ch:=fp) I'.os ⟨fun b o e n hb hx=>(hsb.2 b (neC b o e)).trans (B.keep b o e n hb hx),fun b o e n hb hx=>?_,B.free,fun b o e hx=>?_,B.tups,B.frzs,B.tbls⟩ (fun b u e=>?_) I'.bare fun b hb=>⟨(f3 b hb).2.2.2.1,(f3 b hb).2.1,(f3 b hb).2.2.2.2.1,(f3 b hb).2.2.2.2.2⟩
  ·obtain ⟨sl,e1⟩:=B.slot b o e n hb hx;exact ⟨sl,(hsb.2 b (neC b o e)).trans e1⟩
  ·obtain ⟨o',e1⟩:=B.there b o e hx;exact ⟨o',(hsb.2 b (neC b o e)).trans e1⟩
  ·have hC:H' (s2.heap.push { cls:=.type "dict",data:=.dict #[] }).objs.size=none:=I'.free;refine (I'.hok b u e).stay (fun c v hc' q=>(hsb.2 c ?_).trans q) (fun _ q=>q) fun _ _ q=>q;rintro rfl;rcases hc' with hc'|hc'
   ·rw [<-hc',hC] at e;cases e
   ·rw [hC] at hc';cases hc'
 exact A27 lp' (T.self _ _ _ _ _ st4 lp')
theorem C45 {X:Cx} {ke ve tg iter:Expr} {ifs:List Expr} {ti:TT} {scope:Scope} {pos:Pos} {wi:TI} {g:TG} {tk tv:TE} (own:List Str) (cap:List (Str × Nat)) (hc:X.calm=true) (L:B9 X scope own cap) (hi:QI X tg iter wi)
  (hin:∀ (s₃:Shared) (H₃:Hp) (fp:List Addr),QG (X.inn scope (D0 own cap) s₃ H₃ fp) tg g/\QTs (X.inn scope (D0 own cap) s₃ H₃ fp) ifs ti/\QE (X.inn scope (D0 own cap) s₃ H₃ fp) ke tk/\QE (X.inn scope (D0 own cap) s₃ H₃ fp) ve tv)
  (hs:∀ x,foldedSetIterable iter X.env x=pure x:=by intro _;rfl):QE X (.DictComp ke ve [⟨tg,iter,ifs,0⟩] scope pos) (B5f wi g ti tk tv own cap):=⟨D14 own cap hc L hi.h (fun s H fp=>⟨(hin s H fp).1.h,(hin s H fp).2.1.h,(hin s H fp).2.2.1.h,(hin s H fp).2.2.2.h⟩) hs⟩
section
variable {κ:Nat->Int} {p:Array Nat}
def kk (κ:Nat->Int) (p:Array Nat) (i:Nat):Int:=κ (p.getD i 0)
def Dn (κ:Nat->Int) (p:Array Nat) (n:Nat):Prop:=∀ i j,i<=j->j < n->kk κ p j<=kk κ p i
end
end L2
namespace DL
open PySem PySem.Spec PyProof.Rows L2
section
theorem A41 {kvs:List (C2 × V)} {es:List (C2 × D)} (v:VPs kvs es):kvs.map (·.1)=es.map (·.1):=by
 induction v with
 | nil=>rfl
 | cons _ _ ih=>rw [map_cons,map_cons,ih]
end
end DL
namespace L2
open PySem PySem.Spec PyProof.Rows PySem.W PySem.Calls
section
variable {X:Cx} {j:Int}
def D5p (K:W.Frag):V->List V->Hp->VK->Prop:=fun l xs H Q=>∃ a x dx vs ds j,l=.ref a/\xs=[x]/\Den K H x dx/\L4 K H a vs/\Dens K H vs ds/\dx.canLay0=true/\dx.depth<=32/\PyData.canLayAll0 ds=true/\(ds.findIdx? fun d=>PyData.eqv d dx)=some j/\Q (.int (j:Nat)) H
theorem B8g {pins:List (Addr × Obj)} {σ:St} {H:Hp} {s:Shared} (I:B4 X pins σ H s) {dx:PyData} {vs:List V} {ds:List PyData} {its:List Value} (r:C4 vs its) (h:Dens X.K H vs ds):its.findIdx? (eIn X.K H dx)=ds.findIdx? fun d=>PyData.eqv d dx:=by
 induction r generalizing ds with
 | nil=>cases h;rfl
 | cons r _ ih =>
  cases h with
  | cons h u=>rw [List.findIdx?_cons,List.findIdx?_cons,C24 I r h,ih u]
theorem B7a (hu:X.A.units+64 < cLine):MtR X "list.index" (D5p X.K):=by
 intro pins s σ H l xs v us Q I rl rv h;obtain ⟨a,x,dx,vs,ds,j,rfl,rfl,h1,h2,h3,h4,h5,h6,h7,q⟩:=h;obtain ⟨u,rfl,ru⟩:=S8 rv;cases rl;obtain ⟨its,r,pl,hz⟩:=I.list h2;obtain ⟨as,hx⟩:=h1.reads I ru;have hf:=B8g I (dx:=dx) r h3;rw [h7] at hf;obtain ⟨hj,hp,hno⟩:=List.findIdx?_eq_some_iff_getElem.mp hf;obtain ⟨o,n,e1,e2,e3,e4⟩:=id pl;have lz:its.length<=sizeLine:=by rw [<-r.length];exact hz
 refine call_meets PySem.F.slot_list_index ⟨_,e1,by rw [e2]⟩ PySem.F.entry_list_index (PySem.F.args_list_index_2 _ _) (SeqAt.list_indexAt a its.toArray n o.dict o.slots u (eIn X.K H dx) j (by simpa using hj) (by rw [sizeLine_eq] at lz;omega) (by simpa using hp) (fun m hm hlt=>by simpa using hno m hlt)) ⟨?_,fun y hy=>?_,?_⟩
 ·rw [e1];obtain ⟨c,d,dt,sl⟩:=o;simp only at e2 e4;subst e2 e4;rfl
 ·exact B4x I hx h4 h5 (by show X.A.units+1+32 < _;omega) r h3 h6 y (by simpa using hy)
 ·exact ⟨.int (j:Nat),H,I.tok _,⟨_,rfl⟩,q⟩
end
end L2
namespace DL
open PySem PySem.Spec PyProof.Rows L2
section
variable {X:Cx} {K:W.Frag} {E:XK} {e o:Expr} {te to:TD} {apos cpos:Pos}
def D7o (to te:TD):TD:=fun ρ Q Xd=>to ρ (fun d _=>onL d fun ds=>te ρ (fun x _=>(x.canLay0=true/\x.depth<=32/\PyData.canLayAll0 ds=true)/\∃ j:Nat,(ds.findIdx? fun y=>PyData.eqv y x)=some j/\Q (.int j) .old) Xd) Xd
theorem B6p (hK:X.K=K) (hu:X.A.units+64 < cLine) (ho:DE X K E o to) (he:DE X K E e te)
  (hb:attributeBase o "index" X.env (eval o X.env)=eval o X.env:=by rfl) (hfew:((backTo cpos (starEach [e] X.env)).all (fun x=>!x.1)&&(backToKw cpos (keywordEach [] X.env)).all (fun x=>x.1.isSome)&&decide (([e]:List Expr).length+([]:List Keyword).length+(if ([]:List Keyword).isEmpty then 0 else 1) < 30))=true:=by rfl) (hline:(apos.endLine==cpos.line)=true:=by rfl) (hs:starEach [e] X.env=(false,eval e X.env)::starEach [] X.env:=by rfl) (hplain:(backTo cpos (starEach [] X.env)).any (·.1)=false:=by rfl) :
  DE X K E (.Call (.Attribute o "index" apos) [e] [] cpos) (D7o to te):=by
 subst hK;refine ⟨D2 (⟨C1j PySem.F.plainAttrs_list PySem.F.slot_list_index PySem.F.type_list_index (B7a hu) ho.q.h (J9 he.q R7 hs).h hb hfew hline hs hplain⟩:QE X _ _) fun σ H Q h=>?_⟩;obtain ⟨H0,ν,ρ,Qd,Xd,S,h1,q,x⟩:=h;refine ⟨H0,ν,ρ,_,Xd,S,h1,fun d k u H1 g1 e1 r1=>?_,x⟩;cases d<;>first|exact g1.elim|skip
 rename_i ds;obtain ⟨a,us,rfl,l1,l2⟩:=D3 r1.den;refine ⟨tyl (L4.of l1),H0,ν,ρ,_,Xd,S.same e1,g1,fun d2 k2 v H2 g2 e2 r2=>?_,x⟩;obtain ⟨⟨c1,c2,c3⟩,j,hj,g2⟩:=g2;exact ⟨a,v,d2,us,ds,j,rfl,rfl,r2.den.deep c1,L4.of (e2 _ _ l1),(Dns.same e2 l2).deep c3,c1,c2,c3,hj,q _ _ _ _ g2 (e1.trans e2) (.int _)⟩
theorem D7k {ρ:C5} {Q:QD} {Xd:XD} (h:to ρ (fun d _=>onL d fun ds=>te ρ (fun x _=>(x.canLay0=true/\x.depth<=32/\PyData.canLayAll0 ds=true)/\∃ j:Nat,(ds.findIdx? fun y=>PyData.eqv y x)=some j/\Q (.int j) .old) Xd) Xd):D7o to te ρ Q Xd:=h
end
section
variable {K:W.Frag} {H0 H H':Hp} {ν:Nat->List Addr} {ρ:C5} {σ:L2.St}
theorem B7.forget (S:B7 K Z0 H0 ν ρ σ H) (i:Nat) (k:∀ a o,H a=some o->a∉ν i->H' a=some o):B7 K Z0 H0 (fun j=>if j=i then [] else ν j) (ρ.set i none) σ H' where
 sm:=fun a o ha=>k a o (S.sm a o ha) fun z=>by rw [(S.fr i a z).1] at ha;cases ha
 len:=by rw [length_set];exact S.len
 sl:=fun j b c hj=>by
  have ne:j≠i:=fun z=>by
   subst z;by_cases hl:j < ρ.length
   ·rw [List.getElem?_set_self hl] at hj;cases hj
   ·rw [List.getElem?_eq_none (by rw [length_set];omega)] at hj;cases hj
  rw [List.getElem?_set_ne (Ne.symm ne)] at hj;obtain ⟨v,h1,h2⟩:=S.sl j b c hj;refine ⟨v,h1,?_⟩;cases b with
  | true =>
   have h2:Ow K H v c (ν j):=h2;show Ow K H' v c (if j=i then [] else ν j);rw [if_neg ne];refine h2.kept ⟨fun a ha=>?_,fun a o ho hm=>k a o ho fun z=>?_⟩
   ·obtain ⟨_,_,o,ho⟩:=S.fr j a ha;rw [ho];exact k a _ ho fun z=>ne (S.dj j i a ha z)
   ·obtain ⟨_,_,m⟩:=S.fr i a z;exact m.no ho hm
  | false =>
   have h2:Dn K (N4 (Hd Z0 ν) H) v c:=h2;refine Dn.same (fun a o ho=>?_) h2;obtain ⟨q1,q2⟩:=G5 ho;refine D5 (k a o q1 fun z=>q2 (.inr ⟨i,z⟩)) fun z=>?_;rcases z with z|⟨l,z⟩
   ·exact z
   ·have z:a∈(if l=i then [] else ν l):=z;by_cases e:l=i
    ·rw [if_pos e] at z;cases z
    ·rw [if_neg e] at z;exact q2 (.inr ⟨l,z⟩)
 nd:=fun j=>by
  show (if j=i then [] else ν j).Nodup;split
  ·exact nodup_nil
  ·exact S.nd j
 dj:=fun j l a h1 h2=>by
  have h1:a∈(if j=i then [] else ν j):=h1;have h2:a∈(if l=i then [] else ν l):=h2;split at h1
  ·cases h1
  ·split at h2
   ·cases h2
   ·exact S.dj j l a h1 h2
 fr:=fun j a h=>by
  have h:a∈(if j=i then [] else ν j):=h;split at h
  ·cases h
  ·rename_i ne;obtain ⟨f1,f2,o,f3⟩:=S.fr j a h;exact ⟨f1,f2,o,k a _ f3 fun z=>ne (S.dj j i a h z)⟩
 zf:=fun a z=>z.elim
end
section
variable {K:W.Frag}
theorem A8p {H:Hp} {t a:Addr} {xs us vs:List V} (h:R4 K H t xs) (e:H a=some (.lst us)):R4 K (upd H a (.lst vs)) t xs:=by
 refine A1y.sqt (ns:=[]) ⟨fun _ z=>(by cases z),fun b o hb hm=>?_⟩ h;rw [B1 (fun z=>by rw [z,e] at hb;cases hb;cases (show true=false from hm))];exact hb
end
end DL
namespace L2
open PySem PyProof.Rows
def A22:Bool->Keyed->Array Keyed->Nat->Nat->Nat->StateT SortSt Sem (Option Nat):=sortPriv% PySem.Builtin.gallop
def D0c:Array Keyed->Array Keyed->StateT SortSt Sem (Array Keyed):=sortPriv% PySem.Builtin.mergeLo
def C9m:Array Keyed->Array Keyed->StateT SortSt Sem (Array Keyed):=sortPriv% PySem.Builtin.mergeHi
def B0u:Nat->StateT SortSt Sem Unit:=sortPriv% PySem.Builtin.setMinGallop
def bey (lf:Bool) (ky:Keyed) (ar:Array Keyed) (bs i:Nat):StateT SortSt Sem (Option Bool):=do
 let x <- elem' ar (bs+i)
 if lf then lt' x ky else return (<- lt' ky x).map (!·)
theorem C4x (lf:Bool) (ky:Keyed) (ar:Array Keyed) (bs n ht:Nat):A22 lf ky ar bs n ht=(do
 let mut la:=0
 let mut o:=1
 let mut l:=0
 let mut h:=0
 let some rt <- bey lf ky ar bs ht|return none
 if rt then
  let mx:=n - ht
  for _ in [0:n] do
   if o ≥ mx then break
   let some mo <- bey lf ky ar bs (ht+o)|return none
   if !mo then break
   la:=o
   o:=2*o+1
  l:=ht+la+1
  h:=ht+min o mx
 else
  let mx:=ht+1
  for _ in [0:n] do
   if o ≥ mx then break
   let some fd <- bey lf ky ar bs (ht - o)|return none
   if fd then break
   la:=o
   o:=2*o+1
  l:=ht+1 - min o mx
  h:=ht - la
 for _ in [0:n] do
  if l ≥ h then break
  let m:=l+(h - l) / 2
  let some mo <- bey lf ky ar bs m|return none
  if mo then l:=m+1 else h:=m
 return some h):=rfl
theorem C58 (g:Nat):B0u g=modify fun s=>SortSt.mk' (kindOf s) (arrOf s) (pendingOf s) g (failedOf s):=rfl
theorem C6d (a b:Array Keyed):D0c a b=(do
 rule "list.sort.merge-lo"
 let tt:=a.size+b.size
 let dn (u:Array Keyed) (i j:Nat):=u++a.extract i a.size++b.extract j b.size
 let lA (u:Array Keyed) (i j:Nat):=u++b.extract j b.size++a.extract i a.size
 let mut u:Array Keyed:=#[<-elem' b 0]
 let mut i:=0
 let mut j:=1
 if j==b.size then return dn u i j
 if i+1==a.size then return lA u i j
 let mut mg:=gallopOf (<- get)
 for _ in [0:tt] do
  let mut ac:=0
  let mut bc:=0
  for _ in [0:tt] do
   let some bw <- lt' (<- elem' b j) (<- elem' a i)|return dn u i j
   if bw then
    u:=u.push (<- elem' b j);j:=j+1;bc:=bc+1;ac:=0
    if j==b.size then return dn u i j
    if bc ≥ mg then break
   else
    u:=u.push (<- elem' a i);i:=i+1;ac:=ac+1;bc:=0
    if i+1==a.size then return lA u i j
    if ac ≥ mg then break
  rule "list.sort.gallop"
  mg:=mg+1
  for _ in [0:tt] do
   if mg > 1 then mg:=mg - 1
   B0u mg
   let some k <- A22 false (<- elem' b j) a i (a.size - i) 0|return dn u i j
   ac:=k
   if k > 0 then
    u:=u++a.extract i (i+k);i:=i+k
    if i+1==a.size then return lA u i j
    if i==a.size then return dn u i j
   u:=u.push (<- elem' b j);j:=j+1
   if j==b.size then return dn u i j
   let some k <- A22 true (<- elem' a i) b j (b.size - j) 0|return dn u i j
   bc:=k
   if k > 0 then
    u:=u++b.extract j (j+k);j:=j+k
    if j==b.size then return dn u i j
   u:=u.push (<- elem' a i);i:=i+1
   if i+1==a.size then return lA u i j
   if ac < 7&&bc < 7 then break
  mg:=mg+1
  B0u mg
 unsupported "internal:list.sort.merge-bound"):=rfl
section
variable {prog:Program} {w:World} {A:Around} {E:Value->Shared->Prop} {s:Shared}
structure A38 (prog:Program) (w:World) (A:Around) (s:Shared) (κ:SortKind) (rk:Keyed->Int) (S:Keyed->Prop):Prop where
 lt:∀ x y,S x->S y->∀ (Q:Bool->Shared->Prop) (E:Value->Shared->Prop),Q (decide (rk x < rk y)) s->wpAny (model prog w) A (keyLt' κ x.1 y.1) Q E s
variable {κ:SortKind} {rk:Keyed->Int} {S:Keyed->Prop}
theorem A9d (P:A38 prog w A s κ rk S) {st:SortSt} {x y:Keyed} {Q:Option Bool->SortSt->Prop} (hk:kindOf st=κ) (hx:S x) (hy:S y) (h:Q (some (decide (rk x < rk y))) st):wpS (model prog w) A E s (lt' x y) Q st:=by
 rw [lt'_eq];refine wpS_bind (wpS_get ?_);rw [hk];exact wpS_bind (wpS_lift (wpAny_attempt (P.lt x y hx hy _ _ ⟨rfl,wpS_pure h⟩)))
theorem L6 {st:SortSt} {ar:Array Keyed} {i:Nat} {x:Keyed} {Q:Keyed->SortSt->Prop} (h:ar[i]?=some x) (q:Q x st):wpS (model prog w) A E s (elem' ar i) Q st:=by
 rw [elem'_eq,h];exact wpS_pure q
def Be (rk:Keyed->Int) (lf:Bool) (ky x:Keyed):Bool:=if lf=true then decide (rk x < rk ky) else !(decide (rk ky < rk x))
theorem D07 (P:A38 prog w A s κ rk S) {st:SortSt} {lf:Bool} {ky x:Keyed} {ar:Array Keyed} {bs i:Nat} {Q:Option Bool->SortSt->Prop} (hk:kindOf st=κ) (hx:ar[bs+i]?=some x) (sx:S x) (sk:S ky) (h:Q (some (Be rk lf ky x)) st):wpS (model prog w) A E s (bey lf ky ar bs i) Q st:=by
 unfold bey;refine wpS_bind (L6 hx ?_);cases lf with
 | true=>exact A9d P hk sx sk h
 | false=>exact wpS_bind (A9d P hk sk sx (wpS_pure h))
structure Gal (rk:Keyed->Int) (S:Keyed->Prop) (lf:Bool) (ky:Keyed) (ar:Array Keyed) (bs n:Nat) (g:Nat->Bool):Prop where
 at_:∀ i,i < n->∃ x,ar[bs+i]?=some x/\S x/\Be rk lf ky x=g i
 mono:∀ i j,i<=j->j < n->g j=true->g i=true
theorem A2o (P:A38 prog w A s κ rk S) {st:SortSt} {lf:Bool} {ky:Keyed} {ar:Array Keyed} {bs n ht:Nat} {g:Nat->Bool} {Q:Option Nat->SortSt->Prop} (hk:kindOf st=κ) (sk:S ky) (G:Gal rk S lf ky ar bs n g) (hn:ht < n)
  (h:∀ k,k<=n->(∀ i,i < k->g i=true)->(∀ i,k<=i->i < n->g i=false)->Q (some k) st):wpS (model prog w) A E s (A22 lf ky ar bs n ht) Q st:=by
 have ask:∀ {i:Nat} {Q:Option Bool->SortSt->Prop},i < n->Q (some (g i)) st->wpS (model prog w) A E s (bey lf ky ar bs i) Q st:=fun {i Q} hi q=>by
  obtain ⟨x,h1,h2,h3⟩:=G.at_ i hi;exact D07 P hk h1 h2 sk (h3 ▸ q)
 have off:∀ {i j:Nat},g i=false->i<=j->j < n->g j=false:=fun {i j} e hij hj=>by
  cases e2:g j with
  | false=>rfl
  | true=>rw [G.mono i j hij hj e2] at e;cases e
 rw [C4x];dsimp only;refine wpS_bind (ask hn ?_);dsimp only;have fin : ∀ l0 h0, l0 <= h0 -> h0 <= n -> (∀ i, i < l0 -> g i = true) -> (∀ i, h0 <= i -> i < n -> g i = false) -> wpS (model prog w) A E s (forIn [0:n] ((none, l0, h0) : Option (Option Nat) × Nat × Nat) fun _ c =>
       if c.2.1 ≥ c.2.2 then pure (ForInStep.done (none,c.2.1,c.2.2)) else do
     let x <- bey lf ky ar bs (c.2.1+(c.2.2 - c.2.1) / 2)
     match x with
      | some mo=>if mo=true then pure (ForInStep.yield (none,c.2.1+(c.2.2 - c.2.1) / 2+1,c.2.2)) else pure (ForInStep.yield (none,c.2.1,c.2.1+(c.2.2 - c.2.1) / 2))
      | _=>pure (ForInStep.done (some none,c.2.1,c.2.2))) (fun c st'=>st'=st/\c.1=none/\c.2.2<=n/\(∀ i,i < c.2.2->g i=true)/\∀ i,c.2.2<=i->i < n->g i=false) st:=by
  intro l0 h0 hl hh h1 h2;refine wpS_forRange (I:=fun x c st'=>st'=st/\c.1=none/\c.2.1<=c.2.2/\c.2.2<=n/\c.2.2 - c.2.1<=n - x/\(∀ i,i < c.2.1->g i=true)/\∀ i,c.2.2<=i->i < n->g i=false) ?_ ?_ ⟨rfl,rfl,hl,hh,by dsimp only;omega,h1,h2⟩
  ·rintro x ⟨c1,l,hi⟩ st' _ hx ⟨rfl,c2,c3,c4,c5,c6,c7⟩;dsimp only at c2 c3 c4 c5 c6 c7 ⊢;by_cases e:l ≥ hi
   ·rw [if_pos e];have:l=hi:=by omega
    subst this;exact wpS_pure ⟨rfl,rfl,c4,c6,c7⟩
   ·rw [if_neg e];refine wpS_bind (ask (by omega) ?_);dsimp only;cases e2:g (l+(hi - l) / 2) with
    | true =>
     refine wpS_pure ⟨rfl,rfl,by dsimp only;omega,c4,by dsimp only;omega,fun i hi'=>?_,c7⟩;exact G.mono i _ (by dsimp only at hi';omega) (by omega) e2
    | false =>
     refine wpS_pure ⟨rfl,rfl,by dsimp only;omega,by dsimp only;omega,by dsimp only;omega,c6,fun i hi' hin=>?_⟩;exact off e2 hi' hin
  ·rintro ⟨c1,l,hi⟩ st' ⟨rfl,c2,c3,c4,c5,c6,c7⟩;dsimp only at c2 c3 c4 c5 c6 c7 ⊢;have:l=hi:=by omega
   subst this;exact ⟨rfl,c2,c4,c6,c7⟩
 cases e0:g ht with
 | true =>
  rw [if_pos rfl];refine wpS_bind (wpS_mono (wpS_forRange (I:=fun x c st'=>st'=st/\c.1=none/\c.2.1 < c.2.2/\x+1<=c.2.2/\ht+c.2.1 < n/\g (ht+c.2.1)=true) (Q:=fun c st'=>st'=st/\c.1=none/\c.2.1 < c.2.2/\ht+c.2.1 < n/\g (ht+c.2.1)=true/\(c.2.2 ≥ n - ht\/g (ht+c.2.2)=false)) ?_ ?_ ⟨rfl,rfl,by decide,by decide,by simpa using hn,by simpa using e0⟩) ?_)
  ·rintro x ⟨c1,la,o⟩ st' _ hx ⟨rfl,c2,c3,c4,c5,c6⟩;dsimp only at c2 c3 c4 c5 c6 ⊢;by_cases e:o ≥ n - ht
   ·rw [if_pos e];exact wpS_pure ⟨rfl,rfl,c3,c5,c6,.inl e⟩
   ·rw [if_neg e];refine wpS_bind (ask (by omega) ?_);dsimp only;cases e2:g (ht+o) with
    | true=>exact wpS_pure ⟨rfl,rfl,by dsimp only;omega,by dsimp only;omega,by dsimp only;omega,e2⟩
    | false=>exact wpS_pure ⟨rfl,rfl,c3,c5,c6,.inr e2⟩
  ·rintro ⟨c1,la,o⟩ st' ⟨rfl,c2,c3,c4,c5,c6⟩;dsimp only at c2 c3 c4 c5 c6 ⊢;exact ⟨rfl,c2,c3,c5,c6,.inl (by omega)⟩
  ·rintro ⟨c1,la,o⟩ st' ⟨rfl,c2,c3,c5,c6,c7⟩;dsimp only at c2 c3 c5 c6 c7 ⊢;subst c2;dsimp only;refine wpS_bind (wpS_mono (fin _ _ (by omega) (by omega) (fun i hi=>G.mono i _ (by omega) c5 c6) fun i hi hin=>?_) ?_)
   ·rcases c7 with c7|c7
    ·omega
    ·by_cases hm:o<=n - ht
     ·exact off c7 (by omega) hin
     ·omega
   ·rintro ⟨c1,l,hi⟩ st' ⟨rfl,d2,d3,d4,d5⟩;dsimp only at d2 d3 d4 d5 ⊢;subst d2;exact wpS_pure (h _ d3 d4 d5)
 | false =>
  rw [if_neg (by simp)];refine wpS_bind (wpS_mono (wpS_forRange (I:=fun x c st'=>st'=st/\c.1=none/\c.2.1 < c.2.2/\x+1<=c.2.2/\c.2.1<=ht/\g (ht - c.2.1)=false) (Q:=fun c st'=>st'=st/\c.1=none/\c.2.1 < c.2.2/\c.2.1<=ht/\g (ht - c.2.1)=false/\(c.2.2 ≥ ht+1\/g (ht - c.2.2)=true)) ?_ ?_ ⟨rfl,rfl,by decide,by decide,Nat.zero_le _,by simpa using e0⟩) ?_)
  ·rintro x ⟨c1,la,o⟩ st' _ hx ⟨rfl,c2,c3,c4,c5,c6⟩;dsimp only at c2 c3 c4 c5 c6 ⊢;by_cases e:o ≥ ht+1
   ·rw [if_pos e];exact wpS_pure ⟨rfl,rfl,c3,c5,c6,.inl e⟩
   ·rw [if_neg e];refine wpS_bind (ask (by omega) ?_);dsimp only;cases e2:g (ht - o) with
    | false=>exact wpS_pure ⟨rfl,rfl,by dsimp only;omega,by dsimp only;omega,by dsimp only;omega,e2⟩
    | true=>exact wpS_pure ⟨rfl,rfl,c3,c5,c6,.inr e2⟩
  ·rintro ⟨c1,la,o⟩ st' ⟨rfl,c2,c3,c4,c5,c6⟩;dsimp only at c2 c3 c4 c5 c6 ⊢;exact ⟨rfl,c2,c3,c5,c6,.inl (by omega)⟩
  ·rintro ⟨c1,la,o⟩ st' ⟨rfl,c2,c3,c5,c6,c7⟩;dsimp only at c2 c3 c5 c6 c7 ⊢;subst c2;dsimp only;refine wpS_bind (wpS_mono (fin _ _ (by omega) (by omega) (fun i hi=>?_) fun i hi hin=>off c6 (by omega) hin) ?_)
   ·rcases c7 with c7|c7
    ·omega
    ·by_cases hm:o<=ht+1
     ·exact G.mono i _ (by omega) (by omega) c7
     ·omega
   ·rintro ⟨c1,l,hi⟩ st' ⟨rfl,d2,d3,d4,d5⟩;dsimp only at d2 d3 d4 d5 ⊢;subst d2;exact wpS_pure (h _ d3 d4 d5)
end
def Sr (rk:Keyed->Int) (l:List Keyed):Prop:=l.Pairwise fun x y=>rk x<=rk y
def Lq (rk:Keyed->Int) (u v:List Keyed):Prop:=∀ x∈u,∀ y∈v,rk x<=rk y
section
variable {rk:Keyed->Int} {u x y t:List Keyed} {k:Nat}
theorem Sr.app (h1:Sr rk u) (h2:Sr rk x) (h:Lq rk u x):Sr rk (u++x):=List.pairwise_append.mpr ⟨h1,h2,h⟩
theorem Lq.app (h1:Lq rk u y) (h2:Lq rk x y):Lq rk (u++x) y:=fun a ha b hb=>by
 rcases mem_append.mp ha with ha|ha
 ·exact h1 a ha b hb
 ·exact h2 a ha b hb
theorem Lq.appr (h1:Lq rk u y) (h2:Lq rk u x):Lq rk u (y++x):=fun a ha b hb=>by
 rcases mem_append.mp hb with hb|hb
 ·exact h1 a ha b hb
 ·exact h2 a ha b hb
theorem Sr.cut (h:Sr rk x) (k:Nat):Sr rk (x.take k)/\Sr rk (x.drop k)/\Lq rk (x.take k) (x.drop k):=by
 unfold Sr at h;rw [<-take_append_drop k x] at h;exact List.pairwise_append.mp h
structure Mg (rk:Keyed->Int) (u x y t:List Keyed):Prop where
 pm:(u++(x++y)).Perm t
 so:Sr rk u
 ux:Lq rk u x
 uy:Lq rk u y
 sx:Sr rk x
 sy:Sr rk y
theorem Mg.symm (m:Mg rk u x y t):Mg rk u y x t:=⟨(List.Perm.append_left u List.perm_append_comm).trans m.pm,m.so,m.uy,m.ux,m.sy,m.sx⟩
theorem Mg.fst (m:Mg rk u x y t) (h:Lq rk (x.take k) y):Mg rk (u++x.take k) (x.drop k) y t:=by
 obtain ⟨c1,c2,c3⟩:=m.sx.cut k;refine ⟨?_,m.so.app c1 fun a ha b hb=>m.ux a ha b (mem_of_mem_take hb),Lq.app (fun a ha b hb=>m.ux a ha b (List.mem_of_mem_drop hb)) c3,Lq.app m.uy h,c2,m.sy⟩;have e:(u++x.take k)++(x.drop k++y)=u++(x++y):=by
  rw [append_assoc,<-append_assoc (x.take k),take_append_drop]
 rw [e];exact m.pm
theorem Mg.done (m:Mg rk u x y t) (h:Lq rk x y):(u++x++y).Perm t/\Sr rk (u++x++y):=by
 rw [append_assoc];exact ⟨m.pm,m.so.app (m.sx.app m.sy h) (m.ux.appr m.uy)⟩
end
structure ML (rk:Keyed->Int) (a b u:Array Keyed) (i j:Nat):Prop where
 ia:i+1 < a.size
 jb:j < b.size
 mg:Mg rk u.toList (a.toList.drop i) (b.toList.drop j) (a.toList++b.toList)
def Rs (rk:Keyed->Int) (a b r:Array Keyed):Prop:=r.toList.Perm (a.toList++b.toList)/\Sr rk r.toList
section
variable {rk:Keyed->Int} {a b u:Array Keyed} {i j k:Nat}
theorem B3t (a:Array Keyed) (i:Nat):(a.extract i a.size).toList=a.toList.drop i:=by
 rw [Array.toList_extract,List.extract_eq_drop_take];exact List.take_of_length_le (by rw [length_drop,Array.length_toList];exact Nat.le_refl _)
theorem A7d (a:Array Keyed) (i k:Nat):(a.extract i (i+k)).toList=(a.toList.drop i).take k:=by
 rw [Array.toList_extract,List.extract_eq_drop_take,Nat.add_sub_cancel_left]
theorem A3l:(u++a.extract i a.size++b.extract j b.size).toList=u.toList++a.toList.drop i++b.toList.drop j:=by
 rw [Array.toList_append,Array.toList_append,B3t,B3t]
theorem drop_one {l:List Keyed} {x:Keyed} (h:l[i]?=some x):(l.drop i).take 1=[x]:=by
 have:l.drop i=x::l.drop (i+1):=by
  obtain ⟨h1,h2⟩:=List.getElem?_eq_some_iff.mp h;rw [List.drop_eq_getElem_cons h1,h2]
 rw [this];rfl
def C7j (rk:Keyed->Int) (a b:Array Keyed):Prop:=Lq rk b.toList (a.toList.drop (a.size - 1))
theorem ML.stepA (m:ML rk a b u i j) (hl:C7j rk a b) {u':Array Keyed} (hu:u'.toList=u.toList++(a.toList.drop i).take k) (hk:i+k < a.size) (h:Lq rk ((a.toList.drop i).take k) (b.toList.drop j)) :
  (i+k+1=a.size->Rs rk a b (u'++b.extract j b.size++a.extract (i+k) a.size))/\(i+k+1 < a.size->ML rk a b u' (i+k) j):=by
 have g:=m.mg.fst (k:=k) h;rw [<-hu,List.drop_drop] at g;refine ⟨fun e=>?_,fun e=>⟨e,m.jb,g⟩⟩;unfold Rs;rw [A3l];refine g.symm.done fun x hx y hy=>hl x (List.mem_of_mem_drop hx) y ?_;rw [show a.size - 1=i+k by omega];exact hy
theorem ML.stepB (m:ML rk a b u i j) {u':Array Keyed} (hu:u'.toList=u.toList++(b.toList.drop j).take k) (hk:j+k<=b.size) (h:Lq rk ((b.toList.drop j).take k) (a.toList.drop i)) :
  (j+k=b.size->Rs rk a b (u'++a.extract i a.size++b.extract (j+k) b.size))/\(j+k < b.size->ML rk a b u' i (j+k)):=by
 have g:=m.mg.symm.fst (k:=k) h;rw [<-hu,List.drop_drop] at g;refine ⟨fun e=>?_,fun e=>⟨m.ia,e,g.symm⟩⟩;unfold Rs;rw [A3l];refine g.symm.done fun x hx y hy=>?_;rw [List.drop_eq_nil_of_le (by rw [Array.length_toList];omega)] at hy;cases hy
theorem J7 (h:i < a.size):∃ x,a[i]?=some x/\a.toList[i]?=some x/\x∈a.toList:=⟨a[i],Array.getElem?_eq_getElem h,by rw [Array.getElem?_toList];exact Array.getElem?_eq_getElem h,by simp⟩
theorem Sr.head {l:List Keyed} {x:Keyed} (h:Sr rk l) (hx:l[i]?=some x):Lq rk [x] (l.drop i):=by
 obtain ⟨h1,h2⟩:=List.getElem?_eq_some_iff.mp hx;intro y hy z hz;rw [mem_singleton.mp hy];rw [List.drop_eq_getElem_cons h1,h2] at hz;rcases mem_cons.mp hz with rfl|hz
 ·exact Int.le_refl _
 ·have:=List.pairwise_append.mp (by rw [take_append_drop];exact h:(l.take (i+1)++l.drop (i+1)).Pairwise fun x y=>rk x<=rk y);refine this.2.2 x ?_ z hz;rw [List.take_succ,hx];simp
end
section
variable {rk:Keyed->Int} {S:Keyed->Prop} {a:Array Keyed} {i k:Nat}
theorem T4 {x:Keyed} (h:x∈a.toList.drop i):∃ t,i+t < a.size/\a[i+t]?=some x:=by
 obtain ⟨t,ht⟩:=List.getElem?_of_mem h;rw [List.getElem?_drop,Array.getElem?_toList] at ht;exact ⟨t,(Array.getElem?_eq_some_iff.mp ht).1,ht⟩
theorem B2n {x:Keyed} (h:x∈(a.toList.drop i).take k):∃ t,t < k/\i+t < a.size/\a[i+t]?=some x:=by
 obtain ⟨t,ht⟩:=List.getElem?_of_mem h;have hk:t < k:=by
  have:=(List.getElem?_eq_some_iff.mp ht).1;rw [length_take] at this;omega
 rw [List.getElem?_take,if_pos hk,List.getElem?_drop,Array.getElem?_toList] at ht;exact ⟨t,hk,(Array.getElem?_eq_some_iff.mp ht).1,ht⟩
def gF (rk:Keyed->Int) (lf:Bool) (ky:Keyed) (a:Array Keyed) (i t:Nat):Bool:=match a[i+t]? with
 | some x=>Be rk lf ky x
 | none=>false
theorem L7 {lf:Bool} {ky x:Keyed} {t:Nat} (h:a[i+t]?=some x):gF rk lf ky a i t=Be rk lf ky x:=by unfold gF;rw [h]
theorem U2 (h:Sr rk a.toList) {p q:Nat} {x y:Keyed} (hpq:p<=q) (hx:a[p]?=some x) (hy:a[q]?=some y):rk x<=rk y:=by
 rw [<-Array.getElem?_toList] at hx hy;refine h.head hx x (by simp) y ?_;rw [List.mem_iff_getElem?];exact ⟨q - p,by rw [List.getElem?_drop,show p+(q - p)=q by omega];exact hy⟩
theorem A8w {lf:Bool} {ky:Keyed} {n:Nat} (h:Sr rk a.toList) (hS:∀ x∈a.toList,S x) (hn:i+n<=a.size):Gal rk S lf ky a i n (gF rk lf ky a i):=by
 refine ⟨fun t ht=>?_,fun p q hpq hq e=>?_⟩
 ·obtain ⟨x,h1,h2,h3⟩:=J7 (a:=a) (i:=i+t) (by omega);exact ⟨x,h1,hS x h3,(L7 h1).symm⟩
 ·obtain ⟨x,h1,_,_⟩:=J7 (a:=a) (i:=i+p) (by omega);obtain ⟨y,h2,_,_⟩:=J7 (a:=a) (i:=i+q) (by omega);have:=U2 h (by omega) h1 h2;rw [L7 h2] at e;rw [L7 h1];unfold Be at e ⊢;cases lf with
  | true=>simp at e ⊢;omega
  | false=>simp at e ⊢;omega
end
section
variable {prog:Program} {w:World} {A:Around} {E:Value->Shared->Prop} {s:Shared} {κ:SortKind} {rk:Keyed->Int} {S:Keyed->Prop}
def SaM (st st':SortSt):Prop:=kindOf st'=kindOf st/\arrOf st'=arrOf st/\pendingOf st'=pendingOf st/\failedOf st'=failedOf st
theorem SaM.rfl {st:SortSt}:SaM st st:=⟨Eq.refl _,Eq.refl _,Eq.refl _,Eq.refl _⟩
theorem A7u {st st0:SortSt} {g:Nat} {Q:Unit->SortSt->Prop} (h0:SaM st0 st) (h:∀ st',SaM st0 st'->Q () st'):wpS (model prog w) A E s (B0u g) Q st:=by
 rw [C58];exact wpS_modify (h _ h0)
theorem D1q (P:A38 prog w A s κ rk S) {st:SortSt} {a b:Array Keyed} {Q:Array Keyed->SortSt->Prop} (hk:kindOf st=κ) (ha:Sr rk a.toList) (hb:Sr rk b.toList) (sa:∀ x∈a.toList,S x) (sb:∀ x∈b.toList,S x) (na:1<=a.size) (nb:1<=b.size)
  (hf:∀ x y,b[0]?=some x->a[0]?=some y->rk x<=rk y) (hl:∀ x∈b.toList,∀ y,a[a.size - 1]?=some y->rk x < rk y)
  (h:∀ r st',SaM st st'->Rs rk a b r->Q r st'):wpS (model prog w) A E s (D0c a b) Q st:=by
 have hla:C7j rk a b:=fun x hx y hy=>by
  obtain ⟨t,t1,t2⟩:=T4 hy;have:t=0:=by omega
  subst this;exact Int.le_of_lt (hl x hx y t2)
 rw [C6d];refine wpS_bind (wpS_lift (wpAny_rule ⟨rfl,?_⟩));dsimp only;obtain ⟨b0,e1,e2,e3⟩:=J7 (a:=b) (i:=0) (by omega);refine wpS_bind (L6 e1 ?_);have h0:Mg rk [] (a.toList.drop 0) (b.toList.drop 0) (a.toList++b.toList):=⟨by simp,.nil,(fun _ z=>by cases z),(fun _ z=>by cases z),ha,hb⟩;have q0:Lq rk ((b.toList.drop 0).take 1) (a.toList.drop 0):=by
  rw [drop_one e2];intro x hx y hy;rw [mem_singleton.mp hx];obtain ⟨t,t1,t2⟩:=T4 hy;obtain ⟨a0,f1,f2,f3⟩:=J7 (a:=a) (i:=0) (by omega);have:=hf b0 a0 e1 f1;have:=U2 ha (Nat.zero_le _) f1 t2;omega
 have g0:=h0.symm.fst (k:=1) q0;rw [drop_one e2,List.drop_drop] at g0;have g0:Mg rk (#[b0]:Array Keyed).toList (b.toList.drop 1) (a.toList.drop 0) (a.toList++b.toList):=by simpa using g0
 by_cases c1:(1==b.size)=true
 ·rw [if_pos c1];refine wpS_pure (h _ _ .rfl ?_);unfold Rs;rw [A3l];refine g0.symm.done fun x hx y hy=>?_;rw [List.drop_eq_nil_of_le (by rw [Array.length_toList];simp at c1;omega)] at hy;cases hy
 rw [if_neg c1];by_cases c2:(0+1==a.size)=true
 ·rw [if_pos c2];refine wpS_pure (h _ _ .rfl ?_);unfold Rs;rw [A3l];refine g0.done fun x hx y hy=>hla x (List.mem_of_mem_drop hx) y ?_;rw [show a.size - 1=0 by simp at c2;omega];exact hy
 rw [if_neg c2];have m0:ML rk a b #[b0] 0 1:=⟨by simp at c2;omega,by simp at c1;omega,g0.symm⟩;refine wpS_bind (wpS_get ?_);have push1:∀ {u:Array Keyed} {l:List Keyed} {i:Nat} {x:Keyed},l[i]?=some x->(u.push x).toList=u.toList++(l.drop i).take 1:=fun {u l i x} e=>by rw [drop_one e];simp
 refine wpS_bind (wpS_mono (wpS_forRange (I:=fun x c st'=>SaM st st'/\c.1=none/\ML rk a b c.2.1 c.2.2.1 c.2.2.2.1/\x+1<=c.2.2.1+c.2.2.2.1) (Q:=fun c st'=>SaM st st'/\∃ r,c.1=some r/\Rs rk a b r) ?_ ?_ ⟨.rfl,rfl,m0,by dsimp only;omega⟩) ?_)
 rotate_left
 ·rintro ⟨c1,u,i,j,mg⟩ st' ⟨q1,q2,q3,q4⟩;dsimp only at q2 q3 q4;have:=q3.ia;have:=q3.jb;omega
 ·rintro ⟨c1,u,i,j,mg⟩ st' ⟨q1,r,q2,q3⟩;dsimp only at q2 ⊢;subst q2;exact wpS_pure (h _ _ q1 q3)
 rintro x ⟨c1,u,i,j,mg⟩ st1 _ hx ⟨q1,q2,q3,q4⟩;dsimp only at q2 q3 q4 ⊢;have hk1:kindOf st1=κ:=q1.1.trans hk;refine wpS_bind (wpS_mono (wpS_forRange (I:=fun x c st'=>st'=st1/\c.1=none/\ML rk a b c.2.1 c.2.2.1 c.2.2.2.1/\i+j+x<=c.2.2.1+c.2.2.2.1) (Q:=fun c st'=>st'=st1/\((∃ r,c.1=some r/\Rs rk a b r)\/(c.1=none/\ML rk a b c.2.1 c.2.2.1 c.2.2.2.1/\i+j+1<=c.2.2.1+c.2.2.2.1))) ?_ ?_ ⟨rfl,rfl,q3,by dsimp only;omega⟩) ?_)
 ·rintro y ⟨c1,u,i',j',ac,bc⟩ st' _ hy ⟨rfl,q2,q3,q4⟩;dsimp only at q2 q3 q4 ⊢;obtain ⟨bj,e1,e2,e3⟩:=J7 (a:=b) (i:=j') q3.jb;obtain ⟨ai,f1,f2,f3⟩:=J7 (a:=a) (i:=i') (by have:=q3.ia;omega);refine wpS_bind (L6 e1 (wpS_bind (L6 f1 (wpS_bind (A9d P hk1 (sb _ e3) (sa _ f3) ?_)))));dsimp only;by_cases c:rk bj < rk ai
  ·simp only [c,decide_true,if_true];refine wpS_bind (L6 e1 ?_);have st:=q3.stepB (k:=1) (push1 (u:=u) e2) (by have:=q3.jb;omega) (by
    rw [drop_one e2];intro x hx z hz;rw [mem_singleton.mp hx];obtain ⟨t,t1,t2⟩:=T4 hz;have:=U2 ha (Nat.le_add_right i' t) f1 t2;omega)
   by_cases c2:(j'+1==b.size)=true
   ·rw [if_pos c2];exact wpS_pure ⟨rfl,.inl ⟨_,rfl,st.1 (by simpa using c2)⟩⟩
   rw [if_neg c2];have st:=st.2 (by have:=q3.jb;simp at c2;omega);split
   ·exact wpS_pure ⟨rfl,.inr ⟨rfl,st,by dsimp only;omega⟩⟩
   ·exact wpS_pure ⟨rfl,rfl,st,by dsimp only;omega⟩
  ·simp only [c,decide_false,Bool.false_eq_true,if_false];refine wpS_bind (L6 f1 ?_);have st:=q3.stepA hla (k:=1) (push1 (u:=u) f2) (by have:=q3.ia;omega) (by
    rw [drop_one f2];intro x hx z hz;rw [mem_singleton.mp hx];obtain ⟨t,t1,t2⟩:=T4 hz;have:=U2 hb (Nat.le_add_right j' t) e1 t2;omega)
   by_cases c2:(i'+1+1==a.size)=true
   ·rw [if_pos c2];exact wpS_pure ⟨rfl,.inl ⟨_,rfl,st.1 (by simpa using c2)⟩⟩
   rw [if_neg c2];have st:=st.2 (by have:=q3.ia;simp at c2;omega);split
   ·exact wpS_pure ⟨rfl,.inr ⟨rfl,st,by dsimp only;omega⟩⟩
   ·exact wpS_pure ⟨rfl,rfl,st,by dsimp only;omega⟩
 ·rintro ⟨c1,u,i',j',ac,bc⟩ st' ⟨rfl,q2,q3,q4⟩;dsimp only at q2 q3 q4;rw [Nat.zero_max] at q4;exact ⟨rfl,.inr ⟨q2,q3,by dsimp only;omega⟩⟩
 rintro ⟨c1,u,i1,j1,ac,bc⟩ st' ⟨rfl,q⟩;dsimp only at q ⊢;rcases q with ⟨r,rfl,q⟩|⟨rfl,q3,q4'⟩
 ·exact wpS_pure ⟨q1,r,rfl,q⟩
 dsimp only;refine wpS_bind (wpS_lift (wpAny_rule ⟨rfl,?_⟩));refine wpS_bind (wpS_mono (wpS_forRange (I:=fun x c st'=>SaM st st'/\c.1=none/\ML rk a b c.2.1 c.2.2.1 c.2.2.2.1/\i1+j1<=c.2.2.1+c.2.2.2.1) (Q:=fun c st'=>SaM st st'/\((∃ r,c.1=some r/\Rs rk a b r)\/(c.1=none/\ML rk a b c.2.1 c.2.2.1 c.2.2.2.1/\i1+j1<=c.2.2.1+c.2.2.2.1))) ?_ ?_ ⟨q1,rfl,q3,Nat.le_refl _⟩) ?_)
 rotate_left
 ·rintro ⟨c1,u,i',j',mg,ac,bc⟩ st' ⟨p1,p2,p3,p4⟩;exact ⟨p1,.inr ⟨p2,p3,p4⟩⟩
 ·rintro ⟨c1,u,i',j',mg,ac,bc⟩ st' ⟨p1,p⟩;dsimp only at p ⊢;rcases p with ⟨r,rfl,p⟩|⟨rfl,p3,p4⟩
  ·exact wpS_pure ⟨p1,r,rfl,p⟩
  ·refine wpS_bind (A7u p1 fun st2 p1=>wpS_pure ⟨p1,rfl,p3,by dsimp only;omega⟩)
 rintro y ⟨c1,u,i',j',mg',ac',bc'⟩ st2 _ hy ⟨p1,p2,p3,p4⟩;dsimp only at p2 p3 p4 ⊢;have body:∀ mgx:Nat,wpS (model prog w) A E s (do
   B0u mgx
   let x <- elem' b j'
   let y <- A22 false x a i' (a.size - i') 0
   match y with
   | some k =>
    let jp:=fun (u:Array Keyed) (i:Nat)=>(do
     let x <- elem' b j'
     let u:=u.push x
     let j:=j'+1
     if (j==b.size)=true then pure (ForInStep.done (some (u++a.extract i a.size++b.extract j b.size),u,i,j,mgx,k,bc'))
     else do
      let x <- elem' a i
      let y <- A22 true x b j (b.size - j) 0
      match y with
      | some k2 =>
       let jq:=fun (u:Array Keyed) (j:Nat)=>(do
        let x <- elem' a i
        let u:=u.push x
        let i:=i+1
        if (i+1==a.size)=true then pure (ForInStep.done (some (u++b.extract j b.size++a.extract i a.size),u,i,j,mgx,k,k2))
        else if (decide (k < 7)&&decide (k2 < 7))=true then pure (ForInStep.done (none,u,i,j,mgx,k,k2))
        else pure (ForInStep.yield (none,u,i,j,mgx,k,k2)):StateT SortSt Sem (ForInStep (Option (Array Keyed) × Array Keyed × Nat × Nat × Nat × Nat × Nat)))
       if k2 > 0 then
        let u:=u++b.extract j (j+k2)
        let j:=j+k2
        if (j==b.size)=true then pure (ForInStep.done (some (u++a.extract i a.size++b.extract j b.size),u,i,j,mgx,k,k2)) else jq u j
       else jq u j
      | _=>pure (ForInStep.done (some (u++a.extract i a.size++b.extract j b.size),u,i,j,mgx,k,bc')):StateT SortSt Sem (ForInStep (Option (Array Keyed) × Array Keyed × Nat × Nat × Nat × Nat × Nat)))
    if k > 0 then
     let u:=u++a.extract i' (i'+k)
     let i:=i'+k
     if (i+1==a.size)=true then pure (ForInStep.done (some (u++b.extract j' b.size++a.extract i a.size),u,i,j',mgx,k,bc'))
     else if (i==a.size)=true then pure (ForInStep.done (some (u++a.extract i a.size++b.extract j' b.size),u,i,j',mgx,k,bc'))
     else jp u i
    else jp u i'
   | _=>pure (ForInStep.done (some (u++a.extract i' a.size++b.extract j' b.size),u,i',j',mgx,ac',bc'))) (fun r st'=>match r with
    | .done c=>SaM st st'/\((∃ r,c.1=some r/\Rs rk a b r)\/(c.1=none/\ML rk a b c.2.1 c.2.2.1 c.2.2.2.1/\i1+j1<=c.2.2.1+c.2.2.2.1))
    | .yield c=>SaM st st'/\c.1=none/\ML rk a b c.2.1 c.2.2.1 c.2.2.2.1/\i1+j1<=c.2.2.1+c.2.2.2.1) st2:=by
  intro mgx;refine wpS_bind (A7u p1 fun st3 p1=>?_);have hk3:kindOf st3=κ:=p1.1.trans hk;obtain ⟨bj,e1,e2,e3⟩:=J7 (a:=b) (i:=j') p3.jb;refine wpS_bind (L6 e1 ?_);have hia:=p3.ia;have hjb:=p3.jb;refine wpS_bind (A2o P hk3 (sb _ e3) (A8w ha sa (n:=a.size - i') (by omega)) (by omega) fun k hk2 g1 g2=>?_);dsimp only;have kl:i'+k < a.size:=by
   rcases Nat.lt_or_ge (i'+k) a.size with z|z
   ·exact z
   ·exfalso;obtain ⟨al,f1,f2,f3⟩:=J7 (a:=a) (i:=a.size - 1) (by omega);have:=g1 (a.size - 1 - i') (by omega);rw [L7 (x:=al) (by rw [show i'+(a.size - 1 - i')=a.size - 1 by omega];exact f1)] at this;unfold Be at this;simp at this;have:=hl bj e3 al f1;omega
  have le1:Lq rk ((a.toList.drop i').take k) (b.toList.drop j'):=fun x hx z hz=>by
   obtain ⟨t,t1,t2,t3⟩:=B2n hx;obtain ⟨t',t4,t5⟩:=T4 hz;have:=g1 t t1;rw [L7 t3] at this;unfold Be at this;simp at this;have:=U2 hb (Nat.le_add_right j' t') e1 t5;omega
  have jp : ∀ (u : Array Keyed) (i : Nat), ML rk a b u i j' -> i' <= i -> (∀ t, i + t < a.size -> ∀ x, a[i + t]? = some x -> rk bj < rk x) -> wpS (model prog w) A E s (do
        let x <- elem' b j'
        if (j'+1==b.size)=true then pure (ForInStep.done (some (u.push x++a.extract i a.size++b.extract (j'+1) b.size),u.push x,i,j'+1,mgx,k,bc'))
        else do
      let z <- elem' a i
      let y <- A22 true z b (j'+1) (b.size - (j'+1)) 0
      match y with
      | some k2 =>
       if k2 > 0 then
        if (j'+1+k2==b.size)=true then pure (ForInStep.done (some (u.push x++b.extract (j'+1) (j'+1+k2)++a.extract i a.size++b.extract (j'+1+k2) b.size),u.push x++b.extract (j'+1) (j'+1+k2),i,j'+1+k2,mgx,k,k2)) else do
         let z <- elem' a i
         if (i+1+1==a.size)=true then pure (ForInStep.done (some ((u.push x++b.extract (j'+1) (j'+1+k2)).push z++b.extract (j'+1+k2) b.size++a.extract (i+1) a.size),(u.push x++b.extract (j'+1) (j'+1+k2)).push z,i+1,j'+1+k2,mgx,k,k2))
         else if (decide (k < 7)&&decide (k2 < 7))=true then pure (ForInStep.done (none,(u.push x++b.extract (j'+1) (j'+1+k2)).push z,i+1,j'+1+k2,mgx,k,k2))
         else pure (ForInStep.yield (none,(u.push x++b.extract (j'+1) (j'+1+k2)).push z,i+1,j'+1+k2,mgx,k,k2))
       else do
        let z <- elem' a i
        if (i+1+1==a.size)=true then pure (ForInStep.done (some ((u.push x).push z++b.extract (j'+1) b.size++a.extract (i+1) a.size),(u.push x).push z,i+1,j'+1,mgx,k,k2))
        else if (decide (k < 7)&&decide (k2 < 7))=true then pure (ForInStep.done (none,(u.push x).push z,i+1,j'+1,mgx,k,k2))
        else pure (ForInStep.yield (none,(u.push x).push z,i+1,j'+1,mgx,k,k2))
      | _=>pure (ForInStep.done (some (u.push x++a.extract i a.size++b.extract (j'+1) b.size),u.push x,i,j'+1,mgx,k,bc')):StateT SortSt Sem (ForInStep (Option (Array Keyed) × Array Keyed × Nat × Nat × Nat × Nat × Nat))) (fun r st'=>match r with
    | .done c=>SaM st st'/\((∃ r,c.1=some r/\Rs rk a b r)\/(c.1=none/\ML rk a b c.2.1 c.2.2.1 c.2.2.2.1/\i1+j1<=c.2.2.1+c.2.2.2.1))
    | .yield c=>SaM st st'/\c.1=none/\ML rk a b c.2.1 c.2.2.1 c.2.2.2.1/\i1+j1<=c.2.2.1+c.2.2.2.1) st3:=by
   intro u i m hi above;have mia:=m.ia;refine wpS_bind (L6 e1 ?_);have sB:=m.stepB (k:=1) (push1 (u:=u) e2) (by omega) (by
    rw [drop_one e2];intro x hx z hz;rw [mem_singleton.mp hx];obtain ⟨t,t1,t2⟩:=T4 hz;exact Int.le_of_lt (above t t1 z t2))
   by_cases c2:(j'+1==b.size)=true
   ·rw [if_pos c2];exact wpS_pure ⟨p1,.inl ⟨_,rfl,sB.1 (by simpa using c2)⟩⟩
   rw [if_neg c2];have m2:=sB.2 (by simp at c2;omega);have mjb:=m2.jb;obtain ⟨ai,f1,f2,f3⟩:=J7 (a:=a) (i:=i) (by omega);refine wpS_bind (L6 f1 ?_);refine wpS_bind (A2o P hk3 (sa _ f3) (A8w hb sb (n:=b.size - (j'+1)) (by omega)) (by omega) fun k2 hk2 g3 g4=>?_);dsimp only;have last : ∀ (u : Array Keyed) (j : Nat), ML rk a b u i j -> (∀ t, j + t < b.size -> ∀ x, b[j + t]? = some x -> rk ai <= rk x) -> j' < j -> wpS (model prog w) A E s (do
             let z <- elem' a i
             if (i+1+1==a.size)=true then pure (ForInStep.done (some (u.push z++b.extract j b.size++a.extract (i+1) a.size),u.push z,i+1,j,mgx,k,k2))
             else if (decide (k < 7)&&decide (k2 < 7))=true then pure (ForInStep.done (none,u.push z,i+1,j,mgx,k,k2))
             else pure (ForInStep.yield (none,u.push z,i+1,j,mgx,k,k2)):StateT SortSt Sem (ForInStep (Option (Array Keyed) × Array Keyed × Nat × Nat × Nat × Nat × Nat))) (fun r st'=>match r with
    | .done c=>SaM st st'/\((∃ r,c.1=some r/\Rs rk a b r)\/(c.1=none/\ML rk a b c.2.1 c.2.2.1 c.2.2.2.1/\i1+j1<=c.2.2.1+c.2.2.2.1))
    | .yield c=>SaM st st'/\c.1=none/\ML rk a b c.2.1 c.2.2.1 c.2.2.2.1/\i1+j1<=c.2.2.1+c.2.2.2.1) st3:=by
    intro u j m below hj;refine wpS_bind (L6 f1 ?_);have sA:=m.stepA hla (k:=1) (push1 (u:=u) f2) (by omega) (by
     rw [drop_one f2];intro x hx z hz;rw [mem_singleton.mp hx];obtain ⟨t,t1,t2⟩:=T4 hz;exact below t t1 z t2)
    by_cases c3:(i+1+1==a.size)=true
    ·rw [if_pos c3];exact wpS_pure ⟨p1,.inl ⟨_,rfl,sA.1 (by simpa using c3)⟩⟩
    rw [if_neg c3];have m3:=sA.2 (by simp at c3;omega);split
    ·exact wpS_pure ⟨p1,.inr ⟨rfl,m3,by dsimp only;omega⟩⟩
    ·exact wpS_pure ⟨p1,rfl,m3,by dsimp only;omega⟩
   have abv:∀ t,k2<=t->j'+1+t < b.size->∀ x,b[j'+1+t]?=some x->rk ai<=rk x:=fun t ht hts x hx=>by
    have:=g4 t ht (by omega);rw [L7 hx] at this;unfold Be at this;simp at this;omega
   by_cases ck:k2 > 0
   ·rw [if_pos ck];have sB2:=m2.stepB (k:=k2) (u':=u.push bj++b.extract (j'+1) (j'+1+k2)) (by rw [Array.toList_append,A7d]) (by omega) (fun x hx z hz=>by
     obtain ⟨t,t1,t2,t3⟩:=B2n hx;obtain ⟨t',t4,t5⟩:=T4 hz;have:=g3 t t1;rw [L7 t3] at this;unfold Be at this;simp at this;have:=U2 ha (Nat.le_add_right i t') f1 t5;omega)
    by_cases c3:(j'+1+k2==b.size)=true
    ·rw [if_pos c3];exact wpS_pure ⟨p1,.inl ⟨_,rfl,sB2.1 (by simpa using c3)⟩⟩
    rw [if_neg c3];refine last _ _ (sB2.2 (by simp at c3;omega)) (fun t ht x hx=>abv (k2+t) (by omega) (by omega) x (by rw [show j'+1+(k2+t)=j'+1+k2+t by omega];exact hx)) (by omega)
   ·rw [if_neg ck];exact last _ _ m2 (fun t ht x hx=>abv t (by omega) ht x hx) (by omega)
  have above:∀ t,k<=t->i'+t < a.size->∀ x,a[i'+t]?=some x->rk bj < rk x:=fun t ht hts x hx=>by
   have:=g2 t ht (by omega);rw [L7 hx] at this;unfold Be at this;simp at this;exact this
  by_cases ck:k > 0
  ·rw [if_pos ck];have sA:=p3.stepA hla (k:=k) (u':=u++a.extract i' (i'+k)) (by rw [Array.toList_append,A7d]) kl le1;by_cases c2:(i'+k+1==a.size)=true
   ·rw [if_pos c2];exact wpS_pure ⟨p1,.inl ⟨_,rfl,sA.1 (by simpa using c2)⟩⟩
   rw [if_neg c2,if_neg (by simp;omega)];exact jp _ _ (sA.2 (by simp at c2;omega)) (by omega) fun t ht x hx=>above (k+t) (by omega) (by omega) x (by rw [<-Nat.add_assoc];exact hx)
  ·rw [if_neg ck];exact jp _ _ p3 (Nat.le_refl _) fun t ht x hx=>above t (by omega) ht x hx
 by_cases cg:mg' > 1
 ·rw [if_pos cg];refine wpS_mono (body (mg' - 1)) fun r st' hr=>?_;cases r with
  | done c=>exact hr
  | yield c=>exact hr
 ·rw [if_neg cg];refine wpS_mono (body mg') fun r st' hr=>?_;cases r with
  | done c=>exact hr
  | yield c=>exact hr
end
theorem C5m (a b:Array Keyed):C9m a b=(do
 rule "list.sort.merge-hi"
 let tt:=a.size+b.size
 let dn (u:Array Keyed) (i j:Nat):=a.extract 0 i++b.extract 0 j++u.reverse
 let fB (u:Array Keyed) (i j:Nat):=b.extract 0 j++a.extract 0 i++u.reverse
 let mut i:=a.size - 1
 let mut j:=b.size
 let mut u:Array Keyed:=#[<-elem' a i]
 if i==0 then return dn u i j
 if j==1 then return fB u i j
 let mut mg:=gallopOf (<- get)
 for _ in [0:tt] do
  let mut ac:=0
  let mut bc:=0
  for _ in [0:tt] do
   let some aw <- lt' (<- elem' b (j - 1)) (<- elem' a (i - 1))|return dn u i j
   if aw then
    i:=i - 1;u:=u.push (<- elem' a i);ac:=ac+1;bc:=0
    if i==0 then return dn u i j
    if ac ≥ mg then break
   else
    j:=j - 1;u:=u.push (<- elem' b j);bc:=bc+1;ac:=0
    if j==1 then return fB u i j
    if bc ≥ mg then break
  rule "list.sort.gallop"
  mg:=mg+1
  for _ in [0:tt] do
   if mg > 1 then mg:=mg - 1
   B0u mg
   let some q <- A22 false (<- elem' b (j - 1)) a 0 i (i - 1)|return dn u i j
   let k:=i - q
   ac:=k
   if k > 0 then
    u:=u++(a.extract q i).reverse;i:=q
    if i==0 then return dn u i j
   j:=j - 1;u:=u.push (<- elem' b j)
   if j==1 then return fB u i j
   let some q <- A22 true (<- elem' a (i - 1)) b 0 j (j - 1)|return dn u i j
   let k:=j - q
   bc:=k
   if k > 0 then
    u:=u++(b.extract q j).reverse;j:=q
    if j==1 then return fB u i j
    if j==0 then return dn u i j
   i:=i - 1;u:=u.push (<- elem' a i)
   if i==0 then return dn u i j
   if ac < 7&&bc < 7 then break
  mg:=mg+1
  B0u mg
 unsupported "internal:list.sort.merge-bound"):=rfl
structure Mh (rk:Keyed->Int) (x y v t:List Keyed):Prop where
 pm:((x++y)++v).Perm t
 so:Sr rk v
 xv:Lq rk x v
 yv:Lq rk y v
 sx:Sr rk x
 sy:Sr rk y
section
variable {rk:Keyed->Int} {x y v t:List Keyed} {k:Nat}
theorem Mh.symm (m:Mh rk x y v t):Mh rk y x v t:=⟨(List.Perm.append_right v List.perm_append_comm).trans m.pm,m.so,m.yv,m.xv,m.sy,m.sx⟩
theorem Mh.snd (m:Mh rk x y v t) (h:Lq rk x (y.drop k)):Mh rk x (y.take k) (y.drop k++v) t:=by
 obtain ⟨c1,c2,c3⟩:=m.sy.cut k;refine ⟨?_,c2.app m.so fun a ha b hb=>m.yv a (List.mem_of_mem_drop ha) b hb,h.appr m.xv,c3.appr fun a ha b hb=>m.yv a (mem_of_mem_take ha) b hb,m.sx,c1⟩;have e:(x++y.take k)++(y.drop k++v)=(x++y)++v:=by
  rw [<-append_assoc,append_assoc x,take_append_drop]
 rw [e];exact m.pm
theorem Mh.done (m:Mh rk x y v t) (h:Lq rk x y):(x++y++v).Perm t/\Sr rk (x++y++v):=⟨m.pm,(m.sx.app m.sy h).app m.so (m.xv.app m.yv)⟩
end
structure MH (rk:Keyed->Int) (a b u:Array Keyed) (i j:Nat):Prop where
 ia:1<=i/\i<=a.size
 jb:2<=j/\j<=b.size
 mg:Mh rk (a.toList.take i) (b.toList.take j) u.toList.reverse (a.toList++b.toList)
section
variable {rk:Keyed->Int} {a b u:Array Keyed} {i j k:Nat}
theorem C8e (a:Array Keyed) (i:Nat):(a.extract 0 i).toList=a.toList.take i:=by
 rw [Array.toList_extract,List.extract_eq_drop_take,List.drop_zero,Nat.sub_zero]
theorem C8h (a:Array Keyed) (q i:Nat):(a.extract q i).toList=(a.toList.take i).drop q:=by
 rw [Array.toList_extract,List.extract_eq_drop_take,List.drop_take]
theorem A3k:(a.extract 0 i++b.extract 0 j++u.reverse).toList=a.toList.take i++b.toList.take j++u.toList.reverse:=by
 rw [Array.toList_append,Array.toList_append,C8e,C8e,Array.toList_reverse]
theorem MH.stepA (m:MH rk a b u i j) {u':Array Keyed} (hu:u'.toList.reverse=(a.toList.take i).drop k++u.toList.reverse) (hk:k<=i) (h:Lq rk (b.toList.take j) ((a.toList.take i).drop k)) :
  (k=0->Rs rk a b (a.extract 0 k++b.extract 0 j++u'.reverse))/\(1<=k->MH rk a b u' k j):=by
 have g:=m.mg.symm.snd (k:=k) h;rw [<-hu,List.take_take,Nat.min_eq_left hk] at g;refine ⟨fun e=>?_,fun e=>⟨⟨e,by have:=m.ia.2;omega⟩,m.jb,g.symm⟩⟩;unfold Rs;rw [A3k];refine g.symm.done fun x hx y hy=>?_;rw [e,List.take_zero] at hx;cases hx
theorem MH.stepB (m:MH rk a b u i j) (hf:Lq rk (b.toList.take 1) a.toList) {u':Array Keyed} (hu:u'.toList.reverse=(b.toList.take j).drop k++u.toList.reverse) (hk:k<=j) (h:Lq rk (a.toList.take i) ((b.toList.take j).drop k)) :
  (k=1->Rs rk a b (b.extract 0 k++a.extract 0 i++u'.reverse))/\(2<=k->MH rk a b u' i k):=by
 have g:=m.mg.snd (k:=k) h;rw [<-hu,List.take_take,Nat.min_eq_left hk] at g;refine ⟨fun e=>?_,fun e=>⟨m.ia,⟨e,by have:=m.jb.2;omega⟩,g⟩⟩;unfold Rs;rw [A3k];refine g.symm.done fun x hx y hy=>hf x (by rw [e] at hx;exact hx) y (mem_of_mem_take hy)
theorem W8 {x:Keyed} (h:x∈a.toList.take i):∃ t,t < i/\t < a.size/\a[t]?=some x:=by
 obtain ⟨t,ht⟩:=List.getElem?_of_mem h;have hk:t < i:=by
  have:=(List.getElem?_eq_some_iff.mp ht).1;rw [length_take] at this;omega
 rw [List.getElem?_take,if_pos hk,Array.getElem?_toList] at ht;exact ⟨t,hk,(Array.getElem?_eq_some_iff.mp ht).1,ht⟩
theorem B2l {x:Keyed} (h:x∈(a.toList.take i).drop k):∃ t,k<=t/\t < i/\t < a.size/\a[t]?=some x:=by
 obtain ⟨t,ht⟩:=List.getElem?_of_mem h;rw [List.getElem?_drop] at ht;have hk:k+t < i:=by
  have:=(List.getElem?_eq_some_iff.mp ht).1;rw [length_take] at this;omega
 rw [List.getElem?_take,if_pos hk,Array.getElem?_toList] at ht;exact ⟨k+t,by omega,hk,(Array.getElem?_eq_some_iff.mp ht).1,ht⟩
theorem P9 {x:Keyed} (h0:1<=i) (h:a[i - 1]?=some x):(a.toList.take i).drop (i - 1)=[x]:=by
 rw [<-Array.getElem?_toList] at h;obtain ⟨h1,h2⟩:=List.getElem?_eq_some_iff.mp h;have e:i=(i - 1)+1:=by omega
 rw [show a.toList.take i=a.toList.take (i - 1)++[x] from by rw [e,List.take_succ,Nat.add_sub_cancel,h];rfl];rw [List.drop_append_of_le_length (by rw [length_take];omega),List.drop_eq_nil_of_le (by rw [length_take];omega)];rfl
end
section
variable {prog:Program} {w:World} {A:Around} {E:Value->Shared->Prop} {s:Shared} {κ:SortKind} {rk:Keyed->Int} {S:Keyed->Prop}
theorem C8p (P:A38 prog w A s κ rk S) {st:SortSt} {a b:Array Keyed} {Q:Array Keyed->SortSt->Prop} (hk:kindOf st=κ) (ha:Sr rk a.toList) (hb:Sr rk b.toList) (sa:∀ x∈a.toList,S x) (sb:∀ x∈b.toList,S x) (na:1<=a.size) (nb:1<=b.size)
  (hf:∀ x y,b[0]?=some x->y∈a.toList->rk x < rk y) (hl:∀ x∈b.toList,∀ y,a[a.size - 1]?=some y->rk x<=rk y)
  (h:∀ r st',SaM st st'->Rs rk a b r->Q r st'):wpS (model prog w) A E s (C9m a b) Q st:=by
 have hfa:Lq rk (b.toList.take 1) a.toList:=fun x hx y hy=>by
  obtain ⟨t,t1,t2,t3⟩:=W8 hx;have:t=0:=by omega
  subst this;exact Int.le_of_lt (hf x y t3 hy)
 rw [C5m];refine wpS_bind (wpS_lift (wpAny_rule ⟨rfl,?_⟩));dsimp only;obtain ⟨al,e1,e2,e3⟩:=J7 (a:=a) (i:=a.size - 1) (by omega);refine wpS_bind (L6 e1 ?_);have h0:Mh rk (a.toList.take a.size) (b.toList.take b.size) [] (a.toList++b.toList):=by
  rw [<-Array.length_toList,<-Array.length_toList,take_length,take_length];exact ⟨by simp,.nil,(fun _ _ _ z=>by cases z),(fun _ _ _ z=>by cases z),ha,hb⟩
 have g0:=h0.symm.snd (k:=a.size - 1) (by
  rw [P9 na e1];intro x hx y hy;rw [mem_singleton.mp hy];exact hl x (mem_of_mem_take hx) al e1)
 rw [P9 na e1,List.take_take,Nat.min_eq_left (by omega)] at g0;have g0:Mh rk (b.toList.take b.size) (a.toList.take (a.size - 1)) (#[al]:Array Keyed).toList.reverse (a.toList++b.toList):=by simpa using g0
 by_cases c1:(a.size - 1==0)=true
 ·rw [if_pos c1];refine wpS_pure (h _ _ .rfl ?_);unfold Rs;rw [A3k];refine g0.symm.done fun x hx y hy=>?_;rw [show a.size - 1=0 by simpa using c1,List.take_zero] at hx;cases hx
 rw [if_neg c1];by_cases c2:(b.size==1)=true
 ·rw [if_pos c2];refine wpS_pure (h _ _ .rfl ?_);unfold Rs;rw [A3k];refine g0.done fun x hx y hy=>hfa x ?_ y (mem_of_mem_take hy);rw [show b.size=1 by simpa using c2] at hx;exact hx
 rw [if_neg c2];have m0:MH rk a b #[al] (a.size - 1) b.size:=⟨⟨by simp at c1;omega,by omega⟩,⟨by simp at c2;omega,Nat.le_refl _⟩,g0.symm⟩;refine wpS_bind (wpS_get ?_);have push1:∀ {u d:Array Keyed} {i:Nat} {x:Keyed},1<=i->d[i - 1]?=some x->(u.push x).toList.reverse=(d.toList.take i).drop (i - 1)++u.toList.reverse:=fun {u d i x} h0 e=>by rw [P9 h0 e];simp
 have chunk:∀ {u d:Array Keyed} {q i:Nat},(u++(d.extract q i).reverse).toList.reverse=(d.toList.take i).drop q++u.toList.reverse:=fun {u d q i}=>by
  rw [Array.toList_append,List.reverse_append,Array.toList_reverse,List.reverse_reverse,C8h]
 refine wpS_bind (wpS_mono (wpS_forRange (I:=fun x c st'=>SaM st st'/\c.1=none/\MH rk a b c.2.2.2.1 c.2.1 c.2.2.1/\c.2.1+c.2.2.1+x+1<=a.size+b.size) (Q:=fun c st'=>SaM st st'/\∃ r,c.1=some r/\Rs rk a b r) ?_ ?_ ⟨.rfl,rfl,m0,by dsimp only;omega⟩) ?_)
 rotate_left
 ·rintro ⟨c1,i,j,u,mg⟩ st' ⟨q1,q2,q3,q4⟩;dsimp only at q2 q3 q4;rw [Nat.zero_max] at q4;omega
 ·rintro ⟨c1,i,j,u,mg⟩ st' ⟨q1,r,q2,q3⟩;dsimp only at q2 ⊢;subst q2;exact wpS_pure (h _ _ q1 q3)
 rintro x ⟨c1,i,j,u,mg⟩ st1 _ hx ⟨q1,q2,q3,q4⟩;dsimp only at q2 q3 q4 ⊢;have hk1:kindOf st1=κ:=q1.1.trans hk;refine wpS_bind (wpS_mono (wpS_forRange (I:=fun x c st'=>st'=st1/\c.1=none/\MH rk a b c.2.2.2.1 c.2.1 c.2.2.1/\c.2.1+c.2.2.1+x<=i+j) (Q:=fun c st'=>st'=st1/\((∃ r,c.1=some r/\Rs rk a b r)\/(c.1=none/\MH rk a b c.2.2.2.1 c.2.1 c.2.2.1/\c.2.1+c.2.2.1+1<=i+j))) ?_ ?_ ⟨rfl,rfl,q3,by dsimp only;omega⟩) ?_)
 ·rintro y ⟨c1,i',j',u,ac,bc⟩ st' _ hy ⟨rfl,q2,q3,q4⟩;dsimp only at q2 q3 q4 ⊢;have hia:=q3.ia;have hjb:=q3.jb;obtain ⟨bj,e1,e2,e3⟩:=J7 (a:=b) (i:=j' - 1) (by omega);obtain ⟨ai,f1,f2,f3⟩:=J7 (a:=a) (i:=i' - 1) (by omega);refine wpS_bind (L6 e1 (wpS_bind (L6 f1 (wpS_bind (A9d P hk1 (sb _ e3) (sa _ f3) ?_)))));dsimp only;by_cases c:rk bj < rk ai
  ·simp only [c,decide_true,if_true];refine wpS_bind (L6 f1 ?_);have st:=q3.stepA (k:=i' - 1) (push1 (u:=u) hia.1 f1) (by omega) (by
    rw [P9 hia.1 f1];intro x hx z hz;rw [mem_singleton.mp hz];obtain ⟨t,t1,t2,t3⟩:=W8 hx;have:=U2 hb (show t<=j' - 1 by omega) t3 e1;omega)
   by_cases c2:(i' - 1==0)=true
   ·rw [if_pos c2];exact wpS_pure ⟨rfl,.inl ⟨_,rfl,st.1 (by simpa using c2)⟩⟩
   rw [if_neg c2];have st:=st.2 (by simp at c2;omega);split
   ·exact wpS_pure ⟨rfl,.inr ⟨rfl,st,by dsimp only;omega⟩⟩
   ·exact wpS_pure ⟨rfl,rfl,st,by dsimp only;omega⟩
  ·simp only [c,decide_false,Bool.false_eq_true,if_false];refine wpS_bind (L6 e1 ?_);have st:=q3.stepB hfa (k:=j' - 1) (push1 (u:=u) (by omega) e1) (by omega) (by
    rw [P9 (by omega) e1];intro x hx z hz;rw [mem_singleton.mp hz];obtain ⟨t,t1,t2,t3⟩:=W8 hx;have:=U2 ha (show t<=i' - 1 by omega) t3 f1;omega)
   by_cases c2:(j' - 1==1)=true
   ·rw [if_pos c2];exact wpS_pure ⟨rfl,.inl ⟨_,rfl,st.1 (by simpa using c2)⟩⟩
   rw [if_neg c2];have st:=st.2 (by simp at c2;omega);split
   ·exact wpS_pure ⟨rfl,.inr ⟨rfl,st,by dsimp only;omega⟩⟩
   ·exact wpS_pure ⟨rfl,rfl,st,by dsimp only;omega⟩
 ·rintro ⟨c1,i',j',u,ac,bc⟩ st' ⟨rfl,q2,q3,q4⟩;dsimp only at q2 q3 q4;rw [Nat.zero_max] at q4;exact ⟨rfl,.inr ⟨q2,q3,by dsimp only;omega⟩⟩
 rintro ⟨c1,i1,j1,u,ac,bc⟩ st' ⟨rfl,q⟩;dsimp only at q ⊢;rcases q with ⟨r,rfl,q⟩|⟨rfl,q3,q4'⟩
 ·exact wpS_pure ⟨q1,r,rfl,q⟩
 dsimp only;refine wpS_bind (wpS_lift (wpAny_rule ⟨rfl,?_⟩));refine wpS_bind (wpS_mono (wpS_forRange (I:=fun x c st'=>SaM st st'/\c.1=none/\MH rk a b c.2.2.2.1 c.2.1 c.2.2.1/\c.2.1+c.2.2.1<=i1+j1) (Q:=fun c st'=>SaM st st'/\((∃ r,c.1=some r/\Rs rk a b r)\/(c.1=none/\MH rk a b c.2.2.2.1 c.2.1 c.2.2.1/\c.2.1+c.2.2.1<=i1+j1))) ?_ ?_ ⟨q1,rfl,q3,Nat.le_refl _⟩) ?_)
 rotate_left
 ·rintro ⟨c1,i',j',u,mg,ac,bc⟩ st' ⟨p1,p2,p3,p4⟩;exact ⟨p1,.inr ⟨p2,p3,p4⟩⟩
 ·rintro ⟨c1,i',j',u,mg,ac,bc⟩ st' ⟨p1,p⟩;dsimp only at p ⊢;rcases p with ⟨r,rfl,p⟩|⟨rfl,p3,p4⟩
  ·exact wpS_pure ⟨p1,r,rfl,p⟩
  ·refine wpS_bind (A7u p1 fun st2 p1=>wpS_pure ⟨p1,rfl,p3,by dsimp only;omega⟩)
 rintro y ⟨c1,i',j',u,mg',ac',bc'⟩ st2 _ hy ⟨p1,p2,p3,p4⟩;dsimp only at p2 p3 p4 ⊢;have body:∀ mgx:Nat,wpS (model prog w) A E s (do
   B0u mgx
   let x <- elem' b (j' - 1)
   let y <- A22 false x a 0 i' (i' - 1)
   match y with
   | some q =>
    let jp:=fun (i:Nat) (u:Array Keyed)=>(do
     let x <- elem' b (j' - 1)
     if (j' - 1==1)=true then pure (ForInStep.done (some (b.extract 0 (j' - 1)++a.extract 0 i++(u.push x).reverse),i,j' - 1,u.push x,mgx,i' - q,bc'))
     else do
      let z <- elem' a (i - 1)
      let y <- A22 true z b 0 (j' - 1) (j' - 1 - 1)
      match y with
      | some q2 =>
       let jq:=fun (j:Nat) (u:Array Keyed)=>(do
        let z <- elem' a (i - 1)
        if (i - 1==0)=true then pure (ForInStep.done (some (a.extract 0 (i - 1)++b.extract 0 j++(u.push z).reverse),i - 1,j,u.push z,mgx,i' - q,j' - 1 - q2))
        else if (decide (i' - q < 7)&&decide (j' - 1 - q2 < 7))=true then pure (ForInStep.done (none,i - 1,j,u.push z,mgx,i' - q,j' - 1 - q2))
        else pure (ForInStep.yield (none,i - 1,j,u.push z,mgx,i' - q,j' - 1 - q2)):StateT SortSt Sem (ForInStep (Option (Array Keyed) × Nat × Nat × Array Keyed × Nat × Nat × Nat)))
       if j' - 1 - q2 > 0 then
        if (q2==1)=true then pure (ForInStep.done (some (b.extract 0 q2++a.extract 0 i++(u.push x++(b.extract q2 (j' - 1)).reverse).reverse),i,q2,u.push x++(b.extract q2 (j' - 1)).reverse,mgx,i' - q,j' - 1 - q2))
        else if (q2==0)=true then pure (ForInStep.done (some (a.extract 0 i++b.extract 0 q2++(u.push x++(b.extract q2 (j' - 1)).reverse).reverse),i,q2,u.push x++(b.extract q2 (j' - 1)).reverse,mgx,i' - q,j' - 1 - q2))
        else jq q2 (u.push x++(b.extract q2 (j' - 1)).reverse)
       else jq (j' - 1) (u.push x)
      | _=>pure (ForInStep.done (some (a.extract 0 i++b.extract 0 (j' - 1)++(u.push x).reverse),i,j' - 1,u.push x,mgx,i' - q,bc')):StateT SortSt Sem (ForInStep (Option (Array Keyed) × Nat × Nat × Array Keyed × Nat × Nat × Nat)))
    if i' - q > 0 then
     if (q==0)=true then pure (ForInStep.done (some (a.extract 0 q++b.extract 0 j'++(u++(a.extract q i').reverse).reverse),q,j',u++(a.extract q i').reverse,mgx,i' - q,bc'))
     else jp q (u++(a.extract q i').reverse)
    else jp i' u
   | _=>pure (ForInStep.done (some (a.extract 0 i'++b.extract 0 j'++u.reverse),i',j',u,mgx,ac',bc'))) (fun r st'=>match r with
    | .done c=>SaM st st'/\((∃ r,c.1=some r/\Rs rk a b r)\/(c.1=none/\MH rk a b c.2.2.2.1 c.2.1 c.2.2.1/\c.2.1+c.2.2.1<=i1+j1))
    | .yield c=>SaM st st'/\c.1=none/\MH rk a b c.2.2.2.1 c.2.1 c.2.2.1/\c.2.1+c.2.2.1<=i1+j1) st2:=by
  intro mgx;refine wpS_bind (A7u p1 fun st3 p1=>?_);have hk3:kindOf st3=κ:=p1.1.trans hk;have hia:=p3.ia;have hjb:=p3.jb;obtain ⟨bj,e1,e2,e3⟩:=J7 (a:=b) (i:=j' - 1) (by omega);refine wpS_bind (L6 e1 ?_);refine wpS_bind (A2o P hk3 (sb _ e3) (A8w ha sa (i:=0) (n:=i') (by omega)) (by omega) fun q hq g1 g2=>?_);dsimp only;have le1:Lq rk (b.toList.take j') ((a.toList.take i').drop q):=fun x hx z hz=>by
   obtain ⟨t,t1,t2,t3⟩:=W8 hx;obtain ⟨t',t4,t5,t6,t7⟩:=B2l hz;have:=g2 t' t4 t5;rw [L7 (x:=z) (by rw [Nat.zero_add];exact t7)] at this;unfold Be at this;simp at this;have:=U2 hb (show t<=j' - 1 by omega) t3 e1;omega
  have jp : ∀ (i : Nat) (u : Array Keyed), MH rk a b u i j' -> i <= i' -> (∀ t, t < i -> ∀ x, a[t]? = some x -> rk x <= rk bj) -> wpS (model prog w) A E s (do
        let x <- elem' b (j' - 1)
        if (j' - 1==1)=true then pure (ForInStep.done (some (b.extract 0 (j' - 1)++a.extract 0 i++(u.push x).reverse),i,j' - 1,u.push x,mgx,i' - q,bc'))
        else do
      let z <- elem' a (i - 1)
      let y <- A22 true z b 0 (j' - 1) (j' - 1 - 1)
      match y with
      | some q2 =>
       if j' - 1 - q2 > 0 then
        if (q2==1)=true then pure (ForInStep.done (some (b.extract 0 q2++a.extract 0 i++(u.push x++(b.extract q2 (j' - 1)).reverse).reverse),i,q2,u.push x++(b.extract q2 (j' - 1)).reverse,mgx,i' - q,j' - 1 - q2))
        else if (q2==0)=true then pure (ForInStep.done (some (a.extract 0 i++b.extract 0 q2++(u.push x++(b.extract q2 (j' - 1)).reverse).reverse),i,q2,u.push x++(b.extract q2 (j' - 1)).reverse,mgx,i' - q,j' - 1 - q2))
        else do
         let z <- elem' a (i - 1)
         if (i - 1==0)=true then pure (ForInStep.done (some (a.extract 0 (i - 1)++b.extract 0 q2++((u.push x++(b.extract q2 (j' - 1)).reverse).push z).reverse),i - 1,q2,(u.push x++(b.extract q2 (j' - 1)).reverse).push z,mgx,i' - q,j' - 1 - q2))
         else if (decide (i' - q < 7)&&decide (j' - 1 - q2 < 7))=true then pure (ForInStep.done (none,i - 1,q2,(u.push x++(b.extract q2 (j' - 1)).reverse).push z,mgx,i' - q,j' - 1 - q2))
         else pure (ForInStep.yield (none,i - 1,q2,(u.push x++(b.extract q2 (j' - 1)).reverse).push z,mgx,i' - q,j' - 1 - q2))
       else do
        let z <- elem' a (i - 1)
        if (i - 1==0)=true then pure (ForInStep.done (some (a.extract 0 (i - 1)++b.extract 0 (j' - 1)++((u.push x).push z).reverse),i - 1,j' - 1,(u.push x).push z,mgx,i' - q,j' - 1 - q2))
        else if (decide (i' - q < 7)&&decide (j' - 1 - q2 < 7))=true then pure (ForInStep.done (none,i - 1,j' - 1,(u.push x).push z,mgx,i' - q,j' - 1 - q2))
        else pure (ForInStep.yield (none,i - 1,j' - 1,(u.push x).push z,mgx,i' - q,j' - 1 - q2))
      | _=>pure (ForInStep.done (some (a.extract 0 i++b.extract 0 (j' - 1)++(u.push x).reverse),i,j' - 1,u.push x,mgx,i' - q,bc')):StateT SortSt Sem (ForInStep (Option (Array Keyed) × Nat × Nat × Array Keyed × Nat × Nat × Nat))) (fun r st'=>match r with
    | .done c=>SaM st st'/\((∃ r,c.1=some r/\Rs rk a b r)\/(c.1=none/\MH rk a b c.2.2.2.1 c.2.1 c.2.2.1/\c.2.1+c.2.2.1<=i1+j1))
    | .yield c=>SaM st st'/\c.1=none/\MH rk a b c.2.2.2.1 c.2.1 c.2.2.1/\c.2.1+c.2.2.1<=i1+j1) st3:=by
   intro i u m hi below;have mia:=m.ia;refine wpS_bind (L6 e1 ?_);have sB:=m.stepB hfa (k:=j' - 1) (push1 (u:=u) (by omega) e1) (by omega) (by
    rw [P9 (by omega) e1];intro x hx z hz;rw [mem_singleton.mp hz];obtain ⟨t,t1,t2,t3⟩:=W8 hx;exact below t t1 x t3)
   by_cases c2:(j' - 1==1)=true
   ·rw [if_pos c2];exact wpS_pure ⟨p1,.inl ⟨_,rfl,sB.1 (by simpa using c2)⟩⟩
   rw [if_neg c2];have m2:=sB.2 (by simp at c2;omega);have mjb:=m2.jb;obtain ⟨ai,f1,f2,f3⟩:=J7 (a:=a) (i:=i - 1) (by omega);refine wpS_bind (L6 f1 ?_);refine wpS_bind (A2o P hk3 (sa _ f3) (A8w hb sb (i:=0) (n:=j' - 1) (by omega)) (by omega) fun q2 hq2 g3 g4=>?_);dsimp only;have q2pos:1<=q2:=by
    rcases Nat.lt_or_ge 0 q2 with z|z
    ·exact z
    ·exfalso;obtain ⟨b0,d1,d2,d3⟩:=J7 (a:=b) (i:=0) (by omega);have:=g4 0 z (by omega);rw [L7 (x:=b0) (by exact d1)] at this;unfold Be at this;simp at this;have:=hf b0 ai d1 f3;omega
   have last : ∀ (j : Nat) (u : Array Keyed), MH rk a b u i j -> (∀ t, t < j -> ∀ x, b[t]? = some x -> rk x <= rk ai) -> j < j' -> wpS (model prog w) A E s (do
             let z <- elem' a (i - 1)
             if (i - 1==0)=true then pure (ForInStep.done (some (a.extract 0 (i - 1)++b.extract 0 j++(u.push z).reverse),i - 1,j,u.push z,mgx,i' - q,j' - 1 - q2))
             else if (decide (i' - q < 7)&&decide (j' - 1 - q2 < 7))=true then pure (ForInStep.done (none,i - 1,j,u.push z,mgx,i' - q,j' - 1 - q2))
             else pure (ForInStep.yield (none,i - 1,j,u.push z,mgx,i' - q,j' - 1 - q2)):StateT SortSt Sem (ForInStep (Option (Array Keyed) × Nat × Nat × Array Keyed × Nat × Nat × Nat))) (fun r st'=>match r with
    | .done c=>SaM st st'/\((∃ r,c.1=some r/\Rs rk a b r)\/(c.1=none/\MH rk a b c.2.2.2.1 c.2.1 c.2.2.1/\c.2.1+c.2.2.1<=i1+j1))
    | .yield c=>SaM st st'/\c.1=none/\MH rk a b c.2.2.2.1 c.2.1 c.2.2.1/\c.2.1+c.2.2.1<=i1+j1) st3:=by
    intro j u m above hj;refine wpS_bind (L6 f1 ?_);have sA:=m.stepA (k:=i - 1) (push1 (u:=u) mia.1 f1) (by omega) (by
     rw [P9 mia.1 f1];intro x hx z hz;rw [mem_singleton.mp hz];obtain ⟨t,t1,t2,t3⟩:=W8 hx;exact above t t1 x t3)
    by_cases c3:(i - 1==0)=true
    ·rw [if_pos c3];exact wpS_pure ⟨p1,.inl ⟨_,rfl,sA.1 (by simpa using c3)⟩⟩
    rw [if_neg c3];have m3:=sA.2 (by simp at c3;omega);split
    ·exact wpS_pure ⟨p1,.inr ⟨rfl,m3,by dsimp only;omega⟩⟩
    ·exact wpS_pure ⟨p1,rfl,m3,by dsimp only;omega⟩
   have blw:∀ t,t < q2->∀ x,b[t]?=some x->rk x<=rk ai:=fun t ht x hx=>by
    have:=g3 t ht;rw [L7 (x:=x) (by rw [Nat.zero_add];exact hx)] at this;unfold Be at this;simp at this;omega
   by_cases ck:j' - 1 - q2 > 0
   ·rw [if_pos ck];have sB2:=m2.stepB hfa (k:=q2) (u':=u.push bj++(b.extract q2 (j' - 1)).reverse) chunk (by omega) (fun x hx z hz=>by
     obtain ⟨t,t1,t2,t3⟩:=W8 hx;obtain ⟨t',t4,t5,t6,t7⟩:=B2l hz;have:=g4 t' t4 t5;rw [L7 (x:=z) (by rw [Nat.zero_add];exact t7)] at this;unfold Be at this;simp at this;have:=U2 ha (show t<=i - 1 by omega) t3 f1;omega)
    by_cases c3:(q2==1)=true
    ·rw [if_pos c3];exact wpS_pure ⟨p1,.inl ⟨_,rfl,sB2.1 (by simpa using c3)⟩⟩
    rw [if_neg c3,if_neg (by simp;omega)];exact last _ _ (sB2.2 (by simp at c3;omega)) blw (by omega)
   ·rw [if_neg ck];exact last _ _ m2 (fun t ht x hx=>blw t (by omega) x hx) (by omega)
  have below:∀ t,t < q->∀ x,a[t]?=some x->rk x<=rk bj:=fun t ht x hx=>by
   have:=g1 t ht;rw [L7 (x:=x) (by rw [Nat.zero_add];exact hx)] at this;unfold Be at this;simp at this;exact this
  by_cases ck:i' - q > 0
  ·rw [if_pos ck];have sA:=p3.stepA (k:=q) (u':=u++(a.extract q i').reverse) chunk hq le1;by_cases c2:(q==0)=true
   ·rw [if_pos c2];exact wpS_pure ⟨p1,.inl ⟨_,rfl,sA.1 (by simpa using c2)⟩⟩
   rw [if_neg c2];exact jp _ _ (sA.2 (by simp at c2;omega)) (by omega) below
  ·rw [if_neg ck];exact jp _ _ p3 (Nat.le_refl _) fun t ht x hx=>below t (by omega) x hx
 by_cases cg:mg' > 1
 ·rw [if_pos cg];refine wpS_mono (body (mg' - 1)) fun r st' hr=>?_;cases r with
  | done c=>exact hr
  | yield c=>exact hr
 ·rw [if_neg cg];refine wpS_mono (body mg') fun r st' hr=>?_;cases r with
  | done c=>exact hr
  | yield c=>exact hr
end
def Kr (rk:Keyed->Int) (xs:Array Keyed) (i:Nat):Int:=match xs[i]? with
 | some p=>rk p
 | none=>0
structure Wk (xs ys:Array Keyed) (lo hi:Nat):Prop where
 perm:ys.Perm xs
 keep:∀ i,(i < lo\/hi<=i)->ys[i]?=xs[i]?
section
variable {rk:Keyed->Int} {xs ys zs:Array Keyed} {lo hi i j:Nat}
theorem Wk.refl (xs:Array Keyed) (lo hi:Nat):Wk xs xs lo hi:=⟨Array.Perm.refl _,fun _ _=>rfl⟩
theorem Wk.trans (h:Wk xs ys lo hi) (g:Wk ys zs lo hi):Wk xs zs lo hi:=⟨g.perm.trans h.perm,fun i q=>(g.keep i q).trans (h.keep i q)⟩
theorem Wk.mir (hl:lo<=i) (hj:j<=hi) (hs:j<=xs.size):Wk xs (mirror xs i j ((j - i) / 2)) lo hi:=⟨mirror_perm _ _ _ _,fun t q=>by
 rw [getElem?_mirror_all hs,if_neg (by omega)]⟩
theorem Wk.bub {src d:Nat} (hs:src < xs.size) (hd:d<=src) (hl:lo<=src - d) (hh:src < hi):Wk xs (bubble xs src d) lo hi:=⟨bubble_perm _ _ _,fun t q=>by
 rw [getElem?_bubble hs d hd,if_neg (by omega),if_neg (by omega)]⟩
theorem A44 {x:Keyed} (h:xs[i]?=some x):Kr rk xs i=rk x:=by unfold Kr;rw [h]
theorem A47 (h:xs[i]?=ys[j]?):Kr rk xs i=Kr rk ys j:=by unfold Kr;rw [h]
theorem C2d (hj:j<=xs.size) (k:Nat):Kr rk (mirror xs i j ((j - i) / 2)) k=if i<=k/\k < j then Kr rk xs (i+j - 1 - k) else Kr rk xs k:=by
 have e:=getElem?_mirror_all (i:=i) hj k;split
 ·rw [if_pos ‹_›] at e;exact A47 e
 ·rw [if_neg ‹_›] at e;exact A47 e
theorem C1e {src d:Nat} (hs:src < xs.size) (hd:d<=src) (k:Nat):Kr rk (bubble xs src d) k=if k=src - d then Kr rk xs src else if src - d < k/\k<=src then Kr rk xs (k - 1) else Kr rk xs k:=by
 have e:=getElem?_bubble hs d hd k;split
 ·rw [if_pos ‹_›] at e;exact A47 e
 ·rw [if_neg ‹_›] at e;split
  ·rw [if_pos ‹_›] at e;exact A47 e
  ·rw [if_neg ‹_›] at e;exact A47 e
def SoI (rk:Keyed->Int) (xs:Array Keyed) (lo n:Nat):Prop:=∀ i j,lo<=i->i<=j->j < lo+n->Kr rk xs i<=Kr rk xs j
def DsI (rk:Keyed->Int) (xs:Array Keyed) (lo n:Nat):Prop:=∀ i j,lo<=i->i<=j->j < lo+n->Kr rk xs j<=Kr rk xs i
structure Its (rk:Keyed->Int) (S:Keyed->Prop) (xs:Array Keyed):Prop where
 ok:∀ x∈xs.toList,S x
 nd:(xs.toList.map rk).Nodup
theorem Its.perm {S:Keyed->Prop} (h:Its rk S xs) (p:ys.Perm xs):Its rk S ys:=by
 have p:=Array.perm_iff_toList_perm.mp p;exact ⟨fun x hx=>h.ok x (p.mem_iff.mp hx),(p.map rk).nodup_iff.mpr h.nd⟩
theorem Its.ne {S:Keyed->Prop} (h:Its rk S xs) (hi:i < xs.size) (hj:j < xs.size) (e:i≠j):Kr rk xs i≠Kr rk xs j:=by
 obtain ⟨x,x1,x2,_⟩:=J7 hi;obtain ⟨y,y1,y2,_⟩:=J7 hj;rw [A44 x1,A44 y1];intro z;have g1:(xs.toList.map rk)[i]?=some (rk x):=by rw [List.getElem?_map,x2];rfl
 have g2:(xs.toList.map rk)[j]?=some (rk y):=by rw [List.getElem?_map,y2];rfl
 exact e ((List.getElem?_inj (by rw [length_map,Array.length_toList];exact hi) h.nd).mp (by rw [g1,g2,z]))
end
section
variable {prog:Program} {w:World} {A:Around} {E:Value->Shared->Prop} {s:Shared} {κ:SortKind} {rk:Keyed->Int} {S:Keyed->Prop}
theorem B0b (P:A38 prog w A s κ rk S) {st:SortSt} {i j:Nat} {Q:Option Bool->SortSt->Prop} (hk:kindOf st=κ) (I:Its rk S (arrOf st)) (hi:i < (arrOf st).size) (hj:j < (arrOf st).size) (h:Q (some (decide (Kr rk (arrOf st) i < Kr rk (arrOf st) j))) st):wpS (model prog w) A E s (ltAt' i j) Q st:=by
 obtain ⟨x,x1,x2,x3⟩:=J7 hi;obtain ⟨y,y1,y2,y3⟩:=J7 hj;rw [ltAt'_eq];refine wpS_bind (wpS_get ?_);refine wpS_bind (L6 x1 (wpS_bind (L6 y1 (A9d P hk (I.ok x x3) (I.ok y y3) ?_))));rw [<-A44 (rk:=rk) x1,<-A44 (rk:=rk) y1];exact h
theorem C18 (P:A38 prog w A s κ rk S) {st:SortSt} {lo n ok:Nat} {Q:Bool->SortSt->Prop} (hk:kindOf st=κ) (I:Its rk S (arrOf st)) (hn:lo+n<=(arrOf st).size) (hok:ok<=n) (hs:SoI rk (arrOf st) lo ok)
  (h:∀ ys,Wk (arrOf st) ys lo (lo+n)->SoI rk ys lo n->Q true (setArr st ys)):wpS (model prog w) A E s (binarySort' lo n ok) Q st:=by
 rw [binarySort'_eq];refine wpS_bind (wpS_mono (wpS_forRange (I:=fun k c st'=>c=(none,())/\∃ ys,st'=setArr st ys/\Wk (arrOf st) ys lo (lo+n)/\SoI rk ys lo (min k n)) (Q:=fun c st'=>c=(none,())/\∃ ys,st'=setArr st ys/\Wk (arrOf st) ys lo (lo+n)/\SoI rk ys lo n) ?st ?fi ⟨rfl,arrOf st,rfl,Wk.refl _ _ _,fun i j h1 h2 h3=>?ini⟩) ?po)
 case po =>
  rintro c st' ⟨rfl,ys,rfl,w1,w2⟩;exact wpS_pure (h ys w1 w2)
 case fi =>
  rintro c st' ⟨hc,ys,e,w1,w2⟩;rw [show min (max (max ok 1) n) n=n by omega] at w2;exact ⟨hc,ys,e,w1,w2⟩
 case ini =>
  by_cases e:ok=0
  ·obtain rfl:i=j:=by omega
   exact Int.le_refl _
  ·exact hs i j h1 h2 (by omega)
 case st =>
  rintro k c st' hak hkn ⟨rfl,ys,rfl,w1,w2⟩;rw [show min k n=k by omega] at w2;have sz:ys.size=(arrOf st).size:=w1.perm.size_eq;have Iy:=I.perm w1.perm;refine wpS_bind (wpS_mono (wpS_forRange (I:=fun x c st2=>st2=setArr st ys/\∃ l r,c=(none,l,r)/\l<=r/\r<=k/\r - l<=k - x/\(∀ i,i < l->Kr rk ys (lo+i)<=Kr rk ys (lo+k))/\∀ i,r<=i->i < k->Kr rk ys (lo+k) < Kr rk ys (lo+i))
   (Q:=fun c st2=>st2=setArr st ys/\∃ l r,c=(none,l,r)/\l<=k/\(∀ i,i < l->Kr rk ys (lo+i)<=Kr rk ys (lo+k))/\∀ i,l<=i->i < k->Kr rk ys (lo+k) < Kr rk ys (lo+i)) ?s2 ?f2 ⟨rfl,0,k,rfl,by omega,by omega,by omega,(fun i hi=>by omega),fun i h1 h2=>by omega⟩) ?p2)
  case f2 =>
   rintro c st2 ⟨rfl,l,r,rfl,a1,a2,a3,a4,a5⟩;obtain rfl:l=r:=by omega
   exact ⟨rfl,l,l,rfl,a2,a4,a5⟩
  case s2 =>
   rintro x c st2 _ hx ⟨rfl,l,r,rfl,a1,a2,a3,a4,a5⟩;dsimp only;by_cases e:l ≥ r
   ·rw [if_pos e];obtain rfl:l=r:=by omega
    exact wpS_pure ⟨rfl,l,l,rfl,a2,a4,a5⟩
   rw [if_neg e];refine wpS_bind (B0b P hk Iy (show lo+k < ys.size by omega) (show lo+(l+r) / 2 < ys.size by omega) ?_);dsimp only;by_cases c:Kr rk ys (lo+k) < Kr rk ys (lo+(l+r) / 2)
   ·simp only [show Kr rk (arrOf (setArr st ys)) (lo+k) < Kr rk (arrOf (setArr st ys)) (lo+(l+r) / 2) from c,decide_true,if_true];refine wpS_pure ⟨rfl,l,(l+r) / 2,rfl,by omega,by omega,by omega,a4,fun i h1 h2=>?_⟩;have:=w2 (lo+(l+r) / 2) (lo+i) (by omega) (by omega) (by omega);omega
   ·simp only [show ¬ Kr rk (arrOf (setArr st ys)) (lo+k) < Kr rk (arrOf (setArr st ys)) (lo+(l+r) / 2) from c,decide_false,Bool.false_eq_true,if_false];refine wpS_pure ⟨rfl,(l+r) / 2+1,r,rfl,by omega,by omega,by omega,fun i h1=>?_,a5⟩;have:=w2 (lo+i) (lo+(l+r) / 2) (by omega) (by omega) (by omega);omega
  case p2 =>
   rintro c st2 ⟨rfl,l,r,rfl,a1,a4,a5⟩;show wpS _ _ _ _ (do moveDown' (lo+k) (lo+l);pure (ForInStep.yield (none,()))) _ _;rw [moveDown'_eq];have d1:lo+k - (lo+l)<=lo+k:=by omega
   refine wpS_bind (wpS_modify (wpS_pure ⟨rfl,bubble ys (lo+k) (lo+k - (lo+l)),rfl,w1.trans (Wk.bub (by omega) d1 (by omega) (by omega)),?_⟩));rw [show min (k+1) n=k+1 by omega];intro i j h1 h2 h3;rw [C1e (by omega) d1,C1e (by omega) d1,show lo+k - (lo+k - (lo+l))=lo+l by omega];have up:∀ t,lo+l<=t->t < lo+k->Kr rk ys (lo+k) < Kr rk ys t:=fun t t1 t2=>by
    have:=a5 (t - lo) (by omega) (by omega);rw [show lo+(t - lo)=t by omega] at this;exact this
   have dn:∀ t,lo<=t->t < lo+l->Kr rk ys t<=Kr rk ys (lo+k):=fun t t1 t2=>by
    have:=a4 (t - lo) (by omega);rw [show lo+(t - lo)=t by omega] at this;exact this
   repeat' split
   all_goals first
    | (exfalso;omega)
    | exact Int.le_refl _
    | exact dn _ (by omega) (by omega)
    | exact Int.le_of_lt (up _ (by omega) (by omega))
    | exact w2 _ _ (by omega) (by omega) (by omega)
theorem C0e (P:A38 prog w A s κ rk S) {st:SortSt} {lo a nrem:Nat} {Q:Option (Option Nat) × Nat->SortSt->Prop} (hk:kindOf st=κ) (I:Its rk S (arrOf st)) (hn:lo+nrem<=(arrOf st).size) (ha:1<=a) (han:a<=nrem) (hs:SoI rk (arrOf st) lo a)
  (h:∀ n,a<=n->n<=nrem->SoI rk (arrOf st) lo n->(n=nrem\/Kr rk (arrOf st) (lo+n) < Kr rk (arrOf st) (lo+n - 1))->Q (none,n) st) :
  wpS (model prog w) A E s (forIn [a:nrem] ((none,a):Option (Option Nat) × Nat) fun _ c=>do
   let x <- ltAt' (lo+c.2) (lo+c.2 - 1)
   match x with
   | some sm=>if sm=true then pure (ForInStep.done (none,c.2)) else pure (ForInStep.yield (none,c.2+1))
   | _=>pure (ForInStep.done (some none,c.2))) Q st:=by
 refine wpS_forRange (I:=fun x c st'=>st'=st/\c=(none,x)/\SoI rk (arrOf st) lo x) ?_ ?_ ⟨rfl,rfl,hs⟩
 ·rintro x c st' h1 h2 ⟨rfl,rfl,h3⟩;dsimp only;refine wpS_bind (B0b P hk I (by omega) (by omega) ?_);dsimp only;by_cases c:Kr rk (arrOf st') (lo+x) < Kr rk (arrOf st') (lo+x - 1)
  ·simp only [c,decide_true,if_true];exact wpS_pure (h x h1 (by omega) h3 (.inr c))
  ·simp only [c,decide_false,Bool.false_eq_true,if_false];refine wpS_pure ⟨rfl,rfl,fun i j i1 i2 i3=>?_⟩;by_cases hj:j < lo+x
   ·exact h3 i j i1 i2 hj
   ·obtain rfl:j=lo+x:=by omega
    by_cases hi:i=lo+x
    ·rw [hi];exact Int.le_refl _
    ·have:=h3 i (lo+x - 1) i1 (by omega) (by omega);omega
 ·rintro c st' ⟨rfl,rfl,h3⟩;rw [show max a nrem=nrem by omega] at h3 ⊢;exact h nrem han (Nat.le_refl _) h3 (.inl rfl)
theorem C0y (P:A38 prog w A s κ rk S) {st:SortSt} {lo nrem:Nat} {Q:Option Nat->SortSt->Prop} (hk:kindOf st=κ) (I:Its rk S (arrOf st)) (hn:lo+nrem<=(arrOf st).size) (h1:1<=nrem)
  (h:∀ n ys,1<=n->n<=nrem->Wk (arrOf st) ys lo (lo+nrem)->SoI rk ys lo n->Q (some n) (setArr st ys)):wpS (model prog w) A E s (countRun' lo nrem) Q st:=by
 rw [countRun'_eq];dsimp only;have one:SoI rk (arrOf st) lo 1:=fun i j i1 i2 i3=>by
  obtain rfl:i=j:=by omega
  exact Int.le_refl _
 refine wpS_bind (C0e P hk I hn (Nat.le_refl _) h1 one fun n n1 n2 n3 n4=>?_);dsimp only;by_cases c1:(n==nrem)=true
 ·rw [if_pos c1];exact wpS_pure (h n (arrOf st) n1 n2 (Wk.refl _ _ _) n3)
 rw [if_neg c1];have n4:Kr rk (arrOf st) (lo+n) < Kr rk (arrOf st) (lo+n - 1):=by
  rcases n4 with z|z
  ·simp [z] at c1
  ·exact z
 by_cases c2:n > 1
 ·rw [if_pos c2];refine wpS_bind (B0b P hk I (by omega) (by omega) ?_);dsimp only;have le:=n3 lo (lo+n - 1) (Nat.le_refl _) (by omega) (by omega);have ne:=I.ne (i:=lo) (j:=lo+n - 1) (by omega) (by omega) (by omega);rw [if_pos (by rw [decide_eq_true_eq];omega)];exact wpS_pure (h n (arrOf st) n1 n2 (Wk.refl _ _ _) n3)
 rw [if_neg c2];obtain rfl:n=1:=by omega
 have n5:1 < nrem:=by simp at c1;omega
 refine wpS_bind (wpS_lift (wpAny_rule ⟨rfl,?_⟩));have two:DsI rk (arrOf st) lo 2:=fun i j i1 i2 i3=>by
  by_cases e:i=j
  ·rw [e];exact Int.le_refl _
  ·obtain rfl:i=lo:=by omega
   obtain rfl:j=i+1:=by omega
   rw [show i+1 - 1=i by omega] at n4;omega
 refine wpS_bind (wpS_mono (wpS_forRange (I:=fun x c st'=>st'=st/\c=(none,x,0)/\DsI rk (arrOf st) lo x) (Q:=fun c st'=>st'=st/\∃ m,c=(none,m,0)/\2<=m/\m<=nrem/\DsI rk (arrOf st) lo m) ?_ ?_ ⟨rfl,rfl,two⟩) ?_)
 ·rintro x c st' x1 x2 ⟨rfl,rfl,x3⟩;dsimp only;refine wpS_bind (B0b P hk I (by omega) (by omega) ?_);dsimp only;by_cases c:Kr rk (arrOf st') (lo+x) < Kr rk (arrOf st') (lo+x - 1)
  ·simp only [c,decide_true,if_true];rw [if_neg (by omega)];refine wpS_pure ⟨rfl,rfl,fun i j i1 i2 i3=>?_⟩;by_cases hj:j < lo+x
   ·exact x3 i j i1 i2 hj
   ·obtain rfl:j=lo+x:=by omega
    by_cases hi:i=lo+x
    ·rw [hi];exact Int.le_refl _
    ·have:=x3 i (lo+x - 1) i1 (by omega) (by omega);omega
  ·simp only [c,decide_false,Bool.false_eq_true,if_false];refine wpS_bind (B0b P hk I (by omega) (by omega) ?_);dsimp only;have ne:=I.ne (i:=lo+x) (j:=lo+x - 1) (by omega) (by omega) (by omega);rw [if_pos (by rw [decide_eq_true_eq];omega)];exact wpS_pure ⟨rfl,x,rfl,x1,by omega,x3⟩
 ·rintro c st' ⟨rfl,rfl,x3⟩;rw [show max (1+1) nrem=nrem by omega] at x3 ⊢;exact ⟨rfl,nrem,rfl,by omega,Nat.le_refl _,x3⟩
 rintro c st' ⟨rfl,m,rfl,m1,m2,m3⟩;dsimp only;rw [if_neg (by omega),reverseSlice'_eq];refine wpS_bind (wpS_modify ?_);have wk:Wk (arrOf st') (mirror (arrOf st') lo (lo+m) ((lo+m - lo) / 2)) lo (lo+nrem):=Wk.mir (Nat.le_refl _) (by omega) (by omega);have up:SoI rk (mirror (arrOf st') lo (lo+m) ((lo+m - lo) / 2)) lo m:=fun i j i1 i2 i3=>by
  rw [C2d (by omega),C2d (by omega),if_pos (by omega),if_pos (by omega)];exact m3 _ _ (by omega) (by omega) (by omega)
 refine wpS_bind (C0e P (st:=setArr st' (mirror (arrOf st') lo (lo+m) ((lo+m - lo) / 2))) hk (I.perm wk.perm) (by show lo+nrem<=(mirror _ _ _ _).size;rw [mirror_size];exact hn) (by omega) m2 up fun n' a1 a2 a3 a4=>?_);exact wpS_pure (h n' _ (by omega) a2 wk a3)
end
theorem C5e (i:Nat):mergeAt' i=(do
 let t <- get
 let (some (sa,na,pw),some (sb,nb,_)):=((pendingOf t)[i]?,(pendingOf t)[i+1]?)|unsupported "internal:list.sort.pending"
 set (SortSt.mk' (kindOf t) (arrOf t) (((pendingOf t).setIfInBounds i (sa,na+nb,pw)).eraseIdxIfInBounds (i+1)) (gallopOf t) (failedOf t))
 let some k <- A22 false (<- elem' (arrOf t) sb) (arrOf t) sa na 0|return false
 let (sa,na):=(sa+k,na - k)
 if na==0 then return true
 let some nb <- A22 true (<- elem' (arrOf t) (sa+na - 1)) (arrOf t) sb nb (nb - 1)|return false
 if nb==0 then return true
 let x:=(arrOf t).extract sa sb
 let y:=(arrOf t).extract sb (sb+nb)
 let r <- if na<=nb then D0c x y else C9m x y
 modify fun t=>setArr t (r.toList.zipIdx.foldl (fun c (p,j)=>c.setIfInBounds (sa+j) p) (arrOf t))
 return (failedOf (<- get)).isNone):=rfl
theorem B3z (sa:Nat):∀ (l:List Keyed) (n:Nat) (c:Array Keyed),sa+n+l.length<=c.size->((l.zipIdx n).foldl (fun c (q:Keyed × Nat)=>c.setIfInBounds (sa+q.2) q.1) c).toList=c.toList.take (sa+n)++l++c.toList.drop (sa+n+l.length)
 | [],n,c,_=>by simp
 | x::l,n,c,h=>by
  rw [length_cons] at h;rw [List.zipIdx_cons,List.foldl_cons,B3z sa l (n+1) _ (by rw [Array.size_setIfInBounds];omega)];have e:(c.setIfInBounds (sa+n) x).toList=c.toList.set (sa+n) x:=Array.toList_setIfInBounds ..;rw [e,length_cons];have h1:(c.toList.set (sa+n) x).take (sa+(n+1))=c.toList.take (sa+n)++[x]:=by
   rw [show sa+(n+1)=sa+n+1 by omega,List.take_succ,List.take_set_of_le (Nat.le_refl _),List.getElem?_set_self (by rw [Array.length_toList];omega)];rfl
  rw [h1,List.drop_set_of_lt (by omega),show sa+(n+1)+l.length=sa+n+(l.length+1) by omega];simp
section
variable {prog:Program} {w:World} {A:Around} {E:Value->Shared->Prop} {s:Shared} {κ:SortKind} {rk:Keyed->Int} {S:Keyed->Prop}
theorem C8x {st st2:SortSt} {Q:PUnit->SortSt->Prop} (h:Q ⟨⟩ st2):wpS (model prog w) A E s (set st2:StateT SortSt Sem PUnit) Q st:=by
 unfold wpS;rw [StateT.run_set];exact wpAny_pure ⟨rfl,h⟩
theorem B1v {xs:Array Keyed} {lo n:Nat} (hn:lo+n<=xs.size):SoI rk xs lo n->Sr rk ((xs.toList.drop lo).take n):=fun h=>by
 unfold Sr;rw [List.pairwise_iff_getElem];intro i j hi hj hij;rw [length_take,length_drop,Array.length_toList] at hj;have e:∀ t (ht:t < ((xs.toList.drop lo).take n).length),xs[lo+t]?=some ((xs.toList.drop lo).take n)[t]:=fun t ht=>by
  have ht':=ht;rw [length_take] at ht';have q:=List.getElem?_eq_getElem ht;rw [List.getElem?_take,if_pos (by omega),List.getElem?_drop,Array.getElem?_toList] at q;exact q
 have:=h (lo+i) (lo+j) (by omega) (by omega) (by omega);rw [A44 (e i hi),A44 (e j (by rw [length_take,length_drop,Array.length_toList];exact hj))] at this;exact this
theorem D24 (P:A38 prog w A s κ rk S) {st:SortSt} {n1 n2 pw pw2:Nat} {Q:Bool->SortSt->Prop} (hk:kindOf st=κ) (hf0:failedOf st=none) (I:Its rk S (arrOf st)) (hp:pendingOf st=#[(0,n1,pw),(n1,n2,pw2)]) (hn:n1+n2=(arrOf st).size) (h1:1<=n1) (h2:1<=n2) (s1:SoI rk (arrOf st) 0 n1) (s2:SoI rk (arrOf st) n1 n2)
  (h:∀ st',kindOf st'=κ->failedOf st'=none->(pendingOf st').size<=1->(arrOf st').Perm (arrOf st)->Sr rk (arrOf st').toList->Q true st'):wpS (model prog w) A E s (mergeAt' 0) Q st:=by
 rw [C5e];refine wpS_bind (wpS_get ?_);rw [hp];dsimp only;rw [show (#[(0,n1,pw),(n1,n2,pw2)]:Array (Nat × Nat × Nat))[0]?=some (0,n1,pw) from rfl,show (#[(0,n1,pw),(n1,n2,pw2)]:Array (Nat × Nat × Nat))[0+1]?=some (n1,n2,pw2) from rfl];dsimp only;rw [show ((#[(0,n1,pw),(n1,n2,pw2)]:Array (Nat × Nat × Nat)).setIfInBounds 0 (0,n1+n2,pw)).eraseIdxIfInBounds (0+1)=#[(0,n1+n2,pw)] from by
  rw [Array.eraseIdxIfInBounds_eq,dif_pos (by simp)];apply Array.toList_inj.mp;simp]
 refine wpS_bind (C8x ?_);generalize hst:SortSt.mk' (kindOf st) (arrOf st) #[(0,n1+n2,pw)] (gallopOf st) (failedOf st)=sta;have ka:kindOf sta=κ:=by rw [<-hst];exact hk
 have fa:failedOf sta=none:=by rw [<-hst];exact hf0
 have aa:arrOf sta=arrOf st:=by rw [<-hst]
 have pa:(pendingOf sta).size<=1:=by rw [<-hst];exact Nat.le_refl 1
 clear hst;revert hn s1 s2 I h aa;generalize arrOf st=c;intro I hn s1 s2 h aa;obtain ⟨b0,b1,b2,b3⟩:=J7 (a:=c) (i:=n1) (by omega);refine wpS_bind (L6 b1 ?_);have S1:Sr rk (c.toList.take n1):=by have:=B1v (lo:=0) (n:=n1) (by omega) s1;rwa [List.drop_zero] at this
 have S2:Sr rk (c.toList.drop n1):=by
  have:=B1v (lo:=n1) (n:=n2) (by omega) s2
  rwa [List.take_of_length_le (by rw [length_drop,Array.length_toList];omega)] at this
 have kr:∀ {i:Nat} {x:Keyed},c[i]?=some x->Kr rk c i=rk x:=fun e=>A44 e;have G1:Gal rk S false b0 c 0 n1 (gF rk false b0 c 0):=by
  refine ⟨fun t ht=>?_,fun p q hpq hq e=>?_⟩
  ·obtain ⟨x,x1,x2,x3⟩:=J7 (a:=c) (i:=0+t) (by omega);exact ⟨x,x1,I.ok x x3,(L7 x1).symm⟩
  ·obtain ⟨x,x1,_,_⟩:=J7 (a:=c) (i:=0+p) (by omega);obtain ⟨y,y1,_,_⟩:=J7 (a:=c) (i:=0+q) (by omega);have:=s1 (0+p) (0+q) (by omega) (by omega) (by omega);rw [kr x1,kr y1] at this;rw [L7 y1] at e;rw [L7 x1];unfold Be at e ⊢;simp at e ⊢;omega
 refine wpS_bind (A2o P ka (I.ok _ b3) G1 (by omega) fun k hk1 g1 g2=>?_);dsimp only;rw [Nat.zero_add];have lo1:∀ t x,t < k->c[t]?=some x->rk x<=rk b0:=fun t x ht hx=>by
  have:=g1 t ht;rw [L7 (x:=x) (by rw [Nat.zero_add];exact hx)] at this;unfold Be at this;simp at this;exact this
 have hi1:∀ t x,k<=t->t < n1->c[t]?=some x->rk b0 < rk x:=fun t x ht htn hx=>by
  have:=g2 t ht htn;rw [L7 (x:=x) (by rw [Nat.zero_add];exact hx)] at this;unfold Be at this;simp at this;exact this
 have bs:∀ t x,n1<=t->t < c.size->c[t]?=some x->rk b0<=rk x:=fun t x ht htn hx=>by
  have:=s2 n1 t (Nat.le_refl _) ht (by omega);rw [kr b1,kr hx] at this;exact this
 by_cases c1:(n1 - k==0)=true
 ·rw [if_pos c1];refine wpS_pure (h _ ka fa pa (by rw [aa]) ?_);rw [aa,<-take_append_drop n1 c.toList];refine S1.app S2 fun x hx y hy=>?_;obtain ⟨t,t1,t2,t3⟩:=W8 hx;obtain ⟨t',t4,t5⟩:=T4 hy;have:=lo1 t x (by simp at c1;omega) t3;have:=bs _ y (by omega) t4 t5;omega
 rw [if_neg c1];have hkn:k < n1:=by simp at c1;omega
 have e0:k+(n1 - k) - 1=n1 - 1:=by omega
 rw [e0];obtain ⟨al,l1,l2,l3⟩:=J7 (a:=c) (i:=n1 - 1) (by omega);refine wpS_bind (L6 l1 ?_);have G2:Gal rk S true al c n1 n2 (gF rk true al c n1):=by
  refine ⟨fun t ht=>?_,fun p q hpq hq e=>?_⟩
  ·obtain ⟨x,x1,x2,x3⟩:=J7 (a:=c) (i:=n1+t) (by omega);exact ⟨x,x1,I.ok x x3,(L7 x1).symm⟩
  ·obtain ⟨x,x1,_,_⟩:=J7 (a:=c) (i:=n1+p) (by omega);obtain ⟨y,y1,_,_⟩:=J7 (a:=c) (i:=n1+q) (by omega);have:=s2 (n1+p) (n1+q) (by omega) (by omega) (by omega);rw [kr x1,kr y1] at this;rw [L7 y1] at e;rw [L7 x1];unfold Be at e ⊢;simp at e ⊢;omega
 refine wpS_bind (A2o P ka (I.ok _ l3) G2 (by omega) fun m hm g3 g4=>?_);dsimp only;have lo2:∀ t x,t < m->c[n1+t]?=some x->rk x < rk al:=fun t x ht hx=>by
  have:=g3 t ht;rw [L7 hx] at this;unfold Be at this;simpa using this
 have hi2:∀ t x,m<=t->t < n2->c[n1+t]?=some x->rk al<=rk x:=fun t x ht htn hx=>by
  have:=g4 t ht htn;rw [L7 hx] at this;unfold Be at this;simp at this;exact this
 have hal:∀ t x,t < n1->c[t]?=some x->rk x<=rk al:=fun t x ht hx=>by
  have:=s1 t (n1 - 1) (by omega) (by omega) (by omega);rw [kr hx,kr l1] at this;exact this
 have hm1:1<=m:=by
  rcases Nat.lt_or_ge 0 m with z|z
  ·exact z
  ·exfalso;have:=hi2 0 b0 z (by omega) (by rw [Nat.add_zero];exact b1);have:=hi1 (n1 - 1) al (by omega) (by omega) l1;omega
 rw [if_neg (by simp;omega)];have ex:(c.extract k n1).toList=(c.toList.take n1).drop k:=C8h c k n1;have ey:(c.extract n1 (n1+m)).toList=(c.toList.drop n1).take m:=A7d c n1 m;have hx:∀ x∈(c.extract k n1).toList,∃ t,k<=t/\t < n1/\c[t]?=some x:=fun x hx=>by
  rw [ex] at hx;obtain ⟨t,t1,t2,t3,t4⟩:=B2l hx;exact ⟨t,t1,t2,t4⟩
 have hy:∀ y∈(c.extract n1 (n1+m)).toList,∃ t,t < m/\n1+t < c.size/\c[n1+t]?=some y:=fun y hy=>by
  rw [ey] at hy;exact B2n hy
 have zx:(c.extract k n1).size=n1 - k:=by rw [Array.size_extract];omega
 have zy:(c.extract n1 (n1+m)).size=m:=by rw [Array.size_extract];omega
 have y0:(c.extract n1 (n1+m))[0]?=some b0:=by rw [Array.getElem?_extract,if_pos (by omega),Nat.add_zero];exact b1
 have xl:(c.extract k n1)[(c.extract k n1).size - 1]?=some al:=by rw [zx,Array.getElem?_extract,if_pos (by omega),show k+(n1 - k - 1)=n1 - 1 by omega];exact l1
 have sx:Sr rk (c.extract k n1).toList:=by rw [ex];exact (S1.cut k).2.1
 have sy:Sr rk (c.extract n1 (n1+m)).toList:=by rw [ey];exact (S2.cut m).1
 have okx:∀ x∈(c.extract k n1).toList,S x:=fun x q=>by
  obtain ⟨t,_,_,t3⟩:=hx x q;exact I.ok x (by rw [<-Array.getElem?_toList] at t3;exact List.mem_iff_getElem?.mpr ⟨_,t3⟩)
 have oky:∀ y∈(c.extract n1 (n1+m)).toList,S y:=fun y q=>by
  obtain ⟨t,_,_,t3⟩:=hy y q;exact I.ok y (by rw [<-Array.getElem?_toList] at t3;exact List.mem_iff_getElem?.mpr ⟨_,t3⟩)
 have fin:∀ r st',SaM sta st'->Rs rk (c.extract k n1) (c.extract n1 (n1+m)) r->wpS (model prog w) A E s (do
   modify fun t=>setArr t (r.toList.zipIdx.foldl (fun c (q:Keyed × Nat)=>c.setIfInBounds (k+q.2) q.1) (arrOf t))
   let t <- get
   pure (failedOf t).isNone) Q st':=by
  intro r st' sm R;refine wpS_bind (wpS_modify (wpS_bind (wpS_get (wpS_pure ?_))));have rl:r.toList.length=n1 - k+m:=by
   rw [R.1.length_eq,length_append,Array.length_toList,Array.length_toList,zx,zy]
  have e2:arrOf st'=c:=sm.2.1.trans aa;have e3:(r.toList.zipIdx.foldl (fun c (q:Keyed × Nat)=>c.setIfInBounds (k+q.2) q.1) c).toList=c.toList.take k++r.toList++c.toList.drop (n1+m):=by
   have:=B3z k r.toList 0 c (by rw [rl];omega);rw [Nat.add_zero,rl,show k+(n1 - k+m)=n1+m by omega] at this;exact this
  have e4:c.toList=c.toList.take k++((c.extract k n1).toList++(c.extract n1 (n1+m)).toList)++c.toList.drop (n1+m):=by
   rw [ex,ey,append_assoc,append_assoc,<-List.drop_drop,take_append_drop,<-append_assoc];have:c.toList.take k++(c.toList.take n1).drop k=c.toList.take n1:=by
    have q:=take_append_drop k (c.toList.take n1)
    rwa [List.take_take,Nat.min_eq_left (by omega)] at q
   rw [this,take_append_drop]
  have ft:failedOf st'=none:=sm.2.2.2.trans fa;show Q (failedOf st').isNone _;rw [ft];refine h _ (sm.1.trans ka) ft (by show (pendingOf st').size<=1;rw [sm.2.2.1];exact pa) ?_ ?_
  ·rw [Array.perm_iff_toList_perm];show ((r.toList.zipIdx.foldl (fun c (q:Keyed × Nat)=>c.setIfInBounds (k+q.2) q.1) (arrOf st')).toList).Perm c.toList;rw [e2,e3];refine List.Perm.trans ?_ (by rw [<-e4]:(c.toList.take k++((c.extract k n1).toList++(c.extract n1 (n1+m)).toList)++c.toList.drop (n1+m)).Perm c.toList);exact List.Perm.append_right _ (List.Perm.append_left _ R.1)
  ·show Sr rk (r.toList.zipIdx.foldl (fun c (q:Keyed × Nat)=>c.setIfInBounds (k+q.2) q.1) (arrOf st')).toList;rw [e2,e3];have rm:∀ z∈r.toList,(∃ t,k<=t/\t < n1/\c[t]?=some z)\/∃ t,t < m/\n1+t < c.size/\c[n1+t]?=some z:=fun z hz=>by
    rcases mem_append.mp (R.1.mem_iff.mp hz) with q|q
    ·exact .inl (hx z q)
    ·exact .inr (hy z q)
   have tp:∀ z∈c.toList.drop (n1+m),rk al<=rk z/\rk b0<=rk z:=fun z hz=>by
    obtain ⟨t,t1,t2⟩:=T4 hz;exact ⟨hi2 (m+t) z (by omega) (by omega) (by rw [<-Nat.add_assoc];exact t2),bs _ z (by omega) t1 t2⟩
   have bt:∀ z∈c.toList.take k,rk z<=rk b0:=fun z hz=>by
    obtain ⟨t,t1,t2,t3⟩:=W8 hz;exact lo1 t z t1 t3
   refine Sr.app (Sr.app ?_ R.2 ?_) ?_ (Lq.app ?_ ?_)
   ·have q:=(S1.cut k).1
    rwa [List.take_take,Nat.min_eq_left (by omega)] at q
   ·intro x qx y qy;have:=bt x qx;rcases rm y qy with ⟨t,t1,t2,t3⟩|⟨t,t1,t2,t3⟩
    ·have:=hi1 t y t1 t2 t3;omega
    ·have:=bs _ y (by omega) t2 t3;omega
   ·have q:=(S2.cut m).2.1
    rwa [List.drop_drop] at q
   ·intro x qx y qy;have:=bt x qx;have:=(tp y qy).2;omega
   ·intro x qx y qy;have:=(tp y qy).1;rcases rm x qx with ⟨t,t1,t2,t3⟩|⟨t,t1,t2,t3⟩
    ·have:=hal t x t2 t3;omega
    ·have:=lo2 t x t1 t3;omega
 by_cases cc:n1 - k<=m
 ·rw [if_pos cc];refine wpS_bind (D1q P ka sx sy okx oky (by omega) (by omega) (fun x y q1 q2=>?_) (fun x qx y qy=>?_) fin)
  ·rw [y0] at q1;cases q1;obtain ⟨t,t1,t2,t3⟩:=hx y (by rw [<-Array.getElem?_toList] at q2;exact List.mem_iff_getElem?.mpr ⟨_,q2⟩);exact Int.le_of_lt (hi1 t y t1 t2 t3)
  ·rw [xl] at qy;cases qy;obtain ⟨t,t1,t2,t3⟩:=hy x qx;exact lo2 t x t1 t3
 ·rw [if_neg cc];refine wpS_bind (C8p P ka sx sy okx oky (by omega) (by omega) (fun x y q1 q2=>?_) (fun x qx y qy=>?_) fin)
  ·rw [y0] at q1;cases q1;obtain ⟨t,t1,t2,t3⟩:=hx y q2;exact hi1 t y t1 t2 t3
  ·rw [xl] at qy;cases qy;obtain ⟨t,t1,t2,t3⟩:=hy x qx;exact Int.le_of_lt (lo2 t x t1 t3)
end
theorem D5u {n:Nat} (h:1<=n) (h':n < 128):minRun' n n 0<=n/\n<=2*minRun' n n 0/\1<=minRun' n n 0:=by
 obtain ⟨f,rfl⟩:∃ f,n=f+1:=⟨n - 1,by omega⟩;rw [minRun'_succ];by_cases c:f+1 < 64
 ·rw [if_pos c];omega
 ·rw [if_neg c];obtain ⟨g,rfl⟩:∃ g,f=g+1:=⟨f - 1,by omega⟩;rw [minRun'_succ,if_pos (by omega)];omega
section
variable {prog:Program} {w:World} {A:Around} {E:Value->Shared->Prop} {s:Shared} {κ:SortKind} {rk:Keyed->Int} {S:Keyed->Prop}
inductive Rn (rk:Keyed->Int) (κ:SortKind) (c:Array Keyed) (mr:Nat):Nat->SortSt->Prop
 | none {st:SortSt}:kindOf st=κ->failedOf st=none->pendingOf st=#[]->arrOf st=c->Rn rk κ c mr 0 st
 | one {st:SortSt} {n1:Nat}:kindOf st=κ->failedOf st=none->pendingOf st=#[(0,n1,0)]->(arrOf st).Perm c->SoI rk (arrOf st) 0 n1->mr<=n1->1<=n1->n1<=c.size->Rn rk κ c mr n1 st
 | two {st:SortSt} {n1 pw:Nat}:kindOf st=κ->failedOf st=none->pendingOf st=#[(0,n1,pw),(n1,c.size - n1,0)]->(arrOf st).Perm c->SoI rk (arrOf st) 0 n1->SoI rk (arrOf st) n1 (c.size - n1)->1<=n1->n1 < c.size->Rn rk κ c mr c.size st
theorem C5a (P:A38 prog w A s κ rk S) {st:SortSt} {Q:Unit->SortSt->Prop} (hk:kindOf st=κ) (hf:failedOf st=none) (hp:pendingOf st=#[]) (I:Its rk S (arrOf st)) (h1:1<=(arrOf st).size) (h128:(arrOf st).size < 128)
  (h:∀ st',failedOf st'=none->(arrOf st').Perm (arrOf st)->Sr rk (arrOf st').toList->Q () st'):wpS (model prog w) A E s sortRuns' Q st:=by
 rw [sortRuns'_eq];refine wpS_bind (wpS_get ?_);dsimp only;generalize hc:arrOf st=c at I h1 h128 h;obtain ⟨m1,m2,m3⟩:=D5u h1 h128;revert m1 m2 m3;generalize minRun' c.size c.size 0=mr;intro m1 m2 m3;refine wpS_bind (wpS_mono (wpS_forRange (I:=fun x z st'=>z.1=none/\Rn rk κ c mr z.2 st'/\(x=0/\z.2=0\/1<=x/\1<=z.2)/\(2<=x->z.2=c.size)) (Q:=fun z st'=>z.1=none/\∃ lo,lo=c.size/\Rn rk κ c mr lo st') ?_ ?_ ⟨rfl,.none hk hf hp hc,.inl ⟨rfl,rfl⟩,fun z=>by omega⟩) ?_)
 ·rintro x ⟨z1,lo⟩ st' _ hx ⟨rfl,R,x1,x2⟩;dsimp only at R x1 x2 ⊢;by_cases cl:lo ≥ c.size
  ·rw [if_pos cl];have:lo=c.size:=by
    cases R with
    | none=>omega
    | one _ _ _ _ _ _ _ e=>omega
    | two=>rfl
   exact wpS_pure ⟨rfl,lo,this,R⟩
  rw [if_neg cl];cases R with
  | two=>exact absurd (Nat.le_refl _) cl
  | none a1 a2 a3 a4 =>
   have Ia:Its rk S (arrOf st'):=by rw [a4];exact I
   have hx0:x=0:=by rcases x1 with z|z<;>omega
   refine wpS_bind (C0y P a1 Ia (by rw [a4];omega) (by omega) fun n ys n1 n2 w1 w2=>?_);dsimp only;rw [Nat.sub_zero] at n2;have put:∀ (N:Nat) (zs:Array Keyed),mr<=N->1<=N->N<=c.size->zs.Perm c->SoI rk zs 0 N->Rn rk κ c mr (0+N) (setPending (setArr st' zs) ((pendingOf (setArr st' zs)).push (0,N,0))):=fun N zs b1 b2 b3 b4 b5=>by
    rw [Nat.zero_add];refine .one a1 a2 ?_ b4 b5 b1 b2 b3;show (pendingOf st').push (0,N,0)=_;rw [a3];rfl
   have bk:∀ zs:Array Keyed,(pendingOf (setArr st' zs)).back?=none:=fun zs=>by
    show (pendingOf st').back?=none;rw [a3];rfl
   by_cases cm:n < mr
   ·rw [if_pos cm];refine wpS_bind (wpS_lift (wpAny_rule ⟨rfl,?_⟩));have mn:min (c.size - 0) mr=mr:=by omega
    rw [mn];have zy:ys.size=c.size:=by rw [w1.perm.size_eq,a4]
    refine wpS_bind (C18 P (st:=setArr st' ys) a1 (Ia.perm w1.perm) (show 0+mr<=ys.size by omega) (by omega) w2 fun zs w3 w4=>?_);rw [if_neg (by simp)];refine wpS_bind (wpS_get ?_);rw [show (pendingOf (setArr (setArr st' ys) zs)).back?=none from bk zs];dsimp only;have p1:zs.Perm c:=(w3.perm.trans w1.perm).trans (by rw [a4]);exact wpS_bind (wpS_modify (wpS_pure ⟨rfl,put mr zs (Nat.le_refl _) m3 m1 p1 w4,.inr ⟨by omega,by dsimp only;omega⟩,fun z=>by omega⟩))
   ·rw [if_neg cm];refine wpS_bind (wpS_get ?_);rw [bk ys];dsimp only;have p1:ys.Perm c:=w1.perm.trans (by rw [a4]);exact wpS_bind (wpS_modify (wpS_pure ⟨rfl,put n ys (by omega) n1 n2 p1 w2,.inr ⟨by omega,by dsimp only;omega⟩,fun z=>by omega⟩))
  | one a1 a2 a3 a4 a5 a6 a7 a8 =>
   rename_i n1;have Ia:Its rk S (arrOf st'):=I.perm a4;have za:(arrOf st').size=c.size:=a4.size_eq;refine wpS_bind (C0y P a1 Ia (by omega) (by omega) fun n ys b1 b2 w1 w2=>?_);dsimp only;have keep1:∀ zs:Array Keyed,Wk (arrOf st') zs lo (lo+(c.size - lo))->SoI rk zs 0 lo:=fun zs wk i j i1 i2 i3=>by
    rw [A47 (ys:=arrOf st') (j:=i) (wk.keep i (.inl (by omega))),A47 (xs:=zs) (ys:=arrOf st') (j:=j) (wk.keep j (.inl (by omega)))];exact a5 i j i1 i2 i3
   have put:∀ (zs:Array Keyed) (pw:Nat),Wk (arrOf st') zs lo (lo+(c.size - lo))->SoI rk zs lo (c.size - lo)->Rn rk κ c mr (lo+(c.size - lo)) (setPending (setPending (setArr st' zs) #[(0,lo,pw)]) (#[(0,lo,pw)].push (lo,c.size - lo,0))):=fun zs pw wk so=>by
    rw [show lo+(c.size - lo)=c.size by omega];exact .two a1 a2 rfl (wk.perm.trans a4) (keep1 zs wk) so a7 (by omega)
   by_cases cm:n < mr
   ·rw [if_pos cm];refine wpS_bind (wpS_lift (wpAny_rule ⟨rfl,?_⟩));have mn:min (c.size - lo) mr=c.size - lo:=by omega
    have zy:ys.size=c.size:=by rw [w1.perm.size_eq,za]
    rw [mn];refine wpS_bind (C18 P (st:=setArr st' ys) a1 (Ia.perm w1.perm) (show lo+(c.size - lo)<=ys.size by omega) b2 w2 fun zs w3 w4=>?_);rw [if_neg (by simp)];refine wpS_bind (wpS_get ?_);rw [show pendingOf (setArr (setArr st' ys) zs)=#[(0,lo,0)] from a3,show (#[(0,lo,0)]:Array (Nat × Nat × Nat)).back?=some (0,lo,0) from rfl];dsimp only;refine wpS_bind (wpS_mono (wpS_forRange (I:=fun _ z st2=>st2=(setArr (setArr st' ys) zs)/\z=(none,())) (Q:=fun z st2=>st2=(setArr (setArr st' ys) zs)/\z=(none,())) ?_ (fun _ _ q=>q) ⟨rfl,rfl⟩) ?_)
    ·rintro y z st2 _ _ ⟨rfl,rfl⟩;refine wpS_bind (wpS_get ?_);rw [show pendingOf (setArr (setArr st' ys) zs)=#[(0,lo,0)] from a3,if_neg (by show ¬ 1 > 1;omega)];exact wpS_pure ⟨rfl,rfl⟩
    ·rintro z st2 ⟨rfl,rfl⟩;dsimp only;refine wpS_bind (wpS_modify (wpS_bind (wpS_modify (wpS_pure ?_))));have em:∀ f:Nat × Nat × Nat->Nat × Nat × Nat,(pendingOf (setArr (setArr st' ys) zs)).modify ((pendingOf (setArr (setArr st' ys) zs)).size - 1) f=#[f (0,lo,0)]:=fun f=>by
      rw [show pendingOf (setArr (setArr st' ys) zs)=#[(0,lo,0)] from a3];rfl
     rw [em];exact ⟨rfl,put zs _ (w1.trans w3) w4,.inr ⟨by omega,by dsimp only;omega⟩,fun z=>by dsimp only;omega⟩
   ·rw [if_neg cm];obtain rfl:n=c.size - lo:=by omega
    refine wpS_bind (wpS_get ?_);rw [show pendingOf (setArr st' ys)=#[(0,lo,0)] from a3,show (#[(0,lo,0)]:Array (Nat × Nat × Nat)).back?=some (0,lo,0) from rfl];dsimp only;refine wpS_bind (wpS_mono (wpS_forRange (I:=fun _ z st2=>st2=(setArr st' ys)/\z=(none,())) (Q:=fun z st2=>st2=(setArr st' ys)/\z=(none,())) ?_ (fun _ _ q=>q) ⟨rfl,rfl⟩) ?_)
    ·rintro y z st2 _ _ ⟨rfl,rfl⟩;refine wpS_bind (wpS_get ?_);rw [show pendingOf (setArr st' ys)=#[(0,lo,0)] from a3,if_neg (by show ¬ 1 > 1;omega)];exact wpS_pure ⟨rfl,rfl⟩
    ·rintro z st2 ⟨rfl,rfl⟩;dsimp only;refine wpS_bind (wpS_modify (wpS_bind (wpS_modify (wpS_pure ?_))));have em:∀ f:Nat × Nat × Nat->Nat × Nat × Nat,(pendingOf (setArr st' ys)).modify ((pendingOf (setArr st' ys)).size - 1) f=#[f (0,lo,0)]:=fun f=>by
      rw [show pendingOf (setArr st' ys)=#[(0,lo,0)] from a3];rfl
     rw [em];exact ⟨rfl,put ys _ w1 w2,.inr ⟨by omega,by dsimp only;omega⟩,fun z=>by dsimp only;omega⟩
 ·rintro ⟨z1,lo⟩ st' ⟨rfl,R,x1,x2⟩;dsimp only at R x1 x2 ⊢;rw [Nat.zero_max] at x1 x2;have:lo=c.size:=by
   cases R with
   | none=>omega
   | one _ _ _ _ _ _ _ e =>
    rcases Nat.lt_or_ge c.size 2 with z|z
    ·omega
    ·exact x2 z
   | two=>rfl
  exact ⟨rfl,lo,this,R⟩
 rintro ⟨z1,lo'⟩ st' ⟨q1,lo,el,R⟩;dsimp only at q1 ⊢;subst q1;dsimp only;refine wpS_bind (wpS_mono (wpS_forRange (I:=fun x z st2=>z=(none,())/\((st2=st'/\x=0)\/(failedOf st2=none/\(pendingOf st2).size<=1/\(arrOf st2).Perm c/\Sr rk (arrOf st2).toList))) (Q:=fun z st2=>z=(none,())/\failedOf st2=none/\(arrOf st2).Perm c/\Sr rk (arrOf st2).toList) ?_ ?_ ⟨rfl,.inl ⟨rfl,rfl⟩⟩) ?_)
 ·rintro x z st2 _ hx ⟨rfl,q⟩;refine wpS_bind (wpS_get ?_);rcases q with ⟨rfl,rfl⟩|⟨q1,q2,q3,q4⟩
  ·cases R with
   | none=>omega
   | one a1 a2 a3 a4 a5 a6 a7 a8 =>
    rw [a3,if_pos (by show 1<=1;omega)];have za:=a4.size_eq;refine wpS_pure ⟨rfl,a2,a4,?_⟩;rw [el] at a5;have:=B1v (lo:=0) (n:=c.size) (by omega) a5
    rwa [List.drop_zero,<-za,<-Array.length_toList,take_length] at this
   | two a1 a2 a3 a4 a5 a6 a7 a8 =>
    rename_i n1 pw;rw [a3,if_neg (by show ¬ 2<=1;omega)];have za:=a4.size_eq;show wpS (model prog w) A E s (do let q <- mergeAt' 0;if (!q)=true then pure (ForInStep.done (some (),())) else pure (ForInStep.yield (none,()))) _ _;refine wpS_bind (D24 P a1 a2 (I.perm a4) a3 (by omega) a7 (by omega) a5 a6 fun st3 c1 c2 c3 c4 c5=>?_);rw [if_neg (by simp)];exact wpS_pure ⟨rfl,.inr ⟨c2,c3,c4.trans a4,c5⟩⟩
  ·rw [if_pos q2];exact wpS_pure ⟨rfl,q1,q3,q4⟩
 ·rintro z st2 ⟨rfl,q⟩;rcases q with ⟨_,q⟩|⟨q1,q2,q3,q4⟩
  ·rw [Nat.zero_max] at q;omega
  ·exact ⟨rfl,q1,q3,q4⟩
 ·rintro z st2 ⟨rfl,q1,q3,q4⟩;exact wpS_pure (h _ q1 q3 q4)
end
open PySem.Spec PySem.W PySem.Calls
section
variable {prog:Program} {w:World} {A:Around} {E:Value->Shared->Prop} {s:Shared} {vs:List Value} {rk:Keyed->Int} {S:Keyed->Prop}
structure C4i (prog:Program) (w:World) (A:Around) (vs:List Value) (rk:Keyed->Int) (S:Keyed->Prop) (s:Shared):Prop where
 kind:2<=vs.length->∀ Q:SortKind->Shared->Prop,Q oneType' s->wpAny (model prog w) A (keyKind' vs.toArray) Q (fun _ _=>False) s
 pure:A38 prog w A s oneType' rk S
theorem Y6 (vs:List Value):(vs.toArray.zip vs.toArray).toList=vs.map fun v=>(v,v):=by
 rw [Array.toList_zip];show vs.zip vs=_
 induction vs with
 | nil=>rfl
 | cons v r ih=>rw [List.zip_cons_cons,ih];rfl
def UpV (rk:Keyed->Int) (out:List Value):Prop:=out.Pairwise fun x y=>rk (x,x)<=rk (y,y)
theorem A9c {a:Addr} {n:Nat} {P:PySem.Fin->Shared->Prop} (ho:s.heap.get? a=some (seqObj "list" vs.toArray n)) (h128:vs.length < 128) (I:Its rk S (vs.toArray.zip vs.toArray))
  (hA:∀ h',(∀ b o,b≠a->s.heap.get? b=some o->h'.get? b=some o)->C4i prog w A vs rk S { s with heap:=h' })
  (h:∀ out:List Value,out.Perm vs->UpV rk out->P (.done (.ret .none)) { s with heap:=sortedHeap s.heap a vs out.toArray }):wpAny (model prog w) A (Builtin.«list.sort» ⟨[.ref a],[]⟩) P E s:=by
 have ha:a < s.heap.objs.size:=Heap.lt_size ho;obtain ⟨c1,oc⟩:∃ c,(s.heap.update a (Obj.mapSeq fun _=>(#[]:Array Value))).get? a=some (seqObj "list" #[] c):=⟨_,get?_update_seq ho fun _=>#[]⟩;have keep:∀ b o,b≠a->s.heap.get? b=some o->(((s.heap.update a (Obj.mapSeq fun _=>(#[]:Array Value))).push (seqObj "tuple" vs.toArray 0)).push (seqObj "list" #[] 0)).get? b=some o:=fun b o hb q=>by
  have hlt:b < s.heap.objs.size:=Heap.lt_size q;refine Heap.get?_push_of_some _ (Heap.get?_push_of_some _ ?_);rw [Heap.get?_update_ne _ _ _ _ hb];exact q
 have o6:=Heap.get?_push_of_some (seqObj "list" #[] 0) (Heap.get?_push_of_some (seqObj "tuple" vs.toArray 0) oc);have ask:=hA _ keep;rw [list_sort_plain];refine wpAny_bind (listItems_at ho rfl ?_);refine wpAny_bind (listUpdate_at ho rfl ?_ (by rw [size_toArray,sizeLine_eq];omega) (Nat.zero_le _));refine wpAny_bind (seqEpoch_at oc rfl ?_);refine wpAny_bind (wpAny_newTuple ?_ (by show vs.length<=_;rw [sizeLine_eq];omega));refine wpAny_bind (wpAny_newList ?_ (Nat.zero_le _));refine wpAny_holding ?_;show wpAny (model prog w) A _ P E { s with heap:=((s.heap.update a (Obj.mapSeq fun _=>(#[]:Array Value))).push (seqObj "tuple" vs.toArray 0)).push (seqObj "list" #[] 0) };dsimp only;have hsz:vs.toArray.size=vs.length:=by simp
 by_cases h2:vs.length < 2
 ·have e2:vs.toArray.size < 2:=by rw [hsz];exact h2
  have eo:((vs.toArray.zip vs.toArray).map (·.2))=vs.toArray:=by
   apply Array.toList_inj.mp;rw [Array.toList_map,Y6,map_map];exact List.map_id _
  rw [if_pos e2,if_pos e2];refine wpAny_bind (wpAny_pure ?_);rw [StateT.run_pure];refine wpAny_bind (wpAny_pure ?_);dsimp only;show wpAny (model prog w) A _ P E _;refine wpAny_bind (seqEpoch_at o6 rfl ?_);have ea:(arrOf (SortSt.mk' general' (vs.toArray.zip vs.toArray) #[] 7 none)).map (·.2)=vs.toArray:=eo;rw [ea];refine wpAny_bind (listUpdate_at o6 rfl ?_ (Nat.zero_le _) (by rw [hsz,sizeLine_eq];omega));simp only [bne_self_eq_false,Bool.false_eq_true,if_false];refine wpAny_pure (h vs (.refl _) ?_)
  match vs,h2 with
  | [],_=>exact .nil
  | [x],_=>exact List.pairwise_singleton _ _
 ·have e2:¬ vs.toArray.size < 2:=by rw [hsz];exact h2
  rw [if_neg e2,if_neg e2];refine wpAny_bind (wpAny_mono (ask.kind (by omega) (fun κ' s'=>κ'=oneType'/\s'=_) ⟨rfl,rfl⟩) (fun κ' s' hk=>?_) fun _ _ x=>x.elim);obtain ⟨rfl,rfl⟩:=hk;have zs:(vs.toArray.zip vs.toArray).size=vs.length:=by rw [<-Array.length_toList,Y6,length_map]
  have run:=C5a (E:=E) (Q:=fun _ st'=>failedOf st'=none/\((arrOf st').map (·.2)).toList.Perm vs/\UpV rk ((arrOf st').map (·.2)).toList) ask.pure (st:=SortSt.mk' oneType' (vs.toArray.zip vs.toArray) #[] 7 none) rfl rfl rfl I (show 1<=(vs.toArray.zip vs.toArray).size by omega) (show (vs.toArray.zip vs.toArray).size < 128 by omega) fun st' f1 f2 f3=>by
   have p:=Array.perm_iff_toList_perm.mp f2;have p:(arrOf st').toList.Perm (vs.map fun v=>(v,v)):=by rw [<-Y6];exact p
   have dup:∀ q∈(arrOf st').toList,q=(q.2,q.2):=fun q hq=>by
    obtain ⟨v,_,rfl⟩:=mem_map.mp (p.mem_iff.mp hq);rfl
   refine ⟨f1,?_,?_⟩
   ·rw [Array.toList_map];have:=p.map (·.2)
    rwa [map_map,show ((fun q:Keyed=>q.2) ∘ fun v:Value=>(v,v))=id from rfl,List.map_id] at this
   ·rw [Array.toList_map];unfold UpV;rw [List.pairwise_map];refine List.Pairwise.imp_of_mem (fun {x y} hx hy hxy=>?_) f3;rw [<-dup x hx,<-dup y hy];exact hxy
  refine wpAny_bind (wpAny_mono run ?_ fun _ _ e=>e);rintro ⟨⟨⟩,st'⟩ s' ⟨rfl,b1,b2,b3⟩;dsimp only at b1 b2 b3 ⊢;refine wpAny_bind (seqEpoch_at o6 rfl ?_);refine wpAny_bind (listUpdate_at o6 rfl ?_ (Nat.zero_le _) (by rw [<-Array.length_toList,b2.length_eq,sizeLine_eq];omega));rw [b1];simp only [bne_self_eq_false,Bool.false_eq_true,if_false];have:=h ((arrOf st').map (·.2)).toList b2 b3;rw [Array.toArray_toList] at this;exact wpAny_pure this
theorem C4y {l d:Addr} {T:String} {n:Nat} {P:Nat->Value->Prop} {OK:Heap->Prop} {Q:Value->Shared->Prop} (K:KdlSrc prog w T l d n P OK) (hh:A.handled=none) (hok:OK s.heap) (hn:n < 128) (hv:∀ ws:List Value,ItemsOf P ws.toArray n->ws=vs) (h128:vs.length < 128) (I:Its rk S (vs.toArray.zip vs.toArray))
  (hA:∀ h' tk,C4i prog w A.in1.in1 vs rk S { s with heap:=h',toks:=tk })
  (h:∀ (out:List Value) h' tk L e,out.Perm vs->UpV rk out->(∀ b o,s.heap.get? b=some o->h'.get? b=some o)->s.heap.objs.size<=L->h'.get? L=some (seqObj "list" out.toArray e)->Q (.ref L) { s with heap:=h',toks:=tk }):wpAny (model prog w) A (call (.builtin "sorted") [.ref l]) Q E s:=by
 refine Calls.call_function_entry kind_sorted plain_sorted entry_sorted (args_sorted1 _) ?_;unfold Builtin.«sorted»;refine wpAny_bind (m:=checkCount "sorted" 1 1 _) (wpAny_pure ?_);refine wpAny_bind (A90 (A:=A.in1) K hh hok (by rw [sizeLine_eq];omega) fun h1 tk ws k1 sz hi=>?_);have e:=hv ws hi;subst e;refine wpAny_bind (wpAny_newList ?_ (by rw [sizeLine_eq];omega));have hoL:(h1.push (seqObj "list" ws.toArray 0)).get? h1.objs.size=some (seqObj "list" ws.toArray 0):=Heap.get?_push_size _ rfl;have keep:∀ b o,s.heap.get? b=some o->(h1.push (seqObj "list" ws.toArray 0)).get? b=some o:=fun b o q=>Heap.get?_push_of_some _ (k1 b o q);have lt1:∀ b o,s.heap.get? b=some o->b≠h1.objs.size:=fun b o q=>Nat.ne_of_lt (Heap.lt_size (k1 b o q));refine wpAny_bind (wpAny_holding (wpAny_call_entry slot_list_sort ⟨_,hoL,rfl⟩ entry_list_sort ?body (args_list_sort _)))
 case body =>
  refine A9c (rk:=rk) (S:=S) (s:={ s with heap:=h1.push (seqObj "list" ws.toArray 0),toks:=tk }) hoL h128 I (fun h' k=>hA h' tk) fun out p1 p2=>?_;refine ⟨_,rfl,wpAny_pure ⟨_,rfl,?_⟩⟩;obtain ⟨e,he⟩:=A0o (vs:=ws) (out:=out.toArray) hoL;exact h out _ tk h1.objs.size e p1 p2 (fun b o q=>Y9 (lt1 b o q) (keep b o q)) sz he
theorem B8d {l:Addr} {Q:Value->Shared->Prop} (hl:s.heap.IsList l vs.toArray) (h128:vs.length < 128) (I:Its rk S (vs.toArray.zip vs.toArray))
  (hA:∀ h',C4i prog w A.in1.in1 vs rk S { s with heap:=h' })
  (h:∀ (out:List Value) h' L e,out.Perm vs->UpV rk out->(∀ b o,s.heap.get? b=some o->h'.get? b=some o)->s.heap.objs.size<=L->h'.get? L=some (seqObj "list" out.toArray e)->Q (.ref L) { s with heap:=h' }):wpAny (model prog w) A (call (.builtin "sorted") [.ref l]) Q E s:=by
 refine Calls.call_function_entry kind_sorted plain_sorted entry_sorted (args_sorted1 _) ?_;unfold Builtin.«sorted»;refine wpAny_bind (m:=checkCount "sorted" 1 1 _) (wpAny_pure ?_);refine wpAny_bind (collect_list hl ?_ (by rw [sizeLine_eq];omega));refine wpAny_bind (wpAny_newList ?_ (by rw [sizeLine_eq];omega));have hsz:((s.heap.push (seqObj "list" #[] 0)).update s.heap.objs.size (Obj.mapSeq (·++vs.toArray))).objs.size=s.heap.objs.size+1:=by
  rw [Heap.size_update,size_push']
 have hoL:(((s.heap.push (seqObj "list" #[] 0)).update s.heap.objs.size (Obj.mapSeq (·++vs.toArray))).push (seqObj "list" vs.toArray 0)).get? (s.heap.objs.size+1)=some (seqObj "list" vs.toArray 0):=by
  rw [<-hsz];exact Heap.get?_push_size _ rfl
 have keep:∀ b o,s.heap.get? b=some o->(((s.heap.push (seqObj "list" #[] 0)).update s.heap.objs.size (Obj.mapSeq (·++vs.toArray))).push (seqObj "list" vs.toArray 0)).get? b=some o:=fun b o q=>by
  have hlt:b < s.heap.objs.size:=Heap.lt_size q;refine Heap.get?_push_of_some _ ?_;rw [Heap.get?_update_ne _ _ _ _ (Nat.ne_of_lt hlt)];exact Heap.get?_push_of_some _ q
 show wpAny _ _ _ _ _ { s with heap:=((s.heap.push (seqObj "list" #[] 0)).update s.heap.objs.size (Obj.mapSeq (·++vs.toArray))).push (seqObj "list" vs.toArray 0) };rw [hsz];refine wpAny_bind (wpAny_holding (wpAny_call_entry slot_list_sort ⟨_,hoL,rfl⟩ entry_list_sort ?body (args_list_sort _)))
 case body =>
  refine A9c (rk:=rk) (S:=S) (s:={ s with heap:=((s.heap.push (seqObj "list" #[] 0)).update s.heap.objs.size (Obj.mapSeq (·++vs.toArray))).push (seqObj "list" vs.toArray 0) }) hoL h128 I (fun h' k=>hA h') fun out p1 p2=>?_;refine ⟨_,rfl,wpAny_pure ⟨_,rfl,?_⟩⟩;obtain ⟨e,he⟩:=A0o (vs:=vs) (out:=out.toArray) hoL;exact h out _ _ e p1 p2 (fun b o q=>Y9 (Nat.ne_of_lt (Nat.lt_succ_of_lt (Heap.lt_size q))) (keep b o q)) (Nat.le_succ _) he
end
def O3 (a b:Str):Prop:=a.cps.toList < b.cps.toList
instance (a b:Str):Decidable (O3 a b):=inferInstanceAs (Decidable (a.cps.toList < b.cps.toList))
theorem O3.trans {a b c:Str} (h:O3 a b) (g:O3 b c):O3 a c:=List.lt_trans h g
theorem O3.irr (a:Str):¬ O3 a a:=List.lt_irrefl _
theorem O3.tri {a b:Str} (h:¬ O3 a b) (ne:a≠b):O3 b a:=by
 rcases List.le_iff_lt_or_eq.mp (List.not_lt.mp h) with z|z
 ·exact z
 ·exact absurd (Str.ext' (Array.toList_inj.mp z)).symm ne
def txt:Value->Str
 | .str x _=>x
 | _=>⟨#[]⟩
def rkS (ts:List Str) (p:Keyed):Int:=(ts.countP fun y=>decide (O3 y (txt p.1)):Nat)
def SS (ts:List Str) (p:Keyed):Prop:=∃ x t,p.1=.str x t/\x∈ts
theorem A4l {ts:List Str} {x y:Str} (hx:x∈ts) (h:O3 x y):(ts.countP fun z=>decide (O3 z x)) < ts.countP fun z=>decide (O3 z y):=by
 induction ts with
 | nil=>cases hx
 | cons t ts ih =>
  have le:(ts.countP fun z=>decide (O3 z x))<=ts.countP fun z=>decide (O3 z y):=List.countP_mono_left fun z _ q=>by
   simp only [decide_eq_true_eq] at q ⊢;exact q.trans h
  rw [List.countP_cons,List.countP_cons];rcases mem_cons.mp hx with rfl|hx
  ·rw [if_neg (by simp [O3.irr]),if_pos (by simpa using h)];omega
  ·have:=ih hx;split
   ·rename_i q;rw [if_pos (by simp only [decide_eq_true_eq] at q ⊢;exact q.trans h)];omega
   ·split<;>omega
theorem D2p {ts:List Str} {p q:Keyed} (hp:SS ts p) (hq:SS ts q):decide (rkS ts p < rkS ts q)=decide (O3 (txt p.1) (txt q.1)):=by
 obtain ⟨x,t,e1,m1⟩:=hp;obtain ⟨y,u,e2,m2⟩:=hq;unfold rkS;rw [e1,e2];show decide (((ts.countP fun z=>decide (O3 z x):Nat):Int) < (ts.countP fun z=>decide (O3 z y):Nat))=decide (O3 x y);by_cases c:O3 x y
 ·have:=A4l m1 c;simp only [c,decide_true,decide_eq_true_eq];omega
 ·have:(ts.countP fun z=>decide (O3 z y))<=ts.countP fun z=>decide (O3 z x):=by
   by_cases e:x=y
   ·rw [e];exact Nat.le_refl _
   ·exact Nat.le_of_lt (A4l m2 (O3.tri c e))
  simp only [c,decide_false,decide_eq_false_iff_not];omega
section
variable {prog:Program} {w:World} {A:Around} {s:Shared} {ts:List Str} {vs:List Value}
theorem A7y (r:C4 (ts.map V.str) vs):∀ v∈vs,∃ x t,v=.str x t/\x∈ts:=by
 induction ts generalizing vs with
 | nil=>cases r;intro v hv;cases hv
 | cons x ts ih =>
  cases r with
  | cons h r =>
   obtain ⟨t,rfl⟩:=h;intro v hv;rcases mem_cons.mp hv with rfl|hv
   ·exact ⟨x,t,rfl,mem_cons_self⟩
   ·obtain ⟨y,u,e,m⟩:=ih r v hv;exact ⟨y,u,e,mem_cons_of_mem _ m⟩
theorem A45 (r:C4 (ts.map V.str) vs):vs.map txt=ts:=by
 induction ts generalizing vs with
 | nil=>cases r;rfl
 | cons x ts ih =>
  cases r with
  | cons h r =>
   obtain ⟨t,rfl⟩:=h;rw [map_cons,ih r];rfl
theorem A63:∀ {vs:List Value},(∀ v∈vs,∃ x t,v=.str x t)->C4 ((vs.map txt).map V.str) vs
 | [],_=>.nil
 | v::vs,h=>by
  obtain ⟨x,t,rfl⟩:=h v mem_cons_self;exact .cons ⟨t,rfl⟩ (A63 fun v hv=>h v (mem_cons_of_mem _ hv))
theorem D41 (r:C4 (ts.map V.str) vs):C4i prog w A vs (rkS ts) (SS ts) s:=by
 refine ⟨fun h2 Q hq=>?_,⟨fun x y hx hy Q E hq=>?_⟩⟩
 ·refine kas_kind (T:=.type "str") h2 (fun v hv=>?_) rfl rfl hq;obtain ⟨x,t,rfl,_⟩:=A7y r v hv;exact Looks.of_pure rfl
 ·rw [D2p hx hy] at hq;obtain ⟨a,t,e1,_⟩:=hx;obtain ⟨b,u,e2,_⟩:=hy;rw [e1,e2] at hq ⊢;exact kas_lt_str hq
theorem D6p (r:C4 (ts.map V.str) vs) (nd:ts.Nodup):Its (rkS ts) (SS ts) (vs.toArray.zip vs.toArray):=by
 refine ⟨fun p hp=>?_,?_⟩
 ·rw [Y6] at hp;obtain ⟨v,hv,rfl⟩:=mem_map.mp hp;obtain ⟨x,t,e,m⟩:=A7y r v hv;exact ⟨x,t,e,m⟩
 ·rw [Y6,map_map];have e:(vs.map (rkS ts ∘ fun v=>(v,v)))=ts.map fun x=>((ts.countP fun z=>decide (O3 z x):Nat):Int):=by
   rw [<-List.map_congr_left (f:=fun x=>((ts.countP fun z=>decide (O3 z x):Nat):Int)) (l:=ts) (fun _ _=>rfl)]
   conv=>rhs;rw [<-A45 r]
   rw [map_map];rw [A45 r];rfl
  rw [e];unfold List.Nodup;rw [List.pairwise_map];refine List.Pairwise.imp_of_mem (fun {x y} hx hy ne=>?_) nd;intro z;by_cases c:O3 x y
  ·have:=A4l hx c;omega
  ·have:=A4l hy (O3.tri c ne);omega
theorem D4v (r:C4 (ts.map V.str) vs) (nd:ts.Nodup) {out:List Value} (p:out.Perm vs) (up:UpV (rkS ts) out):∃ us:List Str,us.Perm ts/\us.Pairwise O3/\C4 (us.map V.str) out:=by
 have all:∀ v∈out,∃ x t,v=.str x t/\x∈ts:=fun v hv=>A7y r v (p.mem_iff.mp hv);have pu:(out.map txt).Perm ts:=by have:=p.map txt;rwa [A45 r] at this
 refine ⟨out.map txt,pu,?_,A63 fun v hv=>by obtain ⟨x,t,e,_⟩:=all v hv;exact ⟨x,t,e⟩⟩;have nd':(out.map txt).Nodup:=pu.nodup_iff.mpr nd;unfold List.Nodup at nd';rw [List.pairwise_map] at nd' ⊢;refine List.Pairwise.imp_of_mem (fun {x y} hx hy h=>?_) (nd'.and up);obtain ⟨a,t,rfl,ma⟩:=all x hx;obtain ⟨b,u,rfl,mb⟩:=all y hy;obtain ⟨ne,le⟩:=h;have ne:a≠b:=ne;show O3 a b;by_cases c:O3 a b
 ·exact c
 ·exfalso;have:=A4l mb (O3.tri c ne);unfold rkS at le;have le:((ts.countP fun z=>decide (O3 z a):Nat):Int)<=(ts.countP fun z=>decide (O3 z b):Nat):=le;omega
end
theorem A9w:∀ {us vs:List Str},us.Perm vs->us.Pairwise O3->vs.Pairwise O3->us=vs
 | [],vs,p,_,_=>(List.nil_perm.mp p).symm
 | a::us,vs,p,h1,h2=>by
  cases vs with
  | nil=>exact absurd p.length_eq (by simp)
  | cons b vs =>
   have p1:=List.pairwise_cons.mp h1;have p2:=List.pairwise_cons.mp h2;have e:a=b:=by
    by_cases e:a=b
    ·exact e
    ·exfalso;have m1:a∈vs:=by
      rcases mem_cons.mp (p.mem_iff.mp (mem_cons_self (a:=a))) with z|z
      ·exact absurd z e
      ·exact z
     have m2:b∈us:=by
      rcases mem_cons.mp (p.mem_iff.mpr (mem_cons_self (a:=b))) with z|z
      ·exact absurd z.symm e
      ·exact z
     exact O3.irr a ((p1.1 b m2).trans (p2.1 a m1))
   subst e;rw [A9w ((List.perm_cons a).mp p) p1.2 p2.2]
def D20 (K:W.Frag):List V->Hp->VK->Prop:=fun xs H Q=>∃ (p:Addr) (ts:List Str),xs=[.ref p]/\L4 K H p (ts.map V.str)/\ts.Nodup/\ts.length < 128/\∀ us:List Str,us.Perm ts->us.Pairwise O3->∀ l,H l=none->Q (.ref l) (upd H l (.lst (us.map V.str)))
theorem B33 {X:Cx} (K:W.Frag) (hK:X.K=K):K2 X (.builtin "sorted") (D20 K):=by
 subst hK;intro pins s σ H xs us' Q I r h;obtain ⟨p,ts,rfl,hL,nd,h128,q⟩:=h;obtain ⟨u,rfl,rx⟩:=S8 r;cases rx;obtain ⟨its,rv,pl,hz⟩:=I.list hL;have len:its.length=ts.length:=by have:=rv.length;rw [length_map] at this;omega
 refine B8d (rk:=rkS ts) (S:=SS ts) pl.isList (by omega) (D6p rv nd) (fun h'=>D41 rv) fun out h' L e p1 p2 kp hL' he=>?_;obtain ⟨us,u1,u2,u3⟩:=D4v rv nd p1 p2;have hfr:H L=none:=I.hok.fresh hL';exact ⟨.ref L,_,I.laid (t':=s.toks) kp hL' (show E1 X.prog X.w _ _ _ (.lst (us.map V.str)) from ⟨by rw [length_map,u1.length_eq,sizeLine_eq];omega,_,e,u3,he⟩),rfl,q us u1 u2 _ hfr⟩
def C67:List V->Hp->VK->Prop:=fun xs H Q=>∃ (a:Addr) (kvs:List (C2 × V)) (ts:List Str),xs=[.ref a]/\H a=some (.dK kvs)/\kvs.map (·.1)=ts.map Sum.inr/\ts.Nodup/\kvs.length < 128/\∀ us:List Str,us.Perm ts->us.Pairwise O3->∀ l,H l=none->Q (.ref l) (upd H l (.lst (us.map V.str)))
theorem B07 {X:Cx} (hc:X.calm=true):K2 X (.builtin "sorted") C67:=by
 intro pins s σ H xs us Q I r h;obtain ⟨a,kvs,ts,rfl,e,hk,nd,h128,q⟩:=h;obtain ⟨u,rfl,rx⟩:=S8 r;cases rx;obtain ⟨lo,es,ep,h1,h2,h3⟩:=B8t I e;have hn:(kvs.map fun p=>kV p.1)=ts.map V.str:=by
  have:(kvs.map fun p=>kV p.1)=(kvs.map (·.1)).map kV:=by rw [map_map];rfl
  rw [this,hk,map_map];rfl
 rw [hn] at h3;have ln:ts.length=kvs.length:=by have:=congrArg List.length hk;simpa using this.symm
 refine C4y (rk:=rkS ts) (S:=SS ts) (vs:=es.toList.map (·.key)) (C73 (prog:=X.prog) (w:=X.w) (es:=es) (ep:=ep) lo) (I.ok.hd hc) h1 (by omega) (fun ws hi=>A54 hi) (by rw [length_map,Array.length_toList];omega) (D6p h3 nd) (fun h' tk=>D41 h3) fun out h' tk L e' p1 p2 k hL he=>?_;obtain ⟨us,u1,u2,u3⟩:=D4v h3 nd p1 p2;exact ⟨.ref L,_,I.laid (t':=tk) k hL (show E1 X.prog X.w _ _ _ (.lst (us.map V.str)) from ⟨by rw [length_map,u1.length_eq,sizeLine_eq];omega,_,e',u3,he⟩),rfl,q us u1 u2 _ (I.hok.fresh hL)⟩
section
variable {X:Cx} {pins:List (Addr × Obj)} {σ:St} {H:Hp} {s:Shared} {d:Addr} {kvs:List (C2 × V)}
theorem B4.thaw3 {o:Obj} (I:B4 X pins σ H s) (hd:H d=some (.frz o (.dK kvs))) (h0:∀ o u,X.H₀ d≠some (.frz o u)):B4 X pins σ (upd H d (.dK kvs)) s:=by
 have ne:∀ b,H b=none->b≠d:=fun b hb z=>by rw [z,hd] at hb;cases hb
 refine ⟨I.ok,I.os,I.bare,⟨I.base.keep,I.base.slot,fun b u q n hx=>?_,I.base.there,fun b xs q=>?_,fun b u v q=>?_,fun b ps q=>?_⟩,I.loc,I.cell,?_,fun x c e=>?_,fun p hp=>?_,fun b u e=>?_,I.len⟩
 ·have:=I.base.free b u q n hx;rw [B1 (ne b this)];exact this
 ·have:=I.base.tups b xs q;rw [B1 (B14 this hd (by intro z;cases z))];exact this
 ·have:=I.base.frzs b u v q;rw [B1 (fun z=>by rw [z] at q;exact h0 _ _ q)];exact this
 ·obtain ⟨m,this⟩:=I.base.tbls b ps q;exact ⟨m,by rw [B1 (B14 this hd (by intro z;cases z))];exact this⟩
 ·rw [B1 (ne _ I.free)];exact I.free
 ·rw [B1 (ne _ (I.freeC x c e))];exact I.freeC x c e
 ·obtain ⟨a1,a2,a3,a4,a5⟩:=I.pin p hp;exact ⟨a1,by rw [B1 (ne _ a2)];exact a2,a3,a4,a5⟩
 ·by_cases hb:b=d
  ·subst hb;rw [B3] at e;cases e;exact (I.hok b _ hd).2
  ·rw [B1 hb] at e;refine (I.hok b u e).stay (fun c v hc q=>q) (fun c q=>?_) fun c xs q=>?_
   ·rw [B1 (B14 q hd (by intro z;cases z))];exact q
   ·rw [B1 (B14 q hd (by intro z;cases z))];exact q
def B3g (H0:Hp) (tl:TE):TI:=fun σ H R=>tl σ H fun x H1=>∃ d kvs,x=.ref d/\H1 d=some (.dK kvs)/\∀ o,(∀ o u,H0 d≠some (.frz o u))->R (Itk d o kvs) (upd H1 d (.frz o (.dK kvs)))
theorem A64 {tg l:Expr} {tl:TE} (hl:QE X l tl):QI X tg l (B3g X.H₀ tl):=⟨by
 intro pins s σ H R I h;refine D6 (hl.h pins s σ H _ I h) fun u s1 ⟨x,H1,I1,r1,d,kvs,e,hd,q⟩=>?_;subst e;cases r1;have n0:∀ o u,X.H₀ d≠some (.frz o u):=fun o u z=>by
  have:=I1.base.frzs _ _ _ z;rw [hd] at this;cases this
 obtain ⟨o,ho,I2⟩:=I1.freeze hd;obtain ⟨hs,_,_⟩:(d==sysModules)=false/\True/\True:=⟨(I1.hok d _ hd).2.1,trivial,trivial⟩;obtain ⟨_,_,vs,kv,o2,es,ep,e1,e2,e3,r⟩:=(show E1 X.prog X.w H1 s1.heap d (.dK kvs) from I1.hok d _ hd);rw [ho] at e1;cases e1;have da:s1.heap.DictAt (J1 X.prog X.w) d vs ep:=⟨o,es,ho,e2,e3,r⟩;refine wpAny_pyIter_dict hs da ?_;have hlen:kvs.length=vs.length:=Paired.length kv;have I3:B4 X pins σ (upd H1 d (.frz o (.dK kvs))) { s1 with heap:=s1.heap.push { cls:=.type "dict_keyiterator",data:=.fields #[.ref d,.int 0 0,.int vs.length 0,.int ep 0] } }:=I2.kept (t':=s1.toks) fun b u e=>Heap.get?_push_of_some _ e;refine ⟨s1.heap.objs.size,[s1.heap.objs.size],_,_,_,rfl,I3,B5k d _ o kvs e3,⟨_,Heap.get?_push_size _ rfl,rfl,by rw [hlen];rfl⟩,fun b hb=>?_,q o n0⟩;have e':b=s1.heap.objs.size:=by simpa using hb
 subst e';exact I2.fpOk (Nat.le_refl _) (I2.hok.fresh (Nat.le_refl _))⟩
def B1e (H0:Hp) (te:TE):TE:=fun σ H Q=>te σ H fun v H1=>∃ d o kvs,H1 d=some (.frz o (.dK kvs))/\(∀ o u,H0 d≠some (.frz o u))/\Q v (upd H1 d (.dK kvs))
theorem B6x {e:Expr} {te:TE} (he:QE X e te):QE X e (B1e X.H₀ te):=⟨by
 intro pins s σ H Q I h;refine D6 (he.h pins s σ H _ I h) fun u s1 ⟨x,H1,I1,r1,d,o,kvs,hd,h0,q⟩=>⟨x,_,I1.thaw3 hd h0,r1,q⟩⟩
end
end L2
namespace DL
open PySem PySem.Spec PyProof.Rows L2
def dFD (es:List (C2 × D)):D:=.dict ((.int 0,.none)::es.map fun p=>(L1 p.1,p.2))
mutual
def ndc:D->Bool
 | .none=>true
 | .bool _=>true
 | .int _=>true
 | .str _=>true
 | .list ds=>ndcs ds
 | .tuple ds=>ndcs ds
 | .dict _=>false
def ndcs:List D->Bool
 | []=>true
 | d::ds=>ndc d&&ndcs ds
end
section
variable {K:W.Frag} {H H':Hp} {v:V} {d d':D}
def Fz (H H':Hp):Prop:=∀ a o,H a=some o->H' a=some o\/∃ ob kvs,o=.dK kvs/\H' a=some (.frz ob (.dK kvs))
theorem Fz.lst (f:Fz H H') {a:Addr} {us:List V} (h:H a=some (.lst us)):H' a=some (.lst us):=by
 rcases f _ _ h with h|⟨_,_,e,_⟩
 ·exact h
 ·cases e
theorem Fz.tup (f:Fz H H') {a:Addr} {us:List V} (h:R4 K H a us):R4 K H' a us:=by
 rcases h with (h|⟨o,h⟩)|h
 ·rcases f _ _ h with h|⟨_,_,e,_⟩
  ·exact .inl (.inl h)
  ·cases e
 ·rcases f _ _ h with h|⟨_,_,e,_⟩
  ·exact .inl (.inr ⟨o,h⟩)
  ·cases e
 ·exact .inr h
theorem Fz.dn2 (f:Fz H H'):(∀ {v d},Dn K H v d->ndc d=true->Dn K H' v d)/\∀ {v d},Dns K H v d->ndcs d=true->Dns K H' v d :=
 Dn.both (fun _=>.non) (fun b _=>.bl b) (fun b _=>.int b) (fun b _=>.str b) (fun h r q=>.lst (f.lst h) (r q)) (fun h r q=>.tup (f.tup h) (r q)) (fun _ _ h=>nomatch h) (fun _ h=>nomatch h) (fun _ _ h=>nomatch h) (fun _ _ h=>nomatch h) (fun _=>.nil) fun p r q=>by
  rw [ndcs,Bool.and_eq_true] at q;exact .cons (p q.1) (r q.2)
theorem Fz.dn (f:Fz H H') (h:Dn K H v d) (q:ndc d=true):Dn K H' v d:=f.dn2.1 h q
theorem B4i {kvs:List (C2 × V)} {es:List (C2 × D)} (p:VPs kvs es):B13 kvs (es.map fun p=>(L1 p.1,p.2)):=C7t p
theorem Fz.dct (f:Fz H H') {es:List (C2 × D)} (h:Dn K H v (M6 es)):Dn K H' v (dFD es):=by
 obtain ⟨a,kvs,rfl,e,p⟩:=A34 h;rcases f _ _ e with h|⟨ob,_,e,h⟩
 ·exact .dcf (.inl h) (B4i p)
 ·cases e;exact .dcf (.inr ⟨ob,h⟩) (B4i p)
inductive FrO:D->D->Prop
 | same (x:D):ndc x=true->FrO x x
 | dct (es):FrO (M6 es) (dFD es)
 | two (a b):FrO (.tuple [M6 a,M6 b]) (.tuple [dFD a,dFD b])
theorem FrO.dn (r:FrO d d') (f:Fz H H') (h:Dn K H v d):Dn K H' v d':=by
 cases r with
 | same _ q=>exact f.dn h q
 | dct es=>exact f.dct h
 | two a b =>
  cases h with
  | tup h r =>
   cases r with
   | cons h1 r =>
    cases r with
    | cons h2 r =>
     cases r;exact .tup (f.tup h) (.cons (f.dct h1) (.cons (f.dct h2) .nil))
theorem C77 {es:List (C2 × D)} (h:Dn K H v (dFD es)):∃ a kvs,v=.ref a/\Rd H a (.dK kvs)/\VPs kvs es:=by
 unfold dFD at h;cases h with
 | dcf e r=>exact ⟨_,_,rfl,e,B2b r⟩
theorem Fz.upd {a:Addr} {kvs:List (C2 × V)} {o:Obj} (h:H a=some (.dK kvs)):Fz H (L2.upd H a (.frz o (.dK kvs))):=fun b u e=>by
 by_cases z:b=a
 ·subst z;rw [h] at e;cases e;exact .inr ⟨o,kvs,rfl,B3⟩
 ·exact .inl (by rw [B1 z];exact e)
theorem C71 (e:A7 H H'):Fz H H':=fun a o h=>.inl (e _ _ h)
end
section
variable {X:Cx} {K:W.Frag} {E:XK} {H H' Hf:Hp}
structure C4r (K:W.Frag) (Hf:Hp) (cap:List (Str × Nat)) (σ:L2.St) (ρ':C5):Prop where
 len:ρ'.length=cap.length
 get:∀ (j:Nat) (x:Bool × D),ρ'[j]?=some (some x)->x.1=false/\∃ p v,cap[j]?=some p/\σ[p.2]?=some (some v)/\Dn K Hf v x.2
def A3a (cap:List (Str × Nat)) (σ:L2.St):L2.St:=cap.map fun p=>(σ[p.2]?).join
theorem C4r.st {cap:List (Str × Nat)} {σ:L2.St} {ρ':C5} (C:C4r K Hf cap σ ρ') (k:C2) (e:A7 Hf H'):B7 K Z0 Hf (fun _=>[]) (some (false,L1 k)::ρ') (some (kV k)::A3a cap σ) H' where
 sm:=e
 len:=by unfold A3a;simp [C.len]
 sl:=fun i b d h=>by
  cases i with
  | zero =>
   cases h;refine ⟨_,rfl,?_⟩;cases k with
   | inl i=>exact .int i
   | inr x=>exact .str x
  | succ i =>
   rw [List.getElem?_cons_succ] at h;obtain ⟨hb,p,v,h1,h2,h3⟩:=C.get i _ h;cases hb;refine ⟨v,?_,?_⟩
   ·rw [List.getElem?_cons_succ];unfold A3a;rw [List.getElem?_map,h1];simp [h2]
   ·exact Dn.same (e.trans A7s) h3
 nd:=fun _=>nodup_nil
 dj:=fun i j a h=>by cases h
 fr:=fun i a h=>by cases h
 zf:=fun a h=>h.elim
theorem A78 {J:It} {ks:List C2} {cap:List (Str × Nat)} {σ:L2.St} {ρ':C5} {tif:Y3} {g:C2->Bool} {emit:TS} {Acc:List C2->Hp->Prop} {En:T1} {H1:Hp} {x0:Option V}
  (hJ:∀ H2,A7 Hf H2->J.stop ks.length H2/\∀ i (h:i < ks.length),J.go i H2/\∀ x H',J.yld i H2 x H'->A7 H2 H'/\x=kV ks[i])
  (C:C4r K Hf cap σ ρ') (ht:∀ k∈ks,∀ Q':Bool->Prop,Q' (g k)->tif (some (false,L1 k)::ρ') Q' Xf)
  (hA0:Acc [] H1) (hs0:A7 Hf H1) (hAs:∀ ls H2 H3,Acc ls H2->A7 H2 H3->Acc ls H3)
  (hem:∀ D ls k H2,ls.length < ks.length->Acc ls H2->A7 Hf H2->(∀ H3,Acc (ls++[k]) H3->A7 Hf H3->D.nx (some (kV k)::A3a cap σ) H3)->emit D (some (kV k)::A3a cap σ) H2)
  (q:∀ σ' H2,Acc (ks.filter g) H2->A7 Hf H2->En.nx σ' H2) :
  A30 J (K9 0) (A57 (LT K E0 tif) emit) En (x0::A3a cap σ) H1:=by
 refine ⟨fun i m σ' H'=>m=ks.length - i/\i<=ks.length/\(∃ x,σ'=x::A3a cap σ)/\A7 Hf H'/\Acc ((ks.take i).filter g) H',⟨_,rfl,Nat.zero_le _,⟨_,rfl⟩,hs0,hA0⟩,?_⟩;rintro i m σ2 H2 ⟨rfl,hi,⟨x,rfl⟩,sm,ac⟩;obtain ⟨j1,j2⟩:=hJ H2 sm;by_cases hlt:i < ks.length
 ·obtain ⟨k1,k2⟩:=j2 i hlt;refine .inr ⟨k1,_,fun σ' H' hN=>⟨_,(by omega:ks.length - (i+1) < ks.length - i),rfl,hlt,hN⟩,fun v H' hy=>?_⟩;obtain ⟨e1,rfl⟩:=k2 v H' hy;have et:ks.take (i+1)=ks.take i++[ks[i]]:=by rw [take_add_one,List.getElem?_eq_getElem hlt];rfl
  show A57 (LT K E0 tif) emit _ (some (kV ks[i])::A3a cap σ) H';refine ⟨Hf,_,_,fun b=>b=g ks[i],Xf,C.st ks[i] (sm.trans e1),ht _ (List.getElem_mem hlt) _ rfl,fun b H3 hb e3=>?_,fun _ _ z=>z.elim⟩;subst hb;have sm3:=(sm.trans e1).trans e3;have ac3:=hAs _ _ _ ac (e1.trans e3);by_cases hg:g ks[i]=true
  ·rw [if_pos hg];refine hem _ _ _ _ ?_ ac3 sm3 fun H4 a4 s4=>⟨⟨_,rfl⟩,s4,?_⟩
   ·have:=length_filter_le g (ks.take i);rw [length_take] at this;omega
   ·rw [et,filter_append];simp only [List.filter_cons,hg,if_true,List.filter_nil];exact a4
  ·rw [if_neg hg];refine ⟨⟨_,rfl⟩,sm3,?_⟩;rw [et,filter_append];simp only [List.filter_cons,hg,List.filter_nil];simpa using ac3
 ·have e:i=ks.length:=by omega
  subst e;rw [take_length] at ac;exact .inl ⟨j1,q _ _ ac sm⟩
theorem B1c (es:List (C2 × D)) (ls:List C2) (k:C2):P2 es (ls++[k])=X3 (P2 es ls) k (.bool true):=by
 induction ls generalizing es with
 | nil=>rfl
 | cons a r ih=>exact ih _
theorem B11 {cap:List (Str × Nat)} {σ:L2.St} {acc:Addr} {n:Nat} (ha:Hf acc=none) (hn:n < 1000000):∀ D ls k H2,ls.length < n->(fun ls H2=>∃ kvs,H2 acc=some (.dK kvs)/\VPs kvs (P2 [] ls)) ls H2->A7 Hf H2->(∀ H3,(fun ls H2=>∃ kvs,H2 acc=some (.dK kvs)/\VPs kvs (P2 [] ls)) (ls++[k]) H3->A7 Hf H3->D.nx (some (kV k)::A3a cap σ) H3)->B3c acc (V4 0) (tC (.bl true)) D (some (kV k)::A3a cap σ) H2:=fun D ls k H2 hl ⟨kvs,e,p⟩ sm q=>by
 refine ⟨kV k,rfl,kvs,k,rfl,e,?_,q _ ⟨_,B3,?_⟩ (sm.put ha)⟩
 ·have:=A5u ls [];rw [List.length_nil] at this;rw [p.length];exact Nat.lt_of_lt_of_le (by omega) K5
 ·rw [B1c];exact p.put rfl
theorem B9f {cap:List (Str × Nat)} {σ:L2.St} {acc:Addr} {n:Nat} (ha:Hf acc=none) (hn:n < 1000000):∀ D ls k H2,ls.length < n->(fun ls H2=>H2 acc=some (.lst (ls.map kV))) ls H2->A7 Hf H2->(∀ H3,(fun ls H2=>H2 acc=some (.lst (ls.map kV))) (ls++[k]) H3->A7 Hf H3->D.nx (some (kV k)::A3a cap σ) H3)->B46 acc (V4 0) D (some (kV k)::A3a cap σ) H2:=fun D ls k H2 hl e sm q=>by
 refine ⟨kV k,rfl,_,e,?_,q _ (by show L2.upd _ _ _ _=_;rw [B3,map_append];rfl) (sm.put ha)⟩;rw [length_map];exact Nat.lt_of_lt_of_le (by omega) K5
def B01 (cap:List (Str × Nat)) (ρ ρ':C5):Prop:=ρ'.length=cap.length/\∀ (j:Nat) (x:Bool × D),ρ'[j]?=some (some x)->x.1=false/\∃ p c d,cap[j]?=some p/\ρ[p.2]?=some (some (c,d))/\FrO d x.2
theorem B01.f {H0:Hp} {ν:Nat->List Addr} {cap:List (Str × Nat)} {ρ ρ':C5} {σ:L2.St} (C:B01 cap ρ ρ') (S:B7 K Z0 H0 ν ρ σ H) (f:Fz H Hf):C4r K Hf cap σ ρ':=⟨C.1,fun j x h=>by
 obtain ⟨h1,p,c,d,h2,h3,h4⟩:=C.2 j x h;obtain ⟨v,g1,g2⟩:=S.get h3;exact ⟨h1,p,v,h2,g1,h4.dn f g2⟩⟩
def D1r (ti:TDI) (tif:Y3) (cap:List (Str × Nat)):TD:=fun ρ Q Xd=>ti ρ (fun ds b=>∃ (ks:List C2) (g:C2->Bool) (ρ':C5),ds=ks.map L1/\ks.length < 1000000/\B01 cap ρ ρ'/\(∀ k∈ks,∀ Q':Bool->Prop,Q' (g k)->tif (some (false,L1 k)::ρ') Q' Xf)/\Q (M6 (P2 [] (ks.filter g))) (.own [])) Xd
def D0w (ti:TD) (tif:Y3) (cap:List (Str × Nat)):TD:=fun ρ Q Xd=>ti ρ (fun d _=>∃ (es:List (C2 × D)) (g:C2->Bool) (ρ':C5),d=M6 es/\es.length < 1000000/\B01 cap ρ ρ'/\(∀ k∈es.map (·.1),∀ Q':Bool->Prop,Q' (g k)->tif (some (false,L1 k)::ρ') Q' Xf)/\Q (M6 (P2 [] ((es.map (·.1)).filter g))) (.own [])) Xd
def D22 (ti:TD) (tif:Y3) (cap:List (Str × Nat)):TD:=fun ρ Q Xd=>ti ρ (fun d _=>∃ (es:List (C2 × D)) (g:C2->Bool) (ρ':C5),d=M6 es/\es.length < 1000000/\B01 cap ρ ρ'/\(∀ k∈es.map (·.1),∀ Q':Bool->Prop,Q' (g k)->tif (some (false,L1 k)::ρ') Q' Xf)/\Q (.list (((es.map (·.1)).filter g).map L1)) (.own [])) Xd
theorem C2f {d:Addr} {o:Obj} {kvs:List (C2 × V)} {ks:List C2} (hk:kvs.map (·.1)=ks) (hd:Hf d=some (.frz o (.dK kvs))):∀ H2,A7 Hf H2->(Itk d o kvs).stop ks.length H2/\∀ i (h:i < ks.length),(Itk d o kvs).go i H2/\∀ x H',(Itk d o kvs).yld i H2 x H'->A7 H2 H'/\x=kV ks[i]:=fun H2 sm=>by
 subst hk;refine ⟨⟨sm _ _ hd,by rw [length_map];exact Nat.le_refl _⟩,fun i h=>⟨⟨sm _ _ hd,by rw [length_map] at h;exact h⟩,fun x H' hy=>?_⟩⟩;obtain ⟨⟨k,v,e1,rfl⟩,rfl⟩:=hy;refine ⟨A7.refl _,?_⟩;rw [List.getElem_map];rw [length_map] at h;rw [List.getElem?_eq_getElem h] at e1;rw [Option.some.inj e1]
theorem A5p {d:Addr} {o:Obj} {kvs:List (C2 × V)} {H1 H2:Hp} (hd:H1 d=some (.dK kvs)) (e:A7 (L2.upd H1 d (.frz o (.dK kvs))) H2):A7 H1 (L2.upd H2 d (.dK kvs)):=fun a u h=>by
 by_cases z:a=d
 ·subst z;rw [hd] at h;cases h;exact B3
 ·rw [B1 z];exact e _ _ (by rw [B1 z];exact h)
theorem A4i {H:Hp}:∀ ks:List C2,Ows K H (ks.map kV) (ks.map L1) []
 | []=>.nil
 | .inl i::r=>.cons (ns:=[]) (.int i) (A4i r)
 | .inr x::r=>.cons (ns:=[]) (.str x) (A4i r)
variable {pos p0 p1 p2:Pos} {iter:Expr} {scope:Scope} {ti:TDI} {td:TD} {tif:Y3} {y:Str} {test:Expr}
theorem D0d {own:List Str} {cap:List (Str × Nat)} (H00:Hp) (ho:own.length=1):∀ σ H Q,LE K E (D0w td tif cap) σ H Q->B1e H00 (B5f (B3g H00 (LE K E td)) (K9 0) (LT K E0 tif) (V4 0) (tC (.bl true)) own cap) σ H Q:=fun σ H Q h=>by
 obtain ⟨H0,ν,ρ,Qd,Xd,S,h1,q,x⟩:=h;refine ⟨H0,ν,ρ,_,Xd,S,h1,fun d k v H1 g1 e1 r1=>?_,x⟩;obtain ⟨es,g,ρ',rfl,hl,cr,ht,g1⟩:=g1;obtain ⟨a,kvs,rfl,e,p⟩:=A34 r1.den;refine ⟨a,kvs,rfl,e,fun o n0 acc hacc=>?_⟩;have hf:=Fz.upd (o:=o) e;have hk:kvs.map (·.1)=es.map (·.1):=A41 p;have hne:acc≠a:=fun z=>by rw [z,B3] at hacc;cases hacc
 have hacc1:H1 acc=none:=by rw [B1 hne] at hacc;exact hacc
 match own,ho with
 | [y],_ =>
 refine A78 (Hf:=L2.upd H1 a (.frz o (.dK kvs))) (Acc:=fun ls H2=>∃ kvs,H2 acc=some (.dK kvs)/\VPs kvs (P2 [] ls)) (C2f hk B3) (cr.f (S.same e1) hf) ht ⟨_,B3,.nil⟩ (A7.new hacc) (fun ls H2 H3 ⟨kv,b1,b2⟩ e=>⟨kv,e _ _ b1,b2⟩) (B11 hacc (by rw [length_map];exact hl)) fun σ' H2 ⟨kv,a1,a2⟩ sm=>?_;refine ⟨a,o,kvs,sm _ _ B3,n0,q _ _ _ _ g1 (e1.trans (A5p e sm)) ⟨[acc],A94 (by rw [B1 hne];exact a1) a2,by simp,fun b hb=>?_⟩⟩;rw [mem_singleton] at hb;subst hb;exact .inl (e1.gone hacc1)
theorem D0r {own:List Str} {cap:List (Str × Nat)} (H00:Hp) (ho:own.length=1):∀ σ H Q,LE K E (D22 td tif cap) σ H Q->B1e H00 (tLC (B3g H00 (LE K E td)) (K9 0) (LT K E0 tif) (fun acc=>B46 acc (V4 0)) own cap) σ H Q:=fun σ H Q h=>by
 obtain ⟨H0,ν,ρ,Qd,Xd,S,h1,q,x⟩:=h;refine ⟨H0,ν,ρ,_,Xd,S,h1,fun d k v H1 g1 e1 r1=>?_,x⟩;obtain ⟨es,g,ρ',rfl,hl,cr,ht,g1⟩:=g1;obtain ⟨a,kvs,rfl,e,p⟩:=A34 r1.den;refine ⟨a,kvs,rfl,e,fun o n0 acc hacc=>?_⟩;have hf:=Fz.upd (o:=o) e;have hk:kvs.map (·.1)=es.map (·.1):=A41 p;have hne:acc≠a:=fun z=>by rw [z,B3] at hacc;cases hacc
 have hacc1:H1 acc=none:=by rw [B1 hne] at hacc;exact hacc
 match own,ho with
 | [y],_ =>
 refine A78 (Hf:=L2.upd H1 a (.frz o (.dK kvs))) (Acc:=fun ls H2=>H2 acc=some (.lst (ls.map kV))) (C2f hk B3) (cr.f (S.same e1) hf) ht B3 (A7.new hacc) (fun ls H2 H3 b e=>e _ _ b) (B9f hacc (by rw [length_map];exact hl)) fun σ' H2 a1 sm=>?_;refine ⟨a,o,kvs,sm _ _ B3,n0,q _ _ _ _ g1 (e1.trans (A5p e sm)) ⟨[acc],.lst (by rw [B1 hne];exact a1) (A4i _),by simp,fun b hb=>?_⟩⟩;rw [mem_singleton] at hb;subst hb;exact .inl (e1.gone hacc1)
theorem C65 (own:List Str) (cap:List (Str × Nat)) (ho:own.length=1) (hc:X.calm=true) (L:B9 X scope own cap) (hi:DE X K E iter td)
  (hin:∀ (s₃:Shared) (H₃:Hp) (fp:List Addr),QG (X.inn scope (L2.D0 own cap) s₃ H₃ fp) (.Name y p0) (K9 0)/\DTs (X.inn scope (L2.D0 own cap) s₃ H₃ fp) K [test] tif/\QE (X.inn scope (L2.D0 own cap) s₃ H₃ fp) (.Name y p1) (V4 0))
  (hs:∀ x,foldedSetIterable iter X.env x=pure x:=by intro _;rfl):DE X K E (.ListComp (.Name y p1) [⟨.Name y p0,iter,[test],0⟩] scope pos) (D22 td tif cap) :=
 ⟨D2 (B6x (B8h own cap hc L (A64 hi.q) (fun a b c acc=>⟨(hin a b c).1,(hin a b c).2.1.q,A9b rfl rfl (hin a b c).2.2⟩) hs)) (D0r X.H₀ ho)⟩
theorem D12 {own:List Str} {cap:List (Str × Nat)} (ho:own.length=1):∀ σ H Q,LE K E (D1r ti tif cap) σ H Q->B5f (LI K E ti) (K9 0) (LT K E0 tif) (V4 0) (tC (.bl true)) own cap σ H Q:=fun σ H Q h=>by
 obtain ⟨H0,ν,ρ,Qd,Xd,S,h1,q,x⟩:=h;refine ⟨H0,ν,ρ,_,Xd,S,h1,fun ds b J H1 g1 e1 it=>?_,x⟩;obtain ⟨ks,g,ρ',rfl,hl,cr,ht,g1⟩:=g1;intro acc hacc;have S1:=S.same e1
 match own,ho with
 | [y],_ =>
 refine A78 (Hf:=H1) (Acc:=fun ls H2=>∃ kvs,H2 acc=some (.dK kvs)/\VPs kvs (P2 [] ls)) (ks:=ks) (fun H2 sm=>?_) (cr.f S1 (C71 (A7.refl _))) ht ⟨_,B3,.nil⟩ (A7.new hacc) (fun ls H2 H3 ⟨kv,b1,b2⟩ e=>⟨kv,e _ _ b1,b2⟩) (B11 hacc hl) fun σ' H2 ⟨kv,a1,a2⟩ sm=>?_
 ·have it2:=it (fun a=>b=true/\Hd Z0 ν a) H2 (fun a z=>by obtain ⟨o,e⟩:=S1.hl a z.2;exact ⟨o,sm _ _ e⟩) (fun a o e=>by
   unfold fz at e;cases b with
   | true=>rw [if_pos rfl] at e;obtain ⟨e1,e2⟩:=G5 e;exact D5 (sm _ _ e1) fun z=>e2 z.2
   | false=>rw [if_neg Bool.false_ne_true] at e;exact D5 (sm _ _ e) fun z=>by cases z.1)
  obtain ⟨i1,i2⟩:=it2;rw [length_map] at i1;refine ⟨i1,fun i hlt=>?_⟩;obtain ⟨j1,j2⟩:=i2 i (L1 ks[i]) (by rw [List.getElem?_map,List.getElem?_eq_getElem hlt];rfl);refine ⟨j1,fun v H' hy=>?_⟩;obtain ⟨k1,k2⟩:=j2 v H' hy;exact ⟨k1,B4t k2⟩
 ·refine q _ _ _ _ g1 (e1.trans sm) ⟨[acc],A94 a1 a2,by simp,fun b hb=>?_⟩;rw [mem_singleton] at hb;subst hb;exact .inl (e1.gone hacc)
theorem C4e (own:List Str) (cap:List (Str × Nat)) (ho:own.length=1) (hc:X.calm=true) (L:B9 X scope own cap) (hi:DI X K E (.Name y p0) iter ti)
  (hin:∀ (s₃:Shared) (H₃:Hp) (fp:List Addr),QG (X.inn scope (L2.D0 own cap) s₃ H₃ fp) (.Name y p0) (K9 0)/\DTs (X.inn scope (L2.D0 own cap) s₃ H₃ fp) K [test] tif/\QE (X.inn scope (L2.D0 own cap) s₃ H₃ fp) (.Name y p1) (V4 0)) {j:Nat}
  (hs:∀ x,foldedSetIterable iter X.env x=pure x:=by intro _;rfl):DE X K E (.DictComp (.Name y p1) (.Constant (.bool true) j p2) [⟨.Name y p0,iter,[test],0⟩] scope pos) (D1r ti tif cap) :=
 ⟨D2 (C45 own cap hc L hi.q (fun a b c=>⟨(hin a b c).1,(hin a b c).2.1.q,(hin a b c).2.2,⟨B9l⟩⟩) hs) (D12 ho)⟩
theorem D77 {cap:List (Str × Nat)} {ρ:C5} {Q:QD} {Xd:XD} (h:ti ρ (fun ds b=>∃ (ks:List C2) (g:C2->Bool) (ρ':C5),ds=ks.map L1/\ks.length < 1000000/\B01 cap ρ ρ'/\(∀ k∈ks,∀ Q':Bool->Prop,Q' (g k)->tif (some (false,L1 k)::ρ') Q' Xf)/\Q (M6 (P2 [] (ks.filter g))) (.own [])) Xd):D1r ti tif cap ρ Q Xd:=h
theorem D4c {cap:List (Str × Nat)} {ρ:C5} {Q:QD} {Xd:XD} (h:td ρ (fun d _=>∃ (es:List (C2 × D)) (g:C2->Bool) (ρ':C5),d=M6 es/\es.length < 1000000/\B01 cap ρ ρ'/\(∀ k∈es.map (·.1),∀ Q':Bool->Prop,Q' (g k)->tif (some (false,L1 k)::ρ') Q' Xf)/\Q (M6 (P2 [] ((es.map (·.1)).filter g))) (.own [])) Xd):D0w td tif cap ρ Q Xd:=h
theorem D6v {cap:List (Str × Nat)} {ρ:C5} {Q:QD} {Xd:XD} (h:td ρ (fun d _=>∃ (es:List (C2 × D)) (g:C2->Bool) (ρ':C5),d=M6 es/\es.length < 1000000/\B01 cap ρ ρ'/\(∀ k∈es.map (·.1),∀ Q':Bool->Prop,Q' (g k)->tif (some (false,L1 k)::ρ') Q' Xf)/\Q (.list (((es.map (·.1)).filter g).map L1)) (.own [])) Xd):D22 td tif cap ρ Q Xd:=h
def B53 (tk:TKy) (td:TD):TD:=fun ρ Q Xd=>tk ρ (fun k=>td ρ (fun d _=>∃ es k',d=dFD es/\k=.inl k'/\Q (.bool (look es k').isSome) .old) Xd) Xd
theorem B18 {tk:TKy} {i o:Expr} (hu:X.A.units+1 < cLine) (hi:DKy X K E i tk) (ho:DE X K E o td) (hm:behindInMarks .In o=false):DE X K E (.Compare i [.In] [o] pos) (B53 tk td) :=
 ⟨D2 (B4e hu hi.q ho.q hm) fun σ H Q h=>by
 obtain ⟨H0,ν,ρ,Qd,Xd,S,h1,q,x⟩:=h;refine ⟨H0,ν,ρ,_,Xd,S,h1,fun k v H1 g1 e1 r1=>?_,x⟩;refine ⟨H0,ν,ρ,_,Xd,S.same e1,g1,fun d kk u H2 g2 e2 r2=>?_,x⟩;obtain ⟨es,k',rfl,rfl,g2⟩:=g2;obtain ⟨a,kvs,rfl,e,p⟩:=C77 r2.den;have r3:=r1.same e2;cases r3;refine ⟨a,_,rfl,.inl ⟨kvs,k',e,rfl,rfl⟩,?_⟩;have:(U6 kvs k').isSome=(look es k').isSome:=by
  rcases p.look k' with ⟨d,v,e1,e2,_⟩|⟨e1,e2⟩
  ·rw [e1,e2];rfl
  ·rw [e1,e2];rfl
 rw [this];exact q _ _ _ _ g2 (e1.trans e2) (.bl _)⟩
theorem C9v {tk:TKy} {ρ:C5} {Q:QD} {Xd:XD} (h:tk ρ (fun k=>td ρ (fun d _=>∃ es k',d=dFD es/\k=.inl k'/\Q (.bool (look es k').isSome) .old) Xd) Xd):B53 tk td ρ Q Xd:=h
def C9x:F2:=fun d _ e _ Q=>match d,e with
 | .str i,.str j=>Q (.bool (!(Builtin.Str.occurrences j i 0 j.length 1).isEmpty)) .old
 | _,_=>False
theorem A7h:DOp X K (compareOp .In) C9x:=⟨_,B6h,fun Z ν Hs H x y d k e l Qf Q _ _ _ h3 h4 h5 h6=>by
 unfold C9x at h5;split at h5
 ·have a:=h3.den;have b:=h4.den;cases a;cases b;exact ⟨_,_,rfl,rfl,h6 _ _ _ _ h5 (A7.refl H) (.bl _)⟩
 ·exact h5.elim⟩
theorem D57 {z y:Str} {k l:Kd} {Q:QD} (h:Q (.bool (!(Builtin.Str.occurrences y z 0 y.length 1).isEmpty)) .old):C9x (.str z) k (.str y) l Q:=h
def C97:FA:=fun ds _ Q=>∃ ts:List Str,ds=[.list (ts.map .str)]/\ts.Nodup/\ts.length < 128/\∀ us:List Str,us.Perm ts->us.Pairwise O3->Q (.list (us.map .str)) (.own [])
theorem A75 {H:Hp}:∀ us:List Str,Dns K H (us.map V.str) (us.map PyData.str)
 | []=>.nil
 | x::r=>.cons (.str x) (A75 r)
theorem O2:∀ us:List Str,flats (us.map PyData.str)=true
 | []=>rfl
 | x::r=>by rw [map_cons,flats,O2 r];rfl
theorem A97 {H:Hp}:∀ {vs:List V} {us:List Str},Dns K H vs (us.map PyData.str)->vs=us.map V.str
 | [],[],_=>rfl
 | _,_::_,.cons h r=>by cases h;rw [A97 r];rfl
theorem B5j (hK:X.K=K):DCl X K (.builtin "sorted") C97:=⟨_,B33 K hK,fun Z ν Hs H xs ds k Qf Q hl hn hs h g q=>by
 obtain ⟨ts,rfl,g1,g2,g⟩:=g;obtain ⟨v,rfl,h1⟩:=Z8 h.dens;obtain ⟨a,us,rfl,e1,e2⟩:=D3 h1;have:=A97 e2;subst this;refine ⟨a,ts,rfl,L4.of e1,g1,g2,fun us p1 p2 l hp=>q _ _ _ _ (g us p1 p2) (A7.new hp) (Y8 (k:=.own []) hl hs hp ?_)⟩;exact ⟨[],A03 (A75 _) (O2 _),nodup_nil,fun _ z=>by cases z⟩⟩
def C5z:FA:=fun ds _ Q=>∃ (es:List (C2 × D)) (ts:List Str),ds=[M6 es]/\es.map (·.1)=ts.map Sum.inr/\ts.Nodup/\ts.length < 128/\∀ us:List Str,us.Perm ts->us.Pairwise O3->Q (.list (us.map .str)) (.own [])
theorem B1w (hc:X.calm=true):DCl X K (.builtin "sorted") C5z:=⟨_,B07 hc,fun Z ν Hs H xs ds k Qf Q hl hn hs h g q=>by
 obtain ⟨es,ts,rfl,g0,g1,g2,g⟩:=g;obtain ⟨v,rfl,h1⟩:=Z8 h.dens;obtain ⟨a,kvs,rfl,e,p⟩:=A34 h1;have hk:kvs.map (·.1)=ts.map Sum.inr:=by rw [A41 p];exact g0
 have hlen:kvs.length=ts.length:=by have:=congrArg List.length hk;rwa [length_map,length_map] at this
 refine ⟨a,kvs,ts,rfl,e,hk,g1,by rw [hlen];exact g2,fun us p1 p2 l hp=>q _ _ _ _ (g us p1 p2) (A7.new hp) (Y8 (k:=.own []) hl hs hp ?_)⟩;exact ⟨[],A03 (A75 _) (O2 _),nodup_nil,fun _ z=>by cases z⟩⟩
end
end DL
namespace L2
open PySem PySem.Spec PyProof.Rows PySem.W PySem.Calls
theorem A6k {X:Cx} {i:Nat} {y:Str} {py spos:Pos} {ke ve tg iter:Expr} {ifs:List Expr} {ti:TT} {scope:Scope} {pos:Pos} {wi:TI} {g:TG} {tk tv:TE} (own:List Str) (cap:List (Str × Nat)) (hN:X.N.Nodup) (hyi:X.N[i]?=some y) (hy:X.env.scope.names.lookup y=some .local) (hc:X.calm=true) (L:B9 X scope own cap) (hi:PI X tg iter wi)
  (hin:∀ (s₃:Shared) (H₃:Hp) (fp:List Addr),PG (X.inn scope (D0 own cap) s₃ H₃ fp) tg g/\PTs (X.inn scope (D0 own cap) s₃ H₃ fp) ifs ti/\PE (X.inn scope (D0 own cap) s₃ H₃ fp) ke tk/\PE (X.inn scope (D0 own cap) s₃ H₃ fp) ve tv)
  (hsw:swapsWith (.DictComp ke ve [⟨tg,iter,ifs,0⟩] scope pos) (some (.Name y py)) spos.line X.env=pure true:=by rfl) (hs:∀ x,foldedSetIterable iter X.env x=pure x:=by intro _;rfl) :
  PS X (.Assign [.Name y py] (.DictComp ke ve [⟨tg,iter,ifs,0⟩] scope pos) spos) (A9h (B5f wi g ti tk tv own cap) (K9 i)):=by
 intro pins s σ H D I h;rw [exec_Assign_Name_used _ _ _ _ hsw];refine wpAny_bind (wpAny_standAt (wpAny_bind ?_));show wpAny _ X.A (do let _ <- comprehension (.DictComp ke ve [⟨tg,iter,ifs,0⟩] scope pos) scope X.env _ newDict false (eval iter X.env) (some (assign (.Name y py) X.env))) _ _ s;have hcl:∀ x∈scope.names,x.2=.free->∃ c,X.env.cells.lookup x.1=some c:=fun x hx hk=>I.ok.has x.1 (L.fre x hx hk);refine wpAny_bind (wpAny_mono (wpAny_comprehension_free (use:=some (assign (.Name y py) X.env)) (Q:=fun _ s'=>SP X pins D .next s') rfl hs (O6 hcl) L.kind L.loc (D6 (hi pins s σ H _ I h) fun x s1 h1=>D6 h1 fun itv s2 ⟨it,fp,tn,J,H2,e,I2,T,st2,f2,q2⟩=>?_)) (fun _ s' hq=>wpAny_pure (wpAny_pure hq)) fun _ _ e=>e);subst e;refine wpAny_newObj_type ?_;have I3:=I2.laid (a:=s2.heap.objs.size) (o:=.dK []) (t':=s2.toks) (fun _ _ q=>Heap.get?_push_of_some _ q) (Nat.le_refl _) (A50 s2.heap I2.big);have fr2:H2 s2.heap.objs.size=none:=I2.fresh;have f3:∀ b∈fp,U0 X pins (upd H2 s2.heap.objs.size (.dK [])) b:=fun b hb=>by
  obtain ⟨o,eo,_⟩:=T.obj 0 _ st2 b hb;obtain ⟨g1,g2⟩:=f2 b hb;exact ⟨by rw [B1 (Nat.ne_of_lt (Heap.lt_size eo))];exact g1,g2⟩
 have k3:∀ b o,s2.heap.get? b=some o->(s2.heap.push { cls:=.type "dict",data:=.dict #[] }).get? b=some o:=fun b o e=>Heap.get?_push_of_some _ e;have st3:tn 0 (s2.heap.push { cls:=.type "dict",data:=.dict #[] }):=T.keep 0 _ _ st2 fun b _ o e=>k3 b o e;refine A0c ?_;have I4:=A7g L I3 f3 fun b hb=>by obtain ⟨o,eo,_⟩:=T.obj 0 _ st3 b hb;exact ⟨o,eo⟩
 obtain ⟨hg,ht,hk,hv⟩:=hin { s2 with heap:=s2.heap.push { cls:=.type "dict",data:=.dict #[] },toks:=s2.toks } (upd H2 s2.heap.objs.size (.dK [])) fp;have st4:=T.keep 0 _ (pushCells ((s2.heap.push { cls:=.type "dict",data:=.dict #[] }).push { cls:=.type "dict",data:=.dict #[] }) scope.names) st3 fun b _ o e=>pushCells_keeps _ _ b o (Heap.get?_push_of_some _ e);have f4:∀ b∈fp,U0 (X.inn scope (D0 own cap) { s2 with heap:=s2.heap.push { cls:=.type "dict",data:=.dict #[] },toks:=s2.toks } (upd H2 s2.heap.objs.size (.dK [])) fp) [] (upd H2 s2.heap.objs.size (.dK [])) b:=fun b hb =>
  ⟨(f3 b hb).1,(I4.ok.exf b hb).1,I4.ok.exfs b hb,.inl hb,(I4.ok.exf b hb).2,fun p hp=>absurd (show p∈([]:List (Addr × Obj)) from hp) (by simp)⟩
 have lp:=A9v (Y:=X.inn scope (D0 own cap) { s2 with heap:=s2.heap.push { cls:=.type "dict",data:=.dict #[] },toks:=s2.toks } (upd H2 s2.heap.objs.size (.dK [])) fp) (acc:=s2.heap.objs.size) (scope:=scope) (pos:=pos) (iter:=iter) rfl hc hg ht hk hv I4 T st4 f4 (q2 _ fr2);have lp':=codeAny_mono lp (R':=compPost (model X.prog X.w) X.A X.xe (some (assign (.Name y py) X.env)) (fun _ s'=>SP X pins D .next s') (.ref s2.heap.objs.size) (s2.heap.push { cls:=.type "dict",data:=.dict #[] }).objs.size) fun r s' ⟨hr,σ',H',I',q'⟩=>by
  subst hr;obtain ⟨m',hn',_⟩:=id I'.loc;have B:=I'.base;have I5:B4 X pins σ H' s':=I3.call' (ch:=fp) I'.os B I'.hok I'.bare fun b hb=>⟨(f3 b hb).2.2.2.1,(f3 b hb).2.1,(f3 b hb).2.2.2.2.1,(f3 b hb).2.2.2.2.2⟩;have hC:H' (s2.heap.push { cls:=.type "dict",data:=.dict #[] }).objs.size=none:=I'.free;show wpAny _ X.A (assign (.Name y py) X.env (.ref s2.heap.objs.size)) _ _ _;refine wpAny_assign_Name (A2i I5 hN hyi (.inl hy) (v:=.ref s2.heap.objs.size) rfl (fun s6 I6 ⟨a6,sb6,ha6⟩=>?_) (.inr hy));have neL:X.env.locals≠(s2.heap.push { cls:=.type "dict",data:=.dict #[] }).objs.size:=Nat.ne_of_lt I3.lt;have ha:a6≠(s2.heap.push { cls:=.type "dict",data:=.dict #[] }).objs.size:=by
   rcases ha6 with rfl|ha6
   ·exact neL
   ·obtain ⟨v,hv⟩:=I3.cell y a6 ha6;exact Nat.ne_of_lt hv.lt
  refine ⟨m',hn'.sameBut sb6 ha.symm,fun h' hsb=>?_⟩;refine ⟨_,H',?_,q'⟩;have kb:∀ b o,b≠(s2.heap.push { cls:=.type "dict",data:=.dict #[] }).objs.size->s6.heap.get? b=some o->h'.get? b=some o:=fun b o hb e=>(hsb.2 b hb).trans e;refine I6.turned (t':=s6.toks) (it:=(s2.heap.push { cls:=.type "dict",data:=.dict #[] }).objs.size) kb hC neL.symm (.inr I3.sz) (fun x c e z=>?_) (fun p hp z=>?_)
  ·obtain ⟨v,hv⟩:=I3.cell x c e;exact absurd z (Nat.ne_of_lt hv.lt)
  ·have:=(I3.pin p hp).1;exact absurd z (Nat.ne_of_lt (Heap.lt_size this))
 exact A27 lp' (T.self _ _ _ _ _ st4 lp')
def C9u (H0:Hp) (t:TS):TS:=fun D σ H=>t { D with nx:=fun σ' H1=>∃ d o kvs,H1 d=some (.frz o (.dK kvs))/\(∀ o u,H0 d≠some (.frz o u))/\D.nx σ' (upd H1 d (.dK kvs)) } σ H
theorem B6j {X:Cx} {st:Stmt} {t:TS} (h:QS X st t):QS X st (C9u X.H₀ t):=⟨by
 intro pins s σ H D I hw;refine D6 (h.h pins s σ H _ I hw) fun f s1 q=>?_;cases f with
 | next =>
  obtain ⟨σ',H1,I1,d,o,kvs,hd,h0,q⟩:=q;exact ⟨σ',_,I1.thaw3 hd h0,q⟩
 | ret v=>exact q
 | brk=>exact q
 | cont=>exact q⟩
end L2
namespace DL
open PySem PySem.Spec PyProof.Rows L2
section
variable {X:Cx} {K:W.Frag} {E:XK} {pos p0 p1 p2:Pos} {iter:Expr} {scope:Scope} {td:TD} {tif:Y3} {y:Str} {test:Expr}
theorem B1i {i:Nat} {z:Str} {pz spos:Pos} (own:List Str) (cap:List (Str × Nat)) (hN:X.N.Nodup) (hyi:X.N[i]?=some z) (hy:X.env.scope.names.lookup z=some .local) (ho:own.length=1) (hc:X.calm=true) (L:B9 X scope own cap) (hi:DE X K E iter td)
  (hin:∀ (s₃:Shared) (H₃:Hp) (fp:List Addr),QG (X.inn scope (L2.D0 own cap) s₃ H₃ fp) (.Name y p0) (K9 0)/\DTs (X.inn scope (L2.D0 own cap) s₃ H₃ fp) K [test] tif/\QE (X.inn scope (L2.D0 own cap) s₃ H₃ fp) (.Name y p1) (V4 0)) {j:Nat}
  (hsw:swapsWith (.DictComp (.Name y p1) (.Constant (.bool true) j p2) [⟨.Name y p0,iter,[test],0⟩] scope pos) (some (.Name z pz)) spos.line X.env=pure true:=by rfl) (hs:∀ x,foldedSetIterable iter X.env x=pure x:=by intro _;rfl) :
  DS X K E (.Assign [.Name z pz] (.DictComp (.Name y p1) (.Constant (.bool true) j p2) [⟨.Name y p0,iter,[test],0⟩] scope pos) spos) (C2a i (D0w td tif cap)) :=
 ⟨M8 (B6j ⟨A6k (i:=i) own cap hN hyi hy hc L (A64 hi.q).h (fun a b c=>⟨(hin a b c).1.h,(hin a b c).2.1.q.h,(hin a b c).2.2.h,B9l⟩) hsw hs⟩) fun En σ H h=>by
  obtain ⟨H0,ν,ρ,Dd,Xd,S,h1,ok,x⟩:=h;refine D0d (own:=own) X.H₀ ho σ H (fun v H2=>En.nx (σ.set i (some v)) H2) ⟨H0,ν,ρ,_,Xd,S,h1,fun d k v H' g1 g2 g3=>?_,x⟩;obtain ⟨ν',S'⟩:=S.setK g2 g3 i;exact ok.nx _ _ _ _ g1 S'⟩
theorem C5p {tk:TKy}:∀ σ H Q,LE K E (B53 tk td) σ H Q->B7m (LKy K E tk) (LE K E td) σ H Q:=fun σ H Q h=>by
 obtain ⟨H0,ν,ρ,Qd,Xd,S,h1,q,x⟩:=h;refine ⟨H0,ν,ρ,_,Xd,S,h1,fun k v H1 g1 e1 r1=>?_,x⟩;refine ⟨H0,ν,ρ,_,Xd,S.same e1,g1,fun d kk u H2 g2 e2 r2=>?_,x⟩;obtain ⟨es,k',rfl,rfl,g2⟩:=g2;obtain ⟨a,kvs,rfl,e,p⟩:=C77 r2.den;have r3:=r1.same e2;cases r3;refine ⟨a,_,rfl,.inl ⟨kvs,k',e,rfl,rfl⟩,?_⟩;have:(U6 kvs k').isSome=(look es k').isSome:=by
  rcases p.look k' with ⟨d,v,e1,e2,_⟩|⟨e1,e2⟩
  ·rw [e1,e2];rfl
  ·rw [e1,e2];rfl
 rw [this];exact q _ _ _ _ g2 (e1.trans e2) (.bl _)
theorem B8s {tk:TKy} {i o:Expr} (hu:X.A.units+1 < cLine) (hi:DKy X K E i tk) (ho:DE X K E o td) (hm:behindInMarks .In o=false):DT X K E (.Compare i [.In] [o] pos) (dB (B53 tk td)) :=
 ⟨A1d (B4h hu hi.q ho.q hm) fun σ H Q h=>C5p σ H _ (C9r h)⟩
end
def A0y:Nat->List (C2 × D)->List Str->List (C2 × D)
 | _,es,[]=>es
 | n,es,t::r=>A0y (n+1) (X3 es (.inr t) (.int ((n:Nat):Int))) r
theorem A98:∀ (ts:List Str) (n:Nat) (es:List (C2 × D)),(A0y n es ts).length<=es.length+ts.length
 | [],n,es=>Nat.le_refl _
 | a::r,n,es=>by
  have:=A98 r (n+1) (X3 es (.inr a) (.int ((n:Nat):Int)));have:=A9p es (.inr a) (.int ((n:Nat):Int));rw [A0y,length_cons];omega
theorem A6a:∀ {ts:List Str} {n i:Nat} {es:List (C2 × D)} {t:Str},ts[i]?=some t->A0y n es (ts.take (i+1))=X3 (A0y n es (ts.take i)) (.inr t) (.int (((n+i:Nat)):Int))
 | [],_,_,_,_,h=>by simp at h
 | a::r,n,0,es,t,h=>by cases h;rfl
 | a::r,n,i+1,es,t,h=>by
  rw [List.getElem?_cons_succ] at h;rw [List.take_succ_cons,List.take_succ_cons,A0y,A0y,A6a h,show n+1+i=n+(i+1) from by omega]
theorem A1z:∀ {ts:List Str} {n:Nat} {es:List (C2 × D)} {t:Str},t∉ts->look (A0y n es ts) (.inr t)=look es (.inr t)
 | [],_,_,_,_=>rfl
 | a::r,n,es,t,h=>by
  rw [A0y,A1z (fun z=>h (mem_cons_of_mem _ z)),A6n,if_neg];intro z;cases z;exact h mem_cons_self
theorem A2h:∀ {ts:List Str} {n i:Nat} {es:List (C2 × D)} {t:Str},ts.Nodup->ts[i]?=some t->look (A0y n es ts) (.inr t)=some (.int (((n+i:Nat)):Int))
 | [],_,_,_,_,_,h=>by simp at h
 | a::r,n,0,es,t,hn,h=>by
  cases h;rw [nodup_cons] at hn;rw [A0y,A1z hn.1,A6n,if_pos rfl];rfl
 | a::r,n,i+1,es,t,hn,h=>by
  rw [List.getElem?_cons_succ] at h;rw [nodup_cons] at hn;rw [A0y,A2h hn.2 h,show n+1+i=n+(i+1) from by omega]
def D3b (ti:TDI):TD:=fun ρ Q Xd=>ti ρ (fun ds b=>∃ ts:List Str,ds=R9 0 (ts.map .str)/\ts.length < 1000000/\Q (M6 (A0y 0 [] ts)) (.own [])) Xd
section
variable {X:Cx} {K:W.Frag} {E:XK} {pos p0 p1 p2 p3 p4:Pos} {iter:Expr} {scope:Scope} {ti:TDI} {y z:Str}
theorem B5l {tb:TS} {En:T1} {σ:L2.St} {H:Hp} (h:tb En σ H):A57 (fun _ H Q=>Q true H) tb En σ H:=by
 unfold A57;dsimp only;rw [if_pos rfl];exact h
theorem D1e {own:List Str} {cap:List (Str × Nat)}:∀ σ H Q,own.length=2->LE K E (D3b ti) σ H Q->B5f (LI K E ti) (B8x K 2 (A4w (K9 0) (A4w (K9 1) C1n))) (fun _ H Q=>Q true H) (V4 1) (V4 0) own cap σ H Q:=fun σ H Q hone h=>by
 obtain ⟨H0,ν,ρ,Qd,Xd,S,h1,q,x⟩:=h;refine ⟨H0,ν,ρ,_,Xd,S,h1,fun ds b J H1 g1 e1 it=>?_,x⟩;obtain ⟨ts,rfl,hl,g1⟩:=g1;intro acc ha;have S1:=S.same e1;refine ⟨fun i m σ' H'=>m=ts.length - i/\i<=ts.length/\1 < σ'.length/\A7 H1 H'/\∃ kvs,H' acc=some (.dK kvs)/\VPs kvs (A0y 0 [] (ts.take i)),
  ⟨_,rfl,Nat.zero_le _,by unfold A4b;simp;omega,A7.new ha,[],B3,.nil⟩,?_⟩
 rintro i m σ2 H2 ⟨rfl,hi,hn,sm,kvs,ea,vp⟩;have it2:=it (fun a=>b=true/\Hd Z0 ν a) H2 (fun a z=>by obtain ⟨o,e⟩:=S1.hl a z.2;exact ⟨o,sm _ _ e⟩) (fun a o e=>by
  unfold fz at e;cases b with
  | true=>rw [if_pos rfl] at e;obtain ⟨e1,e2⟩:=G5 e;exact D5 (sm _ _ e1) fun z=>e2 z.2
  | false=>rw [if_neg Bool.false_ne_true] at e;exact D5 (sm _ _ e) fun z=>by cases z.1)
 obtain ⟨i1,i2⟩:=it2;rw [U7,length_map] at i1;by_cases hlt:i < ts.length
 ·have hget:(R9 0 (ts.map PyData.str))[i]?=some (.tuple [.int ((i:Nat):Int),.str ts[i]]):=by
   have hx:i < (R9 0 (ts.map PyData.str)).length:=by rw [U7,length_map];exact hlt
   obtain ⟨d,h3,h4⟩:=A0h (List.getElem?_eq_getElem hx);rw [List.getElem?_eq_getElem hx,h4,Nat.zero_add];rw [List.getElem?_map,List.getElem?_eq_getElem hlt] at h3;rw [<-Option.some.inj h3]
  obtain ⟨j1,j2⟩:=i2 i _ hget;refine .inr ⟨j1,_,fun σ' H' hN=>⟨_,(by omega:ts.length - (i+1) < ts.length - i),rfl,hlt,hN⟩,fun v H' hy=>?_⟩;obtain ⟨k1,k2⟩:=j2 v H' hy;obtain ⟨a,us,rfl,t1,t2⟩:=J4 k2;obtain ⟨u0,u1,rfl,q0,q1⟩:=D4y t2;cases q0;cases q1;refine ⟨a,_,rfl,A7.tup D4 t1,rfl,_,_,rfl,_,_,rfl,rfl,?_⟩;have l0:1 < σ2.length:=hn;refine B5l ?_;refine ⟨.str ts[i],by rw [List.getElem?_set_self (by rw [length_set];exact l0)],.int (i:Int),by rw [List.getElem?_set_ne (by decide),List.getElem?_set_self (by omega)],kvs,.inr ts[i],rfl,k1 _ _ ea,?_,?_⟩
  ·have:=A98 (ts.take i) 0 [];rw [length_take,List.length_nil] at this;rw [vp.length];exact Nat.lt_of_lt_of_le (by omega) K5
  ·refine ⟨by rw [length_set,length_set];exact hn,fun a o e=>?_,_,B3,?_⟩
   ·by_cases z:a=acc
    ·subst z;rw [ha] at e;cases e
    ·rw [B1 z];exact k1 _ _ (sm _ _ e)
   ·rw [A6a (List.getElem?_eq_getElem hlt),Nat.zero_add];exact vp.put rfl
 ·have e:i=ts.length:=by omega
  subst e;rw [take_length] at vp;exact .inl ⟨i1,q _ _ _ _ g1 (e1.trans sm) ⟨[acc],A94 ea vp,by simp,fun a hm=>by rw [mem_singleton] at hm;subst hm;exact .inl (e1.gone ha)⟩⟩
theorem B30 {i:Nat} {n:Str} {pz spos:Pos} (own:List Str) (cap:List (Str × Nat)) (hN:X.N.Nodup) (hyi:X.N[i]?=some n) (hy:X.env.scope.names.lookup n=some .local) (ho:own.length=2) (hc:X.calm=true) (L:B9 X scope own cap) {kk:Nat} (hi:DI X K E (.Tuple [.Name z p3,.Name y p0] kk p4) iter ti)
  (hin:∀ (s₃:Shared) (H₃:Hp) (fp:List Addr),QG (X.inn scope (L2.D0 own cap) s₃ H₃ fp) (.Tuple [.Name z p3,.Name y p0] kk p4) (B8x K 2 (A4w (K9 0) (A4w (K9 1) C1n)))/\QE (X.inn scope (L2.D0 own cap) s₃ H₃ fp) (.Name y p1) (V4 1)/\QE (X.inn scope (L2.D0 own cap) s₃ H₃ fp) (.Name z p2) (V4 0))
  (hsw:swapsWith (.DictComp (.Name y p1) (.Name z p2) [⟨.Tuple [.Name z p3,.Name y p0] kk p4,iter,[],0⟩] scope pos) (some (.Name n pz)) spos.line X.env=pure true:=by rfl) (hs:∀ x,foldedSetIterable iter X.env x=pure x:=by intro _;rfl) :
  DS X K E (.Assign [.Name n pz] (.DictComp (.Name y p1) (.Name z p2) [⟨.Tuple [.Name z p3,.Name y p0] kk p4,iter,[],0⟩] scope pos) spos) (C2a i (D3b ti)) :=
 ⟨M8 ⟨A6k (i:=i) own cap hN hyi hy hc L hi.q.h (fun a b c=>⟨(hin a b c).1.h,B41,(hin a b c).2.1.h,(hin a b c).2.2.h⟩) hsw hs⟩ fun En σ H h=>by
  obtain ⟨H0,ν,ρ,Dd,Xd,S,h1,ok,x⟩:=h;refine D1e (own:=own) (cap:=cap) σ H (fun v H2=>En.nx (σ.set i (some v)) H2) ho ⟨H0,ν,ρ,_,Xd,S,h1,fun d k v H' g1 g2 g3=>?_,x⟩;obtain ⟨ν',S'⟩:=S.setK g2 g3 i;exact ok.nx _ _ _ _ g1 S'⟩
theorem D6i {ρ:C5} {Q:QD} {Xd:XD} (h:ti ρ (fun ds b=>∃ ts:List Str,ds=R9 0 (ts.map .str)/\ts.length < 1000000/\Q (M6 (A0y 0 [] ts)) (.own [])) Xd):D3b ti ρ Q Xd:=h
def B9z (i:Nat):L9:=fun Dd ρ Xd=>∃ n us m ways,ρ[i]?=some (some (true,.tuple [n,.tuple [.list us,.tuple [m,.list ways]]]))/\us.length < 1000000/\ways.length < 1000000/\Dd.nx (ρ.set i none)
abbrev tM1 (K:W.Frag) (i:Nat):TE:=tOp (B2p K) (V4 i) (tC (.int 1))
abbrev D8x (K:W.Frag) (i:Nat):TE:=tOp (B2p K) (tM1 K i) (tC (.int 0))
abbrev D93 (K:W.Frag) (i:Nat):TE:=tOp (B2p K) (tM1 K i) (tC (.int 1))
abbrev D63 (K:W.Frag) (i:Nat):TE:=tOp (B2p K) (D93 K i) (tC (.int 1))
theorem B8f {i:Nat} {E7:List Stmt} {tr:L9} {a b:Stmt} (h1:QS X a (B0y (tBM K "list" W9 (D8x K i) (Y1 (tC (.str (Str.ofString "a"))) A7c)))) (h2:QS X b (B0y (tBM K "list" W9 (D63 K i) (Y1 (D15 (Y1 (tC (.int 0)) (Y1 (tC (.str (Str.ofString "a"))) (Y1 (tC (.int 0)) A7c)))) A7c)))) (hr:DSs X K E E7 tr):DSs X K E (a::b::E7) (D18 (B9z i) tr):=⟨A86 (A2r h1 (A2r h2 hr.q)) fun En σ H h=>by
 obtain ⟨H0,ν,ρ,Dd,Xd,S,h1,ok,x⟩:=h;obtain ⟨n,us,m,ways,h1,l1,l2,h2⟩:B9z i _ ρ Xd:=h1;obtain ⟨v,g1,g2⟩:=S.sl i true _ h1;have g2:Ow K H v _ (ν i):=g2;have nd:=S.nd i;generalize hv:ν i=N at g2 nd;cases g2 with
 | tup ht q =>
 cases q with
 | cons q1 q2 =>
 cases q2 with
 | cons q3 q4 =>
 cases q4;cases q3 with
 | tup hp q5 =>
 cases q5 with
 | cons q6 q7 =>
 cases q7 with
 | cons q8 q9 =>
 cases q9;cases q6 with
 | lst hr ru =>
 cases q8 with
 | tup hq q10 =>
 cases q10 with
 | cons w1 w2 =>
 cases w2 with
 | cons w3 w4 =>
 cases w4;cases w3 with
 | lst hw wu =>
 rename_i t v0 m0 p r0 us0 m1 p1 v1 m2 w0 usw m3;simp only [append_nil,List.cons_append,nodup_cons,nodup_append,mem_cons,mem_append,not_or] at nd;have ne:w0≠r0:=fun z=>by simp_all
 have at0:∀ (a b:V),atI [a,b] 0=some a:=fun _ _=>rfl;have at1:∀ (a b:V),atI [a,b] 1=some b:=fun _ _=>rfl;refine ⟨_,g1,t,_,1,_,rfl,rfl,ht,at1 _ _,p,_,0,_,rfl,rfl,hp,at0 _ _,tyl (L4.of hr),r0,us0,.str _,rfl,rfl,hr,by rw [ru.den.length];exact Nat.lt_of_lt_of_le l1 K5,?_⟩;have ht':=A8p (vs:=us0++[V.str (Str.ofString "a")]) ht hr;have hp':=A8p (vs:=us0++[V.str (Str.ofString "a")]) hp hr;have hq':=A8p (vs:=us0++[V.str (Str.ofString "a")]) hq hr;have hw':upd H r0 (.lst (us0++[V.str (Str.ofString "a")])) w0=some (.lst usw):=by rw [B1 ne];exact hw
 have k1:∀ a o,H a=some o->a∉ν i->upd H r0 (.lst (us0++[V.str (Str.ofString "a")])) a=some o:=fun a o ho ha=>by
  rw [B1 (fun z=>ha (by rw [z,hv];simp))];exact ho
 generalize upd H r0 (.lst (us0++[V.str (Str.ofString "a")]))=H1 at *;refine ⟨_,g1,t,_,1,_,rfl,rfl,ht',at1 _ _,p,_,1,_,rfl,rfl,hp',at1 _ _,p1,_,1,_,rfl,rfl,hq',at1 _ _,tyl (L4.of hw'),by rw [sizeLine_eq];decide,fun c hc=>?_⟩;have hw3:upd H1 c (.tup [.int 0,.str (Str.ofString "a"),.int 0]) w0=some (.lst usw):=by rw [B1 (fun z=>by rw [z,hc] at hw';cases hw')];exact hw'
 refine ⟨w0,usw,.ref c,rfl,rfl,hw3,by rw [wu.den.length];exact Nat.lt_of_lt_of_le l2 K5,?_⟩;refine ⟨H0,_,_,Dd,Xd,S.forget i fun a o ho ha=>?_,h2,ok,x⟩;rw [B1 (fun z=>ha (by rw [z,hv];simp))];have:=k1 a o ho ha;rw [B1 (fun z=>by rw [z,hc] at this;cases this)];exact this⟩
theorem D2r {i:Nat} {Dd:N6} {ρ:C5} {Xd:XD} (h:∃ n us m ways,ρ[i]?=some (some (true,.tuple [n,.tuple [.list us,.tuple [m,.list ways]]]))/\us.length < 1000000/\ways.length < 1000000/\Dd.nx (ρ.set i none)):B9z i Dd ρ Xd:=h
end
section
variable {X:Cx} {K:W.Frag} {E:XK} {H0 H H':Hp} {ν:Nat->List Addr} {ρ:C5} {σ σ':L2.St}
theorem B7.away (S:B7 K Z0 H0 ν ρ σ H) {w:Nat} {p:Addr} (hw:ν w=[p]) (k:∀ a o,H a=some o->a≠p->H' a=some o) (hp:Mu H' p):B7 K Z0 H0 (fun j=>if j=w then [p] else []) (DL.frz (ρ.set w none)) σ H' where
 sm:=fun a o h=>k a o (S.sm a o h) fun z=>by
  have:=(S.fr w p (by rw [hw];simp)).1;rw [<-z,h] at this;cases this
 len:=by unfold DL.frz;rw [length_map,length_set];exact S.len
 sl:=fun i b d h=>by
  obtain ⟨rfl,c,h⟩:=B59 h;have hin:∀ a,Hd Z0 (fun j=>if j=w then [p] else []) a->a=p:=fun a z=>by
   rcases z with z|⟨j,z⟩
   ·exact z.elim
   ·dsimp only at z;split at z
    ·exact mem_singleton.mp z
    ·cases z
  have pw:p∈ν w:=by rw [hw];simp
  rcases O8 h with ⟨_,z,_⟩|⟨hne,h⟩
  ·cases z
  obtain ⟨v,h1,h2⟩:=S.sl i c d h;refine ⟨v,h1,?_⟩;cases c with
  | true =>
   have h2:Ow K H v d (ν i):=h2;have h3:=A7e (Z:=fun a=>a=p) (fun a z=>by rw [z];exact (S.fr w p pw).2.2) h2 fun a ha z=>by
    have z:a=p:=z;rw [z] at ha;exact hne (S.dj i w p ha pw)
   refine Dn.same (fun a o e=>?_) h3;obtain ⟨e1,e2⟩:=G5 e;exact D5 (k _ _ e1 e2) fun z=>e2 (hin a z)
  | false =>
   refine Dn.same (fun a o e=>?_) h2;obtain ⟨e1,e2⟩:=G5 e;have hne':a≠p:=fun z=>e2 (.inr ⟨w,by rw [z];exact pw⟩);exact D5 (k _ _ e1 hne') fun z=>hne' (hin a z)
 nd:=fun j=>by split<;>simp
 dj:=fun i j a h1 h2=>by
  split at h1
  ·split at h2
   ·omega
   ·cases h2
  ·cases h1
 fr:=fun j a h=>by
  split at h
  ·rw [mem_singleton.mp h];exact ⟨(S.fr w p (by rw [hw];simp)).1,fun z=>z.elim,hp⟩
  ·cases h
 zf:=fun a z=>z.elim
def Jk (y z:Nat) (σ σ':L2.St):Prop:=σ'.length=σ.length/\∀ j,j≠y->j≠z->σ'[j]?=σ[j]?
theorem Jk.refl {y z:Nat}:Jk y z σ σ:=⟨rfl,fun _ _ _=>rfl⟩
theorem Jk.set1 {y z:Nat} {v:Option V} (h:Jk y z σ σ'):Jk y z σ (σ'.set y v):=⟨by rw [length_set];exact h.1,fun j h1 h2=>by rw [List.getElem?_set_ne (Ne.symm h1)];exact h.2 j h1 h2⟩
theorem Jk.set2 {y z:Nat} {v:Option V} (h:Jk y z σ σ'):Jk y z σ (σ'.set z v):=⟨by rw [length_set];exact h.1,fun j h1 h2=>by rw [List.getElem?_set_ne (Ne.symm h2)];exact h.2 j h1 h2⟩
theorem B7.jk {y z:Nat} (S:B7 K Z0 H0 ν ((ρ.set y none).set z none) σ H) (h:Jk y z σ σ'):B7 K Z0 H0 ν ((ρ.set y none).set z none) σ' H where
 sm:=S.sm
 len:=by rw [h.1];exact S.len
 sl:=fun j b d hj=>by
  obtain ⟨v,q1,q2⟩:=S.sl j b d hj;refine ⟨v,?_,q2⟩;rcases O8 hj with ⟨_,z,_⟩|⟨n1,hj⟩
  ·cases z
  rcases O8 hj with ⟨_,z,_⟩|⟨n2,hj⟩
  ·cases z
  rw [h.2 j n2 n1];exact q1
 nd:=S.nd
 dj:=S.dj
 fr:=S.fr
 zf:=S.zf
def Z1 (w y z:Nat) (ρ:C5):C5:=((frz (ρ.set w none)).set y none).set z none
def A5l (xs zs:List D) (g:D->D->Bool) (f:D->D->D):List D:=xs.flatMap fun d=>(zs.filter (g d)).map (f d)
def C7d (i w y z:Nat) (tZ:TDI) (tc:Y3) (te:TD):L9:=fun Dd ρ Xd=>∃ (xs zs:List D) (g:D->D->Bool) (f:D->D->D),ρ[i]?=some (some (true,.list xs))/\ρ[w]?=some (some (true,.list []))/\(i≠w/\i≠y/\i≠z/\w≠y/\w≠z/\y≠z/\y < ρ.length/\z < ρ.length)/\flats xs=true/\flats zs=true/\xs.length*zs.length<=100000 /\
 (∀ d∈xs,tZ ((Z1 w y z ρ).set y (some (false,d))) (fun ds b=>ds=zs/\b=true) Xd)/\(∀ d∈xs,∀ c∈zs,∀ Q':Bool->Prop,Q' (g d c)->tc (((Z1 w y z ρ).set y (some (false,d))).set z (some (false,c))) Q' Xd) /\
 (∀ d∈xs,∀ c∈zs,g d c=true->te (((Z1 w y z ρ).set y (some (false,d))).set z (some (false,c))) (fun e _=>e=f d c) Xd)/\(∀ d∈xs,∀ c∈zs,g d c=true->flat (f d c)=true)/\Dd.nx (((ρ.set w (some (true,.list (A5l xs zs g f)))).set y none).set z none)
theorem V1:∀ {l:List D} {i:Nat} {d:D},flats l=true->l[i]?=some d->flat d=true
 | [],_,_,_,h=>by simp at h
 | x::r,0,d,h,e=>by rw [flats,Bool.and_eq_true] at h;cases e;exact h.1
 | x::r,i+1,d,h,e=>by rw [flats,Bool.and_eq_true] at h;exact V1 h.2 (by simpa using e)
theorem C2y (xs zs:List D) (g:D->D->Bool) (f:D->D->D):(A5l xs zs g f).length<=xs.length*zs.length:=by
 unfold A5l
 induction xs with
 | nil=>simp
 | cons a r ih =>
  rw [List.flatMap_cons,length_append,length_map,length_cons,Nat.succ_mul];have:=length_filter_le (g a) zs;omega
theorem C16 {i w y z:Nat} {st:Stmt} {tZ:TDI} {tc:Y3} {te:TD} (h:QS X st (B1a (B4v K (V4 i)) (K9 y) (B1a (LI K E tZ) (K9 z) (C5y (LT K E tc) (B0y (tBM K "list" W9 (V4 w) (Y1 (LE K E te) A7c))) B4s)))):DS X K E st (C7d i w y z tZ tc te):=⟨M8 h fun En σ H hh=>by
 obtain ⟨H0,ν,ρ,Dd,Xd,S,⟨xs,zs,g,f,h1,h2,⟨n1,n2,n3,n4,n5,n6,ly,lz⟩,fx,fZ,hlen,hz,hc,he,hf,fin⟩,ok,x⟩:=hh;obtain ⟨a,us,ns,g1,g2,g3,g4,g5,g6⟩:=A55 S h1;obtain ⟨p,us',ns',p1,p2,p3,p4,p5,p6⟩:=A55 S h2;cases p3;have hpa:a≠p:=fun z=>by
  have q1:p∈ν i:=by rw [g4,z];simp
  have q2:p∈ν w:=by rw [p4];simp
  exact n1 (S.dj i w p q1 q2)
 have H0p:H0 p=none:=(S.fr w p (by rw [p4];simp)).1;refine ⟨_,g1,a,rfl,⟨us,L4.of g2⟩,?_⟩;have rd:∀ {σ2:L2.St} {H2:Hp},Jk y z σ σ2->(∀ b o,H b=some o->b≠p->H2 b=some o)->Mu H2 p->B7 K Z0 H0 (fun j=>if j=w then [p] else []) (Z1 w y z ρ) σ2 H2:=fun j k m=>B7.jk (((S.away p4 k m).drop y).drop z) j;have hwσ:∀ {σ2:L2.St},Jk y z σ σ2->σ2[w]?=some (some (.ref p)):=fun j=>by rw [j.2 w n4 n5];exact p1
 show A30 (Itl K a) (K9 y) _ En σ H;refine B69 us (fun k σ2 H2=>Jk y z σ σ2/\(∀ b o,H b=some o->b≠p->H2 b=some o)/\∃ vs,H2 p=some (.lst vs)/\Ows K H2 vs (A5l (xs.take k) zs g f) []) ⟨Jk.refl,fun _ _ e _=>e,[],p2,.nil⟩ ?_ ?_ ?_
 ·rintro k σ2 H2 _ ⟨_,hk,_⟩;exact L4.of (hk _ _ g2 hpa)
 ·rintro k u σ2 H2 hu ⟨j2,k2,vs,e2,o2⟩;obtain ⟨d,hd,ud⟩:∃ d,xs[k]?=some d/\Dn K H u d:=by
   have hl:k < xs.length:=by rw [<-g3.den.length];exact (List.getElem?_eq_some_iff.mp hu).1
   obtain ⟨v,q1,q2⟩:=g3.den.get (List.getElem?_eq_getElem hl);rw [hu] at q1;cases q1;exact ⟨_,List.getElem?_eq_getElem hl,q2⟩
  have dm:=mem_of_getElem? hd;have ud2:Dn K H2 u d:=A28 (fun a o e n=>k2 a o e fun z=>by rw [z,p2] at e;cases e;cases (show true=false from n)) ud (V1 fx hd);have rd2:∀ {σ3:L2.St} {H3:Hp},Jk y z σ σ3->σ3[y]?=some (some u)->(∀ b o,H b=some o->b≠p->H3 b=some o)->(∃ vs,H3 p=some (.lst vs))->B7 K Z0 H0 (fun j=>if j=w then [p] else []) ((Z1 w y z ρ).set y (some (false,d))) σ3 H3:=fun {σ3 H3} j e k m=>by
   obtain ⟨vs,m⟩:=m;have A:=(rd j k (.lst m)).setOld y (v:=u) (d:=d) (R6 (rd j k (.lst m)).hl (A28 (fun a o e n=>k a o e fun z=>by rw [z,p2] at e;cases e;cases (show true=false from n)) ud (V1 fx hd)) (V1 fx hd));have:σ3.set y (some u)=σ3:=by
    refine List.ext_getElem? fun l=>?_;by_cases hl:l=y
    ·subst hl;rw [e,List.getElem?_set_self (by obtain ⟨hh,_⟩:=List.getElem?_eq_some_iff.mp e;exact hh)]
    ·rw [List.getElem?_set_ne (Ne.symm hl)]
   rw [this] at A;exact A
  show B1a (LI K E tZ) (K9 z) _ _ (σ2.set y (some u)) H2;have jy:Jk y z σ (σ2.set y (some u)):=j2.set1;have ey:(σ2.set y (some u))[y]?=some (some u):=by rw [List.getElem?_set_self (by rw [j2.1,S.len];exact ly)]
  refine ⟨H0,_,_,_,Xd,rd2 jy ey k2 ⟨_,e2⟩,hz d dm,fun ds b J H3 hq e3 it=>?_,x⟩;obtain ⟨rfl,rfl⟩:=hq;have it:A8c K (N4 (Hd Z0 fun j=>if j=w then [p] else []) H3) J ds:=it;have et:xs.take (k+1)=xs.take k++[d]:=by rw [take_add_one,hd];rfl
  refine ⟨fun i m σ4 H4=>m=ds.length - i/\i<=ds.length/\Jk y z σ σ4/\σ4[y]?=some (some u)/\(∀ b o,H3 b=some o->b≠p->H4 b=some o)/\∃ vs,H4 p=some (.lst vs)/\Ows K H4 vs (A5l (xs.take k) ds g f++((ds.take i).filter (g d)).map (f d)) [],
   ⟨_,rfl,Nat.zero_le _,jy,ey,fun _ _ e _=>e,vs,e3 _ _ e2,by simpa using o2.same e3⟩,?_⟩
  rintro m mm σ4 H4 ⟨rfl,hm,j4,y4,k4,vs4,e4,o4⟩;have kH4:∀ b o,H b=some o->b≠p->H4 b=some o:=fun b o e n=>k4 b o (e3 b o (k2 b o e n)) n;obtain ⟨i1,i2⟩:=it (fun b=>b=p) H4 (fun b z=>by rw [z];exact .lst e4) fun b o e=>by
   obtain ⟨q1,q2⟩:=G5 e;have hne:b≠p:=fun z=>q2 (.inr ⟨w,by rw [z];simp⟩);exact D5 (k4 b o q1 hne) hne
  by_cases hlt:m < ds.length
  ·obtain ⟨j1,jj2⟩:=i2 m ds[m] (List.getElem?_eq_getElem hlt);refine .inr ⟨j1,_,fun σ' H' hN=>⟨_,(by omega:ds.length - (m+1) < ds.length - m),rfl,hlt,hN⟩,fun v H5 hy=>?_⟩;obtain ⟨e5,d5⟩:=jj2 v H5 hy;have cm:ds[m]∈ds:=List.getElem_mem hlt;have d5':Dn K H5 v ds[m]:=Dn.same D4 d5;have fcm:flat ds[m]=true:=V1 fZ (List.getElem?_eq_getElem hlt);have e4':=e5 _ _ e4;have o4':=o4.same e5;have kH5:∀ b o,H b=some o->b≠p->H5 b=some o:=fun b o e n=>e5 b o (kH4 b o e n);have y5:(σ4.set z (some v))[y]?=some (some u):=by rw [List.getElem?_set_ne (Ne.symm n6)];exact y4
   have A:=rd2 (σ3:=σ4.set z (some v)) (H3:=H5) j4.set2 y5 kH5 ⟨_,e4'⟩;have B:=A.setOld z (v:=v) (d:=ds[m]) (R6 A.hl d5' fcm);rw [List.set_set] at B;have etk:ds.take (m+1)=ds.take m++[ds[m]]:=by rw [take_add_one,List.getElem?_eq_getElem hlt];rfl
   show C5y (LT K E tc) _ B4s _ (σ4.set z (some v)) H5;refine ⟨H0,_,_,fun b=>b=g d ds[m],Xd,B,hc d dm _ cm _ rfl,fun b H6 hb e6=>?_,x⟩;subst hb;have e4'':=e6 _ _ e4';have o4'':=o4'.same e6;have k6:∀ b o,H3 b=some o->b≠p->H6 b=some o:=fun b o e n=>e6 b o (e5 b o (k4 b o e n));by_cases hg:g d ds[m]=true
   ·rw [if_pos hg];refine ⟨_,hwσ j4.set2,tyl (L4.of e4''),H0,_,_,_,Xd,B.same e6,he d dm _ cm hg,fun dd l vv H7 hq e7 r7=>?_,x⟩;subst hq;have e47:=e7 _ _ e4'';have o47:=o4''.same e7;refine ⟨p,vs4,vv,rfl,rfl,e47,?_,j4.set2,y5,fun b o e n=>?_,vs4++[vv],B3,?_⟩
    ·rw [o4.den.length,length_append,length_map];have a1:=C2y (xs.take k) ds g f;have a2:=length_filter_le (g d) (ds.take m);rw [length_take] at a1 a2;have hkl:k < xs.length:=(List.getElem?_eq_some_iff.mp hd).1;have a3:min k xs.length*ds.length+ds.length<=xs.length*ds.length:=by
      rw [Nat.min_eq_left (by omega),<-Nat.succ_mul];exact Nat.mul_le_mul_right _ hkl
     rw [sizeLine_eq];omega
    ·rw [B1 n];exact e7 b o (k6 b o e n)
    ·have kk:A1y [] H7 (upd H7 p (.lst (vs4++[vv]))):=⟨fun _ z=>(by cases z),fun b o hb hn=>by
      have:b≠p:=fun z=>by rw [z,e47] at hb;cases hb;cases (show true=false from hn)
      rw [B1 this];exact hb⟩
     have C:=(A8j r7.den (hf d dm _ cm hg)).kept kk;rw [etk,filter_append,map_append,<-append_assoc];simp only [List.filter_cons,hg,if_true,List.filter_nil,map_cons,List.map_nil];exact A3v C (o47.kept kk)
   ·rw [if_neg hg];refine ⟨j4.set2,y5,k6,vs4,e4'',?_⟩;rw [etk,filter_append];simp only [List.filter_cons,hg,List.filter_nil];simpa using o4''
  ·have e:m=ds.length:=by omega
   subst e;rw [take_length] at o4;refine .inl ⟨i1,j4,kH4,vs4,e4,?_⟩;rw [et];unfold A5l;rw [List.flatMap_append];simpa [A5l] using o4
 ·rintro σ2 H2 ⟨j2,k2,vs,e2,o2⟩;have hxl:xs.take us.length=xs:=by rw [g3.den.length,take_length]
  rw [hxl] at o2;have T:=S.mut [] w (ms:=[p]) (v:=.ref p) (H':=H2) p1 (B2j h2) (fun b o hb hn=>k2 b o hb fun z=>hn (by rw [z,p4];simp)) (Ow.lst e2 o2) (by simp) (fun b hb=>.inl (by rw [p4];exact hb)) (by simp) (fun _ z=>by cases z);exact ok.nx _ _ _ _ fin (B7.jk ((T.drop y).drop z) j2)⟩
theorem D2d {i w y z:Nat} {tZ:TDI} {tc:Y3} {te:TD} {Dd:N6} {Xd:XD} (xs zs:List D) (g:D->D->Bool) (f:D->D->D) (h1:ρ[i]?=some (some (true,.list xs))) (h2:ρ[w]?=some (some (true,.list []))) (h3:i≠w/\i≠y/\i≠z/\w≠y/\w≠z/\y≠z/\y < ρ.length/\z < ρ.length) (h4:flats xs=true) (h5:flats zs=true) (h6:xs.length*zs.length<=100000)
  (h7:∀ d∈xs,tZ ((Z1 w y z ρ).set y (some (false,d))) (fun ds b=>ds=zs/\b=true) Xd) (h8:∀ d∈xs,∀ c∈zs,∀ Q':Bool->Prop,Q' (g d c)->tc (((Z1 w y z ρ).set y (some (false,d))).set z (some (false,c))) Q' Xd)
  (h9:∀ d∈xs,∀ c∈zs,g d c=true->te (((Z1 w y z ρ).set y (some (false,d))).set z (some (false,c))) (fun e _=>e=f d c) Xd) (h10:∀ d∈xs,∀ c∈zs,g d c=true->flat (f d c)=true) (h11:Dd.nx (((ρ.set w (some (true,.list (A5l xs zs g f)))).set y none).set z none)):C7d i w y z tZ tc te Dd ρ Xd:=⟨xs,zs,g,f,h1,h2,h3,h4,h5,h6,h7,h8,h9,h10,h11⟩
end
end DL
namespace M20
open PySem PySem.Spec PyProof.Rows L2
def K4 (c:Nat):Str:=⟨#[c]⟩
def has (b x:Str):Bool:=!(Builtin.Str.occurrences x b 0 x.length 1).isEmpty
def fr (bs:List Str) (x:Str):Bool:=bs.all fun b=>!has b x
theorem R1 (a b:Str):(a++b).cps.toList=a.cps.toList++b.cps.toList:=by
 show (a.cps++b.cps).toList=_;simp
theorem T9 (a b:Str):(a++b).length=a.length+b.length:=by
 show (a.cps++b.cps).size=_;rw [Array.size_append];rfl
theorem G3 (a:Str):a.cps.toList.length=a.length:=by rw [Array.length_toList];rfl
theorem ext {a b:Str} (h:a.cps.toList=b.cps.toList):a=b:=Str.ext' (Array.toList_inj.mp h)
theorem C4b {b w y:Str} (h:has b w=true):has b (w++y)=true:=by
 unfold has at h ⊢;obtain ⟨i,h1,h2⟩:=(StrLaws.found_iff w b).mp h;refine (StrLaws.found_iff (w++y) b).mpr ⟨i,by rw [T9];omega,?_⟩;unfold Builtin.Str.subAt at h2 ⊢;rw [beq_iff_eq] at h2 ⊢;rw [<-h2];apply Array.toList_inj.mp;rw [Array.toList_extract,Array.toList_extract,R1];simp only [List.extract_eq_drop_take];rw [List.drop_append,List.take_append];have e:i+b.length - i - (w.cps.toList.drop i).length=0:=by rw [length_drop,G3];omega
 rw [e,List.take_zero,append_nil]
theorem D1u {bs:List Str} {w y:Str} (h:fr bs (w++y)=true):fr bs w=true:=by
 unfold fr at h ⊢;rw [all_eq_true] at h ⊢;intro b hb;have:=h b hb;cases e:has b w with
 | false=>rfl
 | true=>rw [C4b e] at this;cases this
def B2 (k:Nat):List Nat:=(List.range k).map (97+·)
def W (k:Nat):Nat->List Str
 | 0=>[⟨#[]⟩]
 | n+1=>(W k n).flatMap fun w=>(B2 k).map fun c=>w++K4 c
theorem V9 {k:Nat}:∀ {n:Nat} {x:Str},x∈W k n ↔ x.length=n/\∀ c∈x.cps.toList,c∈B2 k
 | 0,x=>by
  rw [W,mem_singleton];constructor
  ·rintro rfl;exact ⟨rfl,fun c hc=>by simp at hc⟩
  ·rintro ⟨h,_⟩;apply ext;have:x.cps.toList.length=0:=by rw [G3];exact h
   rw [List.length_eq_zero_iff.mp this]
 | n+1,x=>by
  rw [W,List.mem_flatMap];constructor
  ·rintro ⟨w,hw,hx⟩;obtain ⟨c,hc,rfl⟩:=mem_map.mp hx;obtain ⟨h1,h2⟩:=V9.mp hw;refine ⟨by rw [T9,h1];rfl,fun d hd=>?_⟩;rw [R1] at hd;rcases mem_append.mp hd with hd|hd
   ·exact h2 d hd
   ·have:d=c:=by simpa [K4] using hd
    rw [this];exact hc
  ·rintro ⟨h1,h2⟩;have hl:x.cps.toList.length=n+1:=by rw [G3];exact h1
   have hne:x.cps.toList≠[]:=fun z=>by rw [z] at hl;cases hl
   refine ⟨⟨x.cps.toList.dropLast.toArray⟩,V9.mpr ⟨?_,fun c hc=>h2 c ((List.dropLast_sublist _).subset (by simpa using hc))⟩,mem_map.mpr ⟨x.cps.toList.getLast hne,h2 _ (List.getLast_mem hne),ext ?_⟩⟩
   ·show (x.cps.toList.dropLast.toArray).size=n;rw [size_toArray,List.length_dropLast,hl];rfl
   ·rw [R1];exact List.dropLast_concat_getLast hne
theorem B51 {a b:Str} {c d:Nat} (h:a++K4 c=b++K4 d):a=b/\c=d:=by
 have:=congrArg (fun x:Str=>x.cps.toList) h;simp only [R1] at this;have:=List.append_inj' this rfl;exact ⟨ext this.1,by simpa [K4] using this.2⟩
theorem A89 (k:Nat):∀ n,(W k n).Nodup
 | 0=>by simp [W]
 | n+1=>by
  rw [W];refine List.pairwise_flatMap.mpr ⟨fun a _=>?_,?_⟩
  ·refine List.pairwise_map.mpr ?_;have:(B2 k).Nodup:=by
    unfold B2;refine List.pairwise_map.mpr (List.Pairwise.imp ?_ List.nodup_range);intro a b h z;omega
   exact this.imp fun h z=>h (B51 z).2
  ·refine List.Pairwise.imp ?_ (A89 k n);intro a b h x hx y hy z;obtain ⟨c,_,rfl⟩:=mem_map.mp hx;obtain ⟨d,_,rfl⟩:=mem_map.mp hy;exact h (B51 z).1
theorem A6m (k:Nat):∀ n,(W k n).length=k ^ n
 | 0=>rfl
 | n+1=>by
  rw [W,List.length_flatMap,Nat.pow_succ,<-A6m k n];have e:(fun w:Str=>((B2 k).map fun c=>w++K4 c).length)=fun _=>k:=by
   funext w;unfold B2;simp
  rw [e,List.map_const',List.sum_replicate_nat]
def sl0 (x:Str):Str:=Txt.slice x none (some (-1))
def sl1 (x:Str):Str:=Txt.slice x (some 1) none
theorem B1p {x:Str} (h:1<=x.length):(sl0 x).cps.toList=x.cps.toList.dropLast:=by
 have:=slice_closes_to_neg (x:=x) (j:=-1) (k:=-1+(x.length:Int)) (by omega) (by omega) rfl;rw [beq_iff_eq] at this;unfold sl0;rw [this,List.dropLast_eq_take];show List.take _ (List.drop 0 _)=_;rw [List.drop_zero,G3];congr 1;omega
theorem A0z {x:Str} (h:1<=x.length):(sl1 x).cps.toList=x.cps.toList.tail:=by
 unfold sl1;rw [slice_from_eq (b:=(x.length:Int)) (by omega) (by omega) rfl];show List.take _ (List.drop 1 _)=_;rw [List.drop_one,List.take_of_length_le];rw [List.length_tail,G3];omega
theorem B48 (w:Str) (c:Nat):sl0 (w++K4 c)=w:=by
 apply ext;rw [B1p (by rw [T9];show 1<=_+1;omega),R1];show (w.cps.toList++[c]).dropLast=_;rw [List.dropLast_concat]
theorem C4c (w:Str) (c:Nat):sl1 (K4 c++w)=w:=by
 apply ext;rw [A0z (by rw [T9];show 1<=1+_;omega),R1];rfl
theorem D4f {k n:Nat} {x:Str} (h:x∈W k (n+1)):sl0 x∈W k n/\∃ c∈B2 k,x=sl0 x++K4 c:=by
 rw [W,List.mem_flatMap] at h;obtain ⟨w,hw,hx⟩:=h;obtain ⟨c,hc,rfl⟩:=mem_map.mp hx;rw [B48];exact ⟨hw,c,hc,rfl⟩
theorem D9z {k n:Nat} {x:Str} (h:x∈W k (n+1)):sl1 x∈W k n/\∃ c∈B2 k,x=K4 c++sl1 x:=by
 obtain ⟨h1,h2⟩:=V9.mp h;have hl:x.cps.toList.length=n+1:=by rw [G3];exact h1
 have e:=A0z (x:=x) (by omega)
 match hx:x.cps.toList with
 | []=>rw [hx] at hl;cases hl
 | c::r =>
  rw [hx] at e hl h2;rw [List.tail_cons] at e;refine ⟨V9.mpr ⟨?_,fun d hd=>h2 d (mem_cons_of_mem _ (by rw [e] at hd;exact hd))⟩,c,h2 c mem_cons_self,ext ?_⟩
  ·have:=congrArg List.length e;rw [G3] at this;rw [this];simpa using hl
  ·rw [R1,e,hx];rfl
theorem mk0 {k n:Nat} {w:Str} {c:Nat} (h:w∈W k n) (hc:c∈B2 k):w++K4 c∈W k (n+1):=by
 rw [W,List.mem_flatMap];exact ⟨w,h,mem_map.mpr ⟨c,hc,rfl⟩⟩
theorem mk1 {k n:Nat} {w:Str} {c:Nat} (h:w∈W k n) (hc:c∈B2 k):K4 c++w∈W k (n+1):=by
 obtain ⟨h1,h2⟩:=V9.mp h;refine V9.mpr ⟨by rw [T9,h1];show 1+n=_;omega,fun d hd=>?_⟩;rw [R1] at hd;rcases mem_append.mp hd with hd|hd
 ·have:d=c:=by simpa [K4] using hd
  rw [this];exact hc
 ·exact h2 d hd
def J6 (k:Nat) (bs:List Str) (n:Nat):List (Str × Str):=((W k (n+1)).filter (fr bs)).map fun x=>(sl0 x,sl1 x)
theorem O5 {k n:Nat} {bs:List Str} {u v:Str}:(u,v)∈J6 k bs n ↔ ∃ x∈W k (n+1),fr bs x=true/\sl0 x=u/\sl1 x=v:=by
 unfold J6;rw [mem_map];constructor
 ·rintro ⟨x,hx,e⟩;rw [mem_filter] at hx;cases e;exact ⟨x,hx.1,hx.2,rfl,rfl⟩
 ·rintro ⟨x,h1,h2,rfl,rfl⟩;exact ⟨x,mem_filter.mpr ⟨h1,h2⟩,rfl⟩
def Win (k:Nat) (bs:List Str) (n:Nat) (t:Str):Prop:=∃ M:Str->Prop,M t/\∀ w,M w->(∃ v,M v/\(w,v)∈J6 k bs n)/\∃ u,M u/\(u,w)∈J6 k bs n
def both (k:Nat) (bs:List Str) (K:List Str) (w:Str):Bool:=((B2 k).any fun c=>decide (sl1 (w++K4 c)∈K)&&fr bs (w++K4 c))&&((B2 k).any fun c=>decide (sl0 (K4 c++w)∈K)&&fr bs (K4 c++w))
theorem B0r {k n:Nat} {bs:List Str} {K:List Str} {w:Str} (hw:w∈W k n):both k bs K w=true ↔ (∃ v,v∈K/\(w,v)∈J6 k bs n)/\∃ u,u∈K/\(u,w)∈J6 k bs n:=by
 unfold both;rw [Bool.and_eq_true,any_eq_true,any_eq_true];constructor
 ·rintro ⟨⟨c,hc,h1⟩,d,hd,h2⟩;rw [Bool.and_eq_true,decide_eq_true_eq] at h1 h2;exact ⟨⟨_,h1.1,O5.mpr ⟨_,mk0 hw hc,h1.2,B48 _ _,rfl⟩⟩,_,h2.1,O5.mpr ⟨_,mk1 hw hd,h2.2,rfl,C4c _ _⟩⟩
 ·rintro ⟨⟨v,hv,h1⟩,u,hu,h2⟩;obtain ⟨x,x1,x2,x3,x4⟩:=O5.mp h1;obtain ⟨y,y1,y2,y3,y4⟩:=O5.mp h2;obtain ⟨_,c,hc,ex⟩:=D4f x1;obtain ⟨_,d,hd,ey⟩:=D9z y1;rw [x3] at ex;rw [y4] at ey;refine ⟨⟨c,hc,?_⟩,d,hd,?_⟩
  ·rw [<-ex,x4,Bool.and_eq_true,decide_eq_true_eq];exact ⟨hv,x2⟩
  ·rw [<-ey,y3,Bool.and_eq_true,decide_eq_true_eq];exact ⟨hu,y2⟩
structure Kp (k:Nat) (bs:List Str) (n:Nat) (K:List Str):Prop where
 nd:K.Nodup
 sub:∀ w∈K,w∈W k n
 win:∀ w,Win k bs n w->w∈K
theorem Kp.start (k:Nat) (bs:List Str) (n:Nat):Kp k bs n ((W k n).filter (fr bs)):=by
 refine ⟨(A89 k n).filter _,fun w h=>(mem_filter.mp h).1,fun w ⟨M,h,c⟩=>?_⟩;obtain ⟨⟨v,_,hv⟩,_⟩:=c w h;obtain ⟨x,x1,x2,x3,_⟩:=O5.mp hv;obtain ⟨hw,d,hd,ex⟩:=D4f x1;rw [x3] at hw ex;rw [ex] at x2;exact mem_filter.mpr ⟨hw,D1u x2⟩
theorem Kp.step {k n:Nat} {bs:List Str} {K:List Str} (h:Kp k bs n K):Kp k bs n (K.filter (both k bs K)):=by
 refine ⟨h.nd.filter _,fun w hw=>h.sub w (mem_filter.mp hw).1,fun w hw=>mem_filter.mpr ⟨h.win w hw,?_⟩⟩;rw [B0r (h.sub w (h.win w hw))];obtain ⟨M,hm,c⟩:=hw;obtain ⟨⟨v,v1,v2⟩,u,u1,u2⟩:=c w hm;exact ⟨⟨v,h.win v ⟨M,v1,c⟩,v2⟩,u,h.win u ⟨M,u1,c⟩,u2⟩
theorem Kp.fin {k n:Nat} {bs:List Str} {K:List Str} (h:Kp k bs n K) (e:(K.filter (both k bs K)).length=K.length) (t:Str):t∈K ↔ Win k bs n t:=by
 have ha:∀ w∈K,both k bs K w=true:=List.length_filter_eq_length_iff.mp e;exact ⟨fun ht=>⟨(·∈K),ht,fun w hw=>(B0r (h.sub w hw)).mp (ha w hw)⟩,h.win t⟩
def pk (sd:Bool) (s:Str × Str):Str:=if sd=true then s.2 else s.1
def P1 (ss:List (Str × Str)) (sd:Bool) (t:Str):Prop:=∃ M:Str->Prop,M t/\∀ w,M w->∃ s∈ss,pk sd s=w/\M (pk (!sd) s)
def A1m (ks:List Str) (t:Str):List Str:=if t∈ks then ks else ks++[t]
theorem C1g {ks:List Str} {t x:Str}:x∈A1m ks t ↔ x∈ks\/x=t:=by
 unfold A1m;split
 ·constructor
  ·exact .inl
  ·rintro (h|rfl)
   ·exact h
   ·assumption
 ·simp
theorem B2m {ks:List Str} {t:Str} (h:ks.Nodup):(A1m ks t).Nodup:=by
 unfold A1m;split
 ·exact h
 ·rename_i hn;rw [nodup_append];exact ⟨h,by simp,fun a ha b hb=>by rw [mem_singleton] at hb;subst hb;exact fun e=>hn (e ▸ ha)⟩
def uq (l:List Str):List Str:=l.foldl A1m []
theorem B09:∀ (l ks:List Str) (x:Str),x∈l.foldl A1m ks ↔ x∈ks\/x∈l
 | [],ks,x=>by simp
 | t::r,ks,x=>by rw [List.foldl_cons,B09 r,C1g,mem_cons,or_assoc]
theorem A4e:∀ (l ks:List Str),ks.Nodup->(l.foldl A1m ks).Nodup
 | [],ks,h=>h
 | t::r,ks,h=>A4e r _ (B2m h)
theorem B21 {l:List Str} {x:Str}:x∈uq l ↔ x∈l:=by unfold uq;rw [B09];simp
theorem A3z (l:List Str):(uq l).Nodup:=A4e l [] nodup_nil
theorem B4o (l:List Str) (t:Str):uq (l++[t])=A1m (uq l) t:=by unfold uq;rw [List.foldl_append];rfl
theorem B0l:∀ (l ks:List Str),(l.foldl A1m ks).length<=ks.length+l.length
 | [],ks=>Nat.le_refl _
 | t::r,ks=>by
  have:=B0l r (A1m ks t);have h2:(A1m ks t).length<=ks.length+1:=by unfold A1m;split<;>simp
  rw [List.foldl_cons,length_cons];omega
theorem A6t (l:List Str):(uq l).length<=l.length:=by have:=B0l l [];simpa [uq] using this
def sel (ss:List (Str × Str)) (sd:Bool) (L:List Str):List (Str × Str):=ss.filter fun s=>decide (pk (!sd) s∈L)
def nxt (ss:List (Str × Str)) (sd:Bool) (L:List Str):List Str:=uq ((sel ss sd L).map (pk sd))
theorem W7 {ss:List (Str × Str)} {sd:Bool} {L:List Str} {t:Str}:t∈nxt ss sd L ↔ ∃ s∈ss,pk sd s=t/\pk (!sd) s∈L:=by
 unfold nxt sel;rw [B21,mem_map];constructor
 ·rintro ⟨s,hs,rfl⟩;rw [mem_filter,decide_eq_true_eq] at hs;exact ⟨s,hs.1,rfl,hs.2⟩
 ·rintro ⟨s,h1,rfl,h2⟩;exact ⟨s,mem_filter.mpr ⟨h1,decide_eq_true h2⟩,rfl⟩
structure Lt (ss:List (Str × Str)) (sd:Bool) (L:List Str) (m:Nat):Prop where
 nd:L.Nodup
 last:∀ t,P1 ss sd t->t∈L
 down:∀ t∈nxt ss sd L,t∈L
 stop:m<=L.length->∀ t∈L,t∈nxt ss sd L
theorem Lt.start (ss:List (Str × Str)) (sd:Bool):Lt ss sd (uq (ss.map (pk sd))) ((uq (ss.map (pk sd))).length+1):=by
 refine ⟨A3z _,fun t ⟨M,h,c⟩=>?_,fun t ht=>?_,fun h=>by omega⟩
 ·obtain ⟨s,hs,e,_⟩:=c t h;rw [B21];exact mem_map.mpr ⟨s,hs,e⟩
 ·obtain ⟨s,hs,e,_⟩:=W7.mp ht;rw [B21];exact mem_map.mpr ⟨s,hs,e⟩
theorem C3y {l m:List Str} (h1:l.Nodup) (h2:∀ x∈l,x∈m) (h3:m.length<=l.length) (hm:m.Nodup):∀ x∈m,x∈l:=by
 induction l generalizing m with
 | nil =>
  intro x hx;have e:m=[]:=List.length_eq_zero_iff.mp (Nat.le_zero.mp h3);rw [e] at hx;cases hx
 | cons a l ih =>
  intro x hx;have ha:=h2 a mem_cons_self;have hl:=List.length_erase_of_mem ha;rw [nodup_cons] at h1;by_cases z:x=a
  ·rw [z];exact mem_cons_self
  ·refine mem_cons_of_mem _ (ih h1.2 (m:=m.erase a) (fun y hy=>(List.mem_erase_of_ne (fun e:y=a=>h1.1 (by rw [<-e];exact hy))).mpr (h2 y (mem_cons_of_mem _ hy))) ?_ (hm.erase a) x ((List.mem_erase_of_ne z).mpr hx));rw [length_cons] at h3;omega
theorem Lt.step {ss:List (Str × Str)} {sd:Bool} {L:List Str} {m:Nat} (h:Lt ss sd L m):Lt ss sd (nxt ss sd L) L.length:=by
 refine ⟨A3z _,fun t ht=>?_,fun t ht=>?_,fun hl t ht=>?_⟩
 ·obtain ⟨M,hm,c⟩:=ht;obtain ⟨s,hs,e,h2⟩:=c t hm;exact W7.mpr ⟨s,hs,e,h.last _ ⟨M,h2,c⟩⟩
 ·obtain ⟨s,hs,e,h2⟩:=W7.mp ht;exact W7.mpr ⟨s,hs,e,h.down _ h2⟩
 ·obtain ⟨s,hs,e,h2⟩:=W7.mp ht;exact W7.mpr ⟨s,hs,e,C3y (A3z _) h.down hl h.nd _ h2⟩
theorem Lt.fin {ss:List (Str × Str)} {sd:Bool} {L:List Str} {m:Nat} (h:Lt ss sd L m) (hl:m<=L.length) (t:Str):t∈L ↔ P1 ss sd t :=
 ⟨fun ht=>⟨(·∈L),ht,fun w hw=>W7.mp (h.stop hl w hw)⟩,h.last t⟩
theorem A23 {k n:Nat} {bs:List Str} {t:Str}:Win k bs n t ↔ P1 (J6 k bs n) true t/\P1 (J6 k bs n) false t:=by
 constructor
 ·rintro ⟨M,h,c⟩;exact ⟨⟨M,h,fun w hw=>by obtain ⟨_,u,h1,h2⟩:=c w hw;exact ⟨_,h2,rfl,h1⟩⟩,M,h,fun w hw=>by obtain ⟨⟨v,h1,h2⟩,_⟩:=c w hw;exact ⟨_,h2,rfl,h1⟩⟩
 ·rintro ⟨h1,h0⟩;refine ⟨fun w=>P1 (J6 k bs n) true w/\P1 (J6 k bs n) false w,⟨h1,h0⟩,fun w ⟨⟨M1,a1,c1⟩,M0,a0,c0⟩=>⟨?_,?_⟩⟩
  ·obtain ⟨⟨u,v⟩,s1,s2,s3⟩:=c0 w a0;have s2:u=w:=s2;subst s2;refine ⟨v,⟨⟨fun y=>M1 y\/y=v,.inr rfl,fun y hy=>?_⟩,M0,s3,c0⟩,s1⟩;rcases hy with hy|rfl
   ·obtain ⟨s,b1,b2,b3⟩:=c1 y hy;exact ⟨s,b1,b2,.inl b3⟩
   ·exact ⟨_,s1,rfl,.inl a1⟩
  ·obtain ⟨⟨u,v⟩,s1,s2,s3⟩:=c1 w a1;have s2:v=w:=s2;subst s2;refine ⟨u,⟨⟨M1,s3,c1⟩,fun y=>M0 y\/y=u,.inr rfl,fun y hy=>?_⟩,s1⟩;rcases hy with hy|rfl
   ·obtain ⟨s,b1,b2,b3⟩:=c0 y hy;exact ⟨s,b1,b2,.inl b3⟩
   ·exact ⟨_,s1,rfl,.inl a0⟩
theorem B34 {us vs:List Str} (h1:us.Pairwise O3) (h2:vs.Pairwise O3) (h:∀ t,t∈us ↔ t∈vs):us=vs:=by
 have nd:∀ {l:List Str},l.Pairwise O3->l.Nodup:=fun h=>List.Pairwise.imp (fun {a b} (g:O3 a b) (z:a=b)=>O3.irr a (by rw [<-z] at g;exact g)) h;exact A9w ((List.perm_ext_iff_of_nodup (nd h1) (nd h2)).mpr h) h1 h2
end M20
namespace M22
open PySem PySem.Spec PyProof.Rows L2 M20
def sT (l:List Nat):Str:=⟨l.toArray⟩
theorem B9m (l:List Nat):(sT l).cps.toList=l:=rfl
theorem D3v (x:Str):sT x.cps.toList=x:=ext rfl
theorem A3g {b x:Str}:has b x=true ↔ b.cps.toList <:+: x.cps.toList:=by
 unfold has;rw [StrLaws.found_iff];constructor
 ·rintro ⟨i,h1,h2⟩;rw [StrLaws.subAt_eq,beq_iff_eq] at h2;exact ⟨x.cps.toList.take i,(x.cps.toList.drop i).drop b.length,by rw [<-h2,append_assoc,take_append_drop,take_append_drop]⟩
 ·rintro ⟨s,t,e⟩;refine ⟨s.length,?_,?_⟩
  ·have:=congrArg List.length e;simp only [length_append,G3] at this;omega
  ·rw [StrLaws.subAt_eq,beq_iff_eq,<-e,append_assoc,List.drop_left,<-G3 b,List.take_left]
theorem C21 {bs:List Str} {x:Str}:fr bs x=true ↔ ∀ b∈bs,¬ b.cps.toList <:+: x.cps.toList:=by
 unfold fr;rw [all_eq_true];constructor
 ·intro h b hb z;have:=h b hb;rw [A3g.mpr z] at this;cases this
 ·intro h b hb;cases e:has b x with
  | false=>rfl
  | true=>exact absurd (A3g.mp e) (h b hb)
theorem D2u {bs:List Str} {x y:Str} (h:fr bs x=true) (s:y.cps.toList <:+: x.cps.toList):fr bs y=true :=
 C21.mpr fun b hb z=>C21.mp h b hb (z.trans s)
def Ok (k:Nat) (l:List Nat):Prop:=∀ c∈l,c∈B2 k
theorem C6k {k n:Nat} {bs:List Str} {l:List Nat} (hl:l.length=n+1) (ok:Ok k l) (h:fr bs (sT l)=true):(sT l.dropLast,sT l.tail)∈J6 k bs n:=by
 have h1:1<=(sT l).length:=by rw [<-G3,B9m];omega
 refine O5.mpr ⟨sT l,V9.mpr ⟨by rw [<-G3,B9m];exact hl,ok⟩,h,ext ?_,ext ?_⟩
 ·rw [B1p h1];rfl
 ·rw [A0z h1];rfl
theorem C4z {k n:Nat} {bs:List Str} {u v:Str} (h:(u,v)∈J6 k bs n):∃ l:List Nat,l.length=n+1/\Ok k l/\fr bs (sT l)=true/\u.cps.toList=l.dropLast/\v.cps.toList=l.tail:=by
 obtain ⟨x,x1,x2,x3,x4⟩:=O5.mp h;obtain ⟨y1,y2⟩:=V9.mp x1;refine ⟨x.cps.toList,by rw [G3];exact y1,y2,by rw [D3v];exact x2,?_,?_⟩
 ·rw [<-x3,B1p (by omega)]
 ·rw [<-x4,A0z (by omega)]
theorem P1.fwd {ss:List (Str × Str)} {u v:Str} (h:P1 ss true u) (s:(u,v)∈ss):P1 ss true v:=by
 obtain ⟨M,m,c⟩:=h;refine ⟨fun t=>M t\/t=v,.inr rfl,fun w hw=>?_⟩;rcases hw with hw|rfl
 ·obtain ⟨s',a,b,d⟩:=c w hw;exact ⟨s',a,b,.inl d⟩
 ·exact ⟨_,s,rfl,.inl m⟩
theorem P1.bwd {ss:List (Str × Str)} {u v:Str} (h:P1 ss false v) (s:(u,v)∈ss):P1 ss false u:=by
 obtain ⟨M,m,c⟩:=h;refine ⟨fun t=>M t\/t=u,.inr rfl,fun w hw=>?_⟩;rcases hw with hw|rfl
 ·obtain ⟨s',a,b,d⟩:=c w hw;exact ⟨s',a,b,.inl d⟩
 ·exact ⟨_,s,rfl,.inl m⟩
theorem A33 {k n:Nat} {bs:List Str} {t:Str} (h:Win k bs n t):t.length=n/\Ok k t.cps.toList :=
 V9.mp ((Kp.start k bs n).sub t ((Kp.start k bs n).win t h))
theorem B90 {k n:Nat} {bs:List Str} {x:List Nat}:∀ (i:Nat) {t:Str},Win k bs n t->x <+: t.cps.toList.drop i->i+x.length<=n->∃ t',Win k bs n t'/\x <+: t'.cps.toList
 | 0,t,h,p,_=>⟨t,h,by simpa using p⟩
 | i+1,t,h,p,hl=>by
  obtain ⟨M,m,c⟩:=h;obtain ⟨⟨v,v1,v2⟩,_⟩:=c t m;obtain ⟨l,l1,_,_,l4,l5⟩:=C4z v2;refine B90 i (t:=v) ⟨M,v1,c⟩ ?_ (by omega);rw [l4] at p;rw [l5];have e:(l.tail).drop i=l.drop (i+1):=by rw [<-List.drop_one,List.drop_drop,Nat.add_comm]
  rw [e];refine p.trans ?_;obtain ⟨r,hr⟩:=List.dropLast_prefix l;have:l.dropLast.drop (i+1) <+: l.drop (i+1):=by
   rw [List.dropLast_eq_take];rw [List.drop_take];exact List.take_prefix _ _
  exact this
def sts (k:Nat) (bs:List Str) (n:Nat) (x:Str):Prop :=
 if x.length < n then ∃ t,Win k bs n t/\x.cps.toList <+: t.cps.toList
 else fr bs x=true/\∀ j,j+n<=x.length->Win k bs n (sT ((x.cps.toList.drop j).take n))
def lws (k:Nat) (bs:List Str) (n:Nat) (x:Str):Prop :=
 if x.length < n then ∃ t,Win k bs n t/\has x t=true
 else fr bs x=true/\P1 (J6 k bs n) true (sT (x.cps.toList.take n))/\P1 (J6 k bs n) false (sT (x.cps.toList.drop (x.length - n)))
theorem B0k {k n:Nat} {bs:List Str} {x:Str} (ok:Ok k x.cps.toList) (f:fr bs x=true) {j:Nat} (hj:j+1+n<=x.length):(sT ((x.cps.toList.drop j).take n),sT ((x.cps.toList.drop (j+1)).take n))∈J6 k bs n:=by
 have hl:((x.cps.toList.drop j).take (n+1)).length=n+1:=by rw [length_take,length_drop,G3];omega
 have:=C6k (k:=k) (bs:=bs) (l:=(x.cps.toList.drop j).take (n+1)) hl (fun c hc=>ok c (List.mem_of_mem_drop (mem_of_mem_take hc))) (D2u f (List.IsInfix.trans (List.take_prefix _ _).isInfix (List.drop_suffix _ _).isInfix));rw [List.dropLast_eq_take,hl,List.take_take,Nat.add_sub_cancel,Nat.min_eq_left (Nat.le_succ n)] at this;have e:((x.cps.toList.drop j).take (n+1)).tail=(x.cps.toList.drop (j+1)).take n:=by
  rw [<-List.drop_one,List.drop_take,List.drop_drop];rfl
 rw [e] at this;exact this
theorem same {k n:Nat} {bs:List Str} {x:Str} (ok:Ok k x.cps.toList):sts k bs n x ↔ lws k bs n x:=by
 unfold sts lws;by_cases h:x.length < n
 ·rw [if_pos h,if_pos h];constructor
  ·rintro ⟨t,t1,t2⟩;exact ⟨t,t1,A3g.mpr t2.isInfix⟩
  ·rintro ⟨t,t1,t2⟩;obtain ⟨s,r,e⟩:=A3g.mp t2;have hl:=congrArg List.length e;simp only [length_append,G3] at hl;refine B90 s.length t1 ⟨r,by rw [<-e,append_assoc,List.drop_left]⟩ ?_;rw [G3];have:=(A33 t1).1;omega
 ·rw [if_neg h,if_neg h];have e0:((x.cps.toList.drop (x.length - n)).take n)=x.cps.toList.drop (x.length - n):=List.take_of_length_le (by rw [length_drop,G3];omega);constructor
  ·rintro ⟨f,a⟩;have a0:=A23.mp (a 0 (by omega));have a1:=A23.mp (a (x.length - n) (by omega));rw [e0] at a1;exact ⟨f,a0.1,a1.2⟩
  ·rintro ⟨f,a,b⟩;refine ⟨f,fun j hj=>A23.mpr ⟨?_,?_⟩⟩
   ·clear b
    induction j with
    | zero=>exact a
    | succ j ih=>exact P1.fwd (ih (by omega)) (B0k ok f (by omega))
   ·rw [<-e0] at b;clear a;obtain ⟨m,em⟩:∃ m,j+m=x.length - n:=⟨x.length - n - j,by omega⟩
    induction m generalizing j with
    | zero => have : j = x.length - n := by omega
              rw [this];exact b
    | succ m ih=>exact P1.bwd (ih (j+1) (by omega) (by omega)) (B0k ok f (by omega))
end M22
local macro_rules | `(tactic| walk_at "d") => `(tactic| repeat (first | with_reducible refine DL.D8d ?_ | with_reducible refine DL.D72 ?_ | with_reducible refine DL.D97 ?_ | with_reducible refine DL.D9x ?_ | with_reducible refine DL.D7k ?_ | with_reducible refine DL.D66 ?_ | with_reducible refine DL.C9w ?_ | with_reducible refine DL.D39 ?_ | with_reducible refine DL.D55 ?_ | with_reducible refine DL.C6u ?_ | with_reducible refine DL.C90 ?_ | with_reducible refine DL.C9z ?_ | with_reducible refine DL.D3f ?_ | with_reducible refine DL.C4k rfl rfl ?_ | with_reducible refine DL.C4q ?_ | with_reducible refine DL.C9v ?_ | with_reducible refine DL.D57 ?_ | with_reducible refine DL.D77 ?_ | with_reducible refine DL.D4c ?_ | with_reducible refine DL.D6v ?_ | with_reducible refine DL.D2r ?_ | with_reducible refine DL.D6i ?_ | with_reducible refine DL.D1f ?_ | with_reducible refine DL.C5w ?_ | with_reducible refine DL.D59 ?_ | with_reducible refine DL.D29 ?_ | with_reducible refine DL.D4s ?_ | with_reducible refine DL.D2h ?_ | with_reducible refine DL.D4q ?_ | with_reducible refine DL.D4n ?_ | with_reducible refine DL.D78 ?_ | with_reducible refine DL.D90 ?_ | with_reducible refine DL.D5f ?_ | with_reducible refine DL.D70 ?_ | with_reducible refine DL.D3t ?_ | with_reducible refine DL.D2y ?_ | with_reducible refine DL.D0i ?_ | with_reducible refine DL.D47 ?_ | with_reducible refine DL.D42 ?_ | with_reducible refine DL.w_c ?_ | with_reducible refine DL.D8p ?_ | with_reducible refine DL.D4j ?_ | with_reducible refine DL.D9c ?_ | with_reducible refine DL.D1t ?_ | with_reducible refine DL.D1v ?_ | with_reducible refine DL.D26 ?_ | with_reducible refine DL.D5e ?_ | with_reducible refine DL.D3x ?_ | with_reducible refine DL.D79 ?_ | with_reducible refine DL.C8o ?_ | with_reducible refine DL.D6j ?_ | with_reducible refine DL.D5o ?_ | with_reducible refine DL.E04 ?_ | with_reducible refine DL.D9l ?_ | with_reducible refine DL.D43 ?_ | with_reducible refine DL.D7i ?_ | with_reducible refine DL.D3a ?_ | with_reducible refine DL.D09 ?_ | with_reducible refine DL.w_B ?_ | with_reducible refine DL.D8f ?_ | with_reducible refine DL.w_not ?_ | with_reducible refine DL.D2q ?_ | with_reducible refine DL.D6r ?_ | with_reducible refine DL.D0z ?_ | with_reducible refine DL.D3c ?_ | with_reducible refine DL.C93 ?_ | with_reducible refine DL.C6z ?_ | with_reducible refine DL.D4u ?_ | with_reducible refine DL.D0k ?_ | with_reducible refine DL.D0e ?_ | with_reducible refine DL.D4d ?_ | with_reducible refine DL.D69 ?_ | with_reducible refine DL.C5u ?_ | with_reducible refine DL.D3h ?_ | with_reducible refine DL.D9e ?_ | with_reducible refine DL.D7b ?_ | with_reducible refine DL.C9e ?_ | with_reducible refine DL.D30 ?_ | with_reducible refine DL.D2s ?_ | with_reducible refine DL.D4z ?_ | with_reducible refine DL.D1b ?_ | with_reducible refine DL.C9f ?_ | with_reducible refine DL.D53 ?_ | with_reducible refine DL.D9i ?_ | with_reducible refine DL.C1a ?_ | with_reducible refine DL.D1s ?_ | with_reducible refine DL.C5g ?_ | with_reducible refine DL.D1h ?_ | with_reducible refine DL.C4t ?_ | with_reducible refine DL.C95 ?_ | with_reducible refine DL.D4r ?_ | with_reducible refine DL.D8r ?_ | with_reducible refine DL.D8n ?_ | with_reducible refine DL.D99 ?_ | with_reducible refine DL.D68 ?_ | with_reducible refine DL.D3d ?_ | with_reducible refine DL.D0s ?_ | with_reducible refine DL.D7d ?_ | with_reducible refine DL.D6e ?_ | with_reducible refine DL.D65 ?_ | with_reducible refine DL.C68 ?_ | with_reducible refine DL.D9t ?_ | with_reducible refine DL.D03 ?_ | with_reducible refine DL.D0p ?_ | with_reducible refine DL.D5b ?_ | with_reducible refine DL.D7g ?_ | with_reducible refine DL.D49 ?_ | with_reducible refine DL.D7f ?_ | with_reducible refine DL.D76 ?_ | with_reducible refine DL.D4k ?_ | with_reducible refine DL.D88 ?_ | with_reducible refine DL.D9u ?_ | with_reducible refine DL.D9h ?_ | with_reducible refine DL.D8w ?_ | with_reducible refine DL.D8e ?_ | with_reducible refine DL.D8z ?_ | with_reducible refine DL.D9d ?_ | with_reducible refine DL.D8u ?_ | with_reducible refine DL.D8l ?_ | with_reducible refine DL.D6k ?_ | with_reducible refine DL.D8g ?_ | with_reducible refine DL.D95 ?_ | with_reducible refine DL.D9f ?_ | with_reducible refine DL.D9r ?_ | with_reducible refine DL.D9n ?_ | with_reducible refine DL.D8h ?_ | with_reducible refine DL.D92 ?_ | ((with_reducible refine And.intro ?c ?_); (case c => first | exact trivial | exact Nat.le_of_ble_eq_true rfl | decide | (unfold L2.D06; decide) | (unfold L2.C9t; decide) | exact L2.B0p.ok (.inl ⟨by decide, by decide⟩) | exact L2.B0p.ok (.inr ⟨by decide, by decide⟩) | exact rfl | omega)) | simp only [DL.B3a, DL.B6f, DL.B64, DL.B7c, DL.B77, DL.C5n, DL.C0q, DL.B7s, DL.C13, DL.C0l, DL.C02, DL.C12, DL.C1c, DL.B79, DL.B5s, DL.B5w, DL.B5u, DL.B61, DL.B6t, DL.B8z, DL.C5c, DL.C1r, DL.C3s, DL.C39, DL.C6q, DL.C3h, DL.Q7, DL.B65, DL.B6d, DL.C0x, DL.C2b, DL.D0u, DL.two_iD, DL.B62, DL.B7r, DL.C5s, DL.D36, DL.D1x, DL.C0g, DL.B9g, DL.B73, DL.B2o, DL.D0q, DL.C8s, DL.C5l, DL.C61, DL.B97, DL.C6t, DL.B5p, DL.B7e, DL.B6q, DL.B2a, DL.C4j, DL.B8y, DL.C3l, DL.B3r, DL.C6c, DL.D0n, DL.D38, DL.B1r, DL.B1g, DL.C2m, DL.B7j, DL.B10, DL.B2g, DL.D1z, DL.D1i, DL.C3r, DL.C6o, DL.C2r, DL.B7q, DL.C2n, DL.C06, DL.B6g, DL.X4, DL.B5x, DL.B2k, DL.C64, DL.C4n, List.set_cons_zero, List.set_cons_succ, append_nil, List.nil_append, Bool.and_true, Bool.true_and, Bool.and_self, Bool.not_true, Bool.not_false, DL.A93, DL.A6b, map_cons, List.map_nil, List.cons_append, List.getElem?_cons_zero, List.getElem?_cons_succ, Option.join_some, Option.map_some, all_cons, List.all_nil]))
local macro_rules | `(tactic| walk_at "sc") => `(tactic| exact ⟨rfl, rfl, rfl, by decide +kernel, rfl, by decide +kernel, by decide +kernel⟩)
namespace K21
open PySem PySem.Spec PyProof.Rows L2 DL
def top (i : Nat) : Stmt := PySem.Challenge.pw_foreverrows_k21_readers_of_bars.main.body.getD i (.Pass ⟨0, 0, 0, 0⟩)
structure Blt (mg:Str->Option Value):Prop where
 len:mg "len"=none
 range:mg "range"=none
 list:mg "list"=none
 int:mg "int"=none
 bool:mg "bool"=none
 isinstance:mg "isinstance"=none
 any:mg "any"=none
 all:mg "all"=none
 sorted:mg "sorted"=none
 max:mg "max"=none
 ValueError:mg "ValueError"=none
 enumerate:mg "enumerate"=none
 tuple:mg "tuple"=none
section
variable {P:Program} {w:World} {K:W.Frag} {mg:Str->Option Value} {base:Heap}
def scr (ns:List Int):D:=.dict [(.none,.list (ns.map .int))]
abbrev Z6:Stmt:=top 28
theorem A87:B8 ["_law_script","_law_k"] ["_law_script","_law_k"] (A9 Z6):=by walk_at "sc"
def A6w:W0:=fun ds Q _=>∃ (ns:List Int) (k:Int),ds=[scr ns,.int k]/\0<=k/\∀ z:Int,Q (.int z) true
theorem A7z {f:Addr} {fd:FuncData} (F:U3 K "_law_cell_at" "_law_cell_at" Z6 f fd) (T:Blt mg):G6 P w K mg base X6 1 f fd ["_law_script","_law_k"] (E9 K A6w):=by
 refine ok0 F A87 (fun ds Q X h=>?_) (fun cdv A outer s H E hr=>?_) fun ds Qd Xd h=>h
 ·obtain ⟨ns,k,rfl,_⟩:=h;rfl
 refine ⟨_,(A1 (D7 (E5 A8u (B0 1) (B5 (A1r (by rfl)) (by rfl) (by exact T.len) (by decide +kernel) (A0 (B0 0) A2)) (J5 _)) (A6 (B6 (K1 (dix (by rfl)) (B0 0) (B0 1) (fun _ _=>rfl)))) C0)
   (A6 (B6 A4))),fun ds Qd h=>?_⟩
 obtain ⟨ns,k,rfl,hk,q⟩:=h;show (_:L9) _ [some (false,.dict [(.none,.list (ns.map .int))]),some (false,.int k)] _;walk_at "d";refine B7h (fun h1=>?_) fun _=>?_
 ·walk_at "d";have hlt:k.toNat < ns.length:=by simp at h1;omega
  refine ⟨.int ns[k.toNat],?_,?_⟩
  ·have:=J8 (xs:=ns.map PyData.int) (j:=k.toNat) (v:=PyData.int ns[k.toNat]) (by simp [hlt]);rw [show ((k.toNat:Nat):Int)=k from Int.toNat_of_nonneg hk] at this;exact this
  ·exact q _
 ·walk_at "d";exact q _
abbrev A83:Stmt:=top 29
theorem Q1:B8 ["_law_script","_law_at","_law_cell","_law_primes","_law_big_here","_law_k","_law_one"] ["_law_script","_law_at"] (A9 A83):=by walk_at "sc"
def A84:W0:=fun ds Q _=>∃ (ns:List Int) (k:Int),ds=[scr ns,.int k]/\0<=k/\∀ z:Int,0<=z->Q (.int z) true
theorem B9h {f:Addr} {fd:FuncData} (F:U3 K "_law_big" "_law_big" A83 f fd) (T:Blt mg) (D_l_cell_at:Df P w K mg base "_law_cell_at" ["_law_script","_law_k"] 1 (E9 K A6w)):G6 P w K mg base X6 2 f fd ["_law_script","_law_at"] (E9 K A84):=by
 refine ok0 F Q1 (fun ds Q X h=>?_) (fun cdv A outer s H E hr=>?_) fun ds Qd Xd h=>h
 ·obtain ⟨ns,k,rfl,_⟩:=h;rfl
 refine ⟨_,(A1 (C1 2 Q1.nd (C9 (by exact D_l_cell_at) (by exact hr.mono (by omega)) (A0 (B0 0) (A0 (B0 1) A2))))
   (A1 (D7 (E5 D19 (B0 2) (A8 B3l A4 A4) (J5 _)) (A6 (B6 (B0 2))) C0)
   (A1 (C1 3 Q1.nd (E4 (C11 (by rfl))))
   (A1 (C1 4 Q1.nd A4)
   (A1 (J2 PassesOwn.never rfl (K6 (by rfl) (by exact T.range) (A0 A4 A2)) (M7 5 Q1.nd) (A1 (C1 6 Q1.nd (A8 C3 (A8 C3 (A8 D8 (C9 (by exact D_l_cell_at) (by exact hr.mono (by omega)) (A0 (B0 0) (A0 (A8 C3 (B0 1) (A8 D8 (B0 5) A4)) A2))) (A8 B3l A4 A4)) (A8 S5 A4 (B0 5))) A4))
   (A6 (C1 4 Q1.nd (A8 C3 (A8 S5 (B0 4) A4) (A8 D8 (A8 S5 (A8 D8 (A8 C3 (A8 S5 (B0 6) (B0 6)) (A8 S5 A4 (B0 5))) (K1 (dix (by rfl)) (B0 3) (A8 D8 (B0 5) A4) (fun _ _=>rfl))) (A8 C3 (B0 5) A4)) A4))))))
   (A6 (B6 (B0 4)))))))),fun ds Qd h=>?_⟩
 obtain ⟨ns,k,rfl,hk,q⟩:=h;show (_:L9) _ [some (false,scr ns),some (false,.int k),none,none,none,none,none] _;walk_at "d";refine ⟨ns,k,rfl,hk,fun z=>?_⟩;walk_at "d";refine B7h (fun h1=>?_) fun h1=>?_
 ·walk_at "d";refine q z ?_;have:(0:Int)<=10 ^ Int.toNat 18:=by decide
  simp at h1;omega
 walk_at "d";refine A15 (fun i ρ=>∃ (b:Int) (x y:Option (Bool × D)),ρ=[some (false,scr ns),some (false,.int k),some (false,.int z),some (false,.tuple [.int 99989,.int 99971,.int 99961,.int 99929,.int 99923,.int 99907,.int 99901,.int 99881,.int 99877]),some (false,.int b),x,y]/\0<=b) ⟨0,_,_,rfl,by decide⟩ ?_ ?_
 ·rintro i ρ hi ⟨b,x,y,rfl,hb⟩;walk_at "d";have h9:=Int.emod_nonneg (0+(i:Int)) (show (9:Int)≠0 by decide);have h9':=Int.emod_lt_of_pos (0+(i:Int)) (show (0:Int) < 9 by decide);refine ⟨ns,_,rfl,by omega,fun c=>?_⟩;walk_at "d";have c1:(10:Int) ^ Int.toNat 18=1000000000000000000:=by decide
  rw [c1];have hi':i < 64:=hi;have h0:=Int.emod_nonneg c (show (1000000000000000000:Int)≠0 by decide);have h1:=Int.emod_lt_of_pos c (show (0:Int) < 1000000000000000000 by decide);refine ⟨B0p.ok (.inl ⟨by omega,by omega⟩),?_⟩;walk_at "d";obtain ⟨m,hm,em⟩:∃ m:Nat,m < 9/\(0+(i:Int)) % 9=(m:Int):=⟨((0+(i:Int)) % 9).toNat,by omega,by omega⟩;obtain ⟨pr,hpr,hpp⟩:∃ pr:Int,[PyData.int 99989,.int 99971,.int 99961,.int 99929,.int 99923,.int 99907,.int 99901,.int 99881,.int 99877][m]?=some (PyData.int pr)/\0 < pr/\pr < 100000:=by
   match m,hm with
   | 0,_=>exact ⟨_,rfl,by decide,by decide⟩
   | 1,_=>exact ⟨_,rfl,by decide,by decide⟩
   | 2,_=>exact ⟨_,rfl,by decide,by decide⟩
   | 3,_=>exact ⟨_,rfl,by decide,by decide⟩
   | 4,_=>exact ⟨_,rfl,by decide,by decide⟩
   | 5,_=>exact ⟨_,rfl,by decide,by decide⟩
   | 6,_=>exact ⟨_,rfl,by decide,by decide⟩
   | 7,_=>exact ⟨_,rfl,by decide,by decide⟩
   | 8,_=>exact ⟨_,rfl,by decide,by decide⟩
  refine ⟨.int pr,by rw [em];exact J8 hpr,?_⟩;walk_at "d";refine ⟨B0p.ok (.inr ⟨by omega,by omega⟩),?_⟩;walk_at "d";refine ⟨_,_,_,rfl,?_⟩;have:=Int.emod_nonneg (((c % 1000000000000000000+7*(0+(i:Int))+1)*(c % 1000000000000000000+7*(0+(i:Int))+1)+31*(0+(i:Int))) % pr*(0+(i:Int)+3)) (show (8191:Int)≠0 by decide);omega
 ·rintro ρ ⟨b,x,y,rfl,hb⟩;walk_at "d";exact q b hb
def InL (k:Nat) (c:Nat):Prop:=97<=c/\c < 97+k
def Let (k:Nat) (z:Str):Prop:=z.length=k/\∀ c∈z.cps.toList,InL k c
def bD (bs:List Str):D:=.list (bs.map .str)
theorem B1x {k:Nat} (h:k=2\/k=3\/k=4):Let k (Txt.slice (Str.ofString "abcd") none (some (k:Int))):=by
 rcases h with rfl|rfl|rfl
 ·have e:Txt.slice (Str.ofString "abcd") none (some ((2:Nat):Int))=⟨#[97,98]⟩:=by decide +kernel
  rw [e];exact ⟨rfl,by unfold InL;decide⟩
 ·have e:Txt.slice (Str.ofString "abcd") none (some ((3:Nat):Int))=⟨#[97,98,99]⟩:=by decide +kernel
  rw [e];exact ⟨rfl,by unfold InL;decide⟩
 ·have e:Txt.slice (Str.ofString "abcd") none (some ((4:Nat):Int))=⟨#[97,98,99,100]⟩:=by decide +kernel
  rw [e];exact ⟨rfl,by unfold InL;decide⟩
theorem A3f (a b:Str):(a++b).cps.toList=a.cps.toList++b.cps.toList:=by
 show (a.cps++b.cps).toList=_;simp
theorem R5 (a b:Str):(a++b).length=a.length+b.length:=by
 show (a.cps++b.cps).size=_;rw [Array.size_append];rfl
theorem C9k {α:Type} {l:List α} {z:Int} (h:0<=z) (h':z < l.length):∃ c,c∈l/\atI l z=some c:=by
 obtain ⟨j,rfl⟩:∃ j:Nat,z=j:=⟨z.toNat,by omega⟩;have hj:j < l.length:=by omega
 exact ⟨l[j],List.getElem_mem hj,J8 (List.getElem?_eq_getElem hj)⟩
abbrev A3t:Stmt:=top 30
theorem V2:B8 ["_law_big_here","_law_letters","_law_many","_law_word_here","_law_k"] ["_law_big_here","_law_letters","_law_many"] (A9 A3t):=by walk_at "sc"
def A3j:W0:=fun ds Q _=>∃ (b:Int) (z:Str) (k n:Nat),ds=[.int b,.str z,.int n]/\0<=b/\Let k z/\1<=k/\k<=4/\n<=10/\∀ (x:Str) (b':Int),x.length=n->(∀ c∈x.cps.toList,InL k c)->0<=b'->Q (.tuple [.str x,.int b']) true
theorem B6u {f:Addr} {fd:FuncData} (F:U3 K "_law_word" "_law_word" A3t f fd) (T:Blt mg):G6 P w K mg base X6 1 f fd ["_law_big_here","_law_letters","_law_many"] (E9 K A3j):=by
 refine ok0 F V2 (fun ds Q X h=>?_) (fun cdv A outer s H E hr=>?_) fun ds Qd Xd h=>h
 ·obtain ⟨b,z,k,n,rfl,_⟩:=h;rfl
 refine ⟨_,(A1 (C1 3 V2.nd E3)
   (A1 (J2 PassesOwn.never rfl (K6 (by rfl) (by exact T.range) (A0 (B0 2) A2)) (M7 4 V2.nd) (A1 (C1 3 V2.nd (A8 C3 (B0 3) (K1 D6d (B0 1) (A8 D8 (B0 0) (B5 M2 (by rfl) (by exact T.len) (by decide +kernel) (A0 (B0 1) A2))) (fun _ _=>rfl))))
   (A6 (C1 0 V2.nd (A8 B75 (B0 0) (B5 M2 (by rfl) (by exact T.len) (by decide +kernel) (A0 (B0 1) A2)))))))
   (A6 (B6 (E4 (A0 (B0 3) (A0 (B0 0) A2))))))),fun ds Qd h=>?_⟩
 obtain ⟨b,z,k,n,rfl,hb,hz,hk1,hk4,hn,q⟩:=h;show (_:L9) _ [some (false,.int b),some (false,.str z),some (false,.int n),none,none] _;walk_at "d";refine A15 (fun i ρ=>∃ (bb:Int) (x:Str) (y:Option (Bool × D)),ρ=[some (false,.int bb),some (false,.str z),some (false,.int n),some (false,.str x),y]/\0<=bb/\x.length=i/\∀ c∈x.cps.toList,InL k c) ⟨b,_,_,rfl,hb,rfl,fun _ z=>by cases z⟩ ?_ ?_
 ·rintro i ρ hi ⟨bb,x,y,rfl,hbb,hx1,hx2⟩;have hzl:=hz.1;have h0:(0:Int) < (z.length:Int):=by omega
  have hi':i < n:=by simpa using hi
  walk_at "d";obtain ⟨c,hc,ec⟩:=C9k (l:=z.cps.toList) (z:=bb % (z.length:Int)) (Int.emod_nonneg _ (Int.ne_of_gt h0)) (by have:=Int.emod_lt_of_pos bb h0;rw [Array.length_toList];exact this);refine ⟨c,ec,?_⟩;walk_at "d";refine ⟨by have:Str.length ⟨#[c]⟩=1:=rfl;omega,?_⟩;walk_at "d";refine ⟨⟨h0,10,by decide,by omega⟩,_,_,_,rfl,Int.ediv_nonneg hbb (by omega),by rw [R5,hx1];rfl,fun d hd=>?_⟩;rw [A3f] at hd;rcases mem_append.mp hd with hd|hd
  ·exact hx2 d hd
  ·have e:d=c:=by simpa using hd
   rw [e];exact hz.2 c hc
 ·rintro ρ ⟨bb,x,y,rfl,hbb,hx1,hx2⟩;walk_at "d";exact q _ _ (by rw [hx1];simp) hx2 hbb
abbrev A1g:Stmt:=top 9
theorem A9t:B8 ["thing"] ["thing"] (A9 A1g):=by walk_at "sc"
def A51:W0:=fun ds Q _=>∃ i:Int,ds=[.int i]/\Q (.bool true) true
theorem B0e {f:Addr} {fd:FuncData} (F:U3 K "is_whole" "is_whole" A1g f fd) (T:Blt mg):G6 P w K mg base X6 1 f fd ["thing"] (E9 K A51):=by
 refine ok0 F A9t (fun ds Q X h=>?_) (fun cdv A outer s H E hr=>?_) fun ds Qd Xd h=>h
 ·obtain ⟨i,rfl,_⟩:=h;rfl
 refine ⟨_,(A6 (B6 (W5 (N7 (by rfl) B4w (by rfl) (by exact T.isinstance) (B0 0) (by rfl) (by exact T.int) (by decide +kernel)) (A0f (B4a (N7 (by rfl) A1i (by rfl) (by exact T.isinstance) (B0 0) (by rfl) (by exact T.bool) (by decide +kernel))))))),fun ds Qd h=>?_⟩;obtain ⟨i,rfl,q⟩:=h;show (_:L9) _ [some (false,.int i)] _;walk_at "d";rw [if_pos (by rfl)];walk_at "d";exact q
def Sml (bs:List Str):Prop:=bs.length<=100/\∀ b∈bs,b.length<=100
def V8 (bs:List Str):List Int:=bs.map fun b=>(b.length:Int)
def mx2 (ns:List Int):Int:=ns.foldl (fun m x=>if x > m then x else m) 2
theorem A3n:∀ (ns:List Int) (m:Int),m<=ns.foldl (fun m x=>if x > m then x else m) m/\∀ x∈ns,x<=ns.foldl (fun m x=>if x > m then x else m) m
 | [],m=>⟨Int.le_refl _,fun _ z=>by cases z⟩
 | y::r,m=>by
  have h:=A3n r (if y > m then y else m);rw [List.foldl_cons];have h1:m<=(if y > m then y else m):=by split<;>omega
  have h2:y<=(if y > m then y else m):=by split<;>omega
  refine ⟨Int.le_trans h1 h.1,fun x hx=>?_⟩;rcases mem_cons.mp hx with rfl|hx
  ·exact Int.le_trans h2 h.1
  ·exact h.2 x hx
theorem A80:∀ (ns:List Int) (m:Int),ns.foldl (fun m x=>if x > m then x else m) m=m\/ns.foldl (fun m x=>if x > m then x else m) m∈ns
 | [],m=>.inl rfl
 | y::r,m=>by
  rw [List.foldl_cons];rcases A80 r (if y > m then y else m) with h|h
  ·rw [h];split
   ·exact .inr mem_cons_self
   ·exact .inl rfl
  ·exact .inr (mem_cons_of_mem _ h)
def wid (bs:List Str):Int:=mx2 (V8 bs) - 1
theorem D3i {bs:List Str} {M:Int} (h1:V8 bs=[]->M=1) (h2:V8 bs≠[]->M∈V8 bs/\∀ x∈V8 bs,x<=M):(if 1 > M - 1 then 1 else M - 1)=wid bs:=by
 unfold wid mx2;have g:=A3n (V8 bs) 2;have i:=A80 (V8 bs) 2;by_cases e:V8 bs=[]
 ·rw [h1 e,e];rfl
 ·obtain ⟨a,b⟩:=h2 e;have c:=g.2 M a;rcases i with i|i
  ·rw [i] at c ⊢;split<;>omega
  ·have d:=b _ i;have:=g.1;split<;>omega
theorem A7j (bs:List Str):1<=wid bs:=by
 have:=(A3n (V8 bs) 2).1;unfold wid mx2;omega
theorem B39 {bs:List Str} {m:Int} (hm:2<=m) (h:∀ b∈bs,(b.length:Int)<=m):wid bs<=m - 1:=by
 unfold wid mx2;rcases A80 (V8 bs) 2 with i|i
 ·rw [i];omega
 ·obtain ⟨b,hb,e⟩:=mem_map.mp i;have:=h b hb;omega
abbrev T6:Stmt:=top 19
theorem Z2:B8 ["bars","longest"] ["bars"] (A9 T6):=by walk_at "sc"
def B4g:W0:=fun ds Q _=>∃ bs:List Str,ds=[bD bs]/\Sml bs/\Q (.int (wid bs)) true
theorem A4d {f:Addr} {fd:FuncData} (F:U3 K "plain_width" "plain_width" T6 f fd) (T:Blt mg):G6 P w K mg base X6 1 f fd ["bars"] (E9 K B4g):=by
 refine ok0 F Z2 (fun ds Q X h=>?_) (fun cdv A outer s H E hr=>?_) fun ds Qd Xd h=>h
 ·obtain ⟨bs,rfl,_⟩:=h;rfl
 refine ⟨_,(A1 (C1 1 Z2.nd (C2e (by rfl) (by rfl) (by rfl) (by exact T.max) (A0 (U1 ["bar"] [] rfl (B9.of (by kernel_rfl)) (E6 (by rfl) (B0 0)) (fun _ _ _ _=>⟨(M7 0 (N3 (by kernel_rfl))),G9,(G8 (by rfl) (by rfl) (B5 M2 (by rfl) (by exact T.len) (by decide +kernel) (A0 (B0 0) A2)))⟩)) A2)))
   (A6 (B6 (B5 (B4c (by rfl) (by rfl)) (by rfl) (by exact T.max) (by decide +kernel) (A0 (A8 N0 (B0 1) A4) (A0 A4 A2)))))),fun ds Qd h=>?_⟩
 obtain ⟨bs,rfl,hs,q⟩:=h;show (_:L9) _ [some (false,.list (bs.map .str)),none] _;walk_at "d";refine N1 (L:=bs) PyData.str (fun b=>.int (b.length:Int)) (fun b hb es Q' hl q'=>?_) (by have:=hs.1;omega) ?_
 ·have:=hs.2 b hb;walk_at "d";exact q'
 ·rw [show (bs.map fun b=>PyData.int (b.length:Int))=(V8 bs).map PyData.int from by unfold V8;rw [map_map];rfl];walk_at "d";refine ⟨V8 bs,A6g _,fun M m1 m2=>?_⟩;walk_at "d";rw [D3i m1 m2];exact q
def GB (k:Int) (b:Str):Prop:=1<=b.length/\b.length<=6/\∀ c∈b.cps.toList,97<=c/\(c:Int) < 97+k
def L3 (k:Int) (bs:List Str):Prop:=(2<=k/\k<=4)/\bs.length<=12/\∀ b∈bs,GB k b
def SIG:List D:=[.str "a",.str "b",.str "c",.str "d"]
theorem D0g {k:Int} (h:2<=k/\k<=4) (c:Nat):inD (.str ⟨#[c]⟩) (A5d SIG none (some k))=decide (97<=c/\(c:Int) < 97+k):=by
 have h3:k=2\/k=3\/k=4:=by omega
 have ea:Str.ofString "a"=⟨#[97]⟩:=by decide +kernel
 have eb:Str.ofString "b"=⟨#[98]⟩:=by decide +kernel
 have ec:Str.ofString "c"=⟨#[99]⟩:=by decide +kernel
 have ed:Str.ofString "d"=⟨#[100]⟩:=by decide +kernel
 have q:∀ x:Nat,(PyData.str ⟨#[x]⟩).eqv (.str ⟨#[c]⟩)=decide (x=c):=fun x=>by
  rw [Bool.eq_iff_iff];simp [PyData.eqv]
 rcases h3 with rfl|rfl|rfl
 ·show inD _ [.str (Str.ofString "a"),.str (Str.ofString "b")]=_;rw [ea,eb];unfold inD;simp only [any_cons,List.any_nil,q];rw [Bool.eq_iff_iff];simp;omega
 ·show inD _ [.str (Str.ofString "a"),.str (Str.ofString "b"),.str (Str.ofString "c")]=_;rw [ea,eb,ec];unfold inD;simp only [any_cons,List.any_nil,q];rw [Bool.eq_iff_iff];simp;omega
 ·show inD _ [.str (Str.ofString "a"),.str (Str.ofString "b"),.str (Str.ofString "c"),.str (Str.ofString "d")]=_;rw [ea,eb,ec,ed];unfold inD;simp only [any_cons,List.any_nil,q];rw [Bool.eq_iff_iff];simp;omega
theorem O4 {α:Type} (f:α->Bool) (r:List α):A16 (r.map fun x=>PyData.bool (f x))=some (r.map f):=by
 induction r with
 | nil=>rfl
 | cons x r ih=>simp [A16,ih]
theorem C28 (k:Int):(A5d SIG none (some k)).all O1=true:=by
 have h:∀ d∈SIG,O1 d=true:=by intro d hd;simp [SIG] at hd;rcases hd with rfl|rfl|rfl|rfl<;>rfl
 exact all_eq_true.mpr fun d hd=>h d (List.mem_of_mem_drop (mem_of_mem_take hd))
theorem B3o {α:Type} {f:α->Prop} [DecidablePred f] {l:List α}:((l.map fun c=>!decide (f c)).any id=true) ↔ ¬ ∀ c∈l,f c:=by
 rw [any_eq_true];constructor
 ·rintro ⟨b,hb,e⟩ h;obtain ⟨c,hc,rfl⟩:=mem_map.mp hb;have:=h c hc;simp [this] at e
 ·intro h;apply Classical.byContradiction;intro n;refine h fun c hc=>?_;apply Classical.byContradiction;intro m;exact n ⟨!decide (f c),mem_map.mpr ⟨c,hc,rfl⟩,by simp [m]⟩
abbrev Q2:Stmt:=top 18
theorem X5:B8 ["signs","bars","bar"] ["signs","bars"] (A9 Q2):=by walk_at "sc"
def B29 (cA:Addr):W0:=fun ds Q X=>∃ (k:Int) (bs:List Str),ds=[.int k,bD bs]/\Sml bs/\(L3 k bs->Q .none true)/\(¬ L3 k bs->X cA)
theorem A3b {f cA:Addr} {fd:FuncData} (F:U3 K "require_bars" "require_bars" Q2 f fd) (T:Blt mg) (C_NoBars:W3 K mg "NoBars" cA) (G_SIGNS:A9g K mg "SIGNS" SIG) (G_FEWEST_SIGNS:A8s mg "FEWEST_SIGNS" 2) (G_MOST_BARS:A8s mg "MOST_BARS" 12) (G_LONGEST_BAR:A8s mg "LONGEST_BAR" 6) (D_is_whole:Df P w K mg base "is_whole" ["thing"] 1 (E9 K A51)):G6 P w K mg base (CXE P w base) 2 f fd ["signs","bars"] (E9 K (B29 cA)):=by
 refine okE F X5 (fun ds Q X h=>?_) (fun cdv A outer s H E hr=>?_)
 ·obtain ⟨k,bs,rfl,_⟩:=h;rfl
 refine ⟨_,(A1 (D7 (dnT (A62 (Q0 (M4 (G0 (C9 (by exact D_is_whole) (by exact hr.mono (by omega)) (A0 (B0 0) A2)))) (A0j (M4 (A66 B3n B3n (A24 (by exact G_FEWEST_SIGNS) (by rfl)) (B0 0) (B5 (A1r (by rfl)) (by rfl) (by exact T.len) (by decide +kernel) (A0 (U5 (by exact G_SIGNS) (by rfl)) A2)))))))) (A6 (U8 Q9 (by rfl) (by exact C_NoBars) (by rfl) (A0 E3 A2))) C0)
   (A1 (D7 (dnT (E5 B1l (B5 (A1r (by rfl)) (by rfl) (by exact T.len) (by decide +kernel) (A0 (B0 1) A2)) (A24 (by exact G_MOST_BARS) (by rfl)) (J5 _))) (A6 (U8 Q9 (by rfl) (by exact C_NoBars) (by rfl) (A0 E3 A2))) C0)
   (A6 (S4 1 (J2 PassesOwn.leaving rfl (E6 (by rfl) (B0 1)) (M7 2 X5.nd) (A1 (D7 (dnT (M4 (A66 B3n B3n A4 (B5 M2 (by rfl) (by exact T.len) (by decide +kernel) (A0 (B0 2) A2)) (A24 (by exact G_LONGEST_BAR) (by rfl))))) (A6 (U8 Q9 (by rfl) (by exact C_NoBars) (by rfl) (A0 E3 A2))) C0)
   (A6 (D7 (dnT (G0 (B5 (A29 (by rfl) (by rfl)) (by rfl) (by exact T.any) (by decide +kernel) (A0 (U1 ["sign"] [("signs",0)] rfl (B9.of (by kernel_rfl)) (A79 (B0 2)) (fun _ _ _ _=>⟨(M7 0 (N3 (by kernel_rfl))),G9,(G8 (by rfl) (by rfl) (A1s (B78 (by rfl)) (B0 0) (P8 (by rfl) (U5 (by exact G_SIGNS) (by rfl)) D1 (C6 (B0 1))) rfl))⟩)) A2)))) (A6 (U8 Q9 (by rfl) (by exact C_NoBars) (by rfl) (A0 E3 A2))) C0)))))))),fun ds Qd Xd h=>?_⟩
 obtain ⟨k,bs,rfl,hs,q,x⟩:=h;show (_:L9) _ [some (false,.int k),some (false,.list (bs.map .str)),none] _;have hl:=hs.1;walk_at "d";refine ⟨k,rfl,?_⟩;walk_at "d";refine O9 (fun h1=>?_) fun h1=>?_
 rotate_left
 ·walk_at "d";rw [if_pos trivial];walk_at "d";exact x fun c=>by simp at h1;have:=c.1.1;omega
 have h1:2<=k:=by simpa using h1
 walk_at "d";refine O9 (fun h2=>?_) fun h2=>?_
 ·walk_at "d";exact x fun c=>by
   have e4:((SIG.length:Nat):Int)=4:=rfl;simp at h2;have:=c.1.2;omega
 have h2:k<=4:=by
  have e4:((SIG.length:Nat):Int)=4:=rfl;simp at h2;omega
 walk_at "d";refine O9 (fun h3=>?_) fun h3=>?_
 ·walk_at "d";exact x fun c=>by simp at h3;have:=c.2.1;omega
 have h3:bs.length<=12:=by simp at h3;omega
 walk_at "d";refine O7 (fun j ρ=>∃ z:Option (Bool × D),ρ=[some (false,.int k),some (false,.list (bs.map .str)),z]/\∀ b∈bs.take j,GB k b) ⟨_,rfl,fun _ z=>by cases z⟩ ?_ ?_
 ·rintro j d ρ hd ⟨z,rfl,hj⟩;obtain ⟨b,hb,rfl⟩:∃ b,bs[j]?=some b/\d=.str b:=by
   rw [List.getElem?_map] at hd;cases e:bs[j]? with
   | none=>rw [e] at hd;cases hd
   | some r=>rw [e] at hd;cases hd;exact ⟨r,rfl,rfl⟩
  have hbm:b∈bs:=List.mem_iff_getElem?.mpr ⟨j,hb⟩;have hb1:=hs.2 b hbm;walk_at "d";refine O9 (fun h4=>?_) fun h4=>?_
  rotate_left
  ·walk_at "d";rw [if_pos trivial];walk_at "d";exact x fun c=>by simp at h4;have:=(c.2.2 b hbm).1;omega
  walk_at "d";refine O9 (fun h5=>?_) fun h5=>?_
  ·walk_at "d";exact x fun c=>by simp at h5;have:=(c.2.2 b hbm).2.1;omega
  have h4:1<=b.length:=by simp at h4;omega
  have h5:b.length<=6:=by simp at h5;omega
  walk_at "d";unfold DL.signs;refine N1 (L:=b.cps.toList) (fun c=>PyData.str ⟨#[c]⟩) (fun c=>.bool (!decide (97<=c/\(c:Int) < 97+k))) (fun c hc es Q' hl' q'=>?_) (by rw [Array.length_toList];have:b.cps.size=b.length:=rfl;omega) ?_
  ·walk_at "d";rw [D0g ⟨h1,h2⟩];exact ⟨⟨rfl,C28 k⟩,hl',trivial,q'⟩
  ·walk_at "d";refine ⟨_,O4 _ _,?_⟩;walk_at "d";refine O9 (fun h6=>?_) fun h6=>?_
   ·walk_at "d";exact x fun c=>B3o.mp h6 (c.2.2 b hbm).2.2
   ·have h6:∀ c∈b.cps.toList,97<=c/\(c:Int) < 97+k:=Classical.byContradiction fun n=>absurd (B3o.mpr n) (by rw [h6];exact Bool.false_ne_true);walk_at "d";refine ⟨_,rfl,fun y hy=>?_⟩;rw [List.take_succ,hb] at hy;rcases mem_append.mp hy with hy|hy
    ·exact hj y hy
    ·rw [mem_singleton.mp hy];exact ⟨h4,h5,h6⟩
 ·rintro ρ ⟨z,rfl,hj⟩;have hj:∀ b∈bs,GB k b:=fun b hb=>hj b (by rw [length_map,take_length];exact hb);walk_at "d";exact q ⟨⟨h1,h2⟩,h3,hj⟩
def wds (k:Int) (bs:List Str):Int:=k ^ (wid bs).toNat
theorem D2f {k:Int} (h:2<=k/\k<=4):∀ i:Nat,i<=5->0<=k ^ i/\k ^ i<=1024:=by
 have h3:k=2\/k=3\/k=4:=by omega
 rcases h3 with rfl|rfl|rfl<;>decide
abbrev A0u:Stmt:=top 16
theorem S0:B8 ["signs","bars","words","place"] ["signs","bars"] (A9 A0u):=by walk_at "sc"
def B2t (cA cN3:Addr):W0:=fun ds Q X=>∃ (k:Int) (bs:List Str),ds=[.int k,bD bs]/\Sml bs/\(L3 k bs->wds k bs<=128->Q (.bool true) true)/\(¬ L3 k bs->X cA)/\(L3 k bs->¬ wds k bs<=128->X cN3)
theorem A9y {f cA cN3:Addr} {fd:FuncData} (F:U3 K "vet_bars" "vet_bars" A0u f fd) (T:Blt mg) (C_TooMany:W3 K mg "TooMany" cN3) (G_MOST_WORDS:A8s mg "MOST_WORDS" 128) (D_require_bars:DfE P w K mg base "require_bars" ["signs","bars"] 2 (E9 K (B29 cA))) (D_plain_width:Df P w K mg base "plain_width" ["bars"] 1 (E9 K B4g)):G6 P w K mg base (CXE P w base) 3 f fd ["signs","bars"] (E9 K (B2t cA cN3)):=by
 refine okE F S0 (fun ds Q X h=>?_) (fun cdv A outer s H E hr=>?_)
 ·obtain ⟨k,bs,rfl,_⟩:=h;rfl
 refine ⟨_,(A1 (B0c (A3h (by exact D_require_bars) B4u (by exact hr.mono (by omega)) (A0 (B0 0) (A0 (B0 1) A2))))
   (A1 (dnS (C1 2 S0.nd A4))
   (A1 (dnS (J2 PassesOwn.never rfl (K6 (by rfl) (by exact T.range) (A0 (C9 (by exact D_plain_width) (by exact hr.mono (by omega)) (A0 (B0 1) A2)) A2)) (M7 3 S0.nd) (A6 (C1 2 S0.nd (A8 S5 (B0 2) (B0 0))))))
   (A1 (D7 (dnT (E5 B1l (B0 2) (A24 (by exact G_MOST_WORDS) (by rfl)) (J5 _))) (A6 (U8 Q9 (by rfl) (by exact C_TooMany) (by rfl) (A0 E3 A2))) C0)
   (A6 (dnS (B6 K0))))))),fun ds Qd Xd h=>?_⟩
 obtain ⟨k,bs,rfl,hs,q,x1,x2⟩:=h;show (_:L9) _ [some (false,.int k),some (false,bD bs),none,none] _;walk_at "d";refine ⟨k,bs,rfl,hs,fun hg=>?_,fun hg=>?_⟩
 rotate_left
 ·exact x1 hg
 have hw:(wid bs).toNat<=5:=by
  have:=B39 (bs:=bs) (m:=6) (by decide) fun b hb=>by have:=(hg.2.2 b hb).2.1;omega
  omega
 walk_at "d";refine ⟨bs,rfl,hs,?_⟩;have hwp:=A7j bs;walk_at "d";refine A15 (fun i ρ=>∃ z:Option (Bool × D),ρ=[some (false,.int k),some (false,bD bs),some (false,.int (k ^ i)),z]) ⟨_,by rw [Int.pow_zero]⟩ ?_ ?_
 ·rintro i ρ hi ⟨z,rfl⟩;have:=D2f hg.1 i (by omega);walk_at "d";refine ⟨B0p.ok (.inl ⟨by omega,by omega⟩),?_⟩;walk_at "d";exact ⟨_,by rw [Int.pow_succ]⟩
 ·rintro ρ ⟨z,rfl⟩;walk_at "d";refine O9 (fun h=>?_) fun h=>?_
  ·walk_at "d";exact x2 hg (by unfold wds;simp at h;omega)
  ·walk_at "d";exact q hg (by unfold wds;simp at h;omega)
abbrev A12:Stmt:=top 17
theorem B15:B8 ["signs","bars"] ["signs","bars"] (A9 A12):=by walk_at "sc"
def B1h (cA cN3:Addr):W0:=fun ds Q X=>∃ (k:Int) (bs:List Str),ds=[.int k,bD bs]/\Sml bs/\(L3 k bs->wds k bs<=128->Q (.int (wid bs)) true)/\(¬ L3 k bs->X cA)/\(L3 k bs->¬ wds k bs<=128->X cN3)
theorem B03 {f cA cN3:Addr} {fd:FuncData} (F:U3 K "width_of" "width_of" A12 f fd) (T:Blt mg) (D_vet_bars:DfE P w K mg base "vet_bars" ["signs","bars"] 3 (E9 K (B2t cA cN3))) (D_plain_width:Df P w K mg base "plain_width" ["bars"] 1 (E9 K B4g)):G6 P w K mg base (CXE P w base) 4 f fd ["signs","bars"] (E9 K (B1h cA cN3)):=by
 refine okE F B15 (fun ds Q X h=>?_) (fun cdv A outer s H E hr=>?_)
 ·obtain ⟨k,bs,rfl,_⟩:=h;rfl
 refine ⟨_,(A1 (B0c (A3h (by exact D_vet_bars) B4u (by exact hr.mono (by omega)) (A0 (B0 0) (A0 (B0 1) A2))))
   (A6 (dnS (B6 (C9 (by exact D_plain_width) (by exact hr.mono (by omega)) (A0 (B0 1) A2)))))),fun ds Qd Xd h=>?_⟩
 obtain ⟨k,bs,rfl,hs,q,x1,x2⟩:=h;show (_:L9) _ [some (false,.int k),some (false,bD bs)] _;walk_at "d";refine ⟨k,bs,rfl,hs,fun hg hw=>?_,x1,x2⟩;walk_at "d";refine ⟨bs,rfl,hs,?_⟩;walk_at "d";exact q hg hw
end
open M20 M22
section
variable {P:Program} {w:World} {K:W.Frag} {mg:Str->Option Value} {base:Heap}
def K3 (k:Nat):Prop:=k=2\/k=3\/k=4
def wD (l:List Str):D:=.list (l.map .str)
theorem A3o {k:Nat} (h:K3 k):A5d SIG none (some (k:Int))=(B2 k).map fun c=>PyData.str (K4 c):=by
 have ea:Str.ofString "a"=⟨#[97]⟩:=by decide +kernel
 have eb:Str.ofString "b"=⟨#[98]⟩:=by decide +kernel
 have ec:Str.ofString "c"=⟨#[99]⟩:=by decide +kernel
 have ed:Str.ofString "d"=⟨#[100]⟩:=by decide +kernel
 rcases h with rfl|rfl|rfl
 ·show [PyData.str (Str.ofString "a"),.str (Str.ofString "b")]=_;rw [ea,eb];rfl
 ·show [PyData.str (Str.ofString "a"),.str (Str.ofString "b"),.str (Str.ofString "c")]=_;rw [ea,eb,ec];rfl
 ·show [PyData.str (Str.ofString "a"),.str (Str.ofString "b"),.str (Str.ofString "c"),.str (Str.ofString "d")]=_;rw [ea,eb,ec,ed];rfl
theorem A1v (k:Nat):(B2 k).length=k:=by unfold B2;simp
theorem A0v {k:Nat} (h:K3 k) {n:Nat} (hn:n<=6):k ^ n<=4096:=by
 have h1:k ^ n<=4 ^ n:=Nat.pow_le_pow_left (by rcases h with rfl|rfl|rfl<;>decide) n;have h2:4 ^ n<=4 ^ 6:=Nat.pow_le_pow_right (by decide) hn;have h3:4 ^ 6=4096:=by decide
 omega
theorem C7n (k n:Nat):(W k n).flatMap (fun x=>((B2 k).map fun c=>PyData.str (x++K4 c)))=(W k (n+1)).map PyData.str:=by
 rw [W,List.map_flatMap];congr 1;funext x;rw [map_map];rfl
abbrev A19:Stmt:=top 22
theorem S9:B8 ["signs","width","words","place"] ["signs","width"] (A9 A19):=by walk_at "sc"
def A3w:W0:=fun ds Q _=>∃ (k n:Nat),ds=[.int k,.int n]/\K3 k/\n<=5/\Q (wD (W k n)) true
theorem A99 {f:Addr} {fd:FuncData} (F:U3 K "words_of" "words_of" A19 f fd) (T:Blt mg) (G_SIGNS:A9g K mg "SIGNS" SIG):G6 P w K mg base X6 1 f fd ["signs","width"] (E9 K A3w):=by
 refine ok0 F S9 (fun ds Q X h=>?_) (fun cdv A outer s H E hr=>?_) fun ds Qd Xd h=>h
 ·obtain ⟨k,n,rfl,_⟩:=h;rfl
 refine ⟨_,(A1 (C1 2 S9.nd (L5 (A0 E3 A2)))
   (A1 (J2 PassesOwn.never rfl (K6 (by rfl) (by exact T.range) (A0 (B0 1) A2)) (M7 3 S9.nd) (A6 (A0a (i:=2) (hN:=S9.nd) (hyi:=rfl) (hy:=rfl) (hc:=rfl) (own:=["word","sign"]) (cap:=[("signs",0)]) (L:=B9.of (by kernel_rfl)) (hi:=(E6 (by rfl) (B0 2))) (hin:=(fun _ _ _ _=>⟨(M7 0 (N3 (by kernel_rfl))),G9,(C3n (by rfl) (by rfl) (by rfl) (by exact fun _=>rfl) (A3m (by rfl) (P8 (by rfl) (U5 (by exact G_SIGNS) (by rfl)) D1 (C6 (B0 2)))) (M7 1 (N3 (by kernel_rfl))) G9 (G8 (by rfl) (by rfl) (A8 C3 (B0 0) (B0 1))))⟩)))))
   (A6 (B6 (B0 2))))),fun ds Qd h=>?_⟩
 obtain ⟨k,n,rfl,hk,hn,q⟩:=h;show (_:L9) _ [some (false,.int k),some (false,.int n),none,none] _;walk_at "d";refine A15 (fun i ρ=>∃ x:Option (Bool × D),ρ=[some (false,.int (k:Int)),some (false,.int (n:Int)),some (true,.list ((W k i).map .str)),x]) ⟨_,by
  have e:Str.ofString ""=⟨#[]⟩:=by decide +kernel
  show [_,_,some (true,PyData.list [PyData.str (Str.ofString "")]),_]=_;rw [e];rfl⟩ ?_ ?_
 ·rintro i ρ hi ⟨x,rfl⟩;have hi':i < n:=by simpa using hi
  have hp:=A0v hk (n:=i+1) (by omega);rw [<-A6m] at hp;walk_at "d";refine B8l (L:=W k i) PyData.str (fun x=>(B2 k).map fun c=>PyData.str (x++K4 c)) (fun x hx es Q' hl q'=>?_) (by rw [C7n,length_map];omega) ?_
  ·walk_at "d";rw [A3o hk];rw [length_map] at hl;refine C3j (fun c:Nat=>PyData.str (K4 c)) (fun c=>PyData.str (x++K4 c)) (B2 k) es (fun c hc es Q' hl q'=>?_) (by omega) (by exact q');walk_at "d";have:=(V9.mp hx).1;refine ⟨by show x.length+1<=_;omega,?_⟩
   first|exact q'|(walk_at "d";first|exact q'|exact ⟨hl,rfl,q'⟩)
  ·rw [C7n];walk_at "d";exact ⟨_,rfl⟩
 ·rintro ρ ⟨x,rfl⟩;walk_at "d";rw [show (n:Int).toNat=n from rfl];exact q
abbrev A2n:Stmt:=top 23
theorem B36:B8 ["word","bars"] ["word","bars"] (A9 A2n):=by walk_at "sc"
def P4:W0:=fun ds Q _=>∃ (x:Str) (bs:List Str),ds=[.str x,bD bs]/\bs.length<=100/\Q (.bool (fr bs x)) true
theorem D0v (bs:List Str) (x:Str):(!(bs.map fun b=>has b x).any id)=fr bs x:=by
 unfold fr
 induction bs with
 | nil=>rfl
 | cons b r ih=>rw [map_cons,any_cons,all_cons,<-ih];cases has b x<;>simp
theorem B2c {f:Addr} {fd:FuncData} (F:U3 K "is_free" "is_free" A2n f fd) (T:Blt mg):G6 P w K mg base X6 1 f fd ["word","bars"] (E9 K P4):=by
 refine ok0 F B36 (fun ds Q X h=>?_) (fun cdv A outer s H E hr=>?_) fun ds Qd Xd h=>h
 ·obtain ⟨x,bs,rfl,_⟩:=h;rfl
 refine ⟨_,(A6 (B6 (B4a (B5 (A29 (by rfl) (by rfl)) (by rfl) (by exact T.any) (by decide +kernel) (A0 (U1 ["bar"] [("word",0)] rfl (B9.of (by kernel_rfl)) (E6 (by rfl) (B0 1)) (fun _ _ _ _=>⟨(M7 0 (N3 (by kernel_rfl))),G9,(G8 (by rfl) (by rfl) (A1s A7h (B0 0) (B0 1) rfl))⟩)) A2))))),fun ds Qd h=>?_⟩;obtain ⟨x,bs,rfl,hl,q⟩:=h;show (_:L9) _ [some (false,.str x),some (false,.list (bs.map .str))] _;walk_at "d";refine N1 (L:=bs) PyData.str (fun b=>.bool (has b x)) (fun b hb es Q' hl q'=>?_) (by omega) ?_
 ·walk_at "d";exact q'
 walk_at "d";refine ⟨_,O4 _ _,?_⟩;walk_at "d";rw [D0v];exact q
def tD (ks:List Str):List (C2 × D):=ks.map fun t=>(Sum.inr t,.bool true)
theorem A0b (ks:List Str) (t:Str):(look (tD ks) (Sum.inr t)).isSome=decide (t∈ks):=by
 induction ks with
 | nil=>rfl
 | cons a r ih =>
  unfold look at ih ⊢;unfold tD at ih ⊢;rw [map_cons];by_cases e:a=t
  ·subst e;rw [List.find?_cons_of_pos (by simp)];simp
  ·rw [find?_cons_of_neg (by simpa using e),ih];have:t≠a:=fun z=>e z.symm;simp [this]
abbrev M9:Stmt:=top 24
theorem I0:B8 ["signs","bars","kept","word","behind","ahead","follows"] ["signs","bars","kept","word"] (A9 M9):=by walk_at "sc"
def B9i:W0:=fun ds Q _=>∃ (k:Nat) (bs ks:List Str) (x:Str),ds=[.int k,bD bs,dFD (tD ks),.str x]/\K3 k/\bs.length<=100/\x.length<=100/\Q (.bool (both k bs ks x)) true
theorem A8l {α:Type} (l:List α) (f:α->Bool):(l.map f).any id=l.any f:=by
 induction l with
 | nil=>rfl
 | cons a r ih=>rw [map_cons,any_cons,any_cons,ih];rfl
theorem A01 {f:Addr} {fd:FuncData} (F:U3 K "goes_on_both_ways" "goes_on_both_ways" M9 f fd) (T:Blt mg) (G_SIGNS:A9g K mg "SIGNS" SIG) (D_is_free:Df P w K mg base "is_free" ["word","bars"] 1 (E9 K P4)):G6 P w K mg base X6 2 f fd ["signs","bars","kept","word"] (E9 K B9i):=by
 refine ok0 F I0 (fun ds Q X h=>?_) (fun cdv A outer s H E hr=>?_) fun ds Qd Xd h=>h
 ·obtain ⟨k,bs,ks,x,rfl,_⟩:=h;rfl
 refine ⟨_,(A1 (A0a (i:=4) (hN:=I0.nd) (hyi:=rfl) (hy:=rfl) (hc:=rfl) (own:=["sign"]) (cap:=[("word",3)]) (L:=B9.of (by kernel_rfl)) (hi:=(A3m (by rfl) (P8 (by rfl) (U5 (by exact G_SIGNS) (by rfl)) D1 (C6 (B0 0))))) (hin:=(fun _ _ _ _=>⟨(M7 0 (N3 (by kernel_rfl))),G9,(G8 (by rfl) (by rfl) (A8 C3 (B0 1) (B0 0)))⟩)))
   (A1 (A0a (i:=5) (hN:=I0.nd) (hyi:=rfl) (hy:=rfl) (hc:=rfl) (own:=["sign"]) (cap:=[("word",3)]) (L:=B9.of (by kernel_rfl)) (hi:=(A3m (by rfl) (P8 (by rfl) (U5 (by exact G_SIGNS) (by rfl)) D1 (C6 (B0 0))))) (hin:=(fun _ _ _ _=>⟨(M7 0 (N3 (by kernel_rfl))),G9,(G8 (by rfl) (by rfl) (A8 C3 (B0 0) (B0 1)))⟩)))
   (A1 (C1 6 I0.nd (B5 (A29 (by rfl) (by rfl)) (by rfl) (by exact T.any) (by decide +kernel) (A0 (U1 ["longer"] [("kept",2),("bars",1)] rfl (B9.of (by kernel_rfl)) (E6 (by rfl) (B0 4)) (fun _ _ _ _=>⟨(M7 0 (N3 (by kernel_rfl))),G9,(G8 (by rfl) (by rfl) (W5 (B18 (by exact Nat.lt_of_le_of_lt (Nat.add_le_add_left (by decide) _) hr.units) (T7 (C7 (B0 0) (C6 A4) D1)) (B0 1) (by rfl)) (A0f (C9 (by exact D_is_free) (by exact hr.mono (by omega)) (A0 (B0 0) (A0 (B0 2) A2))))))⟩)) A2)))
   (A6 (B6 (W5 (B0 6) (A0f (B5 (A29 (by rfl) (by rfl)) (by rfl) (by exact T.any) (by decide +kernel) (A0 (U1 ["longer"] [("kept",2),("bars",1)] rfl (B9.of (by kernel_rfl)) (E6 (by rfl) (B0 5)) (fun _ _ _ _=>⟨(M7 0 (N3 (by kernel_rfl))),G9,(G8 (by rfl) (by rfl) (W5 (B18 (by exact Nat.lt_of_le_of_lt (Nat.add_le_add_left (by decide) _) hr.units) (T7 (C7 (B0 0) D1 (C6 (A8g A4)))) (B0 1) (by rfl)) (A0f (C9 (by exact D_is_free) (by exact hr.mono (by omega)) (A0 (B0 0) (A0 (B0 2) A2))))))⟩)) A2))))))))),fun ds Qd h=>?_⟩
 obtain ⟨k,bs,ks,x,rfl,hk,hl,hx,q⟩:=h;show (_:L9) _ [some (false,.int k),some (false,bD bs),some (false,dFD (tD ks)),some (false,.str x),none,none,none] _;have hk4:k<=4:=by rcases hk with rfl|rfl|rfl<;>decide
 have hll:=A1v k;walk_at "d";rw [A3o hk];refine N1 (L:=B2 k) (fun c=>PyData.str (K4 c)) (fun c=>.str (x++K4 c)) (fun c hc es Q' hl q'=>?_) (by omega) ?_
 ·walk_at "d";refine ⟨by show x.length+1<=_;omega,?_⟩
  first|exact q'|(walk_at "d";first|exact q'|exact ⟨hl,rfl,q'⟩)
 walk_at "d";rw [A3o hk];refine N1 (L:=B2 k) (fun c=>PyData.str (K4 c)) (fun c=>.str (K4 c++x)) (fun c hc es Q' hl q'=>?_) (by omega) ?_
 ·walk_at "d";refine ⟨by show 1+x.length<=_;omega,?_⟩
  first|exact q'|(walk_at "d";first|exact q'|exact ⟨hl,rfl,q'⟩)
 walk_at "d";refine N1 (L:=B2 k) (fun c=>PyData.str (x++K4 c)) (fun c=>.bool (decide (sl1 (x++K4 c)∈ks)&&fr bs (x++K4 c))) (fun c hc es Q' hl' q'=>?_) (by omega) ?_
 ·have hlc:(x++K4 c).length=x.length+1:=by rw [R5];rfl
  walk_at "d";refine ⟨_,_,rfl,rfl,?_⟩;rw [A0b];walk_at "d";refine O9 (fun h1=>?_) fun h1=>?_
  ·have h1:decide (sl1 (x++K4 c)∈ks)=true:=h1;rw [h1] at q';walk_at "d";refine ⟨_,bs,rfl,hl,?_⟩;walk_at "d"
   first|exact q'|exact ⟨hl',rfl,q'⟩
  ·have h1:decide (sl1 (x++K4 c)∈ks)=false:=h1;rw [h1] at q'
   first|exact q'|exact ⟨hl',trivial,q'⟩
 walk_at "d";refine ⟨_,O4 _ _,?_⟩;rw [A8l];walk_at "d";refine O9 (fun h6=>?_) fun h6=>?_
 rotate_left
 ·have e:both k bs ks x=false:=by unfold both;rw [h6];rfl
  rw [e] at q
  first|exact q|(walk_at "d";exact q)
 walk_at "d";refine N1 (L:=B2 k) (fun c=>PyData.str (K4 c++x)) (fun c=>.bool (decide (sl0 (K4 c++x)∈ks)&&fr bs (K4 c++x))) (fun c hc es Q' hl' q'=>?_) (by omega) ?_
 ·have hlc:(K4 c++x).length=1+x.length:=by rw [R5];rfl
  walk_at "d";refine ⟨_,_,rfl,rfl,?_⟩;rw [A0b];walk_at "d";refine O9 (fun h1=>?_) fun h1=>?_
  ·have h1:decide (sl0 (K4 c++x)∈ks)=true:=h1;rw [h1] at q';walk_at "d";refine ⟨_,bs,rfl,hl,?_⟩;walk_at "d"
   first|exact q'|exact ⟨hl',rfl,q'⟩
  ·have h1:decide (sl0 (K4 c++x)∈ks)=false:=h1;rw [h1] at q'
   first|exact q'|exact ⟨hl',trivial,q'⟩
 walk_at "d";refine ⟨_,O4 _ _,?_⟩;rw [A8l];have e:both k bs ks x=(B2 k).any fun c=>decide (sl0 (K4 c++x)∈ks)&&fr bs (K4 c++x):=by unfold both;rw [h6];rfl
 rw [e] at q
 first|exact q|(walk_at "d";exact q)
theorem A9e {ks:List Str} (h:ks.Nodup):P2 [] (ks.map Sum.inr)=tD ks:=by
 have gen:∀ (ls js:List Str),(js++ls).Nodup->P2 (tD js) (ls.map Sum.inr)=tD (js++ls):=by
  intro ls
  induction ls with
  | nil=>intro js _;rw [append_nil];rfl
  | cons a r ih =>
   intro js hn;rw [map_cons,P2];have hna:a∉js:=fun z=>by
    rw [nodup_append] at hn;exact hn.2.2 a z a mem_cons_self rfl
   have e:X3 (tD js) (Sum.inr a) (.bool true)=tD (js++[a]):=by
    unfold X3;rw [if_neg]
    ·unfold tD;rw [map_append];rfl
    ·intro z;obtain ⟨p,hp,hq⟩:=any_eq_true.mp z;obtain ⟨t,ht,rfl⟩:=mem_map.mp hp;have:t=a:=by simpa using hq
     exact hna (this ▸ ht)
   rw [e,ih (js++[a]) (by rw [append_assoc];exact hn),append_assoc];rfl
 exact gen ks [] h
theorem A1q (ks:List Str):(tD ks).map (·.1)=ks.map Sum.inr:=by unfold tD;rw [map_map];rfl
theorem A8o (ks:List Str) (g:C2->Bool):(ks.map Sum.inr).filter g=(ks.filter fun t=>g (Sum.inr t)).map (Sum.inr:Str->C2):=by
 rw [List.filter_map];rfl
theorem B00:∀ bs:List Str,ndcs (bs.map PyData.str)=true
 | []=>rfl
 | b::r=>by rw [map_cons,ndcs,B00 r];rfl
theorem B9t (bs:List Str):ndc (bD bs)=true:=B00 bs
def kB (f:Str->Bool):C2->Bool
 | .inr t=>f t
 | .inl _=>false
theorem C22 {k:Int} {bs:List Str} (hg:L3 k bs):∃ n:Nat,wid bs=(n:Int)/\1<=n/\n<=5:=by
 have:=B39 (bs:=bs) (m:=6) (by decide) fun b hb=>by have:=(hg.2.2 b hb).2.1;omega
 have:=A7j bs;exact ⟨(wid bs).toNat,by omega,by omega,by omega⟩
theorem D6o {k n:Nat} (hk:K3 k) (h5:n<=5) (h:k ^ n<=128):k ^ n < 128:=by
 match n,h5 with
 | 0,_|1,_|2,_|3,_|4,_|5,_=>rcases hk with rfl|rfl|rfl<;>first|decide|(exfalso;revert h;decide)
abbrev X2:Stmt:=top 21
theorem J3:B8 ["signs","bars","width","kept","settled","still"] ["signs","bars"] (A9 X2):=by walk_at "sc"
def B1f (cA cN3:Addr):W0:=fun ds Q X=>∃ (k:Int) (bs:List Str),ds=[.int k,bD bs]/\Sml bs/\(L3 k bs->wds k bs<=128->∀ us:List Str,us.Pairwise O3->(∀ t,t∈us ↔ Win k.toNat bs (wid bs).toNat t)->us.length < 128->Q (wD us) true)/\(¬ L3 k bs->X cA)/\(L3 k bs->¬ wds k bs<=128->X cN3)
theorem A5m {f cA cN3:Addr} {fd:FuncData} (F:U3 K "windows_of" "windows_of" X2 f fd) (T:Blt mg) (D_width_of:DfE P w K mg base "width_of" ["signs","bars"] 4 (E9 K (B1h cA cN3))) (D_words_of:Df P w K mg base "words_of" ["signs","width"] 1 (E9 K A3w)) (D_is_free:Df P w K mg base "is_free" ["word","bars"] 1 (E9 K P4)) (D_goes_on_both_ways:Df P w K mg base "goes_on_both_ways" ["signs","bars","kept","word"] 2 (E9 K B9i)):G6 P w K mg base (CXE P w base) 5 f fd ["signs","bars"] (E9 K (B1f cA cN3)):=by
 refine okE F J3 (fun ds Q X h=>?_) (fun cdv A outer s H E hr=>?_)
 ·obtain ⟨k,bs,rfl,_⟩:=h;rfl
 refine ⟨_,(A1 (C1 2 J3.nd (A3h (by exact D_width_of) B4u (by exact hr.mono (by omega)) (A0 (B0 0) (A0 (B0 1) A2))))
   (A1 (dnS (C1 3 J3.nd (C4e ["word"] [("bars",1)] rfl (by rfl) (B9.of (by kernel_rfl)) (E6 (by rfl) (C9 (by exact D_words_of) (by exact hr.mono (by omega)) (A0 (B0 0) (A0 (B0 2) A2)))) (fun _ _ _=>⟨V7 0 (N3 (by kernel_rfl)),(A1k (G0 (C9 (by exact D_is_free) (by exact hr.mono (by omega)) (A0 (B0 0) (A0 (B0 1) A2))))),qpv 0⟩))))
   (A1 (dnS (C1 4 J3.nd K0))
   (A1 (dnS (A5s PassesOwn.never (M4 (A65 (by rfl) (B0 4))) (A1 (B1i (i:=5) ["word"] [("signs",0),("bars",1),("kept",3)] J3.nd rfl rfl rfl (by rfl) (B9.of (by kernel_rfl)) (B0 3) (fun _ _ _=>⟨V7 0 (N3 (by kernel_rfl)),(A1k (G0 (C9 (by exact D_goes_on_both_ways) (by exact hr.mono (by omega)) (A0 (B0 1) (A0 (B0 2) (A0 (B0 3) (A0 (B0 0) A2))))))),qpv 0⟩))
   (A1 (C1 4 J3.nd (A1s (W2 (by rfl) (by exact hr.units)) (B5 Y0 (by rfl) (by exact T.len) (by decide +kernel) (A0 (B0 5) A2)) (B5 Y0 (by rfl) (by exact T.len) (by decide +kernel) (A0 (B0 3) A2)) (J5 _)))
   (A6 (C1 3 J3.nd (B0 5)))))))
   (A6 (dnS (B6 (B5 (B1w (by rfl)) (by rfl) (by exact T.sorted) (by decide +kernel) (A0 (B0 3) A2))))))))),fun ds Qd Xd h=>?_⟩
 obtain ⟨k,bs,rfl,hs,q,x1,x2⟩:=h;show (_:L9) _ [some (false,.int k),some (false,bD bs),none,none,none,none] _;walk_at "d";refine ⟨k,bs,rfl,hs,fun hg hw=>?_,x1,x2⟩;have q:=q hg hw;obtain ⟨n,en,hn1,hn5⟩:=C22 hg;obtain ⟨kk,ek,hk⟩:∃ kk:Nat,k=(kk:Int)/\K3 kk:=⟨k.toNat,by have:=hg.1;omega,by have:=hg.1;unfold K3;omega⟩;have hp:kk ^ n < 128:=by
  refine D6o hk hn5 ?_;unfold wds at hw;rw [en,ek] at hw;have e:((n:Nat):Int).toNat=n:=rfl;rw [e] at hw
  exact_mod_cast hw
 have hW:=A6m kk n;have hb100:bs.length<=100:=hs.1;rw [en,ek] at q;rw [en,ek];have q:∀ us:List Str,us.Pairwise O3->(∀ t,t∈us ↔ Win kk bs n t)->us.length < 128->Qd (wD us) true:=q;walk_at "d";refine ⟨kk,n,rfl,hk,hn5,?_⟩;walk_at "d";refine ⟨(W kk n).map Sum.inr,kB (fr bs),[some (false,bD bs)],by rw [map_map];rfl,by rw [length_map];omega,⟨rfl,fun j y hj=>?_⟩,fun t ht Q' hq=>?_,?_⟩
 ·match j,hj with
  | 0,hj=>cases hj;exact ⟨rfl,_,_,_,rfl,rfl,.same _ (B9t bs)⟩
 ·obtain ⟨t',ht',rfl⟩:=mem_map.mp ht;walk_at "d";refine ⟨t',bs,rfl,hb100,?_⟩;walk_at "d";exact hq
 have e0:(fun t=>kB (fr bs) (Sum.inr t))=fr bs:=rfl;rw [A8o,e0,A9e (show ((W kk n).filter (fr bs)).Nodup from (A89 kk n).filter _)];walk_at "d";refine ⟨fun m ρ=>∃ (ks:List Str) (sd:Bool) (x:Option (Bool × D)),ρ=[some (false,.int (kk:Int)),some (false,bD bs),some (false,.int (n:Int)),some (true,M6 (tD ks)),some (false,.bool sd),x]/\Kp kk bs n ks/\ks.length < 128/\(sd=true->∀ t,t∈ks ↔ Win kk bs n t)/\m=2*ks.length+(if sd=true then 0 else 1),⟨_,_,false,_,rfl,Kp.start kk bs n,?_,(fun z=>by cases z),rfl⟩,?_⟩
 ·have:=length_filter_le (fr bs) (W kk n);show ((W kk n).filter (fr bs)).length < 128;omega
 rintro m ρ ⟨ks,sd,x,rfl,hK,hl,hd,rfl⟩;walk_at "d";cases sd with
 | true =>
  rw [if_neg (by decide)];walk_at "d";refine ⟨tD ks,ks,rfl,A1q ks,hK.nd,hl,fun us p1 p2=>?_⟩;walk_at "d";exact q us p2 (fun t=>(p1.mem_iff).trans (hd rfl t)) (by rw [p1.length_eq];exact hl)
 | false =>
  rw [if_pos (by decide)];walk_at "d";refine ⟨tD ks,kB (both kk bs ks),[some (false,.int (kk:Int)),some (false,bD bs),some (false,dFD (tD ks))],rfl,by unfold tD;rw [length_map];omega,⟨rfl,fun j y hj=>?_⟩,fun t ht Q' hq=>?_,?_⟩
  ·match j,hj with
   | 0,hj=>cases hj;exact ⟨rfl,_,_,_,rfl,rfl,.same _ rfl⟩
   | 1,hj=>cases hj;exact ⟨rfl,_,_,_,rfl,rfl,.same _ (B9t bs)⟩
   | 2,hj=>cases hj;exact ⟨rfl,_,_,_,rfl,rfl,.dct _⟩
  ·rw [A1q] at ht;obtain ⟨t',ht',rfl⟩:=mem_map.mp ht;have:=(V9.mp (hK.sub t' ht')).1;walk_at "d";refine ⟨kk,bs,ks,t',rfl,hk,hb100,by omega,?_⟩;walk_at "d";exact hq
  have e0:(fun t=>kB (both kk bs ks) (Sum.inr t))=both kk bs ks:=rfl;rw [A1q,A8o,e0,A9e (show (ks.filter (both kk bs ks)).Nodup from hK.nd.filter _)];have hKs:=hK.step;have hfl:=length_filter_le (both kk bs ks) ks;have hfin:=hK.fin;have heq:(ks.filter (both kk bs ks)).length=ks.length->ks.filter (both kk bs ks)=ks:=fun e=>List.filter_eq_self.mpr (List.length_filter_eq_length_iff.mp e);revert hKs hfl hfin heq;generalize ks.filter (both kk bs ks)=ks';intro hKs hfl hfin heq;have l1:(tD ks').length=ks'.length:=by unfold tD;rw [length_map]
  have l2:(tD ks).length=ks.length:=by unfold tD;rw [length_map]
  walk_at "d";have eb:(((tD ks').length:Int)==((tD ks).length:Int))=decide (ks'.length=ks.length):=by
   rw [l1,l2,Bool.eq_iff_iff,beq_iff_eq,decide_eq_true_eq];constructor<;>intro h<;>omega
  rw [eb];refine ⟨_,?_,ks',decide (ks'.length=ks.length),_,rfl,hKs,by omega,fun z t=>?_,rfl⟩
  ·by_cases z:ks'.length=ks.length
   ·simp [z]
   ·simp [z];omega
  ·have z:ks'.length=ks.length:=by simpa using z
   have:=heq z;subst this;exact hfin z t
def St (k:Int) (bs:List Str):Nat->Prop
 | 0=>L3 k bs/\wds k bs<=128
 | 1=>¬ L3 k bs
 | _=>L3 k bs/\¬ wds k bs<=128
def Asc (b:Str):Prop:=∀ c∈b.cps.toList,c < 128
theorem Asc.ok {b:Str} (h:Asc b):PyData.strOk b=true:=by
 unfold PyData.strOk;rw [Array.all_eq_true_iff_forall_mem];intro c hc;have:=h c (by simpa using hc);simp;omega
theorem A4f:∀ {bs:List Str},(∀ b∈bs,Asc b)->PyData.canLayAll0 (bs.map PyData.str)=true
 | [],_=>rfl
 | b::r,h=>by
  have:=A4f (bs:=r) fun x hx=>h x (mem_cons_of_mem _ hx);simp [PyData.canLayAll0,PyData.canLay0,(h b mem_cons_self).ok,this]
theorem B3x {bs:List Str} (h:∀ b∈bs,Asc b):(PyData.list (bs.map PyData.str)).canLay0=true:=by
 have:=A4f h;simpa [PyData.canLay0] using this
theorem A8n (bs:List Str):(PyData.list (bs.map PyData.str)).depth<=32:=by
 have:PyData.depthAll (bs.map PyData.str)=0:=by
  induction bs with
  | nil=>rfl
  | cons b r ih=>simp [PyData.depthAll,PyData.depth,ih]
 show PyData.depthAll _+1<=32;omega
abbrev A2l:Stmt:=top 33
theorem W4:B8 ["_law_bars_here","_law_longest","_law_bar"] ["_law_bars_here"] (A9 A2l):=by walk_at "sc"
def A1o:W0:=fun ds Q _=>∃ bs:List Str,ds=[bD bs]/\Sml bs/\Q (.int (wid bs)) true
theorem B35 {f:Addr} {fd:FuncData} (F:U3 K "_law_width" "_law_width" A2l f fd) (T:Blt mg):G6 P w K mg base X6 1 f fd ["_law_bars_here"] (E9 K A1o):=by
 refine ok0 F W4 (fun ds Q X h=>?_) (fun cdv A outer s H E hr=>?_) fun ds Qd Xd h=>h
 ·obtain ⟨bs,rfl,_⟩:=h;rfl
 refine ⟨_,(A1 (C1 1 W4.nd A4)
   (A1 (S4 0 (J2 PassesOwn.never rfl (E6 (by rfl) (B0 0)) (M7 2 W4.nd) (A6 (C1 1 W4.nd (B5 (B4c (by rfl) (by rfl)) (by rfl) (by exact T.max) (by decide +kernel) (A0 (B0 1) (A0 (B5 M2 (by rfl) (by exact T.len) (by decide +kernel) (A0 (B0 2) A2)) A2)))))))
   (A6 (B6 (A8 N0 (B0 1) A4))))),fun ds Qd h=>?_⟩
 obtain ⟨bs,rfl,hs,q⟩:=h;show (_:L9) _ [some (false,.list (bs.map .str)),none,none] _;walk_at "d";refine O7 (fun j ρ=>∃ z:Option (Bool × D),ρ=[some (false,.list (bs.map .str)),some (false,.int (mx2 (V8 (bs.take j)))),z]) ⟨_,rfl⟩ ?_ ?_
 ·rintro j d ρ hd ⟨z,rfl⟩;obtain ⟨b,hb,rfl⟩:∃ b,bs[j]?=some b/\d=.str b:=by
   rw [List.getElem?_map] at hd;cases e:bs[j]? with
   | none=>rw [e] at hd;cases hd
   | some r=>rw [e] at hd;cases hd;exact ⟨r,rfl,rfl⟩
  have:=hs.2 b (List.mem_iff_getElem?.mpr ⟨j,hb⟩);walk_at "d";have e:mx2 (V8 (bs.take (j+1)))=if (b.length:Int) > mx2 (V8 (bs.take j)) then (b.length:Int) else mx2 (V8 (bs.take j)):=by
   rw [List.take_succ,hb];unfold mx2 V8;rw [map_append,List.foldl_append];rfl
  exact ⟨_,by rw [e]⟩
 ·rintro ρ ⟨z,rfl⟩;rw [length_map,take_length];walk_at "d";exact q
abbrev A2p:Stmt:=top 40
theorem A4p:B8 ["_law_e","_law_others"] ["_law_e"] (A9 A2p):=by walk_at "sc"
def V5 (K:W.Frag) (cG cT cWd cRd cN3 cA:Addr):SpX:=fun C Q=>∃ tm nb:Bool,PySem.W.kitOne K (.ref C) (.ref cG)=some false/\PySem.W.kitOne K (.ref C) (.ref cT)=some false/\PySem.W.kitOne K (.ref C) (.ref cWd)=some false/\PySem.W.kitOne K (.ref C) (.ref cRd)=some false/\PySem.W.kitOne K (.ref C) (.type "ValueError")=some true/\PySem.W.kitOne K (.ref C) (.ref cN3)=some tm/\PySem.W.kitOne K (.ref C) (.ref cA)=some nb/\nb=!tm/\Q (.bool tm)
theorem B1o {f cG cT cWd cRd cN3 cA:Addr} {fd:FuncData} (F:U3 K "_law_class" "_law_class" A2p f fd) (T:Blt mg) (C_NoGrid:W3 K mg "NoGrid" cG) (C_NoTable:W3 K mg "NoTable" cT) (C_NoWord:W3 K mg "NoWord" cWd) (C_NoReader:W3 K mg "NoReader" cRd) (C_TooMany:W3 K mg "TooMany" cN3) (C_NoBars:W3 K mg "NoBars" cA):C2i P w K mg base 1 f fd "_law_e" (V5 K cG cT cWd cRd cN3 cA):=by
 refine okX F A4p fun cdv A outer s H E ea cE oe yE hr hA hoe hCE hKE=>?_;refine ⟨_,(A1 (C1 1 A4p.nd (L5 (A0 (W6 (by rfl) (by exact mem_cons_self) (by exact hoe) (by exact hCE) (by exact hKE) (by rfl) (by exact T.isinstance) (B0 0) (by rfl) (by exact C_NoGrid.mgx)) (A0 (W6 (by rfl) (by exact mem_cons_self) (by exact hoe) (by exact hCE) (by exact hKE) (by rfl) (by exact T.isinstance) (B0 0) (by rfl) (by exact C_NoTable.mgx)) (A0 (W6 (by rfl) (by exact mem_cons_self) (by exact hoe) (by exact hCE) (by exact hKE) (by rfl) (by exact T.isinstance) (B0 0) (by rfl) (by exact C_NoWord.mgx)) (A0 (W6 (by rfl) (by exact mem_cons_self) (by exact hoe) (by exact hCE) (by exact hKE) (by rfl) (by exact T.isinstance) (B0 0) (by rfl) (by exact C_NoReader.mgx)) A2))))))
   (A1 (D7 (A62 (Q0 (G0 (B5 (B9r (by rfl) (by exact mem_cons_self) (by exact hoe) (by exact hA)) (by rfl) (by exact T.any) (by decide +kernel) (A0 (B0 1) A2))) (Q0 (M4 (G0 (C0p (n:="ValueError") (by rfl) (by exact mem_cons_self) (by exact hoe) (by exact hCE) (by exact hKE) (by rfl) (by exact T.isinstance) (B0 0) (by rfl) (by exact T.ValueError) (by decide +kernel)))) (A0j (E5 (W2 (by rfl) (by exact hr.units)) (W6 (by rfl) (by exact mem_cons_self) (by exact hoe) (by exact hCE) (by exact hKE) (by rfl) (by exact T.isinstance) (B0 0) (by rfl) (by exact C_TooMany.mgx)) (W6 (by rfl) (by exact mem_cons_self) (by exact hoe) (by exact hCE) (by exact hKE) (by rfl) (by exact T.isinstance) (B0 0) (by rfl) (by exact C_NoBars.mgx)) (J5 _)))))) (A6 (B6 C3m)) C0)
   (A6 (B6 (W6 (by rfl) (by exact mem_cons_self) (by exact hoe) (by exact hCE) (by exact hKE) (by rfl) (by exact T.isinstance) (B0 0) (by rfl) (by exact C_TooMany.mgx)))))),fun Qd h=>?_⟩
 obtain ⟨tm,nb,h1,h2,h3,h4,h5,h6,h7,rfl,q⟩:=h;show (_:L9) _ [some (false,opq ea),none] _;walk_at "d";refine ⟨_,h1,?_⟩;walk_at "d";refine ⟨_,h2,?_⟩;walk_at "d";refine ⟨_,h3,?_⟩;walk_at "d";refine ⟨_,h4,?_⟩;walk_at "d";refine ⟨[false,false,false,false],rfl,?_⟩;walk_at "d";rw [if_neg (by decide)];walk_at "d";refine ⟨_,h5,?_⟩;walk_at "d";refine ⟨_,h6,?_⟩;walk_at "d";refine ⟨_,h7,?_⟩;refine ⟨by simp [PyData.canLay0],by simp [PyData.canLay0],by simp [PyData.depth],?_⟩;rw [show PyData.eqv (.bool tm) (.bool !tm)=false from by cases tm<;>rfl];walk_at "d";rw [if_neg (by decide)];walk_at "d";refine ⟨_,h6,?_⟩;exact ⟨q,trivial⟩
theorem B5n {k:Nat} (h:k=2\/k=3\/k=4):∀ n:Nat,n+k<=7->(k:Int) ^ n<=128:=by
 intro n hn;rcases h with rfl|rfl|rfl
 ·have:n<=5:=by omega
  match n,this with
  | 0,_|1,_|2,_|3,_|4,_|5,_=>decide
 ·have:n<=4:=by omega
  match n,this with
  | 0,_|1,_|2,_|3,_|4,_=>decide
 ·have:n<=3:=by omega
  match n,this with
  | 0,_|1,_|2,_|3,_=>decide
theorem InL.asc {k c:Nat} (h:InL k c) (hk:k<=4):c < 128:=by have:=h.2;omega
abbrev A56:Stmt:=top 31
theorem G7:B8 ["_law_big_here","_law_signs","_law_most","_law_many","_law_bars_here","_law_k","_law_size","_law_bar"] ["_law_big_here"] (A9 A56):=by walk_at "sc"
def A3p:W0:=fun ds Q _=>∃ (b:Int),ds=[.int b]/\0<=b/\∀ (k:Int) (bs:List Str) (b':Int),Sml bs->(∀ x∈bs,Asc x)->St k bs 0->Q (.tuple [.int k,bD bs,.int b']) true
theorem B6b {f:Addr} {fd:FuncData} (F:U3 K "_law_bars" "_law_bars" A56 f fd) (T:Blt mg) (D_l_word:Df P w K mg base "_law_word" ["_law_big_here","_law_letters","_law_many"] 1 (E9 K A3j)):G6 P w K mg base X6 2 f fd ["_law_big_here"] (E9 K A3p):=by
 refine ok0 F G7 (fun ds Q X h=>?_) (fun cdv A outer s H E hr=>?_) fun ds Qd Xd h=>h
 ·obtain ⟨b,rfl,_⟩:=h;rfl
 refine ⟨_,(A1 (C1 1 G7.nd (A8 C3 A4 (A8 D8 (B0 0) A4)))
   (A1 (C1 2 G7.nd (A8 C3 A4 (A8 D8 (A8 K8 (B0 0) A4) (A8 N0 A4 (B0 1)))))
   (A1 (C1 3 G7.nd (A8 D8 (A8 K8 (B0 0) A4) A4))
   (A1 (C0d (D7 (E5 B1l (A8 D8 (A8 K8 (B0 0) A4) A4) A4 (J5 _)) (A6 (C1 3 G7.nd (A8 D8 (B0 3) A4))) C0))
   (A1 (C1 0 G7.nd (A8 K8 (B0 0) A4))
   (A1 (C1 4 G7.nd (L5 A2))
   (A1 (J2 PassesOwn.never rfl (K6 (by rfl) (by exact T.range) (A0 (B0 3) A2)) (M7 5 G7.nd) (A1 (C1 6 G7.nd (A8 C3 A4 (A8 D8 (B0 0) (B0 2))))
   (A1 (C0d (D7 (E5 (W2 (by rfl) (by exact hr.units)) (A8 D8 (A8 K8 (B0 0) A4) A4) A4 (J5 _)) (A6 (C1 6 G7.nd (B0 2))) C0))
   (A1 (A1u [7,0] 2 rfl (by rfl) (by rfl) (E2 (V7 7 G7.nd) (E2 (V7 0 G7.nd) Q3)) (by rfl) (by rfl) (C9 (by exact D_l_word) (by exact hr.mono (by omega)) (A0 (A8 K8 (B0 0) A4) (A0 (C7 E3 D1 (C6 (B0 1))) (A0 (B0 6) A2)))))
   (A6 (A0x 4 (by rfl) (qpv 4) (B0 7) (by rfl) (by rfl) (by rfl)))))))
   (A6 (B6 (E4 (A0 (B0 1) (A0 (B0 4) (A0 (B0 0) A2))))))))))))),fun ds Qd h=>?_⟩
 obtain ⟨b,rfl,hb,q⟩:=h;show (_:L9) _ [some (false,.int b),none,none,none,none,none,none,none] _;have h3:=Int.emod_nonneg b (show (3:Int)≠0 by decide);have h3':=Int.emod_lt_of_pos b (show (0:Int) < 3 by decide);obtain ⟨k,ek,hk⟩:∃ k:Nat,2+b % 3=(k:Int)/\(k=2\/k=3\/k=4):=⟨(2+b % 3).toNat,by omega,by omega⟩;have h8:(0:Int) < 8 - (2+b % 3):=by omega
 walk_at "d";rw [ek] at h8 ⊢;obtain ⟨m,em,hm1,hm2⟩:∃ m:Nat,1+b / 3 % (8 - (k:Int))=(m:Int)/\1<=m/\m+k<=8:=by
  have a:=Int.emod_nonneg (b / 3) (Int.ne_of_gt h8);have c:=Int.emod_lt_of_pos (b / 3) h8;exact ⟨(1+b / 3 % (8 - (k:Int))).toNat,by omega,by omega,by omega⟩
 rw [em];refine D7m (fun ρ=>∃ n:Nat,n<=12/\ρ=[some (false,.int b),some (false,.int (k:Int)),some (false,.int (m:Int)),some (false,.int (n:Int)),none,none,none,none]) (fun N hN=>?_) ?_
 ·walk_at "d";refine O9 (fun _=>?_) fun _=>?_
  ·walk_at "d";exact hN _ ⟨(b / 18 % 13 % 5).toNat,by omega,by rw [Int.toNat_of_nonneg (Int.emod_nonneg _ (by decide))]⟩
  ·walk_at "d";exact hN _ ⟨(b / 18 % 13).toNat,by omega,by rw [Int.toNat_of_nonneg (Int.emod_nonneg _ (by decide))]⟩
 rintro ρ ⟨n,hn,rfl⟩;have hb1:0<=b / 936:=Int.ediv_nonneg hb (by decide);walk_at "d";revert hb1;generalize b / 936=b1;intro hb1;have hm0:(0:Int) < (m:Int):=by omega
 refine A15 (fun i ρ=>∃ (bb:Int) (bs:List Str) (x1 x2 x3:Option (Bool × D)),ρ=[some (false,.int bb),some (false,.int (k:Int)),some (false,.int (m:Int)),some (false,.int (n:Int)),some (true,.list (bs.map .str)),x1,x2,x3]/\0<=bb/\bs.length=i/\∀ x∈bs,1<=x.length/\x.length<=m/\∀ c∈x.cps.toList,InL k c) ⟨b1,[],_,_,_,rfl,hb1,rfl,fun _ z=>by cases z⟩ ?_ ?_
 ·rintro i ρ hi ⟨bb,bs,x1,x2,x3,rfl,hbb,hbl,hbs⟩;walk_at "d";have a:=Int.emod_nonneg bb (Int.ne_of_gt hm0);have c:=Int.emod_lt_of_pos bb hm0;refine D7m (fun ρ=>∃ z:Nat,1<=z/\z<=m/\ρ=[some (false,.int bb),some (false,.int (k:Int)),some (false,.int (m:Int)),some (false,.int (n:Int)),some (true,.list (bs.map .str)),some (false,.int (0+(i:Int))),some (false,.int (z:Int)),x3]) (fun N hN=>?_) ?_
  ·walk_at "d";refine O9 (fun _=>?_) fun _=>?_
   ·walk_at "d";exact hN _ ⟨m,hm1,Nat.le_refl _,rfl⟩
   ·walk_at "d";exact hN _ ⟨(1+bb % (m:Int)).toNat,by omega,by omega,by rw [Int.toNat_of_nonneg (by omega)]⟩
  rintro ρ ⟨z,hz1,hz2,rfl⟩;walk_at "d";refine ⟨bb / 12,_,k,z,rfl,Int.ediv_nonneg hbb (by decide),B1x hk,by omega,by omega,by omega,fun x b' hx1 hx2 hb'=>?_⟩;walk_at "d";refine ⟨bs.map .str,rfl,by rw [length_map];omega,?_⟩;walk_at "d";refine ⟨b',bs++[x],_,_,_,by rw [map_append];rfl,hb',by rw [length_append,hbl];rfl,fun y hy=>?_⟩;rcases mem_append.mp hy with hy|hy
  ·exact hbs y hy
  ·rw [mem_singleton.mp hy,hx1];exact ⟨hz1,hz2,hx2⟩
 ·rintro ρ ⟨bb,bs,x1,x2,x3,rfl,hbb,hbl,hbs⟩;rw [Int.toNat_natCast] at hbl;walk_at "d";have g:L3 (k:Int) bs:=⟨by omega,by omega,fun x hx=>⟨(hbs x hx).1,by have:=(hbs x hx).2.1;omega,fun c hc=>by have:=(hbs x hx).2.2 c hc;unfold InL at this;omega⟩⟩;have hw:=B39 (bs:=bs) (m:=8 - (k:Int)) (by omega) fun x hx=>by have:=(hbs x hx).2.1;omega
  have hp:=A7j bs;exact q (k:Int) bs bb ⟨by omega,fun x hx=>by have:=(hbs x hx).2.1;omega⟩ (fun x hx c hc=>((hbs x hx).2.2 c hc).asc (by omega)) ⟨g,B5n hk _ (by omega)⟩
abbrev A4j:Stmt:=top 34
theorem A60:B8 ["_law_word_here","_law_bars_here","_law_bar"] ["_law_word_here","_law_bars_here"] (A9 A4j):=by walk_at "sc"
theorem B66 {f:Addr} {fd:FuncData} (F:U3 K "_law_free" "_law_free" A4j f fd) (T:Blt mg):G6 P w K mg base X6 1 f fd ["_law_word_here","_law_bars_here"] (E9 K P4):=by
 refine ok0 F A60 (fun ds Q X h=>?_) (fun cdv A outer s H E hr=>?_) fun ds Qd Xd h=>h
 ·obtain ⟨x,bs,rfl,_⟩:=h;rfl
 refine ⟨_,(A1 (S4 1 (J2 PassesOwn.never rfl (E6 (by rfl) (B0 1)) (M7 2 A60.nd) (A6 (D7 (E5 A7h (B0 2) (B0 0) rfl) (A6 (B6 K0)) C0))))
   (A6 (B6 K0))),fun ds Qd h=>?_⟩
 obtain ⟨x,bs,rfl,hl,q⟩:=h;show (_:L9) _ [some (false,.str x),some (false,.list (bs.map .str)),none] _;walk_at "d";refine O7 (fun j ρ=>∃ z:Option (Bool × D),ρ=[some (false,.str x),some (false,.list (bs.map .str)),z]/\∀ b∈bs.take j,has b x=false) ⟨_,rfl,fun _ z=>by cases z⟩ ?_ ?_
 ·rintro j d ρ hd ⟨z,rfl,hj⟩;obtain ⟨b,hb,rfl⟩:∃ b,bs[j]?=some b/\d=.str b:=by
   rw [List.getElem?_map] at hd;cases e:bs[j]? with
   | none=>rw [e] at hd;cases hd
   | some r=>rw [e] at hd;cases hd;exact ⟨r,rfl,rfl⟩
  walk_at "d";refine O9 (fun h1=>?_) fun h1=>?_
  ·have e:fr bs x=false:=by
    unfold fr;rw [List.all_eq_false];exact ⟨b,List.mem_iff_getElem?.mpr ⟨j,hb⟩,by show ¬ (!has b x)=true;rw [show has b x=true from h1];decide⟩
   rw [e] at q;walk_at "d";exact q
  ·walk_at "d";refine ⟨_,rfl,fun y hy=>?_⟩;rw [List.take_succ,hb] at hy;rcases mem_append.mp hy with hy|hy
   ·exact hj y hy
   ·rw [mem_singleton.mp hy];exact h1
 ·rintro ρ ⟨z,rfl,hj⟩;have e:fr bs x=true:=by
   unfold fr;rw [all_eq_true];intro b hb;rw [hj b (by rw [length_map,take_length];exact hb)];rfl
  rw [e] at q;walk_at "d";exact q
theorem B4m {k:Nat} (h:K3 k):(Txt.slice (Str.ofString "abcd") none (some (k:Int))).cps.toList=B2 k:=by
 rcases h with rfl|rfl|rfl
 ·have e:Txt.slice (Str.ofString "abcd") none (some ((2:Nat):Int))=⟨#[97,98]⟩:=by decide +kernel
  rw [e];rfl
 ·have e:Txt.slice (Str.ofString "abcd") none (some ((3:Nat):Int))=⟨#[97,98,99]⟩:=by decide +kernel
  rw [e];rfl
 ·have e:Txt.slice (Str.ofString "abcd") none (some ((4:Nat):Int))=⟨#[97,98,99,100]⟩:=by decide +kernel
  rw [e];rfl
abbrev A2e:Stmt:=top 35
theorem N2:B8 ["_law_letters","_law_size","_law_words_here","_law_k","_law_longer","_law_word_here"] ["_law_letters","_law_size"] (A9 A2e):=by walk_at "sc"
def A2k:W0:=fun ds Q _=>∃ (k n:Nat) (z:Str),ds=[.str z,.int n]/\z.cps.toList=B2 k/\K3 k/\n<=6/\Q (wD (W k n)) true
theorem A6p {α β:Type} (l:List α) (f:α->List β) {j:Nat} {x:α} (h:l[j]?=some x):(l.take (j+1)).flatMap f=(l.take j).flatMap f++f x:=by
 rw [take_add_one,h,List.flatMap_append];simp
theorem B32 {f:Addr} {fd:FuncData} (F:U3 K "_law_words" "_law_words" A2e f fd) (T:Blt mg):G6 P w K mg base X6 1 f fd ["_law_letters","_law_size"] (E9 K A2k):=by
 refine ok0 F N2 (fun ds Q X h=>?_) (fun cdv A outer s H E hr=>?_) fun ds Qd Xd h=>h
 ·obtain ⟨k,n,z,rfl,_⟩:=h;rfl
 refine ⟨_,(A1 (C1 2 N2.nd (L5 (A0 E3 A2)))
   (A1 (J2 PassesOwn.never rfl (K6 (by rfl) (by exact T.range) (A0 (B0 1) A2)) (M7 3 N2.nd) (A1 (C1 4 N2.nd (L5 A2))
   (A1 (S4 2 (J2 PassesOwn.never rfl (E6 (by rfl) (B0 2)) (M7 5 N2.nd) (A6 (C1 4 N2.nd (A8 C3 (B0 4) (U1 ["_law_sign"] [("_law_word_here",5)] rfl (B9.of (by kernel_rfl)) (A79 (B0 0)) (fun _ _ _ _=>⟨(M7 0 (N3 (by kernel_rfl))),G9,(G8 (by rfl) (by rfl) (A8 C3 (B0 1) (B0 0)))⟩)))))))
   (A6 (C1 2 N2.nd (B0 4))))))
   (A6 (B6 (B0 2))))),fun ds Qd h=>?_⟩
 obtain ⟨k,n,z,rfl,hz,hk,hn,q⟩:=h;show (_:L9) _ [some (false,.str z),some (false,.int n),none,none,none,none] _;have hk4:k<=4:=by rcases hk with rfl|rfl|rfl<;>decide
 have hll:=A1v k;walk_at "d";refine A15 (fun i ρ=>∃ (x y u:Option (Bool × D)),ρ=[some (false,.str z),some (false,.int (n:Int)),some (true,.list ((W k i).map .str)),x,y,u]) ⟨_,_,_,by
  have e:Str.ofString ""=⟨#[]⟩:=by decide +kernel
  show [_,_,some (true,PyData.list [PyData.str (Str.ofString "")]),_,_,_]=_;rw [e];rfl⟩ ?_ ?_
 ·rintro i ρ hi ⟨x,y,u,rfl⟩;have hi':i < n:=by simpa using hi
  have hp:=A0v hk (n:=i+1) (by omega);rw [<-A6m] at hp;walk_at "d";refine O7 (fun j ρ=>∃ (u:Option (Bool × D)),ρ=[some (false,.str z),some (false,.int (n:Int)),some (false,.list ((W k i).map .str)),some (false,.int (0+(i:Int))),some (true,.list ((((W k i).take j).flatMap fun w=>(B2 k).map fun c=>w++K4 c).map .str)),u]) ⟨_,rfl⟩ ?_ ?_
  ·rintro j d ρ hd ⟨u,rfl⟩;obtain ⟨x,hx,rfl⟩:∃ x,(W k i)[j]?=some x/\d=.str x:=by
    rw [List.getElem?_map] at hd;cases e:(W k i)[j]? with
    | none=>rw [e] at hd;cases hd
    | some r=>rw [e] at hd;cases hd;exact ⟨r,rfl,rfl⟩
   have hxl:=(V9.mp (mem_of_getElem? hx)).1;have hsz:(((W k i).take (j+1)).flatMap fun w=>(B2 k).map fun c=>w++K4 c).length<=(W k (i+1)).length:=by
    rw [W];refine List.Sublist.length_le ?_
    conv=>rhs;rw [<-take_append_drop (j+1) (W k i)]
    rw [List.flatMap_append];exact List.sublist_append_left _ _
   rw [A6p _ _ hx,length_append] at hsz;walk_at "d";unfold DL.signs;rw [hz];refine N1 (L:=B2 k) (fun c=>PyData.str ⟨#[c]⟩) (fun c=>.str (x++K4 c)) (fun c hc es Q' hl q'=>?_) (by omega) ?_
   ·walk_at "d";refine ⟨by show x.length+1<=_;omega,?_⟩
    first|exact q'|(walk_at "d";first|exact q'|exact ⟨hl,rfl,q'⟩)
   walk_at "d";refine ⟨by rw [length_map,length_map];rw [length_map] at hsz;omega,some (false,.str x),?_⟩;have hk2:A25 ((((W k i).take j).flatMap fun w=>(B2 k).map fun c=>w++K4 c).map PyData.str) (Kd.own [4]) ((B2 k).map fun c=>PyData.str (x++K4 c)) (Kd.own [])=Kd.own []:=by
    unfold A25;have e2:((B2 k).map fun c=>PyData.str (x++K4 c))=((B2 k).map fun c=>x++K4 c).map PyData.str:=by rw [map_map];rfl
    rw [O2,e2,O2];rfl
   rw [hk2,A6p _ _ hx,map_append,map_map];rfl
  ·rintro ρ ⟨u,rfl⟩;rw [length_map,take_length];walk_at "d";exact ⟨_,_,_,rfl⟩
 ·rintro ρ ⟨x,y,u,rfl⟩;walk_at "d";rw [show (n:Int).toNat=n from rfl];exact q
def pD (s:Str × Str):D:=.tuple [.str s.1,.str s.2]
def bI (b:Bool):Int:=if b=true then 1 else 0
theorem C00 (ks:List Str) (t:Str):X3 (tD ks) (Sum.inr t) (.bool true)=tD (A1m ks t):=by
 unfold X3 A1m;by_cases h:t∈ks
 ·rw [if_pos h,if_pos]
  ·unfold tD;rw [map_map];refine List.map_congr_left fun a _=>?_;show (if (Sum.inr a:C2)=Sum.inr t then ((Sum.inr a:C2),PyData.bool true) else (Sum.inr a,PyData.bool true))=_;split<;>rfl
  ·exact any_eq_true.mpr ⟨(Sum.inr t,.bool true),mem_map.mpr ⟨t,h,rfl⟩,by simp⟩
 ·rw [if_neg h,if_neg]
  ·unfold tD;rw [map_append];rfl
  ·intro z;obtain ⟨p,hp,hq⟩:=any_eq_true.mp z;obtain ⟨a,ha,rfl⟩:=mem_map.mp hp;have:a=t:=by simpa using hq
   exact h (this ▸ ha)
theorem B92 (s:Str × Str) (sd:Bool):atI [PyData.str s.1,PyData.str s.2] (bI sd)=some (.str (pk sd s)):=by
 cases sd
 ·exact J8 (xs:=[PyData.str s.1,PyData.str s.2]) (j:=0) rfl
 ·exact J8 (xs:=[PyData.str s.1,PyData.str s.2]) (j:=1) rfl
theorem D0t (sd:Bool):1 - bI sd=bI (!sd):=by cases sd<;>rfl
theorem B9y {ss:List (Str × Str)} {j:Nat} {s:Str × Str} (h:ss[j]?=some s) (f:Str × Str->Str):(ss.take (j+1)).map f=(ss.take j).map f++[f s]:=by
 rw [take_add_one,h,map_append];rfl
theorem A9l {ss:List (Str × Str)} {j:Nat} {s:Str × Str} (h:ss[j]?=some s) (sd:Bool) (L:List Str):(sel (ss.take (j+1)) sd L).map (pk sd)=if pk (!sd) s∈L then (sel (ss.take j) sd L).map (pk sd)++[pk sd s] else (sel (ss.take j) sd L).map (pk sd):=by
 unfold sel;rw [take_add_one,h,filter_append,map_append];by_cases z:pk (!sd) s∈L
 ·rw [if_pos z];simp [z]
 ·rw [if_neg z];simp [z]
abbrev Y7:Stmt:=top 36
theorem J0:B8 ["_law_steps","_law_side","_law_left","_law_step","_law_many","_law_kept"] ["_law_steps","_law_side"] (A9 Y7):=by walk_at "sc"
def A7w:W0:=fun ds Q _=>∃ (ss:List (Str × Str)) (sd:Bool),ds=[.list (ss.map pD),.int (bI sd)]/\ss.length<=5000/\∀ ks:List Str,ks.Nodup->(∀ t,t∈ks ↔ P1 ss sd t)->ks.length<=5000->Q (M6 (tD ks)) true
theorem A8k {f:Addr} {fd:FuncData} (F:U3 K "_law_lasting" "_law_lasting" Y7 f fd) (T:Blt mg):G6 P w K mg base X6 1 f fd ["_law_steps","_law_side"] (E9 K A7w):=by
 refine ok0 F J0 (fun ds Q X h=>?_) (fun cdv A outer s H E hr=>?_) fun ds Qd Xd h=>h
 ·obtain ⟨ss,sd,rfl,_⟩:=h;rfl
 refine ⟨_,(A1 (C1 2 J0.nd A6r)
   (A1 (S4 0 (J2 PassesOwn.never rfl (E6 (by rfl) (B0 0)) (M7 3 J0.nd) (A6 (A9u 2 (by exact Nat.lt_of_le_of_lt (Nat.add_le_add_left (by decide) _) hr.units) (qpv 2) (T7 (K1 (dix (by rfl)) (B0 3) (B0 1) (fun _ _=>rfl))) K0))))
   (A1 (C1 4 J0.nd (A8 C3 (B5 Y0 (by rfl) (by exact T.len) (by decide +kernel) (A0 (B0 2) A2)) A4))
   (A1 (A5s PassesOwn.never (E5 A8u (B5 Y0 (by rfl) (by exact T.len) (by decide +kernel) (A0 (B0 2) A2)) (B0 4) (J5 _)) (A1 (C1 4 J0.nd (B5 Y0 (by rfl) (by exact T.len) (by decide +kernel) (A0 (B0 2) A2)))
   (A1 (C1 5 J0.nd A6r)
   (A1 (S4 0 (J2 PassesOwn.never rfl (E6 (by rfl) (B0 0)) (M7 3 J0.nd) (A6 (D7 (C6w (by exact Nat.lt_of_le_of_lt (Nat.add_le_add_left (by decide) _) hr.units) (T7 (K1 (dix (by rfl)) (B0 3) (A8 N0 A4 (B0 1)) (fun _ _=>rfl))) (B0 2) (by rfl)) (A6 (A9u 5 (by exact Nat.lt_of_le_of_lt (Nat.add_le_add_left (by decide) _) hr.units) (qpv 5) (T7 (K1 (dix (by rfl)) (B0 3) (B0 1) (fun _ _=>rfl))) K0)) C0))))
   (A6 (C1 2 J0.nd (B0 5)))))))
   (A6 (B6 (B0 2))))))),fun ds Qd h=>?_⟩
 obtain ⟨ss,sd,rfl,hl,q⟩:=h;show (_:L9) _ [some (false,.list (ss.map pD)),some (false,.int (bI sd)),none,none,none,none] _;have get:∀ {j:Nat} {d:D},(ss.map pD)[j]?=some d->∃ s,ss[j]?=some s/\d=.tuple [.str s.1,.str s.2]:=by
  intro j d hd;rw [List.getElem?_map] at hd;cases e:ss[j]? with
  | none=>rw [e] at hd;cases hd
  | some r=>rw [e] at hd;cases hd;exact ⟨r,rfl,rfl⟩
 walk_at "d";refine O7 (fun j ρ=>∃ x:Option (Bool × D),ρ=[some (false,.list (ss.map pD)),some (false,.int (bI sd)),some (true,M6 (tD (uq ((ss.take j).map (pk sd))))),x,none,none]) ⟨_,rfl⟩ ?_ ?_
 ·rintro j d ρ hd ⟨x,rfl⟩;obtain ⟨s,hs,rfl⟩:=get hd;have l0:=A6t ((ss.take j).map (pk sd));rw [length_map,length_take] at l0;have l1:(tD (uq ((ss.take j).map (pk sd)))).length=(uq ((ss.take j).map (pk sd))).length:=by unfold tD;rw [length_map]
  walk_at "d";refine ⟨_,B92 s sd,?_⟩;walk_at "d";rw [C00,B9y hs,B4o]
  first|rfl|exact ⟨_,rfl⟩
 rintro ρ ⟨x,rfl⟩;rw [length_map,take_length];have l0:=A6t (ss.map (pk sd));rw [length_map] at l0;have lD:∀ ks:List Str,(tD ks).length=ks.length:=fun ks=>by unfold tD;rw [length_map]
 have L0:=Lt.start ss sd;walk_at "d";rw [lD];refine ⟨fun m ρ=>∃ (ks:List Str) (x y:Option (Bool × D)),ρ=[some (false,.list (ss.map pD)),some (false,.int (bI sd)),some (true,M6 (tD ks)),x,some (false,.int (m:Int)),y]/\Lt ss sd ks m/\ks.length<=5000,⟨(uq (ss.map (pk sd))).length+1,_,_,_,rfl,L0,by omega⟩,?_⟩;rintro m ρ ⟨ks,x,y,rfl,hL,hl5⟩;walk_at "d";rw [lD];refine B7h (fun h1=>?_) fun h1=>?_
 rotate_left
 ·walk_at "d";exact q ks hL.nd (hL.fin (by simp at h1;omega)) hl5
 have h1:ks.length < m:=by simp at h1;omega
 walk_at "d";rw [lD];refine O7 (fun j ρ=>∃ x:Option (Bool × D),ρ=[some (false,.list (ss.map pD)),some (false,.int (bI sd)),some (true,M6 (tD ks)),x,some (false,.int (ks.length:Int)),some (true,M6 (tD (uq ((sel (ss.take j) sd ks).map (pk sd)))))]) ⟨_,rfl⟩ ?_ ?_
 ·rintro j d ρ hd ⟨x,rfl⟩;obtain ⟨s,hs,rfl⟩:=get hd;have l0:=A6t ((sel (ss.take j) sd ks).map (pk sd));have l2:(sel (ss.take j) sd ks).length<=(ss.take j).length:=length_filter_le _ _;rw [length_map] at l0;rw [length_take] at l2;have l1:=lD (uq ((sel (ss.take j) sd ks).map (pk sd)));walk_at "d";rw [D0t];refine ⟨_,B92 s (!sd),?_⟩;walk_at "d";rw [A0b];refine O9 (fun h2=>?_) fun h2=>?_
  ·have h2:pk (!sd) s∈ks:=of_decide_eq_true h2;walk_at "d";refine ⟨_,B92 s sd,?_⟩;walk_at "d";rw [C00,A9l hs,if_pos h2,B4o]
   first|rfl|exact ⟨_,rfl⟩
  ·have h2:¬ pk (!sd) s∈ks:=of_decide_eq_false h2;walk_at "d";exact ⟨_,by rw [A9l hs,if_neg h2]⟩
 ·rintro ρ ⟨x,rfl⟩;rw [length_map,take_length];have l3:(nxt ss sd ks).length<=5000:=by
   have a:=A6t ((sel ss sd ks).map (pk sd));have b:(sel ss sd ks).length<=ss.length:=length_filter_le _ _;rw [length_map] at a;exact Nat.le_trans a (Nat.le_trans b hl)
  walk_at "d";exact ⟨ks.length,h1,nxt ss sd ks,_,_,rfl,hL.step,l3⟩
abbrev A2t:Stmt:=top 37
theorem A1f:B8 ["_law_signs","_law_bars_here","_law_steps","_law_word_here"] ["_law_signs","_law_bars_here"] (A9 A2t):=by walk_at "sc"
def A4q:W0:=fun ds Q _=>∃ (k:Int) (bs:List Str),ds=[.int k,bD bs]/\Sml bs/\L3 k bs/\∀ l1 l0:List Str,l1.Nodup->l0.Nodup->(∀ t,t∈l1 ↔ P1 (J6 k.toNat bs (wid bs).toNat) true t)->(∀ t,t∈l0 ↔ P1 (J6 k.toNat bs (wid bs).toNat) false t)->l1.length<=5000->l0.length<=5000->Q (.tuple [M6 (tD l1),M6 (tD l0)]) true
theorem B2v {f:Addr} {fd:FuncData} (F:U3 K "_law_world" "_law_world" A2t f fd) (T:Blt mg) (D_l_words:Df P w K mg base "_law_words" ["_law_letters","_law_size"] 1 (E9 K A2k)) (D_l_width:Df P w K mg base "_law_width" ["_law_bars_here"] 1 (E9 K A1o)) (D_l_free:Df P w K mg base "_law_free" ["_law_word_here","_law_bars_here"] 1 (E9 K P4)) (D_l_lasting:Df P w K mg base "_law_lasting" ["_law_steps","_law_side"] 1 (E9 K A7w)):G6 P w K mg base X6 2 f fd ["_law_signs","_law_bars_here"] (E9 K A4q):=by
 refine ok0 F A1f (fun ds Q X h=>?_) (fun cdv A outer s H E hr=>?_) fun ds Qd Xd h=>h
 ·obtain ⟨k,bs,rfl,_⟩:=h;rfl
 refine ⟨_,(A1 (C1 2 A1f.nd (L5 A2))
   (A1 (J2 PassesOwn.never rfl (E6 (by rfl) (C9 (by exact D_l_words) (by exact hr.mono (by omega)) (A0 (C7 E3 D1 (C6 (B0 0))) (A0 (A8 C3 (C9 (by exact D_l_width) (by exact hr.mono (by omega)) (A0 (B0 1) A2)) A4) A2)))) (M7 3 A1f.nd) (A6 (D7 (G0 (C9 (by exact D_l_free) (by exact hr.mono (by omega)) (A0 (B0 3) (A0 (B0 1) A2)))) (A6 (A0x 2 (by rfl) (qpv 2) (E4 (A0 (C7 (B0 3) D1 (C6 (A8g A4))) (A0 (C7 (B0 3) (C6 A4) D1) A2))) (by rfl) (by rfl) (by rfl))) C0)))
   (A6 (B6 (E4 (A0 (C9 (by exact D_l_lasting) (by exact hr.mono (by omega)) (A0 (B0 2) (A0 A4 A2))) (A0 (C9 (by exact D_l_lasting) (by exact hr.mono (by omega)) (A0 (B0 2) (A0 A4 A2))) A2))))))),fun ds Qd h=>?_⟩
 obtain ⟨k,bs,rfl,hs,hg,q⟩:=h;show (_:L9) _ [some (false,.int k),some (false,bD bs),none,none] _;obtain ⟨n,en,hn1,hn5⟩:=C22 hg;obtain ⟨kk,ek,hk⟩:∃ kk:Nat,k=(kk:Int)/\K3 kk:=⟨k.toNat,by have:=hg.1;omega,by have:=hg.1;unfold K3;omega⟩;have hb100:bs.length<=100:=hs.1;rw [en,ek] at q;have q:∀ l1 l0:List Str,l1.Nodup->l0.Nodup->(∀ t,t∈l1 ↔ P1 (J6 kk bs n) true t)->(∀ t,t∈l0 ↔ P1 (J6 kk bs n) false t)->l1.length<=5000->l0.length<=5000->Qd (.tuple [M6 (tD l1),M6 (tD l0)]) true:=q;rw [ek];walk_at "d";refine ⟨bs,rfl,hs,?_⟩;rw [en];walk_at "d";refine ⟨kk,n+1,_,rfl,B4m hk,hk,by omega,?_⟩;have hp:=A0v hk (n:=n+1) (by omega);rw [<-A6m] at hp;unfold wD;walk_at "d";refine O7 (fun j ρ=>∃ x:Option (Bool × D),ρ=[some (false,.int (kk:Int)),some (false,bD bs),some (true,.list (((((W kk (n+1)).take j).filter (fr bs)).map fun x=>(sl0 x,sl1 x)).map pD)),x]) ⟨_,rfl⟩ ?_ ?_
 ·rintro j d ρ hd ⟨x,rfl⟩;obtain ⟨x,hx,rfl⟩:∃ x,(W kk (n+1))[j]?=some x/\d=.str x:=by
   rw [List.getElem?_map] at hd;cases e:(W kk (n+1))[j]? with
   | none=>rw [e] at hd;cases hd
   | some r=>rw [e] at hd;cases hd;exact ⟨r,rfl,rfl⟩
  have hxl:=(V9.mp (mem_of_getElem? hx)).1;have l2:=length_filter_le (fr bs) ((W kk (n+1)).take j);rw [length_take] at l2;walk_at "d";refine ⟨x,bs,rfl,hb100,?_⟩;walk_at "d";refine O9 (fun h2=>?_) fun h2=>?_
  ·walk_at "d";refine ⟨_,rfl,by rw [length_map,length_map];omega,?_⟩;walk_at "d";exact ⟨some (false,.str x),by rw [take_add_one,hx,filter_append];simp [h2,pD,sl0,sl1]⟩
  ·walk_at "d";exact ⟨some (false,.str x),by rw [take_add_one,hx,filter_append];simp [h2]⟩
 ·rintro ρ ⟨x,rfl⟩;rw [length_map,take_length];have e1:(((W kk (n+1)).filter (fr bs)).map fun x=>(sl0 x,sl1 x))=J6 kk bs n:=rfl;have hst:(J6 kk bs n).length<=5000:=by
   unfold J6;rw [length_map];exact Nat.le_trans (length_filter_le _ _) (by omega)
  rw [e1];walk_at "d";refine ⟨J6 kk bs n,true,rfl,hst,fun l1 a1 a2 a3=>?_⟩;walk_at "d";refine ⟨J6 kk bs n,false,rfl,hst,fun l0 b1 b2 b3=>?_⟩;walk_at "d";exact q l1 l0 a1 b1 a2 b2 a3 b3
abbrev X9:Stmt:=top 38
theorem A6y:B8 ["_law_world_here"] ["_law_world_here"] (A9 X9):=by walk_at "sc"
def A3r:W0:=fun ds Q _=>∃ l1 l0:List Str,ds=[.tuple [M6 (tD l1),M6 (tD l0)]]/\l1.Nodup/\l1.length<=5000/\(l1.filter fun t=>decide (t∈l0)).length < 128/\∀ us:List Str,us.Pairwise O3->(∀ t,t∈us ↔ t∈l1/\t∈l0)->us.length < 128->Q (wD us) true
theorem A8a {f:Addr} {fd:FuncData} (F:U3 K "_law_windows" "_law_windows" X9 f fd) (T:Blt mg):G6 P w K mg base X6 1 f fd ["_law_world_here"] (E9 K A3r):=by
 refine ok0 F A6y (fun ds Q X h=>?_) (fun cdv A outer s H E hr=>?_) fun ds Qd Xd h=>h
 ·obtain ⟨l1,l0,rfl,_⟩:=h;rfl
 refine ⟨_,(A6 (B6 (B5 (B5j (by rfl)) (by rfl) (by exact T.sorted) (by decide +kernel) (A0 (C65 ["_law_word_here"] [("_law_world_here",0)] rfl (by rfl) (B9.of (by kernel_rfl)) (K1 (dix (by rfl)) (B0 0) A4 (fun _ _=>rfl)) (fun _ _ _=>⟨V7 0 (N3 (by kernel_rfl)),(A1k (B8s (by exact Nat.lt_of_le_of_lt (Nat.add_le_add_left (by decide) _) hr.units) (T7 (B0 0)) (K1 (dix (by rfl)) (B0 1) A4 (fun _ _=>rfl)) (by rfl))),qpv 0⟩)) A2)))),fun ds Qd h=>?_⟩;obtain ⟨l1,l0,rfl,n1,h5,h128,q⟩:=h;show (_:L9) _ [some (false,.tuple [M6 (tD l1),M6 (tD l0)])] _;have lD:∀ ks:List Str,(tD ks).length=ks.length:=fun ks=>by unfold tD;rw [length_map]
 walk_at "d";refine ⟨_,J8 (xs:=[M6 (tD l1),M6 (tD l0)]) (j:=0) rfl,?_⟩;walk_at "d";refine ⟨tD l1,kB fun t=>decide (t∈l0),[some (false,.tuple [dFD (tD l1),dFD (tD l0)])],rfl,by rw [lD];omega,⟨rfl,fun j y hj=>?_⟩,fun t ht Q' hq=>?_,?_⟩
 ·match j,hj with
  | 0,hj=>cases hj;exact ⟨rfl,_,_,_,rfl,rfl,.two _ _⟩
 ·rw [A1q] at ht;obtain ⟨t',ht',rfl⟩:=mem_map.mp ht;have ek:L1 (Sum.inr t')=PyData.str t':=rfl;rw [ek];walk_at "d";refine ⟨_,J8 (xs:=[dFD (tD l1),dFD (tD l0)]) (j:=1) rfl,?_⟩;walk_at "d";refine ⟨_,_,rfl,rfl,?_⟩;rw [A0b];walk_at "d";exact hq
 have e0:(fun t=>kB (fun t=>decide (t∈l0)) (Sum.inr t))=fun t=>decide (t∈l0):=rfl;rw [A1q,A8o,e0,map_map];have nf:=n1.filter fun t=>decide (t∈l0);walk_at "d";refine ⟨l1.filter fun t=>decide (t∈l0),rfl,nf,h128,fun us p1 p2=>?_⟩;walk_at "d";refine q us p2 (fun t=>?_) (by rw [p1.length_eq];exact h128);rw [p1.mem_iff,mem_filter,decide_eq_true_eq]
abbrev Z9:Stmt:=top 25
theorem X0:B8 ["windows","bars","word","width","parts"] ["windows","bars","word"] (A9 Z9):=by walk_at "sc"
structure Wnd (k:Nat) (bs:List Str) (n:Nat) (us:List Str):Prop where
 srt:us.Pairwise O3
 iff:∀ t,t∈us ↔ Win k bs n t
 len:us.length < 128
open Classical in
noncomputable def stB (k:Nat) (bs:List Str) (n:Nat) (x:Str):Bool:=decide (sts k bs n x)
def C19:W0:=fun ds Q _=>∃ (k n:Nat) (us bs:List Str) (x:Str),ds=[wD us,bD bs,.str x]/\Wnd k bs n us/\1<=n/\n<=100/\bs.length<=100/\x.length<=100/\Q (.bool (stB k bs n x)) true
theorem C0k {k n:Nat} {bs:List Str} {x:Str} (h:¬ sts k bs n x):stB k bs n x=false:=by
 simp [stB,h]
theorem A1w {k n:Nat} {bs:List Str} {x:Str}:stB k bs n x=true ↔ sts k bs n x:=by
 simp [stB]
theorem C47 {k n:Nat} {bs:List Str} {x:Str} (W:Wnd k bs n []):¬ sts k bs n x:=by
 have nw:∀ t,¬ Win k bs n t:=fun t h=>by have:=(W.iff t).mpr h;cases this
 unfold sts;split
 ·rintro ⟨t,h,_⟩;exact nw t h
 ·rintro ⟨_,h⟩;exact nw _ (h 0 (by omega))
theorem B8u {x y:Str}:Txt.startswith x y=true ↔ y.cps.toList <+: x.cps.toList:=by
 unfold Txt.startswith;rw [Bool.and_eq_true,decide_eq_true_eq,StrLaws.subAt_eq,beq_iff_eq,List.drop_zero,<-G3 y];constructor
 ·rintro ⟨_,h⟩;rw [<-h];exact List.take_prefix _ _
 ·intro h;have:=h.length_le;rw [G3,G3] at this;exact ⟨by rw [G3];omega,(List.prefix_iff_eq_take.mp h).symm⟩
theorem B5c {k n:Nat} {us bs:List Str} {x:Str} (W:Wnd k bs n us) (h:x.length < n):((us.map fun t=>Txt.startswith t x).any id)=stB k bs n x:=by
 rw [A8l,Bool.eq_iff_iff,A1w,any_eq_true];unfold sts;rw [if_pos h];constructor
 ·rintro ⟨t,h1,h2⟩;exact ⟨t,(W.iff t).mp h1,B8u.mp h2⟩
 ·rintro ⟨t,h1,h2⟩;exact ⟨t,(W.iff t).mpr h1,B8u.mpr h2⟩
def prt (x:Str) (n j:Nat):Str:=sT ((x.cps.toList.drop j).take n)
theorem C4u {α:Type} (l:List α) (f:α->Bool):(l.map f).all id=l.all f:=by
 induction l with
 | nil=>rfl
 | cons a r ih=>rw [map_cons,all_cons,all_cons,ih];rfl
theorem C1y {k n:Nat} {us bs:List Str} {x:Str} (W:Wnd k bs n us) (h:n<=x.length) (f:fr bs x=true):(((List.range (x.length - n+1)).map fun j=>decide (prt x n j∈us)).all id)=stB k bs n x:=by
 rw [C4u,Bool.eq_iff_iff,A1w,all_eq_true];unfold sts;rw [if_neg (by omega)];constructor
 ·intro a;refine ⟨f,fun j hj=>(W.iff _).mp (of_decide_eq_true (a j (mem_range.mpr (by omega))))⟩
 ·rintro ⟨_,a⟩ j hj;rw [mem_range] at hj;exact decide_eq_true ((W.iff _).mpr (a j (by omega)))
theorem D74 (us:List Str) (t:Str):inD (.str t) (us.map .str)=decide (t∈us):=by
 unfold inD;rw [Bool.eq_iff_iff,any_eq_true,decide_eq_true_eq];constructor
 ·rintro ⟨d,hd,e⟩;obtain ⟨u,hu,rfl⟩:=mem_map.mp hd;have:u=t:=by simpa [PyData.eqv] using e
  rw [<-this];exact hu
 ·intro h;exact ⟨.str t,mem_map.mpr ⟨t,h,rfl⟩,by simp [PyData.eqv]⟩
theorem B4l (us:List Str):(us.map PyData.str).all O1=true:=by
 rw [all_eq_true];intro d hd;obtain ⟨u,_,rfl⟩:=mem_map.mp hd;rfl
theorem B7n {x:Str} {n j:Nat} (h:j+n<=x.length):Txt.slice x (some ((j:Nat):Int)) (some (((j:Nat):Int)+(n:Int)))=prt x n j:=by
 have:=slice_closesL (x:=x) (i:=(j:Int)) (j:=(j:Int)+n) (by omega) (by omega) (by omega);rw [beq_iff_eq] at this;rw [this];unfold prt sT;congr 3;omega
theorem A74 {f:Addr} {fd:FuncData} (F:U3 K "stands_by" "stands_by" Z9 f fd) (T:Blt mg) (D_is_free:Df P w K mg base "is_free" ["word","bars"] 1 (E9 K P4)):G6 P w K mg base X6 2 f fd ["windows","bars","word"] (E9 K C19):=by
 refine ok0 F X0 (fun ds Q X h=>?_) (fun cdv A outer s H E hr=>?_) fun ds Qd Xd h=>h
 ·obtain ⟨k,n,us,bs,x,rfl,_⟩:=h;rfl
 refine ⟨_,(A1 (D7 (M4 (A65 (by rfl) (B0 0))) (A6 (B6 K0)) C0)
   (A1 (C1 3 X0.nd (B5 M2 (by rfl) (by exact T.len) (by decide +kernel) (A0 (K1 (dix (by rfl)) (B0 0) A4 (fun _ _=>rfl)) A2)))
   (A1 (D7 (E5 A8u (B5 M2 (by rfl) (by exact T.len) (by decide +kernel) (A0 (B0 2) A2)) (B0 3) (J5 _)) (A6 (B6 (B5 (A29 (by rfl) (by rfl)) (by rfl) (by exact T.any) (by decide +kernel) (A0 (U1 ["window"] [("word",2)] rfl (B9.of (by kernel_rfl)) (E6 (by rfl) (B0 0)) (fun _ _ _ _=>⟨(M7 0 (N3 (by kernel_rfl))),G9,(G8 (by rfl) (by rfl) (D31 (by rfl) PySem.F.slot_str_startswith PySem.F.type_str_startswith D11 (B0 0) (B0 1)))⟩)) A2)))) C0)
   (A1 (A0a (i:=4) (hN:=X0.nd) (hyi:=rfl) (hy:=rfl) (hc:=rfl) (own:=["at"]) (cap:=[("word",2),("width",3)]) (L:=B9.of (by kernel_rfl)) (hi:=(K6 (by rfl) (by exact T.range) (A0 (A8 C3 (A8 N0 (B5 M2 (by rfl) (by exact T.len) (by decide +kernel) (A0 (B0 2) A2)) (B0 3)) A4) A2))) (hin:=(fun _ _ _ _=>⟨(M7 0 (N3 (by kernel_rfl))),G9,(G8 (by rfl) (by rfl) (C7 (B0 1) (C6 (B0 0)) (C6 (A8 C3 (B0 0) (B0 2)))))⟩)))
   (A6 (B6 (W5 (C9 (by exact D_is_free) (by exact hr.mono (by omega)) (A0 (B0 2) (A0 (B0 1) A2))) (A0f (B5 (C49 (by rfl) (by rfl)) (by rfl) (by exact T.all) (by decide +kernel) (A0 (U1 ["part"] [("windows",0)] rfl (B9.of (by kernel_rfl)) (E6 (by rfl) (B0 4)) (fun _ _ _ _=>⟨(M7 0 (N3 (by kernel_rfl))),G9,(G8 (by rfl) (by rfl) (A1s (D1c (by rfl)) (B0 0) (B0 1) rfl))⟩)) A2)))))))))),fun ds Qd h=>?_⟩
 obtain ⟨k,n,us,bs,x,rfl,W,hn1,hn,hb,hx,q⟩:=h;show (_:L9) _ [some (false,.list (us.map .str)),some (false,bD bs),some (false,.str x),none,none] _;walk_at "d";rw [List.isEmpty_map,Bool.not_not];refine O9 (fun h0=>?_) fun h0=>?_
 ·rw [List.isEmpty_iff] at h0;subst h0;rw [C0k (C47 W)] at q;walk_at "d";exact q
 obtain ⟨u,hu0⟩:∃ u,us[0]?=some u:=by
  cases us with
  | nil=>cases h0
  | cons u r=>exact ⟨u,rfl⟩
 have hul:=(A33 ((W.iff u).mp (mem_of_getElem? hu0))).1;walk_at "d";refine ⟨.str u,J8 (xs:=us.map PyData.str) (j:=0) (by rw [List.getElem?_map,hu0];rfl),?_⟩;have hul':u.length<=100:=by omega
 walk_at "d";rw [hul];refine B7h (fun h1=>?_) fun h1=>?_
 ·have h1:x.length < n:=by simp at h1;omega
  walk_at "d";refine N1 (L:=us) PyData.str (fun t=>.bool (Txt.startswith t x)) (fun t ht es Q' hl q'=>?_) (by have:=W.len;omega) ?_
  ·walk_at "d";exact q'
  walk_at "d";refine ⟨_,O4 _ _,?_⟩;walk_at "d";rw [B5c W h1];exact q
 have h1:n<=x.length:=by simp at h1;omega
 walk_at "d";rw [show ((x.length:Int) - (n:Int)+1).toNat=x.length - n+1 from by omega];refine N1 (L:=List.range (x.length - n+1)) (fun j:Nat=>.int (0+(j:Int))) (fun j=>.str (prt x n j)) (fun j hj es Q' hl q'=>?_) (by rw [length_range];omega) ?_
 ·have hj:=mem_range.mp hj;walk_at "d";rw [show (0+(j:Int))=(j:Int) from by omega,B7n (by omega)]
  first|exact q'|exact ⟨hl,rfl,q'⟩
 walk_at "d";refine ⟨x,bs,rfl,hb,?_⟩;walk_at "d";refine O9 (fun h2=>?_) fun h2=>?_
 rotate_left
 ·have e:stB k bs n x=false:=C0k fun z=>by
   unfold sts at z;rw [if_neg (by omega),h2] at z;exact absurd z.1 (by decide)
  rw [e] at q
  first|exact q|(walk_at "d";exact q)
 walk_at "d";refine N1 (L:=List.range (x.length - n+1)) (fun j=>.str (prt x n j)) (fun j=>.bool (decide (prt x n j∈us))) (fun j hj es Q' hl q'=>?_) (by rw [length_range];omega) ?_
 ·walk_at "d";rw [D74]
  first|exact ⟨⟨rfl,B4l us⟩,hl,trivial,q'⟩|exact ⟨⟨rfl,B4l us⟩,q'⟩
 walk_at "d";refine ⟨_,O4 _ _,?_⟩;walk_at "d";rw [C1y W h1 h2];exact q
theorem A68 {x:Str} {l u:Option Int} {c:Nat} (h:c∈(Txt.slice x l u).cps.toList):c∈x.cps.toList:=by
 unfold Txt.slice at h;split at h
 ·exact h
 ·simp only [List.mem_filterMap] at h;obtain ⟨i,_,e⟩:=h;obtain ⟨hi,rfl⟩:=Array.getElem?_eq_some_iff.mp e;simp
theorem B3y {k c:Nat} (hk:k<=4) (h:c∈B2 k):c < 128:=by
 unfold B2 at h;obtain ⟨i,hi,rfl⟩:=mem_map.mp h;rw [mem_range] at hi;omega
theorem A3q {k n:Nat} {bs:List Str} {t:Str} (hk:k<=4) (h:Win k bs n t):Asc t:=fun c hc=>B3y hk ((A33 h).2 c hc)
structure Wld (k:Nat) (bs:List Str) (n:Nat) (l1 l0:List Str):Prop where
 nd:l1.Nodup
 bk:∀ t,t∈l1 ↔ P1 (J6 k bs n) true t
 on:∀ t,t∈l0 ↔ P1 (J6 k bs n) false t
 s1:l1.length<=5000
 s0:l0.length<=5000
 sm:(l1.filter fun t=>decide (t∈l0)).length < 128
 k3:K3 k
 wd:wid bs=(n:Int)
 n1:1<=n
 n5:n<=5
 sb:Sml bs
def D9g (l1 l0:List Str):D:=.tuple [M6 (tD l1),M6 (tD l0)]
theorem Wld.win {k n:Nat} {bs l1 l0:List Str} (W:Wld k bs n l1 l0) (t:Str):(t∈l1/\t∈l0) ↔ Win k bs n t:=by rw [A23,W.bk,W.on]
theorem Wld.wnd {k n:Nat} {bs l1 l0 us:List Str} (W:Wld k bs n l1 l0) (h1:us.Pairwise O3) (h2:∀ t,t∈us ↔ t∈l1/\t∈l0) (h3:us.length < 128):Wnd k bs n us:=⟨h1,fun t=>(h2 t).trans (W.win t),h3⟩
open Classical in
noncomputable def lwB (k:Nat) (bs:List Str) (n:Nat) (x:Str):Bool:=decide (lws k bs n x)
theorem A7b {k n:Nat} {bs:List Str} {x:Str}:lwB k bs n x=true ↔ lws k bs n x:=by simp [lwB]
theorem C1d {k n:Nat} {bs:List Str} {x:Str} (h:¬ lws k bs n x):lwB k bs n x=false:=by simp [lwB,h]
theorem Wld.k4 {k n:Nat} {bs l1 l0:List Str} (W:Wld k bs n l1 l0):k<=4:=by rcases W.k3 with rfl|rfl|rfl<;>decide
theorem C66 (l:List Str):PyData.eqv (.list (l.map .str)) (.list [])=l.isEmpty:=by
 cases l with
 | nil=>rfl
 | cons a r=>rfl
theorem B5o {k n:Nat} {us bs:List Str} {x:Str} (V:Wnd k bs n us) (h:x.length < n):lwB k bs n x=!(us.filter fun t=>has x t).isEmpty:=by
 rw [Bool.eq_iff_iff,A7b];unfold lws;rw [if_pos h,Bool.not_eq_true',List.isEmpty_eq_false_iff_exists_mem];constructor
 ·rintro ⟨t,h1,h2⟩;exact ⟨t,mem_filter.mpr ⟨(V.iff t).mpr h1,h2⟩⟩
 ·rintro ⟨t,ht⟩;rw [mem_filter] at ht;exact ⟨t,(V.iff t).mp ht.1,ht.2⟩
theorem D6f {x:Str} {n:Nat} (h:n<=x.length):Txt.slice x none (some (n:Int))=sT (x.cps.toList.take n):=by
 have:=slice_closes_toL (x:=x) (j:=(n:Int)) (by omega) (by omega);rw [beq_iff_eq] at this;rw [this];unfold sT;congr 2
theorem C3a {x:Str} {n:Nat} (h:n<=x.length):Txt.slice x (some ((x.length:Int) - (n:Int))) none=sT (x.cps.toList.drop (x.length - n)):=by
 rw [slice_from_eq (b:=(x.length:Int)) (by omega) (by omega) rfl];unfold sT;congr 1;rw [show ((x.length:Int) - (n:Int)).toNat=x.length - n from by omega,List.take_of_length_le];rw [length_drop,G3];omega
abbrev A11:Stmt:=top 39
theorem A31:B8 ["_law_bars_here","_law_world_here","_law_word_here","_law_size"] ["_law_bars_here","_law_world_here","_law_word_here"] (A9 A11):=by walk_at "sc"
def C07:W0:=fun ds Q _=>∃ (k n:Nat) (l1 l0 bs:List Str) (x:Str),ds=[bD bs,D9g l1 l0,.str x]/\Wld k bs n l1 l0/\x.length<=100/\Q (.bool (lwB k bs n x)) true
theorem A9z {f:Addr} {fd:FuncData} (F:U3 K "_law_stands" "_law_stands" A11 f fd) (T:Blt mg) (D_l_width:Df P w K mg base "_law_width" ["_law_bars_here"] 1 (E9 K A1o)) (D_l_windows:Df P w K mg base "_law_windows" ["_law_world_here"] 1 (E9 K A3r)) (D_l_free:Df P w K mg base "_law_free" ["_law_word_here","_law_bars_here"] 1 (E9 K P4)):G6 P w K mg base X6 2 f fd ["_law_bars_here","_law_world_here","_law_word_here"] (E9 K C07):=by
 refine ok0 F A31 (fun ds Q X h=>?_) (fun cdv A outer s H E hr=>?_) fun ds Qd Xd h=>h
 ·obtain ⟨k,n,l1,l0,bs,x,rfl,_⟩:=h;rfl
 refine ⟨_,(A1 (C1 3 A31.nd (C9 (by exact D_l_width) (by exact hr.mono (by omega)) (A0 (B0 0) A2)))
   (A1 (D7 (E5 A8u (B5 M2 (by rfl) (by exact T.len) (by decide +kernel) (A0 (B0 2) A2)) (B0 3) (J5 _)) (A6 (B6 (A1s (A7m (by rfl) (by exact hr.units)) (U1 ["_law_window"] [("_law_word_here",2)] rfl (B9.of (by kernel_rfl)) (E6 (by rfl) (C9 (by exact D_l_windows) (by exact hr.mono (by omega)) (A0 (B0 1) A2))) (fun _ _ _ _=>⟨(M7 0 (N3 (by kernel_rfl))),(A1k (E5 A7h (B0 1) (B0 0) rfl)),(G8 (by rfl) (by rfl) (B0 0))⟩)) (L5 A2) (J5 _)))) C0)
   (A6 (B6 (W5 (C9 (by exact D_l_free) (by exact hr.mono (by omega)) (A0 (B0 2) (A0 (B0 0) A2))) (W5 (B3k (by exact Nat.lt_of_le_of_lt (Nat.add_le_add_left (by decide) _) hr.units) (T7 (C7 (B0 2) D1 (C6 (B0 3)))) (K1 (dix (by rfl)) (B0 1) A4 (fun _ _=>rfl)) (by rfl)) (A0f (B3k (by exact Nat.lt_of_le_of_lt (Nat.add_le_add_left (by decide) _) hr.units) (T7 (C7 (B0 2) (C6 (A8 N0 (B5 M2 (by rfl) (by exact T.len) (by decide +kernel) (A0 (B0 2) A2)) (B0 3))) D1)) (K1 (dix (by rfl)) (B0 1) A4 (fun _ _=>rfl)) (by rfl))))))))),fun ds Qd h=>?_⟩
 obtain ⟨k,n,l1,l0,bs,x,rfl,W,hx,q⟩:=h;show (_:L9) _ [some (false,bD bs),some (false,.tuple [M6 (tD l1),M6 (tD l0)]),some (false,.str x),none] _;walk_at "d";refine ⟨bs,rfl,W.sb,?_⟩;rw [W.wd];walk_at "d";refine B7h (fun h1=>?_) fun h1=>?_
 ·have h1:x.length < n:=by simp at h1;omega
  walk_at "d";refine ⟨l1,l0,rfl,W.nd,W.s1,W.sm,fun us u1 u2 u3=>?_⟩;have V:=W.wnd u1 u2 u3;have uA:∀ t∈us.filter fun t=>has x t,Asc t:=fun t ht=>A3q W.k4 ((V.iff t).mp (mem_filter.mp ht).1);unfold wD;walk_at "d";refine B42 (L:=us) PyData.str PyData.str (fun t=>has x t) (fun t ht es Q' hl q'=>?_) (by omega) ?_
  ·walk_at "d";refine O9 (fun h2=>?_) fun h2=>?_
   ·have h2:has x t=true:=h2;rw [if_pos h2] at q';walk_at "d";exact q'
   ·have h2:has x t=false:=h2;rw [if_neg (by rw [h2];decide)] at q';exact q'
  walk_at "d";refine ⟨⟨B3x uA,by simp [PyData.canLay0,PyData.canLayAll0],A8n _⟩,?_⟩;rw [C66];walk_at "d";rw [B5o V h1] at q;exact q
 have h1:n<=x.length:=by simp at h1;omega
 walk_at "d";refine ⟨x,bs,rfl,W.sb.1,?_⟩;walk_at "d";refine O9 (fun h2=>?_) fun h2=>?_
 rotate_left
 ·rw [C1d fun z=>by unfold lws at z;rw [if_neg (by omega),h2] at z;exact absurd z.1 (by decide)] at q;exact q
 walk_at "d";refine ⟨_,J8 (xs:=[M6 (tD l1),M6 (tD l0)]) (j:=0) rfl,?_⟩;walk_at "d";rw [A0b,D6f h1];refine O9 (fun h3=>?_) fun h3=>?_
 rotate_left
 ·have h3:decide (sT (x.cps.toList.take n)∈l1)=false:=h3;rw [C1d fun z=>by
   unfold lws at z;rw [if_neg (by omega)] at z;exact of_decide_eq_false h3 ((W.bk _).mpr z.2.1)] at q
  exact q
 have h3:decide (sT (x.cps.toList.take n)∈l1)=true:=h3;walk_at "d";refine ⟨_,J8 (xs:=[M6 (tD l1),M6 (tD l0)]) (j:=1) rfl,?_⟩;walk_at "d";rw [A0b,C3a h1];have e:lwB k bs n x=decide (sT (x.cps.toList.drop (x.length - n))∈l0):=by
  rw [Bool.eq_iff_iff,A7b,decide_eq_true_eq];unfold lws;rw [if_neg (by omega),W.on];exact ⟨fun z=>z.2.2,fun z=>⟨h2,(W.bk _).mp (of_decide_eq_true h3),z⟩⟩
 rw [e] at q;exact q
theorem C8a {n:Int} (h1:1<=n) (h6:n<=6):MulOk (Str.ofString "a") n/\((Txt.mul (Str.ofString "a") n).length:Int)=n/\Asc (Txt.mul (Str.ofString "a") n):=by
 have c:n=1\/n=2\/n=3\/n=4\/n=5\/n=6:=by omega
 rcases c with rfl|rfl|rfl|rfl|rfl|rfl<;>(refine ⟨?_,?_,?_⟩<;>first|(unfold MulOk;decide +kernel)|decide +kernel|(unfold Asc;decide +kernel))
theorem C99 {k:Nat} (hk:k=2\/k=3\/k=4) {i:Int} (h0:0<=i) (h4:i < 4):(Txt.slice (Str.ofString "cdeA z-") (some ((k:Int) - 2)) none).length<=100/\∃ c,atI (Txt.slice (Str.ofString "cdeA z-") (some ((k:Int) - 2)) none).cps.toList i=some c/\c < 128/\¬ (97<=c/\(c:Int) < 97+k):=by
 have c4:i=0\/i=1\/i=2\/i=3:=by omega
 rcases hk with rfl|rfl|rfl
 ·have e:Txt.slice (Str.ofString "cdeA z-") (some (((2:Nat):Int) - 2)) none=⟨#[99,100,101,65,32,122,45]⟩:=by decide +kernel
  rw [e];refine ⟨by decide,?_⟩;rcases c4 with rfl|rfl|rfl|rfl<;>exact ⟨_,rfl,by decide,by decide⟩
 ·have e:Txt.slice (Str.ofString "cdeA z-") (some (((3:Nat):Int) - 2)) none=⟨#[100,101,65,32,122,45]⟩:=by decide +kernel
  rw [e];refine ⟨by decide,?_⟩;rcases c4 with rfl|rfl|rfl|rfl<;>exact ⟨_,rfl,by decide,by decide⟩
 ·have e:Txt.slice (Str.ofString "cdeA z-") (some (((4:Nat):Int) - 2)) none=⟨#[101,65,32,122,45]⟩:=by decide +kernel
  rw [e];refine ⟨by decide,?_⟩;rcases c4 with rfl|rfl|rfl|rfl<;>exact ⟨_,rfl,by decide,by decide⟩
theorem A7t {k:Int} {bs:List Str} {b:Str} (hb:b∈bs) (h:¬ GB k b):St k bs 1:=fun g=>h (g.2.2 b hb)
theorem A7p {a b:Str} (h:Asc a) (h':Asc b):Asc (a++b):=fun c hc=>by
 rw [A3f] at hc;rcases mem_append.mp hc with hc|hc
 ·exact h c hc
 ·exact h' c hc
abbrev A8r:Stmt:=top 32
theorem N9:B8 ["_law_big_here","_law_signs","_law_way","_law_bar","_law_rest","_law_size","_law_spot","_law_odd"] ["_law_big_here"] (A9 A8r):=by walk_at "sc"
def A85:W0:=fun ds Q _=>∃ (b:Int),ds=[.int b]/\0<=b/\∀ (k:Int) (bs:List Str) (m:Bool),Sml bs->(∀ x∈bs,Asc x)->St k bs (if m=true then 2 else 1)->Q (.tuple [.int k,bD bs,.bool m]) true
theorem C2u {f:Addr} {fd:FuncData} (F:U3 K "_law_bad" "_law_bad" A8r f fd) (T:Blt mg) (D_l_word:Df P w K mg base "_law_word" ["_law_big_here","_law_letters","_law_many"] 1 (E9 K A3j)):G6 P w K mg base X6 2 f fd ["_law_big_here"] (E9 K A85):=by
 refine ok0 F N9 (fun ds Q X h=>?_) (fun cdv A outer s H E hr=>?_) fun ds Qd Xd h=>h
 ·obtain ⟨b,rfl,_⟩:=h;rfl
 refine ⟨_,(A1 (C1 1 N9.nd (A8 C3 A4 (A8 D8 (B0 0) A4)))
   (A1 (C1 2 N9.nd (A8 D8 (A8 K8 (B0 0) A4) A4))
   (A1 (A1u [3,4] 2 rfl (by rfl) (by rfl) (E2 (V7 3 N9.nd) (E2 (V7 4 N9.nd) Q3)) (by rfl) (by rfl) (C9 (by exact D_l_word) (by exact hr.mono (by omega)) (A0 (A8 K8 (B0 0) A4) (A0 (C7 E3 D1 (C6 (B0 1))) (A0 (A8 N0 A4 (B0 1)) A2)))))
   (A1 (D7 (E5 (W2 (by rfl) (by exact hr.units)) (B0 2) A4 (J5 _)) (A1 (C1 1 N9.nd (A8 C3 A4 (A8 D8 (B0 4) A4)))
   (A1 (C1 5 N9.nd (A8 N0 A4 (A8 S5 (A8 N0 (B0 1) A4) (A8 D8 (A8 K8 (B0 4) A4) A4))))
   (A6 (B6 (E4 (A0 (B0 1) (A0 (L5 (A0 (K1 (dix (by rfl)) (C9 (by exact D_l_word) (by exact hr.mono (by omega)) (A0 (A8 K8 (B0 4) A4) (A0 (C7 E3 D1 (C6 (B0 1))) (A0 (B0 5) A2)))) A4 (fun _ _=>rfl)) A2)) (A0 K0 A2)))))))) C0)
   (A1 (D7 (E5 (W2 (by rfl) (by exact hr.units)) (B0 2) A4 (J5 _)) (A6 (B6 (E4 (A0 (K1 (dix (by rfl)) (E4 (A0 A4 (A0 A4 (A0 A4 (A0 (A8g A4) A2))))) (A8 D8 (B0 4) A4) (fun _ _=>rfl)) (A0 (L5 A2) (A0 K0 A2)))))) C0)
   (A1 (D7 (E5 (W2 (by rfl) (by exact hr.units)) (B0 2) A4 (J5 _)) (A6 (B6 (E4 (A0 (B0 1) (A0 (L5 (A0 (B0 3) (A0 (A8 C3 (B0 3) (A8 A9q E3 (A8 N0 (B0 1) A4))) A2))) (A0 K0 A2)))))) C0)
   (A1 (D7 (E5 (W2 (by rfl) (by exact hr.units)) (B0 2) A4 (J5 _)) (A6 (B6 (E4 (A0 (B0 1) (A0 (L5 (A0 (B0 3) (A0 E3 (A0 (B0 3) A2)))) (A0 K0 A2)))))) C0)
   (A1 (D7 (E5 (W2 (by rfl) (by exact hr.units)) (B0 2) A4 (J5 _)) (A6 (B6 (E4 (A0 (B0 1) (A0 (U1 ["_law_k"] [("_law_bar",3)] rfl (B9.of (by kernel_rfl)) (K6 (by rfl) (by exact T.range) (A0 A4 A2)) (fun _ _ _ _=>⟨(M7 0 (N3 (by kernel_rfl))),G9,(G8 (by rfl) (by rfl) (B0 1))⟩)) (A0 K0 A2)))))) C0)
   (A1 (C1 6 N9.nd (A8 D8 (A8 K8 (B0 4) A4) (B5 M2 (by rfl) (by exact T.len) (by decide +kernel) (A0 (B0 3) A2))))
   (A1 (C1 7 N9.nd (A8 C3 (A8 C3 (C7 (B0 3) D1 (C6 (B0 6))) (K1 D6d (C7 E3 (C6 (A8 N0 (B0 1) A4)) D1) (A8 D8 (B0 4) A4) (fun _ _=>rfl))) (C7 (B0 3) (C6 (A8 C3 (B0 6) A4)) D1)))
   (A6 (B6 (E4 (A0 (B0 1) (A0 (L5 (A0 (B0 3) (A0 (B0 7) (A0 (A8 A9q E3 (A8 N0 A4 (A8 S5 (A8 D8 (A8 K8 (B0 4) A4) A4) A4))) A2)))) (A0 K0 A2)))))))))))))))),fun ds Qd h=>?_⟩
 obtain ⟨b,rfl,hb,q⟩:=h;show (_:L9) _ [some (false,.int b),none,none,none,none,none,none,none] _;have h3:=Int.emod_nonneg b (show (3:Int)≠0 by decide);have h3':=Int.emod_lt_of_pos b (show (0:Int) < 3 by decide);obtain ⟨k,ek,hk⟩:∃ k:Nat,2+b % 3=(k:Int)/\(k=2\/k=3\/k=4):=⟨(2+b % 3).toNat,by omega,by omega⟩;walk_at "d";rw [ek];obtain ⟨n,en,hn⟩:∃ n:Nat,8 - (k:Int)=(n:Int)/\n+k=8:=⟨8 - k,by omega,by omega⟩;rw [en];refine ⟨_,_,k,n,rfl,Int.ediv_nonneg hb (by decide),B1x hk,by omega,by omega,by omega,fun x r hx1 hx2 hr0=>?_⟩;have hxa:Asc x:=fun c hc=>(hx2 c hc).asc (by omega);walk_at "d";refine O9 (fun hw=>?_) fun hw=>?_
 ·have r2:r % 2=0\/r % 2=1:=by omega
  have r3:r / 2 % 2=0\/r / 2 % 2=1:=by omega
  obtain ⟨k2,z,ek2,ez,hz⟩:∃ k2 z:Nat,3+r % 2=(k2:Int)/\6 - ((k2:Int) - 3)*(r / 2 % 2)=(z:Int)/\(k2=3/\z=6\/k2=4/\z=6\/k2=4/\z=5):=by
   rcases r2 with e|e<;>rcases r3 with e'|e'<;>rw [e,e']
   ·exact ⟨3,6,rfl,rfl,.inl ⟨rfl,rfl⟩⟩
   ·exact ⟨3,6,rfl,rfl,.inl ⟨rfl,rfl⟩⟩
   ·exact ⟨4,6,rfl,rfl,.inr (.inl ⟨rfl,rfl⟩)⟩
   ·exact ⟨4,5,rfl,rfl,.inr (.inr ⟨rfl,rfl⟩)⟩
  walk_at "d";rw [ek2];refine ⟨B0p.ok (.inl ⟨by omega,by omega⟩),?_⟩;walk_at "d";rw [ez];refine ⟨_,_,k2,z,rfl,Int.ediv_nonneg hr0 (by decide),B1x (by omega),by omega,by omega,by omega,fun y r' hy1 hy2 _=>?_⟩;walk_at "d";refine ⟨.str y,rfl,?_⟩;walk_at "d";have hwid:wid [y]=(z:Int) - 1:=by
   unfold wid mx2 V8;simp only [map_cons,List.map_nil,List.foldl_cons,List.foldl_nil,hy1];rw [if_pos (by omega)]
  refine q (k2:Int) [y] true ⟨Nat.le_of_ble_eq_true rfl,fun b hb=>by rw [mem_singleton.mp hb];omega⟩ (fun b hb=>by rw [mem_singleton.mp hb];exact fun c hc=>(hy2 c hc).asc (by omega)) ⟨⟨by omega,Nat.le_of_ble_eq_true rfl,fun b hb=>by rw [mem_singleton.mp hb];exact ⟨by omega,by omega,fun c hc=>by have:=hy2 c hc;unfold InL at this;omega⟩⟩,?_⟩;unfold wds;rw [hwid];rcases hz with ⟨rfl,rfl⟩|⟨rfl,rfl⟩|⟨rfl,rfl⟩<;>decide
 walk_at "d";refine O9 (fun hw=>?_) fun hw=>?_
 ·walk_at "d";have c4:r % 4=0\/r % 4=1\/r % 4=2\/r % 4=3:=by omega
  rcases c4 with e|e|e|e<;>(rw [e];refine ⟨_,rfl,?_⟩;walk_at "d";exact q _ [] false ⟨by decide,fun _ z=>by cases z⟩ (fun _ z=>by cases z) (fun g=>by have:=g.1;omega))
 walk_at "d";refine O9 (fun hw=>?_) fun hw=>?_
 ·walk_at "d";obtain ⟨m1,m2,m3⟩:=C8a (n:=(k:Int) - 1) (by omega) (by omega);refine ⟨m1,?_⟩;revert m2 m3;generalize Txt.mul (Str.ofString "a") ((k:Int) - 1)=y;intro m2 m3;walk_at "d";refine q (k:Int) [x,x++y] false ⟨Nat.le_of_ble_eq_true rfl,fun b hb=>?_⟩ (fun b hb=>?_) (A7t (b:=x++y) (by simp) fun g=>?_)
  ·simp only [mem_cons,List.not_mem_nil,or_false] at hb;rcases hb with rfl|rfl
   ·omega
   ·rw [R5];omega
  ·simp only [mem_cons,List.not_mem_nil,or_false] at hb;rcases hb with rfl|rfl
   ·exact hxa
   ·exact A7p hxa m3
  ·have:=g.2.1;rw [R5] at this;omega
 walk_at "d";refine O9 (fun hw=>?_) fun hw=>?_
 ·walk_at "d";refine q (k:Int) [x,Str.ofString "",x] false ⟨Nat.le_of_ble_eq_true rfl,fun b hb=>?_⟩ (fun b hb=>?_) (A7t (b:=Str.ofString "") (by simp) fun g=>absurd g.1 (by decide +kernel))
  ·simp only [mem_cons,List.not_mem_nil,or_false] at hb;rcases hb with rfl|rfl|rfl
   ·omega
   ·decide +kernel
   ·omega
  ·simp only [mem_cons,List.not_mem_nil,or_false] at hb;rcases hb with rfl|rfl|rfl
   ·exact hxa
   ·unfold Asc;decide +kernel
   ·exact hxa
 walk_at "d";refine O9 (fun hw=>?_) fun hw=>?_
 ·walk_at "d";refine N1 (L:=List.range 13) (fun x:Nat=>.int (0+(x:Int))) (fun _=>.str x) (fun i hi es Q' hl q'=>?_) (by decide) ?_
  ·walk_at "d";exact q'
  ·walk_at "d";refine q (k:Int) ((List.range 13).map fun _=>x) false ⟨(by rw [length_map,length_range];decide),fun b hb=>?_⟩ (fun b hb=>?_) (fun g=>absurd g.2.1 (by rw [length_map,length_range];decide))
   ·obtain ⟨_,_,rfl⟩:=mem_map.mp hb;omega
   ·obtain ⟨_,_,rfl⟩:=mem_map.mp hb;exact hxa
 have hxp:(0:Int) < (x.length:Int):=by omega
 walk_at "d";obtain ⟨o1,c,o2,o3,o4⟩:=C99 hk (i:=r % 4) (by omega) (by omega);refine ⟨by omega,c,o2,?_⟩;have e1:Str.length ⟨#[c]⟩=1:=rfl;have s1:=Txt.slice_le x none (some (r / 4 % (x.length:Int)));have t1:∀ d∈(Txt.slice x none (some (r / 4 % (x.length:Int)))).cps.toList,d∈x.cps.toList:=fun d hd=>A68 hd;revert s1 t1;generalize Txt.slice x none (some (r / 4 % (x.length:Int)))=A;intro s1 t1;walk_at "d";have s2:=Txt.slice_le x (some (r / 4 % (x.length:Int)+1)) none;have t2:∀ d∈(Txt.slice x (some (r / 4 % (x.length:Int)+1)) none).cps.toList,d∈x.cps.toList:=fun d hd=>A68 hd;revert s2 t2;generalize Txt.slice x (some (r / 4 % (x.length:Int)+1)) none=B;intro s2 t2;have lo:(A++{ cps:=#[c] }++B).length<=100:=by rw [R5,R5,e1];omega
 have ao:Asc (A++{ cps:=#[c] }++B):=A7p (A7p (fun d hd=>hxa d (t1 d hd)) fun d hd=>by
  have:d=c:=by simpa using hd
  omega) fun d hd=>hxa d (t2 d hd)
 have bo:¬ GB (k:Int) (A++{ cps:=#[c] }++B):=fun g=>o4 (g.2.2 c (by rw [A3f,A3f];simp));refine ⟨by rw [R5,e1];omega,?_⟩;revert lo ao bo;generalize A++{ cps:=#[c] }++B=o;intro lo ao bo;walk_at "d";have r5:r / 32 % 2=0\/r / 32 % 2=1:=by omega
 obtain ⟨m1,m2,m3⟩:=C8a (n:=6 - r / 32 % 2*3) (by omega) (by omega);refine ⟨m1,?_⟩;have m2':(Txt.mul (Str.ofString "a") (6 - r / 32 % 2*3)).length<=100:=by omega
 revert m2' m3;generalize Txt.mul (Str.ofString "a") (6 - r / 32 % 2*3)=y;intro m3 m2';walk_at "d";have fin:∀ bs:List Str,bs.length=3->(∀ b∈bs,b=x\/b=o\/b=y)->o∈bs->Qd (.tuple [.int (k:Int),bD bs,.bool false]) true:=fun bs hl hm ho=>q (k:Int) bs false ⟨by omega,fun b hb=>by rcases hm b hb with rfl|rfl|rfl<;>omega⟩ (fun b hb=>by
  rcases hm b hb with rfl|rfl|rfl
  ·exact hxa
  ·exact ao
  ·exact m3) (A7t ho bo)
 exact fin [x,o,y] rfl (by simp) (by simp)
def idx:List Str->Str->Nat
 | [],_=>0
 | a::r,t=>if a=t then 0 else idx r t+1
theorem A7v:∀ {us:List Str} {t:Str},t∈us->us[idx us t]?=some t
 | a::r,t,h=>by
  unfold idx;by_cases e:a=t
  ·rw [if_pos e,e];rfl
  ·rw [if_neg e,List.getElem?_cons_succ];exact A7v ((mem_cons.mp h).resolve_left fun z=>e z.symm)
theorem B8r:∀ {us:List Str} {t:Str} {j:Nat},us.Nodup->us[j]?=some t->idx us t=j
 | a::r,t,0,hn,h=>by cases h;unfold idx;rw [if_pos rfl]
 | a::r,t,j+1,hn,h=>by
  rw [List.getElem?_cons_succ] at h;rw [nodup_cons] at hn;unfold idx;rw [if_neg (fun e=>hn.1 (by rw [e];exact mem_of_getElem? h)),B8r hn.2 h]
theorem B0h:∀ {us:List Str} {t:Str},t∈us->(us.map PyData.str).findIdx? (fun y=>PyData.eqv y (.str t))=some (idx us t)
 | a::r,t,h=>by
  rw [map_cons,List.findIdx?_cons];unfold idx;by_cases e:a=t
  ·have:PyData.eqv (.str a) (.str t)=true:=by simp [PyData.eqv,e]
   rw [if_pos e,this];rfl
  ·have:PyData.eqv (.str a) (.str t)=false:=by simp [PyData.eqv,e]
   rw [if_neg e,this,B0h ((mem_cons.mp h).resolve_left fun z=>e z.symm)];rfl
theorem C1s {us:List Str} (h:us.Pairwise O3):us.Nodup:=List.Pairwise.imp (fun {a b} (g:O3 a b) (z:a=b)=>O3.irr a (by rw [<-z] at g;exact g)) h
theorem A9a {u:Str} {c:Nat} (h:1<=u.length):sl1 (u++K4 c)=sl1 u++K4 c:=by
 refine ext ?_;rw [A0z (by rw [T9];omega),R1,R1,A0z h];have:u.cps.toList≠[]:=fun z=>by have:=congrArg List.length z;rw [G3] at this;simp at this;omega
 cases hu:u.cps.toList with
 | nil=>exact absurd hu this
 | cons a r=>rfl
theorem behind {k n:Nat} {bs:List Str} {u:Str} {c:Nat} (hu:Win k bs n u) (hn:1<=n) (h:sts k bs n (u++K4 c)):Win k bs n (sl1 u++K4 c):=by
 have hl:=(A33 hu).1;have hx:(u++K4 c).length=n+1:=by rw [T9,hl];rfl
 unfold sts at h;rw [if_neg (by omega)] at h;have h1:=h.2 1 (by omega);have e:sT (((u++K4 c).cps.toList.drop 1).take n)=sl1 u++K4 c:=by
  rw [<-A9a (by omega)];refine ext ?_;rw [B9m,A0z (by omega),List.drop_one,List.take_of_length_le];rw [List.length_tail,G3];omega
 rw [e] at h1;exact h1
noncomputable def ar1 (k:Nat) (bs:List Str) (n:Nat) (us:List Str) (u:Str) (cs:List Nat):List D:=(cs.filter fun c=>stB k bs n (u++K4 c)).map fun c=>.tuple [.int (idx us u:Nat),.str (K4 c),.int (idx us (sl1 u++K4 c):Nat)]
noncomputable def ars (k:Nat) (bs:List Str) (n:Nat) (us vs:List Str):List D:=vs.flatMap fun u=>ar1 k bs n us u (B2 k)
noncomputable def gA (k:Nat) (bs:List Str) (n:Nat):D->D->Bool
 | .str u,.str x=>stB k bs n (u++x)
 | _,_=>false
def fA (us:List Str):D->D->D
 | .str u,.str x=>.tuple [.int (idx us u:Nat),.str x,.int (idx us (sl1 u++x):Nat)]
 | _,_=>.none
theorem C2x (k:Nat) (bs:List Str) (n:Nat) (us vs:List Str):A5l (vs.map PyData.str) ((B2 k).map fun c=>PyData.str (K4 c)) (gA k bs n) (fA us)=ars k bs n us vs:=by
 unfold A5l ars ar1;rw [List.flatMap_map];congr 1;funext u;rw [List.filter_map,map_map];rfl
noncomputable def rdD (k:Nat) (bs:List Str) (n:Nat) (us:List Str):D:=.tuple [wD us,.tuple [.int us.length,.list (ars k bs n us us)]]
abbrev Z5:Stmt:=top 26
theorem M3:B8 ["signs","bars","windows","numbers","arrows","window","sign"] ["signs","bars"] (A9 Z5):=by walk_at "sc"
def B3v (cA cN3:Addr):W0:=fun ds Q X=>∃ (k:Int) (bs:List Str),ds=[.int k,bD bs]/\Sml bs/\(L3 k bs->wds k bs<=128->∀ us:List Str,Wnd k.toNat bs (wid bs).toNat us->Q (rdD k.toNat bs (wid bs).toNat us) true)/\(¬ L3 k bs->X cA)/\(L3 k bs->¬ wds k bs<=128->X cN3)
theorem A6x {f cA cN3:Addr} {fd:FuncData} (F:U3 K "reader_of" "reader_of" Z5 f fd) (T:Blt mg) (G_SIGNS:A9g K mg "SIGNS" SIG) (D_windows_of:DfE P w K mg base "windows_of" ["signs","bars"] 5 (E9 K (B1f cA cN3))) (D_stands_by:Df P w K mg base "stands_by" ["windows","bars","word"] 2 (E9 K C19)):G6 P w K mg base (CXE P w base) 6 f fd ["signs","bars"] (E9 K (B3v cA cN3)):=by
 refine okE F M3 (fun ds Q X h=>?_) (fun cdv A outer s H E hr=>?_)
 ·obtain ⟨k,bs,rfl,_⟩:=h;rfl
 refine ⟨_,(A1 (C1 2 M3.nd (A3h (by exact D_windows_of) B4u (by exact hr.mono (by omega)) (A0 (B0 0) (A0 (B0 1) A2))))
   (A1 (dnS (B30 (i:=3) ["number","window"] [] M3.nd rfl rfl rfl (by rfl) (B9.of (by kernel_rfl)) (A92 (by rfl) (by rfl) (by exact T.enumerate) (A0 (B0 2) A2) (by rfl)) (fun _ _ _=>⟨A43 K 2 (by rfl) (by rfl) (E2 (V7 0 (N3 (by kernel_rfl))) (E2 (V7 1 (N3 (by kernel_rfl))) Q3)) (by rfl) (by rfl),qpv 1,qpv 0⟩)))
   (A1 (dnS (C1 4 M3.nd (L5 A2)))
   (A1 (dnS (C16 (A72 PassesOwn.never rfl (A67 K (by rfl) (qpv 2)) (V7 5 M3.nd) (A26 (A72 PassesOwn.never rfl (DI.q (A3m (by rfl) (P8 (by rfl) (U5 (by exact G_SIGNS) (by rfl)) D1 (C6 (B0 0))))) (V7 6 M3.nd) (A26 (B8p (DT.q (G0 (C9 (by exact D_stands_by) (by exact hr.mono (by omega)) (A0 (B0 2) (A0 (B0 1) (A0 (A8 C3 (B0 5) (B0 6)) A2)))))) (A26 (Y2 (S6 K (by rfl) (qpv 4) (DE.q (E4 (A0 (B0d (by exact Nat.lt_of_le_of_lt (Nat.add_le_add_left (by decide) _) hr.units) (B0 3) (T7 (B0 5)) (fun _ _=>rfl)) (A0 (B0 6) (A0 (B0d (by exact Nat.lt_of_le_of_lt (Nat.add_le_add_left (by decide) _) hr.units) (B0 3) (T7 (A8 C3 (C7 (B0 5) (C6 A4) D1) (B0 6))) (fun _ _=>rfl)) A2))))) (by rfl) (by rfl) (by rfl)))) A91)))))))
   (A6 (dnS (B6 (E4 (A0 (B0 2) (A0 (E4 (A0 (B5 (A1r (by rfl)) (by rfl) (by exact T.len) (by decide +kernel) (A0 (B0 2) A2)) (A0 (B0 4) A2))) A2)))))))))),fun ds Qd Xd h=>?_⟩
 obtain ⟨k,bs,rfl,hs,q,x1,x2⟩:=h;show (_:L9) _ [some (false,.int k),some (false,bD bs),none,none,none,none,none] _;walk_at "d";refine ⟨k,bs,rfl,hs,fun hg hw us u1 u2 u3=>?_,x1,x2⟩;obtain ⟨n,en,hn1,hn5⟩:=C22 hg;obtain ⟨kk,ek,hk⟩:∃ kk:Nat,k=(kk:Int)/\K3 kk:=⟨k.toNat,by have:=hg.1;omega,by have:=hg.1;unfold K3;omega⟩;have q:=q hg hw us ⟨u1,u2,u3⟩;subst ek;rw [en] at q u2;rw [Int.toNat_natCast] at q u2;have e0:((n:Nat):Int).toNat=n:=rfl;rw [e0] at q u2;have V:Wnd kk bs n us:=⟨u1,u2,u3⟩;have nd:=C1s u1;have hk4:kk<=4:=by rcases hk with rfl|rfl|rfl<;>decide
 unfold wD;walk_at "d";refine ⟨us,rfl,by omega,?_⟩;walk_at "d";refine D2d (us.map .str) ((B2 kk).map fun c=>.str (K4 c)) (gA kk bs n) (fA us) rfl rfl ⟨by decide,by decide,by decide,by decide,by decide,by decide,Nat.le_of_ble_eq_true rfl,Nat.le_of_ble_eq_true rfl⟩ (O2 us) ?_ (by rw [length_map,length_map,A1v];have:us.length*kk<=128*4:=Nat.mul_le_mul (by omega) hk4;omega) (fun d hd=>?_) (fun d hd c hc Q' hq=>?_) (fun d hd c hc hg'=>?_) (fun d hd c hc hg'=>?_) ?_
 ·rw [show ((B2 kk).map fun c=>PyData.str (K4 c))=((B2 kk).map K4).map PyData.str from by rw [map_map];rfl];exact O2 _
 ·obtain ⟨u,hu,rfl⟩:=mem_map.mp hd;unfold Z1;walk_at "d";rw [A3o hk];exact ⟨rfl,trivial⟩
 ·obtain ⟨u,hu,rfl⟩:=mem_map.mp hd;obtain ⟨c,hc,rfl⟩:=mem_map.mp hc;have hl:=(A33 ((V.iff u).mp hu)).1;unfold Z1;walk_at "d";refine ⟨by rw [hl];show n+1<=_;omega,?_⟩;walk_at "d";refine ⟨kk,n,us,bs,u++K4 c,rfl,V,hn1,by omega,hs.1,by rw [T9,hl];show n+1<=_;omega,?_⟩;exact hq
 ·obtain ⟨u,hu,rfl⟩:=mem_map.mp hd;obtain ⟨c,hc,rfl⟩:=mem_map.mp hc;have hl:=(A33 ((V.iff u).mp hu)).1;unfold Z1;walk_at "d";have hb:sts kk bs n (u++K4 c):=A1w.mp hg';have hb':=(V.iff _).mpr (behind ((V.iff u).mp hu) hn1 hb);unfold C7i;walk_at "d";refine .inl ⟨_,.inr u,_,rfl,rfl,(A2h nd (A7v hu)).trans (by rw [Nat.zero_add]),?_⟩;walk_at "d";have el:(Txt.slice u (some 1) none)=sl1 u:=rfl;rw [el];refine ⟨by have:=Txt.slice_le u (some 1) none;have e2:(sl1 u).length<=u.length:=this;show (sl1 u).length+1<=_;omega,?_⟩;walk_at "d";refine .inl ⟨_,.inr (sl1 u++K4 c),_,rfl,rfl,(A2h nd (A7v hb')).trans (by rw [Nat.zero_add]),?_⟩;walk_at "d"
  first|exact rfl|exact ⟨by decide,rfl⟩
 ·obtain ⟨u,hu,rfl⟩:=mem_map.mp hd;obtain ⟨c,hc,rfl⟩:=mem_map.mp hc;rfl
 rw [C2x];walk_at "d";rw [length_map];exact q
theorem C3c {l m:List Str} (h1:l.Nodup) (h2:∀ x∈l,x∈m):l.length<=m.length:=by
 induction l generalizing m with
 | nil=>exact Nat.zero_le _
 | cons a l ih =>
  have ha:=h2 a mem_cons_self;have hl:=List.length_erase_of_mem ha;have hp:=List.length_pos_of_mem ha;rw [nodup_cons] at h1;have:=ih h1.2 (m:=m.erase a) (fun y hy=>(List.mem_erase_of_ne (fun e:y=a=>h1.1 (by rw [<-e];exact hy))).mpr (h2 y (mem_cons_of_mem _ hy)));rw [length_cons];omega
theorem D1m {k:Int} {bs l1 l0:List Str} (hs:Sml bs) (hst:St k bs 0) (a1:l1.Nodup) (a2:∀ t,t∈l1 ↔ P1 (J6 k.toNat bs (wid bs).toNat) true t) (b2:∀ t,t∈l0 ↔ P1 (J6 k.toNat bs (wid bs).toNat) false t) (a3:l1.length<=5000) (b3:l0.length<=5000):Wld k.toNat bs (wid bs).toNat l1 l0/\∀ b∈bs,b.length<=(wid bs).toNat+1:=by
 have hg:=hst.1;obtain ⟨n,en,hn1,hn5⟩:=C22 hg;obtain ⟨kk,rfl,hk⟩:∃ kk:Nat,k=(kk:Int)/\K3 kk:=⟨k.toNat,by have:=hg.1;omega,by have:=hg.1;unfold K3;omega⟩;have hp:kk ^ n < 128:=by
  refine D6o hk hn5 ?_;have hw:=hst.2;unfold wds at hw;rw [en] at hw;have e:((n:Nat):Int).toNat=n:=rfl;rw [e] at hw
  exact_mod_cast hw
 have enn:(wid bs).toNat=n:=by omega
 rw [enn,Int.toNat_natCast] at a2 b2;rw [enn,Int.toNat_natCast];have wi:∀ t,(t∈l1/\t∈l0) ↔ Win kk bs n t:=fun t=>by rw [A23,a2,b2]
 refine ⟨⟨a1,a2,b2,a3,b3,?_,hk,en,hn1,hn5,hs⟩,fun b hb=>?_⟩
 ·refine Nat.lt_of_le_of_lt (C3c (a1.filter _) (m:=W kk n) fun t ht=>?_) (by rw [A6m];exact hp);rw [mem_filter,decide_eq_true_eq] at ht;exact (Kp.start kk bs n).sub t ((Kp.start kk bs n).win t ((wi t).mp ht))
 ·have:=(A3n (V8 bs) 2).2 (b.length:Int) (mem_map.mpr ⟨b,hb,rfl⟩);unfold wid mx2 at en;omega
theorem C41 {k n:Nat} {bs:List Str} {u:Str} {c:Nat} (hu:Win k bs n u) (hc:c∈B2 k):lwB k bs n (u++K4 c)=stB k bs n (u++K4 c):=by
 have ok:Ok k (u++K4 c).cps.toList:=fun d hd=>by
  rw [R1] at hd;rcases mem_append.mp hd with hd|hd
  ·exact (A33 hu).2 d hd
  ·have:d=c:=by simpa [K4] using hd
   rw [this];exact hc
 rw [Bool.eq_iff_iff,A7b,A1w];exact (same ok).symm
theorem B8q {k:Nat} {bs:List Str} {n:Nat} {us:List Str} {u:Str} {cs:List Nat} {j c:Nat} (h:cs[j]?=some c):ar1 k bs n us u (cs.take (j+1))=ar1 k bs n us u (cs.take j)++(if stB k bs n (u++K4 c)=true then [.tuple [.int (idx us u:Nat),.str (K4 c),.int (idx us (sl1 u++K4 c):Nat)]] else []):=by
 unfold ar1;rw [take_add_one,h];simp only [Option.toList_some,filter_append,map_append,List.filter_cons,List.filter_nil];split<;>rfl
theorem B3j (k:Nat) (bs:List Str) (n:Nat) (us:List Str) (u:Str) (cs:List Nat):(ar1 k bs n us u cs).length<=cs.length:=by
 unfold ar1;rw [length_map];exact length_filter_le _ _
theorem C0w {k:Nat} {bs:List Str} {n:Nat} {us vs:List Str} {i:Nat} {u:Str} (h:vs[i]?=some u):ars k bs n us (vs.take (i+1))=ars k bs n us (vs.take i)++ar1 k bs n us u (B2 k):=by
 unfold ars;rw [take_add_one,h];simp [List.flatMap_append]
theorem B4p (k:Nat) (bs:List Str) (n:Nat) (us vs:List Str):(ars k bs n us vs).length<=vs.length*k:=by
 unfold ars
 induction vs with
 | nil=>simp
 | cons a r ih =>
  rw [List.flatMap_cons,length_append,length_cons,Nat.succ_mul];have:=B3j k bs n us a (B2 k);rw [A1v] at this;omega
abbrev A71:Stmt:=top 41
theorem Q5:B8 ["_law_signs","_law_bars_here","_law_world_here","_law_windows_here","_law_arrows","_law_i","_law_word_here","_law_sign"] ["_law_signs","_law_bars_here"] (A9 A71):=by walk_at "sc"
def A7a:W0:=fun ds Q _=>∃ (k:Nat) (bs:List Str) (n:Nat),ds=[.int k,bD bs]/\St (k:Int) bs 0/\Sml bs/\wid bs=(n:Int)/\∀ us:List Str,Wnd k bs n us->Q (rdD k bs n us) false
theorem C0i {f:Addr} {fd:FuncData} (F:U3 K "_law_due" "_law_due" A71 f fd) (T:Blt mg) (D_l_world:Df P w K mg base "_law_world" ["_law_signs","_law_bars_here"] 2 (E9 K A4q)) (D_l_windows:Df P w K mg base "_law_windows" ["_law_world_here"] 1 (E9 K A3r)) (D_l_stands:Df P w K mg base "_law_stands" ["_law_bars_here","_law_world_here","_law_word_here"] 2 (E9 K C07)):G6 P w K mg base X6 3 f fd ["_law_signs","_law_bars_here"] (E9 K A7a):=by
 refine ok0 F Q5 (fun ds Q X h=>?_) (fun cdv A outer s H E hr=>?_) fun ds Qd Xd h=>h
 ·obtain ⟨k,bs,n,rfl,_⟩:=h;rfl
 refine ⟨_,(A1 (C1 2 Q5.nd (C9 (by exact D_l_world) (by exact hr.mono (by omega)) (A0 (B0 0) (A0 (B0 1) A2))))
   (A1 (C1 3 Q5.nd (C9 (by exact D_l_windows) (by exact hr.mono (by omega)) (A0 (B0 2) A2)))
   (A1 (C1 4 Q5.nd (L5 A2))
   (A1 (S4 3 (J2 PassesOwn.never rfl (A92 (by rfl) (by rfl) (by exact T.enumerate) (A0 (B0 3) A2) (by rfl)) (C75 2 (by rfl) (by rfl) (A5n (M7 5 Q5.nd) (A5n (M7 6 Q5.nd) C23)) (by rfl) (by rfl)) (A6 (J2 PassesOwn.never rfl (A79 (C7 E3 D1 (C6 (B0 0)))) (M7 7 Q5.nd) (A6 (D7 (G0 (C9 (by exact D_l_stands) (by exact hr.mono (by omega)) (A0 (B0 1) (A0 (B0 2) (A0 (A8 C3 (B0 6) (B0 7)) A2))))) (A6 (A0x 4 (by rfl) (qpv 4) (E4 (A0 (B0 5) (A0 (B0 7) (A0 (B6p (by rfl) (by exact hr.units) (B0 3) (C7 (A8 C3 (B0 6) (B0 7)) (C6 A4) D1)) A2)))) (by rfl) (by rfl) (by rfl))) C0))))))
   (A6 (B6 (E4 (A0 (B0 3) (A0 (E4 (A0 (B5 (A1r (by rfl)) (by rfl) (by exact T.len) (by decide +kernel) (A0 (B0 3) A2)) (A0 (B0 4) A2))) A2))))))))),fun ds Qd h=>?_⟩
 obtain ⟨k,bs,n,rfl,hst,hs,en,q⟩:=h;show (_:L9) _ [some (false,.int (k:Int)),some (false,bD bs),none,none,none,none,none,none] _;walk_at "d";refine ⟨(k:Int),bs,rfl,hs,hst.1,fun l1 l0 a1 b1 a2 b2 a3 b3=>?_⟩;obtain ⟨W,hbl⟩:=D1m hs hst a1 a2 b2 a3 b3;have en':(wid bs).toNat=n:=by omega
 rw [en',Int.toNat_natCast] at W;rw [en'] at hbl;walk_at "d";have eS:∀ (a b:Option (Bool × D)) (r:C5),setK (a::b::none::r) 2 (PyData.tuple [M6 (tD l1),M6 (tD l0)]) (Kd.own [])=a::b::some (true,PyData.tuple [M6 (tD l1),M6 (tD l0)])::r:=fun _ _ _=>rfl;rw [eS];walk_at "d";refine ⟨l1,l0,rfl,W.nd,W.s1,W.sm,fun us u1 u2 u3=>?_⟩;have V:=W.wnd u1 u2 u3;have q:=q us V;have nd:=C1s u1;have hk:=W.k3;have hk4:=W.k4;unfold wD;walk_at "d";refine O7 (fun i ρ=>∃ x5 x6 x7:Option (Bool × D),ρ=[some (false,PyData.int ↑k),some (false,bD bs),some (true,PyData.tuple [M6 (tD l1),M6 (tD l0)]),some (false,PyData.list (List.map PyData.str us)),some (true,PyData.list (ars k bs n us (us.take i))),x5,x6,x7]) ⟨_,_,_,rfl⟩ ?_ ?_
 ·rintro i d ρ hd ⟨x5,x6,x7,rfl⟩;obtain ⟨d',hd',rfl⟩:=A0h hd;obtain ⟨u,hu,rfl⟩:∃ u,us[i]?=some u/\d'=.str u:=by
   rw [List.getElem?_map] at hd';cases e:us[i]? with
   | none=>rw [e] at hd';cases hd'
   | some r=>rw [e] at hd';cases hd';exact ⟨r,rfl,rfl⟩
  rw [Nat.zero_add];have hum:=mem_of_getElem? hu;have huw:=(V.iff u).mp hum;have hul:=(A33 huw).1;have hil:i < us.length:=(List.getElem?_eq_some_iff.mp hu).1;have hix:=B8r nd hu;walk_at "d";unfold DL.signs;rw [B4m hk];refine O7 (fun j ρ=>∃ x7:Option (Bool × D),ρ=[some (false,PyData.int ↑k),some (false,bD bs),some (true,PyData.tuple [M6 (tD l1),M6 (tD l0)]),some (false,PyData.list (List.map PyData.str us)),some (true,PyData.list (ars k bs n us (us.take i)++ar1 k bs n us u ((B2 k).take j))),some (false,.int (i:Int)),some (false,.str u),x7]) ⟨_,by rw [List.take_zero];unfold ar1;rw [List.filter_nil,List.map_nil,append_nil]⟩ ?_ ?_
  ·rintro j d ρ hd ⟨x7,rfl⟩;obtain ⟨c,hc,rfl⟩:∃ c,(B2 k)[j]?=some c/\d=.str (K4 c):=by
    rw [List.getElem?_map] at hd;cases e:(B2 k)[j]? with
    | none=>rw [e] at hd;cases hd
    | some r=>rw [e] at hd;cases hd;exact ⟨r,rfl,rfl⟩
   have hcm:=mem_of_getElem? hc;have hjl:j < k:=by have:=(List.getElem?_eq_some_iff.mp hc).1;rw [A1v] at this;exact this
   rw [B8q hc];walk_at "d";refine ⟨by rw [hul];show n+1<=_;have:=W.n5;omega,?_⟩;walk_at "d";refine ⟨k,n,l1,l0,bs,u++K4 c,rfl,W,by rw [T9,hul];show n+1<=_;have:=W.n5;omega,?_⟩;rw [C41 huw hcm];walk_at "d";refine O9 (fun h1=>?_) fun h1=>?_
   ·have hb':=(V.iff _).mpr (behind huw W.n1 (A1w.mp h1));have el:(Txt.slice (u++K4 c) (some 1) none)=sl1 u++K4 c:=A9a (by have:=W.n1;omega);rw [h1,if_pos rfl,<-append_assoc];refine D6x rfl (by
     have a1:=B4p k bs n us (us.take i);have a2:=B3j k bs n us u ((B2 k).take j);rw [length_take] at a1 a2;rw [length_append];have a3:min i us.length*k<=128*4:=Nat.mul_le_mul (by omega) hk4;omega) ?_
    walk_at "d";refine ⟨by rw [hul];show n+1<=_;have:=W.n5;omega,?_⟩;walk_at "d";rw [el];refine ⟨by rw [T9,hul];show n+1<=_;have:=W.n5;omega,⟨?_,by simp [PyData.depth],A4f fun t ht=>A3q hk4 ((V.iff t).mp ht)⟩,_,B0h hb',?_⟩
    ·have:=A4f (bs:=[sl1 u++K4 c]) fun t ht=>by rw [mem_singleton.mp ht];exact A3q hk4 ((V.iff _).mp hb')
     simpa [PyData.canLayAll0] using this
    rw [hix];walk_at "d";exact ⟨_,rfl⟩
   ·rw [h1,if_neg Bool.false_ne_true,append_nil];walk_at "d";exact ⟨_,rfl⟩
  ·rintro ρ ⟨x7,rfl⟩;rw [length_map,take_length];walk_at "d";exact ⟨_,_,_,by rw [C0w hu]⟩
 ·rintro ρ ⟨x5,x6,x7,rfl⟩;rw [U7,length_map,take_length];walk_at "d";rw [length_map];exact q
abbrev A1p:Stmt:=top 42
theorem A5y:B8 ["_law_signs","_law_bars_here","_law_e"] ["_law_signs","_law_bars_here"] (A9 A1p):=by walk_at "sc"
def A9f (b:Bool):D:=.tuple [.str "refused",.bool b]
noncomputable def A1j (k:Nat) (bs:List Str) (n:Nat) (us:List Str):D:=.tuple [.str "told",rdD k bs n us]
def A1t:W0:=fun ds Q _=>∃ (k:Int) (bs:List Str),ds=[.int k,bD bs]/\Sml bs/\(St k bs 0->∀ us:List Str,Wnd k.toNat bs (wid bs).toNat us->Q (A1j k.toNat bs (wid bs).toNat us) true)/\(St k bs 1->Q (A9f false) true)/\(St k bs 2->Q (A9f true) true)
theorem B72 {f cA cN3 cE0 cG cT cWd cRd:Addr} {fd:FuncData} (F:U3 K "_law_told" "_law_told" A1p f fd) (T:Blt mg) (C_RowError:W3 K mg "RowError" cE0) (C_NoBars:W3 K mg "NoBars" cA) (C_TooMany:W3 K mg "TooMany" cN3) (fitA:A4g K cA cE0) (fitN:A4g K cN3 cE0) (exkA:ExK K cA) (exkN:ExK K cN3)
  (xA:∀ Q:D->Prop,Q (.bool false)->V5 K cG cT cWd cRd cN3 cA cA Q) (xN:∀ Q:D->Prop,Q (.bool true)->V5 K cG cT cWd cRd cN3 cA cN3 Q)
  (D_l_class:DfX P w K mg base "_law_class" "_law_e" 1 (V5 K cG cT cWd cRd cN3 cA)) (D_reader_of:DfE P w K mg base "reader_of" ["signs","bars"] 6 (E9 K (B3v cA cN3))):G6 P w K mg base X6 7 f fd ["_law_signs","_law_bars_here"] (E9 K A1t):=by
 refine ok0 F A5y (fun ds Q X h=>?_) (fun cdv A outer s H E hr=>?_) fun ds Qd Xd h=>h
 ·obtain ⟨k,bs,rfl,_⟩:=h;rfl
 refine ⟨_,(A6 (B8n 2 (by rfl) (by rfl) ⟨rfl,rfl,rfl⟩ A5y.nd (by rfl) (by exact C_RowError.mgx) (C0z (C63 (C2l E3 (B89 (by exact D_reader_of) ⟨rfl,rfl,rfl⟩ (by exact hr.mono (by omega)) (A0 (B0 0) (A0 (B0 1) A2)))))) (fun ea oe cE yE hoe hCE hKE=>(A6 (B6 (E4 (A0 E3 (A0 (C43 (by exact D_l_class) (by rfl) (by exact ⟨(hr.mono (j:=1) (by omega)).dp,(hr.mono (j:=1) (by omega)).un⟩) (by exact mem_append_right _ mem_cons_self) (by rfl) (by exact hoe) (by exact hCE) (by exact hKE) (B0 2) ⟨rfl,rfl⟩) A2)))))))),fun ds Qd h=>?_⟩;obtain ⟨k,bs,rfl,hs,q0,q1,q2⟩:=h;show (_:L9) _ [some (false,.int k),some (false,bD bs),none] _;walk_at "d";refine ⟨k,bs,rfl,hs,fun hg hw us V=>?_,fun hg=>?_,fun hg hw=>?_⟩
 ·have q:=q0 ⟨hg,hw⟩ us V;walk_at "d";exact q
 ·refine ⟨fitA,⟨_,C_NoBars⟩,exkA,fun ea=>?_⟩;walk_at "d";refine xA _ ?_;exact ⟨by decide,q1 hg⟩
 ·refine ⟨fitN,⟨_,C_TooMany⟩,exkN,fun ea=>?_⟩;walk_at "d";refine xN _ ?_;exact ⟨by decide,q2 ⟨hg,hw⟩⟩
theorem C8m (l:List D):(!B3w (.tuple l))=false:=rfl
theorem D5r (l:List D):(!isList (.list l))=false:=rfl
theorem D8s (i:Int):(!DL.isInt (.int i))=false:=rfl
theorem C1w (i:Int):B9n (.int i)=false:=rfl
theorem C5v {k:Nat} {bs:List Str} {n:Nat} {us vs:List Str} {d:D} (h:d∈ars k bs n us vs):∃ (i j:Int) (x:Str),d=.tuple [.int i,.str x,.int j]:=by
 unfold ars ar1 at h;obtain ⟨u,_,h⟩:=List.mem_flatMap.mp h;obtain ⟨c,_,rfl⟩:=mem_map.mp h;exact ⟨_,_,_,rfl⟩
abbrev Y5:Stmt:=top 43
theorem P3:B8 ["_law_told_here","_law_many","_law_arrows","_law_arrow"] ["_law_told_here"] (A9 Y5):=by walk_at "sc"
def A3d:W0:=fun ds Q _=>∃ (k:Nat) (bs:List Str) (n:Nat) (us:List Str),ds=[rdD k bs n us]/\Q (.bool true) true
theorem A6s {f:Addr} {fd:FuncData} (F:U3 K "_law_is_kind" "_law_is_kind" Y5 f fd) (T:Blt mg):G6 P w K mg base X6 1 f fd ["_law_told_here"] (E9 K A3d):=by
 refine ok0 F P3 (fun ds Q X h=>?_) (fun cdv A outer s H E hr=>?_) fun ds Qd Xd h=>h
 ·obtain ⟨k,bs,n,us,rfl,_⟩:=h;rfl
 refine ⟨_,(A1 (D7 (A62 (Q0 (M4 (G0 (N7 (by rfl) A2w (by rfl) (by exact T.isinstance) (B0 0) (by rfl) (by exact T.tuple) (by decide +kernel)))) (Q0 (M4 (G0 (N7 (by rfl) B05 (by rfl) (by exact T.isinstance) (K1 (dix (by rfl)) (B0 0) A4 (fun _ _=>rfl)) (by rfl) (by exact T.list) (by decide +kernel)))) (A0j (M4 (G0 (N7 (by rfl) A2w (by rfl) (by exact T.isinstance) (K1 (dix (by rfl)) (B0 0) A4 (fun _ _=>rfl)) (by rfl) (by exact T.tuple) (by decide +kernel)))))))) (A6 (B6 K0)) C0)
   (A1 (A1u [1,2] 2 rfl (by rfl) (by rfl) (E2 (V7 1 P3.nd) (E2 (V7 2 P3.nd) Q3)) (by rfl) (by rfl) (K1 (dix (by rfl)) (B0 0) A4 (fun _ _=>rfl)))
   (A1 (D7 (A62 (Q0 (M4 (G0 (N7 (by rfl) B4w (by rfl) (by exact T.isinstance) (B0 1) (by rfl) (by exact T.int) (by decide +kernel)))) (Q0 (G0 (N7 (by rfl) A1i (by rfl) (by exact T.isinstance) (B0 1) (by rfl) (by exact T.bool) (by decide +kernel))) (A0j (M4 (G0 (N7 (by rfl) B05 (by rfl) (by exact T.isinstance) (B0 2) (by rfl) (by exact T.list) (by decide +kernel)))))))) (A6 (B6 K0)) C0)
   (A1 (S4 2 (J2 PassesOwn.never rfl (E6 (by rfl) (B0 2)) (M7 3 P3.nd) (A6 (D7 (A62 (Q0 (M4 (G0 (N7 (by rfl) A2w (by rfl) (by exact T.isinstance) (B0 3) (by rfl) (by exact T.tuple) (by decide +kernel)))) (Q0 (G0 (N7 (by rfl) A1i (by rfl) (by exact T.isinstance) (K1 (dix (by rfl)) (B0 3) A4 (fun _ _=>rfl)) (by rfl) (by exact T.bool) (by decide +kernel))) (A0j (G0 (N7 (by rfl) A1i (by rfl) (by exact T.isinstance) (K1 (dix (by rfl)) (B0 3) A4 (fun _ _=>rfl)) (by rfl) (by exact T.bool) (by decide +kernel))))))) (A6 (B6 K0)) C0))))
   (A6 (B6 K0)))))),fun ds Qd h=>?_⟩
 obtain ⟨k,bs,n,us,rfl,q⟩:=h;show (_:L9) _ [some (false,.tuple [wD us,.tuple [.int us.length,.list (ars k bs n us us)]]),none,none,none] _;unfold wD;walk_at "d";simp only [C8m,Bool.false_eq_true,if_false];walk_at "d";refine ⟨_,J8 (xs:=[PyData.list (us.map PyData.str),PyData.tuple [PyData.int us.length,PyData.list (ars k bs n us us)]]) (j:=0) rfl,?_⟩;walk_at "d";simp only [D5r,Bool.false_eq_true,if_false];walk_at "d";refine ⟨_,J8 (xs:=[PyData.list (us.map PyData.str),PyData.tuple [PyData.int us.length,PyData.list (ars k bs n us us)]]) (j:=1) rfl,?_⟩;walk_at "d";simp only [C8m,Bool.false_eq_true,if_false];walk_at "d";refine ⟨_,J8 (xs:=[PyData.list (us.map PyData.str),PyData.tuple [PyData.int us.length,PyData.list (ars k bs n us us)]]) (j:=1) rfl,?_⟩;walk_at "d";have eU:∀ (a:D) (i:Int) (l:List D),A82 [some (false,a),none,none,none] [1,2] [.int i,.list l] Kd.old=[some (false,a),some (false,.int i),some (false,.list l),none]:=fun _ _ _=>rfl;rw [eU];walk_at "d";simp only [D8s,Bool.false_eq_true,if_false];walk_at "d";simp only [C1w,Bool.false_eq_true,if_false];walk_at "d";simp only [D5r,Bool.false_eq_true,if_false];walk_at "d";refine O7 (fun i ρ=>∃ x3:Option (Bool × D),ρ=[some (false,.tuple [.list (us.map PyData.str),.tuple [.int us.length,.list (ars k bs n us us)]]),some (false,.int us.length),some (false,.list (ars k bs n us us)),x3]) ⟨_,rfl⟩ ?_ ?_
 ·rintro i d ρ hd ⟨x3,rfl⟩;obtain ⟨i1,i2,x,rfl⟩:=C5v (mem_of_getElem? hd);walk_at "d";simp only [C8m,Bool.false_eq_true,if_false];walk_at "d";refine ⟨_,J8 (xs:=[PyData.int i1,PyData.str x,PyData.int i2]) (j:=0) rfl,?_⟩;walk_at "d";simp only [C1w,Bool.false_eq_true,if_false];walk_at "d";refine ⟨_,J8 (xs:=[PyData.int i1,PyData.str x,PyData.int i2]) (j:=2) rfl,?_⟩;walk_at "d";simp only [C1w,Bool.false_eq_true,if_false];walk_at "d";exact ⟨_,rfl⟩
 ·rintro ρ ⟨x3,rfl⟩;walk_at "d";exact q
theorem A08 (b:Bool):(A9f b).canLay0=true:=by
 have a:PyData.strOk (Str.ofString "refused")=true:=by decide +kernel
 simp [A9f,PyData.canLay0,PyData.canLayAll0,a]
theorem A5r (b:Bool):(A9f b).depth<=32:=by simp [A9f,PyData.depth,PyData.depthAll]
def Dw (k:Int) (bs:List Str):Bool->Prop
 | false=>¬ L3 k bs
 | true=>L3 k bs/\¬ wds k bs<=128
theorem D45 {k:Int} {bs:List Str} {m:Bool} (h:St k bs (if m=true then 2 else 1)):Dw k bs m:=by
 cases m with
 | false=>exact h
 | true=>exact h
theorem C0u:∀ {l:List D},(∀ d∈l,d.canLay0=true)->PyData.canLayAll0 l=true
 | [],_=>rfl
 | d::r,h=>by simp [PyData.canLayAll0,h d mem_cons_self,C0u (l:=r) fun x hx=>h x (mem_cons_of_mem _ hx)]
theorem B2e:∀ {l:List D} {m:Nat},(∀ d∈l,d.depth<=m)->PyData.depthAll l<=m
 | [],m,_=>by simp [PyData.depthAll]
 | d::r,m,h=>by
  have h1:=h d mem_cons_self;have h2:=B2e (l:=r) (m:=m) fun x hx=>h x (mem_cons_of_mem _ hx);simp [PyData.depthAll];omega
theorem A9x {k:Nat} {bs:List Str} {n:Nat} {us vs:List Str} {d:D} (h:d∈ars k bs n us vs):∃ (i j:Int) (c:Nat),c∈B2 k/\d=.tuple [.int i,.str (K4 c),.int j]:=by
 unfold ars ar1 at h;obtain ⟨u,_,h⟩:=List.mem_flatMap.mp h;obtain ⟨c,hc,rfl⟩:=mem_map.mp h;exact ⟨_,_,_,(mem_filter.mp hc).1,rfl⟩
theorem C27 {k:Nat} {bs:List Str} {n:Nat} {us:List Str} (hk:k<=4) (V:Wnd k bs n us):(A1j k bs n us).canLay0=true:=by
 have a:PyData.strOk (Str.ofString "told")=true:=by decide +kernel
 have b:=A4f fun t ht=>A3q hk ((V.iff t).mp ht);have c:PyData.canLayAll0 (ars k bs n us us)=true:=C0u fun d hd=>by
  obtain ⟨i,j,c,hc,rfl⟩:=A9x hd;have:PyData.strOk (K4 c)=true:=Asc.ok (b:=K4 c) fun x hx=>by
   have:x=c:=by simpa [K4] using hx
   rw [this];exact B3y hk hc
  simp [PyData.canLay0,PyData.canLayAll0,this]
 simp [A1j,rdD,wD,PyData.canLay0,PyData.canLayAll0,a,b,c]
theorem B1b {k:Nat} {bs:List Str} {n:Nat} {us:List Str}:(A1j k bs n us).depth<=32:=by
 have b:=A8n us;have b':PyData.depthAll (us.map PyData.str)<=2:=B2e fun d hd=>by obtain ⟨x,_,rfl⟩:=mem_map.mp hd;simp [PyData.depth]
 have c:PyData.depthAll (ars k bs n us us)<=2:=B2e fun d hd=>by
  obtain ⟨i,j,c,hc,rfl⟩:=A9x hd;simp [PyData.depth,PyData.depthAll]
 simp [A1j,rdD,wD,PyData.depth,PyData.depthAll];omega
abbrev A0t:Stmt:=top 44
theorem Q4:B8 ["_law_script","_law_signs","_law_bars_here","_law_big_here","_law_handed","_law_due_here","_law_turn","_law_told_here","_law_less","_law_bad_here","_law_many"] ["_law_script"] (A9 A0t):=by walk_at "sc"
def B56:W0:=fun ds Q _=>∃ (ns:List Int),ds=[scr ns]/\∀ o,Q (.bool true) o
theorem C3x {f:Addr} {fd:FuncData} (F:U3 K "law" "law" A0t f fd) (T:Blt mg) (D_l_big:Df P w K mg base "_law_big" ["_law_script","_law_at"] 2 (E9 K A84)) (D_l_bars:Df P w K mg base "_law_bars" ["_law_big_here"] 2 (E9 K A3p)) (D_l_due:Df P w K mg base "_law_due" ["_law_signs","_law_bars_here"] 3 (E9 K A7a)) (D_l_is_kind:Df P w K mg base "_law_is_kind" ["_law_told_here"] 1 (E9 K A3d)) (D_l_bad:Df P w K mg base "_law_bad" ["_law_big_here"] 2 (E9 K A85)) (D_l_told:Df P w K mg base "_law_told" ["_law_signs","_law_bars_here"] 7 (E9 K A1t)):G6 P w K mg base X6 8 f fd ["_law_script"] (E9 K B56):=by
 refine ok0 F Q4 (fun ds Q X h=>?_) (fun cdv A outer s H E hr=>?_) fun ds Qd Xd h=>h
 ·obtain ⟨ns,rfl,_⟩:=h;rfl
 refine ⟨_,(A1 (A1u [1,2,3] 3 rfl (by rfl) (by rfl) (E2 (V7 1 Q4.nd) (E2 (V7 2 Q4.nd) (E2 (V7 3 Q4.nd) Q3))) (by rfl) (by rfl) (C9 (by exact D_l_bars) (by exact hr.mono (by omega)) (A0 (C9 (by exact D_l_big) (by exact hr.mono (by omega)) (A0 (B0 0) (A0 A4 A2))) A2)))
   (A1 (C1 4 Q4.nd (A49 (B0j (by rfl)) (by rfl) (by exact T.list) (by decide +kernel) (A0 (B0 2) A2)))
   (A1 (C1 5 Q4.nd (C9 (by exact D_l_due) (by exact hr.mono (by omega)) (A0 (B0 1) (A0 (B0 2) A2))))
   (A1 (J2 PassesOwn.never rfl (K6 (by rfl) (by exact T.range) (A0 A4 A2)) (M7 6 Q4.nd) (A1 (C1 7 Q4.nd (C9 (by exact D_l_told) (by exact hr.mono (by omega)) (A0 (B0 1) (A0 (B0 4) A2))))
   (A1 (D7 (A62 (Q0 (E5 (A7m (by rfl) (by exact hr.units)) (B0 7) (E4 (A0 E3 (A0 (B0 5) A2))) (J5 _)) (Q0 (M4 (G0 (C9 (by exact D_l_is_kind) (by exact hr.mono (by omega)) (A0 (K1 (dix (by rfl)) (B0 7) A4 (fun _ _=>rfl)) A2)))) (A0j (E5 (A7m (by rfl) (by exact hr.units)) (B0 4) (B0 2) (J5 _)))))) (A6 (B6 K0)) C0)
   (B8f (Y2 (S6 K (by rfl) (A2f (A21 K (by rfl)) (A2f (A21 K (by rfl)) (qpv 7) S7 (fun _ _=>rfl)) S7 (fun _ _=>rfl)) A8f (by rfl) (by rfl) (by rfl))) (Y2 (S6 K (by rfl) (A2f (A21 K (by rfl)) (A2f (A21 K (by rfl)) (A2f (A21 K (by rfl)) (qpv 7) S7 (fun _ _=>rfl)) S7 (fun _ _=>rfl)) S7 (fun _ _=>rfl)) (B45 (J9 S7 (J9 A8f (J9 S7 R7)))) (by rfl) (by rfl) (by rfl)))
   (A6 (D7 (E5 (W2 (by rfl) (by exact hr.units)) (A8 D8 (B0 3) A4) A4 (J5 _)) (A1 (A1u [8,9,10] 3 rfl (by rfl) (by rfl) (E2 (V7 8 Q4.nd) (E2 (V7 9 Q4.nd) (E2 (V7 10 Q4.nd) Q3))) (by rfl) (by rfl) (C9 (by exact D_l_bad) (by exact hr.mono (by omega)) (A0 (C9 (by exact D_l_big) (by exact hr.mono (by omega)) (A0 (B0 0) (A0 A4 A2))) A2)))
   (A6 (D7 (E5 (A7m (by rfl) (by exact hr.units)) (C9 (by exact D_l_told) (by exact hr.mono (by omega)) (A0 (B0 8) (A0 (A49 (B0j (by rfl)) (by rfl) (by exact T.list) (by decide +kernel) (A0 (B0 9) A2)) A2))) (E4 (A0 E3 (A0 (B0 10) A2))) (J5 _)) (A6 (B6 K0)) C0))) C0))))))
   (A6 (B6 K0)))))),fun ds Qd h=>?_⟩
 obtain ⟨ns,rfl,q⟩:=h;show (_:L9) _ [some (false,scr ns),none,none,none,none,none,none,none,none,none,none] _;walk_at "d";refine ⟨ns,0,rfl,by omega,fun z hz=>?_⟩;walk_at "d";refine ⟨z,rfl,hz,fun k bs b' hs ha hst=>?_⟩;have f1:∀ b,flat (bD b)=false:=fun _=>rfl;walk_at "d";simp only [f1,Bool.not_false];obtain ⟨kk,rfl⟩:∃ kk:Nat,k=(kk:Int):=⟨k.toNat,by have:=hst.1.1;omega⟩;obtain ⟨n,en,hn1,hn5⟩:=C22 hst.1;unfold bD;walk_at "d";refine ⟨kk,bs,n,rfl,hst,hs,en,fun us V=>?_⟩;have fr2:flat (rdD kk bs n us)=false:=rfl;have eD:∀ (a b c d e:Option (Bool × D)) (x:D) (r:C5),flat x=false->setK (a::b::c::d::e::none::r) 5 x Kd.mix=(frz (a::b::c::d::e::none::r)).set 5 (some (false,x)):=fun a b c d e x r h=>by unfold setK;rw [h];rfl
 walk_at "d";rw [eD _ _ _ _ _ _ _ fr2];walk_at "d";refine A15 (fun i ρ=>∃ x6 x8 x9 x10:Option (Bool × D),ρ=[some (false,scr ns),some (false,.int (kk:Int)),some (false,.list (bs.map .str)),some (false,.int b'),some (false,.list (bs.map .str)),some (false,rdD kk bs n us),x6,none,x8,x9,x10]) ⟨_,_,_,_,rfl⟩ ?_ ?_
 ·rintro i ρ hi ⟨x6,x8,x9,x10,rfl⟩;walk_at "d";refine ⟨(kk:Int),bs,rfl,hs,fun _ us' V'=>?_,fun z=>absurd hst.1 z,fun z=>absurd hst.2 z.2⟩;have ew:(wid bs).toNat=n:=by omega
  rw [ew,Int.toNat_natCast] at V' ⊢;have eu:us'=us:=B34 V'.srt V.srt fun t=>by rw [V'.iff,V.iff]
  rw [eu];have eT:∀ (a0 a1 a2 a3 a4 a5 a6:Option (Bool × D)) (r:C5),setK (a0::a1::a2::a3::a4::a5::a6::none::r) 7 (A1j kk bs n us) (Kd.own [])=a0::a1::a2::a3::a4::a5::a6::some (true,A1j kk bs n us)::r:=fun _ _ _ _ _ _ _ _=>rfl;have hk4:kk<=4:=by have:=hst.1.1;omega
  have lt:=C27 hk4 V;walk_at "d";rw [eT];walk_at "d";refine ⟨⟨lt,lt,B1b⟩,?_⟩;rw [show PyData.eqv (A1j kk bs n us) (PyData.tuple [PyData.str (Str.ofString "told"),rdD kk bs n us])=true from SeqAt.eqv_refl _ lt];unfold A1j;walk_at "d";refine ⟨_,J8 (xs:=[PyData.str (Str.ofString "told"),rdD kk bs n us]) (j:=1) rfl,?_⟩;walk_at "d";refine ⟨kk,bs,n,us,rfl,?_⟩;walk_at "d";refine ⟨⟨B3x ha,B3x ha,A8n bs⟩,?_⟩;rw [SeqAt.eqv_refl _ (B3x ha)];walk_at "d";have hars:=B4p kk bs n us us;have hul:=V.len;have hua:us.length*kk<=128*4:=Nat.mul_le_mul (by omega) hk4;refine ⟨.str (Str.ofString "told"),us.map .str,.int us.length,ars kk bs n us us,rfl,by rw [length_map];omega,by omega,?_⟩;walk_at "d";refine B7h (fun _=>?_) fun _=>?_
  ·walk_at "d";refine ⟨ns,1,rfl,by omega,fun z2 hz2=>?_⟩;walk_at "d";refine ⟨z2,rfl,hz2,fun k2 bs2 m2 hs2 ha2 hst2=>?_⟩;walk_at "d";simp only [f1,Bool.not_false];unfold bD;walk_at "d";refine ⟨k2,bs2,rfl,hs2,?_⟩;have fin:Dw k2 bs2 m2:=D45 hst2;cases m2 with
   | false =>
    have fin:¬ L3 k2 bs2:=fin;refine ⟨fun z=>absurd z.1 fin,fun _=>?_,fun z=>absurd z.1 fin⟩;unfold A9f;walk_at "d";refine ⟨⟨A08 false,A08 false,A5r false⟩,?_⟩;rw [show PyData.eqv (PyData.tuple [PyData.str (Str.ofString "refused"),PyData.bool false]) (PyData.tuple [PyData.str (Str.ofString "refused"),PyData.bool false])=true from SeqAt.eqv_refl _ (A08 false)];walk_at "d";exact ⟨_,_,_,_,rfl⟩
   | true =>
    have fin:L3 k2 bs2/\¬ wds k2 bs2<=128:=fin;refine ⟨fun z=>absurd z.2 fin.2,fun z=>absurd fin.1 z,fun _=>?_⟩;unfold A9f;walk_at "d";refine ⟨⟨A08 true,A08 true,A5r true⟩,?_⟩;rw [show PyData.eqv (PyData.tuple [PyData.str (Str.ofString "refused"),PyData.bool true]) (PyData.tuple [PyData.str (Str.ofString "refused"),PyData.bool true])=true from SeqAt.eqv_refl _ (A08 true)];walk_at "d";exact ⟨_,_,_,_,rfl⟩
  ·walk_at "d";exact ⟨_,_,_,_,rfl⟩
 ·rintro ρ ⟨x6,x8,x9,x10,rfl⟩;walk_at "d";exact q _
def A2a (K:W.Frag):Sp:=fun vs H Q _=>∃ (a:Addr) (ns:List Int),vs=[.ref a]/\L4 K H a (ns.map V.int)/\∀ H',Q (.bl true) H'
theorem D2i {vs:List V} {H:Hp} {Q:VK} {E:XK} (h:A2a K vs H Q E):E9 K B56 vs H Q E:=by
 obtain ⟨a,ns,rfl,hS,q⟩:=h;refine ⟨[scr ns],fun d _=>d=.bool true,Xf,.cons (.scr ns hS) .nil,⟨ns,rfl,fun _=>rfl⟩,fun d o v H' e _ r=>?_,fun _ _ z _=>z.elim⟩;subst e;have hv:Dn K H' v (.bool true):=by
  cases o with
  | true=>obtain ⟨ms,h1,_⟩:=r;exact h1.den
  | false=>exact r
 cases hv;exact q H'
theorem C9s {f:Addr} {fd:FuncData} (F:U3 K "law" "law" A0t f fd) (T:Blt mg) (D_l_big:Df P w K mg base "_law_big" ["_law_script","_law_at"] 2 (E9 K A84)) (D_l_bars:Df P w K mg base "_law_bars" ["_law_big_here"] 2 (E9 K A3p)) (D_l_due:Df P w K mg base "_law_due" ["_law_signs","_law_bars_here"] 3 (E9 K A7a)) (D_l_is_kind:Df P w K mg base "_law_is_kind" ["_law_told_here"] 1 (E9 K A3d)) (D_l_bad:Df P w K mg base "_law_bad" ["_law_big_here"] 2 (E9 K A85)) (D_l_told:Df P w K mg base "_law_told" ["_law_signs","_law_bars_here"] 7 (E9 K A1t)):G6 P w K mg base X6 8 f fd ["_law_script"] (A2a K):=(C3x F T D_l_big D_l_bars D_l_due D_l_is_kind D_l_bad D_l_told).imp fun _ _ _ _ h=>D2i h
theorem B3d {f cA cN3 cE0 cG cT cWd cRd:Addr} {fd:FuncData} (F:U3 K "_law_told" "_law_told" A1p f fd) (T:Blt mg) (C_RowError:W3 K mg "RowError" cE0) (C_NoBars:W3 K mg "NoBars" cA) (C_TooMany:W3 K mg "TooMany" cN3) (fitA:A4g K cA cE0) (fitN:A4g K cN3 cE0) (exkA:ExK K cA) (exkN:ExK K cN3) (i_a:PySem.W.kitOne K (.ref cA) (.ref cG)=some false) (i_b:PySem.W.kitOne K (.ref cA) (.ref cT)=some false) (i_c:PySem.W.kitOne K (.ref cA) (.ref cWd)=some false) (i_d:PySem.W.kitOne K (.ref cA) (.ref cRd)=some false) (i_e:PySem.W.kitOne K (.ref cA) (.type "ValueError")=some true) (i_f:PySem.W.kitOne K (.ref cA) (.ref cN3)=some false) (i_g:PySem.W.kitOne K (.ref cA) (.ref cA)=some true) (i_h:PySem.W.kitOne K (.ref cN3) (.ref cG)=some false) (i_i:PySem.W.kitOne K (.ref cN3) (.ref cT)=some false) (i_j:PySem.W.kitOne K (.ref cN3) (.ref cWd)=some false) (i_k:PySem.W.kitOne K (.ref cN3) (.ref cRd)=some false) (i_l:PySem.W.kitOne K (.ref cN3) (.type "ValueError")=some true) (i_m:PySem.W.kitOne K (.ref cN3) (.ref cN3)=some true) (i_n:PySem.W.kitOne K (.ref cN3) (.ref cA)=some false) (D_l_class:DfX P w K mg base "_law_class" "_law_e" 1 (V5 K cG cT cWd cRd cN3 cA)) (D_reader_of:DfE P w K mg base "reader_of" ["signs","bars"] 6 (E9 K (B3v cA cN3))):G6 P w K mg base X6 7 f fd ["_law_signs","_law_bars_here"] (E9 K A1t):=B72 F T C_RowError C_NoBars C_TooMany fitA fitN exkA exkN (fun Q h=>⟨false,true,i_a,i_b,i_c,i_d,i_e,i_f,i_g,rfl,h⟩) (fun Q h=>⟨true,false,i_h,i_i,i_j,i_k,i_l,i_m,i_n,rfl,h⟩) D_l_class D_reader_of
end
def B94 (K:W.Frag) (a:Addr):Option (List DL.D):=match K.lookup a with
 | some o=>match o.data with
  | .seq its _=>if o.cls==.type "tuple"&&Nat.ble its.size 1000 then DL.B7i its.toList else none
  | _=>none
 | none=>none
theorem C6x {K:W.Frag} {mg:Str->Option Value} {x:Str} {a:Addr} {ds:List DL.D} (hm:mg x=some (.ref a)) (h:B94 K a=some ds):DL.A9g K mg x ds:=by
 unfold B94 at h;split at h
 ·split at h
  ·split at h
   ·rename_i o e1 _ its n e2 e3;rw [Bool.and_eq_true] at e3;exact DL.C42 hm e1 (eq_of_beq e3.1) e2 (Nat.le_of_ble_eq_true e3.2) h
   ·cases h
  ·cases h
 ·cases h
theorem D8o (us:List Value) (h:us.length=0):us=[]:=List.eq_nil_of_length_eq_zero h
theorem D3u (us:List Value) (h:us.length=1):∃ a0,us=[a0]:=by
 cases us with
 | nil=>exact absurd h.symm (Nat.succ_ne_zero _)
 | cons a r =>
  have e:=D8o r (Nat.succ.inj h);subst e;exact ⟨a,rfl⟩
theorem D46 (us:List Value) (h:us.length=2):∃ a0 a1,us=[a0,a1]:=by
 cases us with
 | nil=>exact absurd h.symm (Nat.succ_ne_zero _)
 | cons a r =>
  obtain ⟨a1,e⟩:=D3u r (Nat.succ.inj h);subst e;exact ⟨a,a1,rfl⟩
theorem D61 (us:List Value) (h:us.length=3):∃ a0 a1 a2,us=[a0,a1,a2]:=by
 cases us with
 | nil=>exact absurd h.symm (Nat.succ_ne_zero _)
 | cons a r =>
  obtain ⟨a1,a2,e⟩:=D46 r (Nat.succ.inj h);subst e;exact ⟨a,a1,a2,rfl⟩
theorem D9y (us:List Value) (h:us.length=4):∃ a0 a1 a2 a3,us=[a0,a1,a2,a3]:=by
 cases us with
 | nil=>exact absurd h.symm (Nat.succ_ne_zero _)
 | cons a r =>
  obtain ⟨a1,a2,a3,e⟩:=D61 r (Nat.succ.inj h);subst e;exact ⟨a,a1,a2,a3,rfl⟩
theorem A35 {C:List Value->Prop} (h:∀ a0,C [a0]) (us:List Value) (hl:us.length=1):C us:=by
 obtain ⟨a0,e⟩:=D3u us hl;subst e;exact h _
theorem Q8 {C:List Value->Prop} (h:∀ a0 a1,C [a0,a1]) (us:List Value) (hl:us.length=2):C us:=by
 obtain ⟨a0,a1,e⟩:=D46 us hl;subst e;exact h _ _
theorem B9e {C:List Value->Prop} (h:∀ a0 a1 a2,C [a0,a1,a2]) (us:List Value) (hl:us.length=3):C us:=by
 obtain ⟨a0,a1,a2,e⟩:=D61 us hl;subst e;exact h _ _ _
theorem D58 {C:List Value->Prop} (h:∀ a0 a1 a2 a3,C [a0,a1,a2,a3]) (us:List Value) (hl:us.length=4):C us:=by
 obtain ⟨a0,a1,a2,a3,e⟩:=D9y us hl;subst e;exact h _ _ _ _
structure Fq (K:W.Frag) (n:Str) (st:Stmt) (f:Addr):Prop where
 a:PySem.W.nsIn K mainGlobals n=some (some (.ref f))
 k:PySem.W.keepIn K (.ref f)=true
 F:∃ fd,U3 K n n st f fd
theorem fq {K:W.Frag} {n:Str} {st:Stmt} {f:Addr} {oc:Value} {od an:Option Addr} {osl:Array (Option Value)} {kV doc pm cdv ct:Value} (a:PySem.W.nsIn K mainGlobals n=some (some (.ref f))) (l:K.lookup f=some ⟨oc,od,.func (PySem.W.fnOf n n (X1 st) (M5 st) (A9 st) .none kV doc pm an cdv ct),osl⟩) (c:PySem.W.codeIn K cdv n=true) (k:PySem.W.keepIn K (.ref f)=true):Fq K n st f:=⟨a,k,_,B83 l c k⟩
theorem Fq.at {K:W.Frag} {n:Str} {st:Stmt} {f:Addr} {h:Heap} {mg:Str->Option Value} (d:Fq K n st f) (X:K.In h) (G:h.Ns mainGlobals mg):mg n=some (.ref f)/\PySem.W.keepIn K (.ref f)=true/\∃ fd,U3 K n n st f fd:=⟨PySem.W.mg_of X G d.a,d.k,d.F⟩
theorem C9p {l:PySem.W.OpenLaw} {w:World} {K:W.Frag} {h:Heap} {mg:Str->Option Value} {fa:Addr} (X:K.In h) (G:h.Ns mainGlobals mg) (hfa:mg "law"=some (.ref fa))
  {f1 f2 f3 f4 f5 f6 f7 f8 f9 f10 f11 f12 f13 f14 f15 f16 f17 f18 f19 f20 f21 f22 f23 f24 f25 f26 f27:Addr}
  {od28 an28:Option Addr} {sl28:Array (Option Value)} {oc28 kV28 dc28 pm28 cd28 ct28:Value} {f28:Addr}
  (d1:Fq K "is_whole" A1g f1) (d2:Fq K "plain_width" T6 f2) (d3:Fq K "require_bars" Q2 f3) (d4:Fq K "vet_bars" A0u f4) (d5:Fq K "width_of" A12 f5) (d6:Fq K "words_of" A19 f6) (d7:Fq K "is_free" A2n f7) (d8:Fq K "goes_on_both_ways" M9 f8) (d9:Fq K "windows_of" X2 f9) (d10:Fq K "stands_by" Z9 f10) (d11:Fq K "reader_of" Z5 f11) (d12:Fq K "_law_cell_at" Z6 f12) (d13:Fq K "_law_big" A83 f13) (d14:Fq K "_law_word" A3t f14) (d15:Fq K "_law_bars" A56 f15) (d16:Fq K "_law_bad" A8r f16) (d17:Fq K "_law_width" A2l f17) (d18:Fq K "_law_free" A4j f18) (d19:Fq K "_law_words" A2e f19) (d20:Fq K "_law_lasting" Y7 f20) (d21:Fq K "_law_world" A2t f21) (d22:Fq K "_law_windows" X9 f22) (d23:Fq K "_law_stands" A11 f23) (d24:Fq K "_law_class" A2p f24) (d25:Fq K "_law_due" A71 f25) (d26:Fq K "_law_told" A1p f26) (d27:Fq K "_law_is_kind" Y5 f27)
  (a28:PySem.W.nsIn K mainGlobals "law"=some (some (.ref f28))) (l28:K.lookup f28=some ⟨oc28,od28,.func (PySem.W.fnOf "law" "law" (X1 A0t) (M5 A0t) (A9 A0t) .none kV28 dc28 pm28 an28 cd28 ct28),sl28⟩) (c28:PySem.W.codeIn K cd28 "law"=true) (k28:PySem.W.keepIn K (.ref f28)=true)
  {cG cT cA cN3 cWd cRd cE0:Addr} {t_FEWEST_SIGNS:Nat} {t_MOST_BARS:Nat} {t_LONGEST_BAR:Nat} {t_MOST_WORDS:Nat} {a_SIGNS:Addr}
  (x_NoGrid:PySem.W.nsIn K mainGlobals "NoGrid"=some (some (.ref cG))) (y_NoGrid:PySem.W.excIn K cG bmV "ValueError.__new__"=true) (x_NoTable:PySem.W.nsIn K mainGlobals "NoTable"=some (some (.ref cT))) (y_NoTable:PySem.W.excIn K cT bmV "ValueError.__new__"=true) (x_NoBars:PySem.W.nsIn K mainGlobals "NoBars"=some (some (.ref cA))) (y_NoBars:PySem.W.excIn K cA bmV "ValueError.__new__"=true) (x_TooMany:PySem.W.nsIn K mainGlobals "TooMany"=some (some (.ref cN3))) (y_TooMany:PySem.W.excIn K cN3 bmV "ValueError.__new__"=true) (x_NoWord:PySem.W.nsIn K mainGlobals "NoWord"=some (some (.ref cWd))) (y_NoWord:PySem.W.excIn K cWd bmV "ValueError.__new__"=true) (x_NoReader:PySem.W.nsIn K mainGlobals "NoReader"=some (some (.ref cRd))) (y_NoReader:PySem.W.excIn K cRd bmV "ValueError.__new__"=true) (x_RowError:PySem.W.nsIn K mainGlobals "RowError"=some (some (.ref cE0))) (y_RowError:PySem.W.excIn K cE0 bmV "ValueError.__new__"=true) (u_fitA:PySem.W.kitCls K (.ref cA) (.ref cE0)=some true) (v_fitA:PySem.W.subIn K (.ref cE0) (.type "BaseException")=some true) (u_fitN:PySem.W.kitCls K (.ref cN3) (.ref cE0)=some true) (v_fitN:PySem.W.subIn K (.ref cE0) (.type "BaseException")=some true) (i_gaNoBars:PySem.W.findIn K (.ref cA) "__getattribute__"=some (some (.builtin "BaseException.__getattribute__"))) (i_clNoBars:PySem.W.findIn K (.ref cA) "__class__"=some (some (.builtin "object.__class__"))) (i_ggNoBars:PySem.W.findIn K (.ref cA) "__getattr__"=some none) (i_obNoBars:PySem.W.subIn K (.ref cA) (.type "object")=some true) (i_beNoBars:PySem.W.subIn K (.ref cA) (.type "BaseException")=some true) (i_seNoBars:PySem.W.kitCls K (.ref cA) (.ref cA)=some true) (i_gaTooMany:PySem.W.findIn K (.ref cN3) "__getattribute__"=some (some (.builtin "BaseException.__getattribute__"))) (i_clTooMany:PySem.W.findIn K (.ref cN3) "__class__"=some (some (.builtin "object.__class__"))) (i_ggTooMany:PySem.W.findIn K (.ref cN3) "__getattr__"=some none) (i_obTooMany:PySem.W.subIn K (.ref cN3) (.type "object")=some true) (i_beTooMany:PySem.W.subIn K (.ref cN3) (.type "BaseException")=some true) (i_seTooMany:PySem.W.kitCls K (.ref cN3) (.ref cN3)=some true) (i_a:PySem.W.kitOne K (.ref cA) (.ref cG)=some false) (i_b:PySem.W.kitOne K (.ref cA) (.ref cT)=some false) (i_c:PySem.W.kitOne K (.ref cA) (.ref cWd)=some false) (i_d:PySem.W.kitOne K (.ref cA) (.ref cRd)=some false) (i_e:PySem.W.kitOne K (.ref cA) (.type "ValueError")=some true) (i_f:PySem.W.kitOne K (.ref cA) (.ref cN3)=some false) (i_g:PySem.W.kitOne K (.ref cA) (.ref cA)=some true) (i_h:PySem.W.kitOne K (.ref cN3) (.ref cG)=some false) (i_i:PySem.W.kitOne K (.ref cN3) (.ref cT)=some false) (i_j:PySem.W.kitOne K (.ref cN3) (.ref cWd)=some false) (i_k:PySem.W.kitOne K (.ref cN3) (.ref cRd)=some false) (i_l:PySem.W.kitOne K (.ref cN3) (.type "ValueError")=some true) (i_m:PySem.W.kitOne K (.ref cN3) (.ref cN3)=some true) (i_n:PySem.W.kitOne K (.ref cN3) (.ref cA)=some false) (g_FEWEST_SIGNS:PySem.W.nsIn K mainGlobals "FEWEST_SIGNS"=some (some (.int 2 t_FEWEST_SIGNS))) (g_MOST_BARS:PySem.W.nsIn K mainGlobals "MOST_BARS"=some (some (.int 12 t_MOST_BARS))) (g_LONGEST_BAR:PySem.W.nsIn K mainGlobals "LONGEST_BAR"=some (some (.int 6 t_LONGEST_BAR))) (g_MOST_WORDS:PySem.W.nsIn K mainGlobals "MOST_WORDS"=some (some (.int 128 t_MOST_WORDS))) (g_SIGNS:PySem.W.nsIn K mainGlobals "SIGNS"=some (some (.ref a_SIGNS))) (i_sSIGNS:B94 K a_SIGNS=some [.str "a",.str "b",.str "c",.str "d"])
  (z_len:PySem.W.nsIn K mainGlobals "len"=some none) (z_range:PySem.W.nsIn K mainGlobals "range"=some none) (z_list:PySem.W.nsIn K mainGlobals "list"=some none) (z_int:PySem.W.nsIn K mainGlobals "int"=some none) (z_bool:PySem.W.nsIn K mainGlobals "bool"=some none) (z_isinstance:PySem.W.nsIn K mainGlobals "isinstance"=some none) (z_any:PySem.W.nsIn K mainGlobals "any"=some none) (z_all:PySem.W.nsIn K mainGlobals "all"=some none) (z_sorted:PySem.W.nsIn K mainGlobals "sorted"=some none) (z_max:PySem.W.nsIn K mainGlobals "max"=some none) (z_ValueError:PySem.W.nsIn K mainGlobals "ValueError"=some none) (z_enumerate:PySem.W.nsIn K mainGlobals "enumerate"=some none) (z_tuple:PySem.W.nsIn K mainGlobals "tuple"=some none) :
  ∃ fd:FuncData,(∀ (s:Shared) (v:Value),BindsTo s fd ⟨[v],[]⟩ [("_law_script",v)])/\∀ base:Heap,K.In base->base.Ns mainGlobals mg->G6 l.prog w K mg base X6 8 fa fd ["_law_script"] (A2a K):=by
 have e:=hfa.symm.trans (PySem.W.mg_of X G a28);cases e;have T:Blt mg:=⟨PySem.W.mg_none_of X G z_len,PySem.W.mg_none_of X G z_range,PySem.W.mg_none_of X G z_list,PySem.W.mg_none_of X G z_int,PySem.W.mg_none_of X G z_bool,PySem.W.mg_none_of X G z_isinstance,PySem.W.mg_none_of X G z_any,PySem.W.mg_none_of X G z_all,PySem.W.mg_none_of X G z_sorted,PySem.W.mg_none_of X G z_max,PySem.W.mg_none_of X G z_ValueError,PySem.W.mg_none_of X G z_enumerate,PySem.W.mg_none_of X G z_tuple⟩;obtain ⟨m1,k1,_,F1⟩:=d1.at X G;have b1:=F1.binds (ps:=["thing"]) fun _ _ _ _ _ _=>A35 fun _=>rfl;obtain ⟨m2,k2,_,F2⟩:=d2.at X G;have b2:=F2.binds (ps:=["bars"]) fun _ _ _ _ _ _=>A35 fun _=>rfl;obtain ⟨m3,k3,_,F3⟩:=d3.at X G;have b3:=F3.binds (ps:=["signs","bars"]) fun _ _ _ _ _ _=>Q8 fun _ _=>rfl;obtain ⟨m4,k4,_,F4⟩:=d4.at X G;have b4:=F4.binds (ps:=["signs","bars"]) fun _ _ _ _ _ _=>Q8 fun _ _=>rfl;obtain ⟨m5,k5,_,F5⟩:=d5.at X G;have b5:=F5.binds (ps:=["signs","bars"]) fun _ _ _ _ _ _=>Q8 fun _ _=>rfl;obtain ⟨m6,k6,_,F6⟩:=d6.at X G;have b6:=F6.binds (ps:=["signs","width"]) fun _ _ _ _ _ _=>Q8 fun _ _=>rfl;obtain ⟨m7,k7,_,F7⟩:=d7.at X G;have b7:=F7.binds (ps:=["word","bars"]) fun _ _ _ _ _ _=>Q8 fun _ _=>rfl;obtain ⟨m8,k8,_,F8⟩:=d8.at X G;have b8:=F8.binds (ps:=["signs","bars","kept","word"]) fun _ _ _ _ _ _=>D58 fun _ _ _ _=>rfl;obtain ⟨m9,k9,_,F9⟩:=d9.at X G;have b9:=F9.binds (ps:=["signs","bars"]) fun _ _ _ _ _ _=>Q8 fun _ _=>rfl;obtain ⟨m10,k10,_,F10⟩:=d10.at X G;have b10:=F10.binds (ps:=["windows","bars","word"]) fun _ _ _ _ _ _=>B9e fun _ _ _=>rfl;obtain ⟨m11,k11,_,F11⟩:=d11.at X G;have b11:=F11.binds (ps:=["signs","bars"]) fun _ _ _ _ _ _=>Q8 fun _ _=>rfl;obtain ⟨m12,k12,_,F12⟩:=d12.at X G;have b12:=F12.binds (ps:=["_law_script","_law_k"]) fun _ _ _ _ _ _=>Q8 fun _ _=>rfl;obtain ⟨m13,k13,_,F13⟩:=d13.at X G;have b13:=F13.binds (ps:=["_law_script","_law_at"]) fun _ _ _ _ _ _=>Q8 fun _ _=>rfl;obtain ⟨m14,k14,_,F14⟩:=d14.at X G;have b14:=F14.binds (ps:=["_law_big_here","_law_letters","_law_many"]) fun _ _ _ _ _ _=>B9e fun _ _ _=>rfl;obtain ⟨m15,k15,_,F15⟩:=d15.at X G;have b15:=F15.binds (ps:=["_law_big_here"]) fun _ _ _ _ _ _=>A35 fun _=>rfl;obtain ⟨m16,k16,_,F16⟩:=d16.at X G;have b16:=F16.binds (ps:=["_law_big_here"]) fun _ _ _ _ _ _=>A35 fun _=>rfl;obtain ⟨m17,k17,_,F17⟩:=d17.at X G;have b17:=F17.binds (ps:=["_law_bars_here"]) fun _ _ _ _ _ _=>A35 fun _=>rfl;obtain ⟨m18,k18,_,F18⟩:=d18.at X G;have b18:=F18.binds (ps:=["_law_word_here","_law_bars_here"]) fun _ _ _ _ _ _=>Q8 fun _ _=>rfl;obtain ⟨m19,k19,_,F19⟩:=d19.at X G;have b19:=F19.binds (ps:=["_law_letters","_law_size"]) fun _ _ _ _ _ _=>Q8 fun _ _=>rfl;obtain ⟨m20,k20,_,F20⟩:=d20.at X G;have b20:=F20.binds (ps:=["_law_steps","_law_side"]) fun _ _ _ _ _ _=>Q8 fun _ _=>rfl;obtain ⟨m21,k21,_,F21⟩:=d21.at X G;have b21:=F21.binds (ps:=["_law_signs","_law_bars_here"]) fun _ _ _ _ _ _=>Q8 fun _ _=>rfl;obtain ⟨m22,k22,_,F22⟩:=d22.at X G;have b22:=F22.binds (ps:=["_law_world_here"]) fun _ _ _ _ _ _=>A35 fun _=>rfl;obtain ⟨m23,k23,_,F23⟩:=d23.at X G;have b23:=F23.binds (ps:=["_law_bars_here","_law_world_here","_law_word_here"]) fun _ _ _ _ _ _=>B9e fun _ _ _=>rfl;obtain ⟨m24,k24,_,F24⟩:=d24.at X G;have b24:=F24.binds (ps:=["_law_e"]) fun _ _ _ _ _ _=>A35 fun _=>rfl;obtain ⟨m25,k25,_,F25⟩:=d25.at X G;have b25:=F25.binds (ps:=["_law_signs","_law_bars_here"]) fun _ _ _ _ _ _=>Q8 fun _ _=>rfl;obtain ⟨m26,k26,_,F26⟩:=d26.at X G;have b26:=F26.binds (ps:=["_law_signs","_law_bars_here"]) fun _ _ _ _ _ _=>Q8 fun _ _=>rfl;obtain ⟨m27,k27,_,F27⟩:=d27.at X G;have b27:=F27.binds (ps:=["_law_told_here"]) fun _ _ _ _ _ _=>A35 fun _=>rfl;have F28:=B83 (st:=A0t) l28 c28 k28;refine ⟨PySem.W.fnOf "law" "law" (X1 A0t) (M5 A0t) (A9 A0t) .none kV28 dc28 pm28 an28 cd28 ct28,fun s v=>.of_eq rfl,fun base _ _=>?_⟩;have C_NoGrid:W3 K mg "NoGrid" cG:=⟨PySem.W.mg_of X G x_NoGrid,y_NoGrid⟩;have C_NoTable:W3 K mg "NoTable" cT:=⟨PySem.W.mg_of X G x_NoTable,y_NoTable⟩;have C_NoBars:W3 K mg "NoBars" cA:=⟨PySem.W.mg_of X G x_NoBars,y_NoBars⟩;have C_TooMany:W3 K mg "TooMany" cN3:=⟨PySem.W.mg_of X G x_TooMany,y_TooMany⟩;have C_NoWord:W3 K mg "NoWord" cWd:=⟨PySem.W.mg_of X G x_NoWord,y_NoWord⟩;have C_NoReader:W3 K mg "NoReader" cRd:=⟨PySem.W.mg_of X G x_NoReader,y_NoReader⟩;have C_RowError:W3 K mg "RowError" cE0:=⟨PySem.W.mg_of X G x_RowError,y_RowError⟩;have fitA:A4g K cA cE0:=⟨u_fitA,v_fitA⟩;have fitN:A4g K cN3 cE0:=⟨u_fitN,v_fitN⟩;have fitK_NoBars:ExK K cA:=⟨i_gaNoBars,i_clNoBars,i_ggNoBars,i_obNoBars,i_beNoBars,i_seNoBars⟩;have fitK_TooMany:ExK K cN3:=⟨i_gaTooMany,i_clTooMany,i_ggTooMany,i_obTooMany,i_beTooMany,i_seTooMany⟩;have G_FEWEST_SIGNS:DL.A8s mg "FEWEST_SIGNS" 2:=⟨_,PySem.W.mg_of X G g_FEWEST_SIGNS⟩;have G_MOST_BARS:DL.A8s mg "MOST_BARS" 12:=⟨_,PySem.W.mg_of X G g_MOST_BARS⟩;have G_LONGEST_BAR:DL.A8s mg "LONGEST_BAR" 6:=⟨_,PySem.W.mg_of X G g_LONGEST_BAR⟩;have G_MOST_WORDS:DL.A8s mg "MOST_WORDS" 128:=⟨_,PySem.W.mg_of X G g_MOST_WORDS⟩;have G_SIGNS:DL.A9g K mg "SIGNS" [.str "a",.str "b",.str "c",.str "d"]:=C6x (PySem.W.mg_of X G g_SIGNS) i_sSIGNS;have D_is_whole:Df l.prog w K mg base "is_whole" ["thing"] 1 (DL.E9 K A51):=⟨_,_,B0e F1 T ,m1,k1,b1⟩;have D_plain_width:Df l.prog w K mg base "plain_width" ["bars"] 1 (DL.E9 K B4g):=⟨_,_,A4d F2 T ,m2,k2,b2⟩;have D_require_bars:DfE l.prog w K mg base "require_bars" ["signs","bars"] 2 (DL.E9 K (B29 cA)):=⟨_,_,A3b F3 T C_NoBars G_SIGNS G_FEWEST_SIGNS G_MOST_BARS G_LONGEST_BAR D_is_whole,m3,k3,b3⟩;have D_vet_bars:DfE l.prog w K mg base "vet_bars" ["signs","bars"] 3 (DL.E9 K (B2t cA cN3)):=⟨_,_,A9y F4 T C_TooMany G_MOST_WORDS D_require_bars D_plain_width,m4,k4,b4⟩;have D_width_of:DfE l.prog w K mg base "width_of" ["signs","bars"] 4 (DL.E9 K (B1h cA cN3)):=⟨_,_,B03 F5 T D_vet_bars D_plain_width,m5,k5,b5⟩;have D_words_of:Df l.prog w K mg base "words_of" ["signs","width"] 1 (DL.E9 K A3w):=⟨_,_,A99 F6 T G_SIGNS,m6,k6,b6⟩;have D_is_free:Df l.prog w K mg base "is_free" ["word","bars"] 1 (DL.E9 K P4):=⟨_,_,B2c F7 T ,m7,k7,b7⟩;have D_goes_on_both_ways:Df l.prog w K mg base "goes_on_both_ways" ["signs","bars","kept","word"] 2 (DL.E9 K B9i):=⟨_,_,A01 F8 T G_SIGNS D_is_free,m8,k8,b8⟩;have D_windows_of:DfE l.prog w K mg base "windows_of" ["signs","bars"] 5 (DL.E9 K (B1f cA cN3)):=⟨_,_,A5m F9 T D_width_of D_words_of D_is_free D_goes_on_both_ways,m9,k9,b9⟩;have D_stands_by:Df l.prog w K mg base "stands_by" ["windows","bars","word"] 2 (DL.E9 K C19):=⟨_,_,A74 F10 T D_is_free,m10,k10,b10⟩;have D_reader_of:DfE l.prog w K mg base "reader_of" ["signs","bars"] 6 (DL.E9 K (B3v cA cN3)):=⟨_,_,A6x F11 T G_SIGNS D_windows_of D_stands_by,m11,k11,b11⟩;have D_l_cell_at:Df l.prog w K mg base "_law_cell_at" ["_law_script","_law_k"] 1 (DL.E9 K A6w):=⟨_,_,A7z F12 T ,m12,k12,b12⟩;have D_l_big:Df l.prog w K mg base "_law_big" ["_law_script","_law_at"] 2 (DL.E9 K A84):=⟨_,_,B9h F13 T D_l_cell_at,m13,k13,b13⟩;have D_l_word:Df l.prog w K mg base "_law_word" ["_law_big_here","_law_letters","_law_many"] 1 (DL.E9 K A3j):=⟨_,_,B6u F14 T ,m14,k14,b14⟩;have D_l_bars:Df l.prog w K mg base "_law_bars" ["_law_big_here"] 2 (DL.E9 K A3p):=⟨_,_,B6b F15 T D_l_word,m15,k15,b15⟩;have D_l_bad:Df l.prog w K mg base "_law_bad" ["_law_big_here"] 2 (DL.E9 K A85):=⟨_,_,C2u F16 T D_l_word,m16,k16,b16⟩;have D_l_width:Df l.prog w K mg base "_law_width" ["_law_bars_here"] 1 (DL.E9 K A1o):=⟨_,_,B35 F17 T ,m17,k17,b17⟩;have D_l_free:Df l.prog w K mg base "_law_free" ["_law_word_here","_law_bars_here"] 1 (DL.E9 K P4):=⟨_,_,B66 F18 T ,m18,k18,b18⟩;have D_l_words:Df l.prog w K mg base "_law_words" ["_law_letters","_law_size"] 1 (DL.E9 K A2k):=⟨_,_,B32 F19 T ,m19,k19,b19⟩;have D_l_lasting:Df l.prog w K mg base "_law_lasting" ["_law_steps","_law_side"] 1 (DL.E9 K A7w):=⟨_,_,A8k F20 T ,m20,k20,b20⟩;have D_l_world:Df l.prog w K mg base "_law_world" ["_law_signs","_law_bars_here"] 2 (DL.E9 K A4q):=⟨_,_,B2v F21 T D_l_words D_l_width D_l_free D_l_lasting,m21,k21,b21⟩;have D_l_windows:Df l.prog w K mg base "_law_windows" ["_law_world_here"] 1 (DL.E9 K A3r):=⟨_,_,A8a F22 T ,m22,k22,b22⟩;have D_l_stands:Df l.prog w K mg base "_law_stands" ["_law_bars_here","_law_world_here","_law_word_here"] 2 (DL.E9 K C07):=⟨_,_,A9z F23 T D_l_width D_l_windows D_l_free,m23,k23,b23⟩;have D_l_class:DL.DfX l.prog w K mg base "_law_class" "_law_e" 1 (V5 K cG cT cWd cRd cN3 cA):=⟨_,_,B1o F24 T C_NoGrid C_NoTable C_NoWord C_NoReader C_TooMany C_NoBars,m24,k24,b24⟩;have D_l_due:Df l.prog w K mg base "_law_due" ["_law_signs","_law_bars_here"] 3 (DL.E9 K A7a):=⟨_,_,C0i F25 T D_l_world D_l_windows D_l_stands,m25,k25,b25⟩;have D_l_told:Df l.prog w K mg base "_law_told" ["_law_signs","_law_bars_here"] 7 (DL.E9 K A1t):=⟨_,_,B3d F26 T C_RowError C_NoBars C_TooMany fitA fitN fitK_NoBars fitK_TooMany i_a i_b i_c i_d i_e i_f i_g i_h i_i i_j i_k i_l i_m i_n D_l_class D_reader_of,m26,k26,b26⟩;have D_l_is_kind:Df l.prog w K mg base "_law_is_kind" ["_law_told_here"] 1 (DL.E9 K A3d):=⟨_,_,A6s F27 T ,m27,k27,b27⟩;exact C9s F28 T D_l_big D_l_bars D_l_due D_l_is_kind D_l_bad D_l_told
theorem D8t {l:PySem.W.OpenLaw} {q:Program} {loose:List Str} {XP:(Str->Option Value)->Heap->Prop} {YP:World->Heap->Prop} {d:DefRec} {K:Params->W.Frag} (hn:l.most=some 63) (hdf:d.params.defaults=[]) (hi:importsNone q=true)
  (hY:∀ (w:World) (h:Heap),YP w h->(K w.params).In h)
  (F:∀ (w:World) (mg:Str->Option Value) (fa:Addr) (h:Heap),(K w.params).In h->h.Ns mainGlobals mg->mg d.name=some (.ref fa) ->
   ∃ fd:FuncData,(∀ (s:Shared) (u:Value),BindsTo s fd ⟨[u],[]⟩ [("_law_script",u)])/\∀ base:Heap,(K w.params).In base->base.Ns mainGlobals mg->G6 l.prog w (K w.params) mg base X6 8 fa fd ["_law_script"] (A2a (K w.params))) :
  PySem.W.WalkO q loose XP YP l.row.toRowW d [] (fun f vs=>PySem.call f vs) :=
 L2.C4m (n:=63) (k:=8) (x:="_law_script") (CX:=fun _=>X6) (sp:=fun w=>A2a (K w.params)) hn (by decide) hdf ⟨rfl,by decide,by decide,rfl⟩ hi hY F (fun _ _ a ns hl _ hS=>⟨a,ns,rfl,hS,fun _=>rfl⟩) fun _ _ _ _ _ z=>z
end K21
namespace PySem.W.Fast
def tw6513851400866032836:=()
def tw16754211608521477516:=()
def tw16942340383598464841:=()
def tw1571424814735488831:=()
def tw1052299003208430691:=()
def tw7790233899633028332:=()
def tw4183479189413475088:=()
def tw2590976565289922156:=()
def tw15910893676391265107:=()
def tw4848209518090444506:=()
def tw13377118466619789958:=()
def tw16633183135561195312:=()
def tw10419606530817739601:=()
def tw11903857157085037194:=()
def tw15887673502363639389:=()
def tw4913312498449318535:=()
def tw1154477525967703325:=()
def tw6240784256017452902:=()
def tw13707031947721861523:=()
def tw16220470392354140917:=()
def tw12180934273015420172:=()
def tw17849891090633576514:=()
def tw3372252907296797614:=()
def tw8235423200303929924:=()
def tw6540385617841973410:=()
def tw11513441650538407803:=()
def tw14411186951644642450:=()
def tw2683831322937190778:=()
def tw6064027296874530285:=()
def tw15494708463325927355:=()
def tw7475404369740470777:=()
def tw4696184420317528923:=()
def tw680277419715275553:=()
def tw15192900520415157158:=()
def tw6264528340905564050:=()
def tw14912912331358148203:=()
def tw12189661702899131919:=()
def tw17324413707045395507:=()
def tw18350521071040443076:=()
def tw13985884232218881034:=()
def tw13470581825569357974:=()
def tw12408245642128473814:=()
def tw10995006931134564146:=()
def tw4244096173436033194:=()
def tw1677360221327805217:=()
def tw13697130424905319155:=()
def tw13264816179553547795:=()
def tw15725896617442011370:=()
def tw12884285346454809612:=()
def tw15784828658554797978:=()
def tw17517085136129056951:=()
def tw17972124848678923079:=()
def tw2252372129038450786:=()
def tw7390596295081135821:=()
def tw5596380130225516185:=()
def tw12539441563702461242:=()
def tw8227084864233667608:=()
def tw9785610368276884755:=()
def tw7566868750507981187:=()
def tw6943337677754832703:=()
def tw16931991653510558098:=()
def tw18020203645398645770:=()
def tw314770168535738216:=()
def tw12208584133555140783:=()
def tw6227722604539329853:=()
def tw8087976510734694643:=()
def tw18324098465609434502:=()
def tw8405746059026015474:=()
def tw12526681277947192149:=()
def tw712479808508899811:=()
def tw1135133546545537296:=()
def tw776855150000990994:=()
def tw2346256755496354999:=()
def tw14257506472242026738:=()
def tw14668632048856036846:=()
def tw15093467037180518384:=()
def tw1083684759184113644:=()
def tw14035593480005643626:=()
def tw16442016043327348400:=()
def tw3701551825653886037:=()
def tw9822485360814369682:=()
def tw2828192210715979440:=()
def tw14545395474969652077:=()
def tw352677023934267530:=()
def tw15928257364039503262:=()
def tw14658402323814868470:=()
def tw6126626246044116941:=()
def tw18088286160620037052:=()
def tw2349709870371539211:=()
def tw16506527744831584585:=()
def tw12539558585946077307:=()
def tw15817370432131918490:=()
def tw3382682216911121923:=()
def tw9319107998045801822:=()
def tw14354931539850292876:=()
def tw555967549949439624:=()
def tw11753287666737173649:=()
def tw9087929039109658798:=()
def tw1323058919095257307:=()
def tw13010423061368424777:=()
def tw6504894383091645876:=()
def tw107146430362905170:=()
def tw2775598798002244343:=()
def tw10788646270396584496:=()
def tw9977477283822440421:=()
def tw12194399520810133796:=()
def tw5291408002166093299:=()
def tw16949149629424810597:=()
def tw18046054046358492294:=()
def tw5511639285250367312:=()
def tw929143068756731991:=()
def tw10280614928698917551:=()
def tw10559810109523808901:=()
def tw10142811446783160493:=()
def tw17146452828823182516:=()
def tw3809027824865726599:=()
def tw9940136614906338689:=()
def tw8687274388005905479:=()
def tw4199003344327902239:=()
def tw13677185295306311150:=()
def tw13782519102151136367:=()
def tw15523028156068712035:=()
def tw14241363724028435303:=()
def tw9826706312741439201:=()
def tw3858084888908010084:=()
def tw4000075820108508428:=()
def tw12957321691503626272:=()
def tw10851409716030131072:=()
def tw16619714645180246984:=()
def tw2700904332081170010:=()
def tw3172283903290475687:=()
def tw8873126487827721223:=()
def tw5799740266991221556:=()
def tw2186991781859874242:=()
def tw15045793503901058071:=()
def tw2548573490251795068:=()
def tw1795678743897950802:=()
def tw11157538867176731850:=()
def tw768879107550899935:=()
def tw11003326442537186988:=()
def tw1062210425704470669:=()
def tw17707252302355454089:=()
def tw17501317504773169185:=()
def tw10388569037617121394:=()
def tw11511792658564104048:=()
def tw4534474958413811209:=()
def tw15593923157897323768:=()
def tw7542438831979447031:=()
def tw10917400484111875133:=()
def tw7795558813428118418:=()
def tw12699153099528760571:=()
def tw2781609707951927011:=()
def tw14354053795553523883:=()
def tw7774150883592037874:=()
def tw701224268093305420:=()
def tw8269105756814761735:=()
def tw2813790788835763089:=()
def tw18040192511080352099:=()
def tw2752304056134230869:=()
def tw755030956608754206:=()
def tw10278096670249903099:=()
def tw4243698173342400703:=()
def tw12203939769244885105:=()
def tw13088593149119056665:=()
def tw13435266230573652081:=()
def tw17101219728651245784:=()
def tw16317805814182586909:=()
def tw11213797697070543031:=()
def tw17032699801653794868:=()
def tw10343586183802703622:=()
def tw8984541896561515706:=()
def tw16943731055975448459:=()
def tw6728033092014097510:=()
def tw2147617880552185018:=()
def tw13253114215524260571:=()
def tw16167103030455885404:=()
def tw15759313906231461109:=()
def tw11364903376526259951:=()
def tw10337351231226151691:=()
def tw17938189044955470521:=()
def tw5689075453864105:=()
def tw15519488432462490158:=()
def tw3986234777187815625:=()
def tw16089272959541982322:=()
def tw5280144032634895415:=()
def tw1962795812456350129:=()
def tw7449003366170734441:=()
def tw15406820622516438188:=()
def tw8039402422942339588:=()
def tw17429754011498855212:=()
def tw4966425167777104359:=()
def tw8370436682361727433:=()
def tw8182804218583335641:=()
def tw17657439802693877412:=()
def tw11925573460393173048:=()
def tw4791503493428475121:=()
def tw4510698546364805955:=()
def tw1537503219891069542:=()
def tw7748609967540358083:=()
def tw14362935138272656232:=()
def tw6958760943783694237:=()
def tw17510694058644507121:=()
def tw10524251320422695355:=()
def tw2516375730590860625:=()
def tw11469464194739854575:=()
def tw3847376836487544980:=()
def tw8404333425401847366:=()
def tw17097526081353965522:=()
def tw7676937703426363668:=()
def tw9925498280292624738:=()
def tw16173028918471605931:=()
def tw1636422645822956224:=()
def tw8105260270965487217:=()
def tw15861812335532349029:=()
def tw8742983257746534828:=()
def tw15856591533950518797:=()
def tw6247326562988599677:=()
def tw14811476470648226071:=()
def tw18331057674218703726:=()
def tw10174707195125519191:=()
def tw3363319443115571575:=()
def tw10920242460623749338:=()
def tw17997294283615278117:=()
def tw10183834124649292891:=()
def tw2681851869888606624:=()
def tw12760019069983199843:=()
def tw1376985528733197996:=()
def tw325894549256587090:=()
def tw14046803407580596233:=()
def tw2147712010051144408:=()
def tw12570196414510233160:=()
def tw17881792179611926252:=()
def tw14039411696291166667:=()
def tw15045824415769852817:=()
def tw8491609792428112799:=()
def tw10015961693054680105:=()
def tw17038272824065697778:=()
def tw16259584358003086742:=()
def tw5496907893717235862:=()
def tw1688545260078631232:=()
def tw6490955860621957307:=()
def tw15329184014317046140:=()
def tw12816655452794043130:=()
def tw16982567050900294871:=()
def tw14482985645309527671:=()
def tw6884698359087525026:=()
def tw16384385659198993830:=()
def tw4551589564815141299:=()
def tw847214251879555274:=()
def tw13395403014991169229:=()
def tw6147975623598220112:=()
def tw11070594684603378988:=()
def tw7775568391470827770:=()
def tw994518578660154228:=()
def tw14140863512785976248:=()
def tw14874047406578282145:=()
def tw8272114438302301092:=()
def tw1398676722899688760:=()
def tw3048242041195861935:=()
def tw5065634633775852643:=()
def tw14887035350009062557:=()
def tw16176701614231956380:=()
def tw13221598944507893457:=()
def tw3008933653213893825:=()
def tw16460655780573774532:=()
def tw16625974632793435772:=()
def tw5570023791166000881:=()
end PySem.W.Fast
open PySem PySem.W PyProof.Rows
local macro_rules | `(tactic| walk_at "f") => `(tactic| (refine' K21.fq ?a ?l ?c ?k; (case a => k_is); (case l => k_is); (case c => k_is); (case k => k_is)))
set_option maxRecDepth 100000 in
set_option maxHeartbeats 0 in
theorem PySem.Challenge.cw_foreverrows_k21_readers_of_bars_holds : PySem.Challenge.rw_foreverrows_k21_readers_of_bars.Holds := by
 w_on;o_law;k_head;(case hw=>w_witness2)
 k_fill
 refine K21.D8t (l := PySem.Challenge.rw_foreverrows_k21_readers_of_bars) rfl rfl (by decide +kernel) (fun w h Y => PySem.W.kIn_of Y) ?F
 case F =>
  intro w mg fa h KX G hmg
  refine' K21.C9p KX G hmg ?d1 ?d2 ?d3 ?d4 ?d5 ?d6 ?d7 ?d8 ?d9 ?d10 ?d11 ?d12 ?d13 ?d14 ?d15 ?d16 ?d17 ?d18 ?d19 ?d20 ?d21 ?d22 ?d23 ?d24 ?d25 ?d26 ?d27 ?a28 ?l28 ?c28 ?k28 ?x_NoGrid ?y_NoGrid ?x_NoTable ?y_NoTable ?x_NoBars ?y_NoBars ?x_TooMany ?y_TooMany ?x_NoWord ?y_NoWord ?x_NoReader ?y_NoReader ?x_RowError ?y_RowError ?u_fitA ?v_fitA ?u_fitN ?v_fitN ?i_gaNoBars ?i_clNoBars ?i_ggNoBars ?i_obNoBars ?i_beNoBars ?i_seNoBars ?i_gaTooMany ?i_clTooMany ?i_ggTooMany ?i_obTooMany ?i_beTooMany ?i_seTooMany ?i_a ?i_b ?i_c ?i_d ?i_e ?i_f ?i_g ?i_h ?i_i ?i_j ?i_k ?i_l ?i_m ?i_n ?g_FEWEST_SIGNS ?g_MOST_BARS ?g_LONGEST_BAR ?g_MOST_WORDS ?g_SIGNS ?i_sSIGNS ?z_len ?z_range ?z_list ?z_int ?z_bool ?z_isinstance ?z_any ?z_all ?z_sorted ?z_max ?z_ValueError ?z_enumerate ?z_tuple
  (case d1=>walk_at "f")
  (case d2=>walk_at "f")
  (case d3=>walk_at "f")
  (case d4=>walk_at "f")
  (case d5=>walk_at "f")
  (case d6=>walk_at "f")
  (case d7=>walk_at "f")
  (case d8=>walk_at "f")
  (case d9=>walk_at "f")
  (case d10=>walk_at "f")
  (case d11=>walk_at "f")
  (case d12=>walk_at "f")
  (case d13=>walk_at "f")
  (case d14=>walk_at "f")
  (case d15=>walk_at "f")
  (case d16=>walk_at "f")
  (case d17=>walk_at "f")
  (case d18=>walk_at "f")
  (case d19=>walk_at "f")
  (case d20=>walk_at "f")
  (case d21=>walk_at "f")
  (case d22=>walk_at "f")
  (case d23=>walk_at "f")
  (case d24=>walk_at "f")
  (case d25=>walk_at "f")
  (case d26=>walk_at "f")
  (case d27=>walk_at "f")
  (case a28=>k_is)
  (case l28=>k_is)
  (case c28=>k_is)
  (case k28=>k_is)
  (case z_len=>k_is)
  (case z_range=>k_is)
  (case z_list=>k_is)
  (case z_int=>k_is)
  (case z_bool=>k_is)
  (case z_isinstance=>k_is)
  (case z_any=>k_is)
  (case z_all=>k_is)
  (case z_sorted=>k_is)
  (case z_max=>k_is)
  (case z_ValueError=>k_is)
  (case z_enumerate=>k_is)
  (case z_tuple=>k_is)
  (case x_NoGrid=>k_is)
  (case y_NoGrid=>first|k_exc|k_is|kernel_rfl)
  (case x_NoTable=>k_is)
  (case y_NoTable=>first|k_exc|k_is|kernel_rfl)
  (case x_NoBars=>k_is)
  (case y_NoBars=>first|k_exc|k_is|kernel_rfl)
  (case x_TooMany=>k_is)
  (case y_TooMany=>first|k_exc|k_is|kernel_rfl)
  (case x_NoWord=>k_is)
  (case y_NoWord=>first|k_exc|k_is|kernel_rfl)
  (case x_NoReader=>k_is)
  (case y_NoReader=>first|k_exc|k_is|kernel_rfl)
  (case x_RowError=>k_is)
  (case y_RowError=>first|k_exc|k_is|kernel_rfl)
  (case u_fitA=>first|k_exc|k_is|kernel_rfl)
  (case v_fitA=>first|k_exc|k_is|kernel_rfl)
  (case u_fitN=>first|k_exc|k_is|kernel_rfl)
  (case v_fitN=>first|k_exc|k_is|kernel_rfl)
  (case i_gaNoBars=>first|k_exc|k_is|kernel_rfl)
  (case i_clNoBars=>first|k_exc|k_is|kernel_rfl)
  (case i_ggNoBars=>first|k_exc|k_is|kernel_rfl)
  (case i_obNoBars=>first|k_exc|k_is|kernel_rfl)
  (case i_beNoBars=>first|k_exc|k_is|kernel_rfl)
  (case i_seNoBars=>first|k_exc|k_is|kernel_rfl)
  (case i_gaTooMany=>first|k_exc|k_is|kernel_rfl)
  (case i_clTooMany=>first|k_exc|k_is|kernel_rfl)
  (case i_ggTooMany=>first|k_exc|k_is|kernel_rfl)
  (case i_obTooMany=>first|k_exc|k_is|kernel_rfl)
  (case i_beTooMany=>first|k_exc|k_is|kernel_rfl)
  (case i_seTooMany=>first|k_exc|k_is|kernel_rfl)
  (case i_a=>first|k_exc|k_is|kernel_rfl)
  (case i_b=>first|k_exc|k_is|kernel_rfl)
  (case i_c=>first|k_exc|k_is|kernel_rfl)
  (case i_d=>first|k_exc|k_is|kernel_rfl)
  (case i_e=>first|k_exc|k_is|kernel_rfl)
  (case i_f=>first|k_exc|k_is|kernel_rfl)
  (case i_g=>first|k_exc|k_is|kernel_rfl)
  (case i_h=>first|k_exc|k_is|kernel_rfl)
  (case i_i=>first|k_exc|k_is|kernel_rfl)
  (case i_j=>first|k_exc|k_is|kernel_rfl)
  (case i_k=>first|k_exc|k_is|kernel_rfl)
  (case i_l=>first|k_exc|k_is|kernel_rfl)
  (case i_m=>first|k_exc|k_is|kernel_rfl)
  (case i_n=>first|k_exc|k_is|kernel_rfl)
  (case g_FEWEST_SIGNS=>k_is)
  (case g_MOST_BARS=>k_is)
  (case g_LONGEST_BAR=>k_is)
  (case g_MOST_WORDS=>k_is)
  (case g_SIGNS=>k_is)
  (case i_sSIGNS=>first|k_exc|k_is|kernel_rfl)
